import PyProof.Rows.All
import Wide.All
import OpenK.AllK
import Wide.FinOn
import Lean
import PyProof.EqAt
import PyProof.EqKinds
import PyProof.TupleCall
import KE.KIsNot
import PyProof.ExcArgs
import OpenK.KOwn
import KE.LcSums
import PyProof.EnumMake
import PyProof.Draws
import PyProof.Rows.EnumRows
import PyProof.ExcBaseAll.ValueError
import PyProof.NsDelKeeps
import PyProof.Rows.SetFrom
import PyProof.WalksMore
import KE.KDictSum
import PySem.Challenge.RW_ladderhall_k82_whole_by_depth
set_option Elab.async false
set_option linter.all false
set_option maxRecDepth 100000
set_option maxHeartbeats 0
namespace L2
open PySem PySem.Spec PyProof.Rows
noncomputable abbrev Key:=Sum Int Str
noncomputable def y9c:Key->Value->Bool
 | .inl k,v=>Value.isInt k v
 | .inr x,v=>Value.isStrOf x v
noncomputable def j7e (w:World):Key->Int
 | .inl k=>hashInt k
 | .inr x=>hashStr w x
theorem x30:∀ {k:Key} {v:Value},y9c k v=true->(∃ i t,k=Sum.inl i/\v=Value.int i t)\/(∃ x t,k=Sum.inr x/\v=Value.str x t)
 | .inl i,v,h=>by
  obtain⟨t,e⟩:=Value.isInt_shape (k:=i) (v:=v) h
  exact .inl ⟨i,t,rfl,e⟩
 | .inr x,v,h=>by
  obtain⟨t,e⟩:=Value.isStrOf_shape (x:=x) (v:=v) h
  exact .inr ⟨x,t,rfl,e⟩
theorem z1n (i:Int) (t:Tok):y9c (.inl i) (.int i t)=true:=by simp[y9c,Value.isInt]
theorem z23 (x:Str) (t:Tok):y9c (.inr x) (.str x t)=true:=by simp[y9c,Value.isStrOf]
theorem j1i (a b:Int):decide ((Sum.inl a:Key)=Sum.inl b)=(a == b):=by
 by_cases e:a=b
 ·subst e; simp
 ·have h:¬ (Sum.inl a:Key)=Sum.inl b:=fun q=>e (Sum.inl.inj q)
  rw[decide_eq_false h]
  exact(beq_eq_false_iff_ne.mpr e).symm
theorem j12 (a b:Str):decide ((Sum.inr a:Key)=Sum.inr b)=decide (a=b):=by
 by_cases e:a=b
 ·subst e; simp
 ·have h:¬ (Sum.inr a:Key)=Sum.inr b:=fun q=>e (Sum.inr.inj q)
  rw[decide_eq_false h,decide_eq_false e]
theorem j38 (a:Int) (b:Str):decide ((Sum.inl a:Key)=Sum.inr b)=false:=decide_eq_false (fun q=>nomatch q)
theorem j2v (a:Str) (b:Int):decide ((Sum.inr a:Key)=Sum.inl b)=false:=decide_eq_false (fun q=>nomatch q)
noncomputable def x3a (prog:Program) (w:World):PySem.KeyKind prog w Key where
 is:=y9c
 hash:=j7e w
 inj:=fun v a b ha hb=>by
  rcases x30 ha with⟨i,t,rfl,rfl⟩ | ⟨x,t,rfl,rfl⟩
  ·rcases x30 hb with⟨j,u,rfl,e⟩ | ⟨y,u,rfl,e⟩
   ·injection e with e1 _; rw[e1]
   ·exact nomatch e
  ·rcases x30 hb with⟨j,u,rfl,e⟩ | ⟨y,u,rfl,e⟩
   ·exact nomatch e
   ·injection e with e1 _; rw[e1]
 byValue:=fun k v h=>by
  rcases x30 h with⟨i,t,rfl,rfl⟩ | ⟨x,t,rfl,rfl⟩ <;> rfl
 pyHash:=fun hv h=>by
  rcases x30 hv with⟨i,t,rfl,rfl⟩ | ⟨x,t,rfl,rfl⟩
  ·exact wpAny_pyHash_int h
  ·exact wpAny_pyHash_str h
 eqBool:=fun hu hv h=>by
  rcases x30 hu with⟨i,t,rfl,rfl⟩ | ⟨x,t,rfl,rfl⟩
  ·rcases x30 hv with⟨j,u,rfl,rfl⟩ | ⟨y,u,rfl,rfl⟩
   ·rw[j1i]at h; exact wpAny_eqBool_int h
   ·rw[j38]at h; exact SeqAt.EqAt.int_str i t y u _ _ _ _ h
  ·rcases x30 hv with⟨j,u,rfl,rfl⟩ | ⟨y,u,rfl,rfl⟩
   ·rw[j2v]at h; exact SeqAt.EqAt.str_int x t j u _ _ _ _ h
   ·rw[j12]at h; exact wpAny_eqBool_str h
 «strs»:=fun k x t v h=>by
  rcases x30 h with⟨i,u,rfl,e⟩ | ⟨y,u,rfl,e⟩
  ·exact nomatch e
  ·injection e with e1 _
   subst e1
   cases v <;> rfl
theorem y6p (prog:Program) (w:World) (i:Int) (t:Tok):(x3a prog w).is (.inl i) (.int i t)=true:=z1n i t
theorem y6m (prog:Program) (w:World) (x:Str) (t:Tok):(x3a prog w).is (.inr x) (.str x t)=true:=z23 x t
inductive V where
 | non | bl (b:Bool) | int (i:Int) | str (x:Str) | byt (b:Array UInt8) | flt (b:UInt64) | ref (a:Addr) | ty (n:String)
 deriving DecidableEq
noncomputable def x47:V->Value->Prop
 | .non,u=>u=Value.none
 | .bl b,u=>u=Value.bool b
 | .int i,u=>∃ t,u=Value.int i t
 | .str x,u=>∃ t,u=Value.str x t
 | .byt b,u=>∃ t,u=Value.bytes b t
 | .flt b,u=>∃ t,u=Value.float b t
 | .ref a,u=>u=Value.ref a
 | .ty n,u=>u=Value.type n
noncomputable abbrev x2z:List V->List Value->Prop:=Paired x47
theorem x2z.length {xs:List V} {us:List Value} (r:x2z xs us):xs.length=us.length:=Paired.length r
theorem x2z.get:∀ {xs:List V} {us:List Value} {i:Nat} {x:V},x2z xs us->xs[i]? = some x->∃ u,us[i]? = some u/\x47 x u
 | _,_,_,_,.nil,e=>by simp at e
 | _,_,0,_,.cons r _,e=>by simp at e; subst e; exact⟨_,rfl,r⟩
 | _,_,i+1,x,.cons _ t,e=>by
  obtain⟨u,h1,h2⟩:=x2z.get (i:=i) (x:=x) t (by simpa using e)
  exact⟨u,by simpa using h1,h2⟩
theorem x2z.set {x:V} {u:Value} (r:x47 x u):∀ {xs:List V} {us:List Value} (i:Nat),x2z xs us->x2z (xs.set i x) (us.set i u)
 | _,_,_,.nil=>.nil
 | _,_,0,.cons _ t=>.cons r t
 | _,_,i+1,.cons q t=>.cons q (x2z.set r i t)
theorem x2z.append:∀ {xs ys:List V} {us ws:List Value},x2z xs us->x2z ys ws->x2z (xs++ys) (us++ws)
 | _,_,_,_,.nil,s=>s
 | _,_,_,_,.cons r t,s=>.cons r (x2z.append t s)
theorem x2z.take:∀ {xs:List V} {us:List Value} (n:Nat),x2z xs us->x2z (xs.take n) (us.take n)
 | _,_,0,_=>.nil
 | _,_,_+1,.nil=>.nil
 | _,_,n+1,.cons r t=>.cons r (x2z.take n t)
theorem x2z.drop:∀ {xs:List V} {us:List Value} (n:Nat),x2z xs us->x2z (xs.drop n) (us.drop n)
 | _,_,0,r=>r
 | _,_,_+1,.nil=>.nil
 | _,_,n+1,.cons _ t=>x2z.drop n t
noncomputable def z7h:Option V->Option Value->Prop
 | some v,some u=>x47 v u
 | none,none=>True
 | _,_=>False
noncomputable def KV {κ:Type}:List (κ × V)->List (κ × Value)->Prop:=Paired fun(p:κ × V) (q:κ × Value)=>p.1=q.1/\x47 p.2 q.2
noncomputable def kV:Key->V
 | .inl i=>.int i
 | .inr x=>.str x
inductive HO where
 /-- a list -/
 | lst (xs:List V)
 /-- a tuple (never changes) -/
 | tup (xs:List V)
 /-- a dict whose keys are ints and texts; one whose keys are tuples of ints and texts (the empty one is both) -/
 | dK (kvs:List (Key × V)) | dT (kvs:List (List Key × V))
 /-- a set of ints: its members,its size -/
 | set (S:Int->Bool) (n:Nat)
 /-- an instance of the class at C,its dict at dx,its attributes -/
 | ins (C dx:Addr) (fs:List (Str × V))
 /-- the dict of the instance at x -/
 | own (x:Addr)
 /-- the dict of an exception -/
 | xd (fs:List (Str × V))
 /-- a bound method,f of x -/
 | met (f x:Addr)
 /-- a range object lo,lo+1,.. below hi -/
 | rng (lo hi:Int)
 /-- a thing that is known to the object (the script; a dict while a loop walks it): read,never written while it is so -/
 | frz (o:Obj) (u:HO)
 /-- a code object's table -/
 | tbl (ps:Array Value)
 /-- any other thing,by what is true of its one object (a def of one's own: SetO a S n:=HO.ext fun h=>..) -/
 | ext (φ:Heap->Prop)
noncomputable abbrev Hp:=Addr->Option HO
noncomputable def upd (H:Hp) (a:Addr) (o:HO):Hp:=fun b=>if b=a then some o else H b
theorem x1n {H:Hp} {a:Addr} {o:HO}:upd H a o a=some o:=by unfold upd; rw[if_pos rfl]
theorem x0q {H:Hp} {a b:Addr} {o:HO} (h:b≠a):upd H a o b=H b:=by unfold upd; rw[if_neg h]
theorem z8a {H:Hp} {a:Addr} {o u:HO}:upd (upd H a o) a u=upd H a u:=by
 funext b; unfold upd; split <;> rfl
theorem x11 {H:Hp} {a b:Addr} {o:HO} (h:H a=some o) (h':H b=none):a≠b:=by
 intro e; subst e; rw[h]at h'; cases h'
noncomputable def x54 (h:Heap) (a:Addr) (items:Array Value):Prop:=∃ o,h.get? a=some o/\o.cls=.type "tuple" /\ (∃ n,o.data=.seq items n)/\o.dict=none
theorem x54.tup {h:Heap} {a:Addr} {items:Array Value} (x:x54 h a items):IsTup h a items:=let ⟨o,e,c,n,_⟩:=x; ⟨o,e,c,n⟩
theorem x54.new (h:Heap) (items:Array Value):x54 (h.push { cls:=.type "tuple",data:=.seq items }) h.objs.size items:=⟨_,Heap.get?_push_size _ rfl,rfl,⟨_,rfl⟩,rfl⟩
theorem x54.lt {h:Heap} {a:Addr} {items:Array Value} (x:x54 h a items):a<h.objs.size:=let ⟨_,e,_⟩:=x; Heap.lt_size e
section
variable (P:Program) (w:World)
noncomputable def x37 (H:Hp) (h:Heap) (a:Addr):HO->Prop
 | .lst xs=>xs.length<=sizeLine/\∃ (its:List Value) (n:Nat),x2z xs its/\h.get? a=some { cls:=.type "list",data:=.seq its.toArray n }
 | .tup xs=>xs.length<=sizeLine/\∃ its:List Value,x2z xs its/\x54 h a its.toArray
 | .dK kvs=>kvs.length<=sizeLine/\(a == sysModules)=false/\∃ vs,KV kvs vs/\h.DictOf (x3a P w) a vs
 | .dT kvs=>kvs.length<=sizeLine/\(a == sysModules)=false/\∃ xs:List (List Key × Addr × Value),
   Paired (fun(p:List Key × V) (q:List Key × Addr × Value)=>p.1=q.1/\H q.2.1=some (.tup (p.1.map kV))/\x47 p.2 q.2.2) kvs xs /\
   ∃ o es ep,h.get? a=some o/\o.ExactDict/\o.data=.dict es ep/\es.toList=xs.map (entryOfKey (tupleKind (x3a P w)))/\(xs.map (·.1)).Nodup
 | .set S n=>h.SetOf (intKind P w) a S n
 | .ins C dx fs=>H dx=some (.own a)/\fs.length<=1000/\dx≠a/\h.get? a=some (PySem.W.instObj C dx) /\
   ∃ mA,h.Ns1 dx mA/\(∀ f,z7h (fs.lookup f) (mA f))/\PySem.Within mA (fs.map (·.1))
 | .own _=>∃ o,h.get? a=some o
 | .xd fs=>∃ mA,h.Ns1 a mA/\∀ f,z7h (fs.lookup f) (mA f)
 | .rng lo hi=>∃ t u v,h.get? a=some { cls:=.type "range",data:=.fields #[.int lo t,.int hi u,.int 1 v] }
 | .frz o u=>h.get? a=some o/\x37 H h a u
 | .tbl ps=>h.get? a=some { cls:=.none,data:=.fields ps }
 | .met f x=>h.get? a=some (PySem.W.methodObj (.ref f) (.ref x))
 | .ext φ=>φ h/\(∃ o,h.get? a=some o)/\∀ h1 h2:Heap,φ h1->(∀ o,h1.get? a=some o->h2.get? a=some o)->φ h2
noncomputable def HOk (H:Hp) (h:Heap):Prop:=∀ a o,H a=some o->x37 P w H h a o
end
section
variable {P:Program} {w:World} {H H':Hp} {h h':Heap} {a:Addr} {o:HO}
theorem x37.lt (x:x37 P w H h a o):a<h.objs.size:=by
 cases o with
 | lst xs=>obtain⟨_,_,_,_,e⟩:=x; exact Heap.lt_size e
 | tup xs=>obtain⟨_,_,_,p⟩:=x; exact p.lt
 | dK kvs=>obtain⟨_,_,_,_,o,_,_,e,_⟩:=x; exact Heap.lt_size e
 | dT kvs=>obtain⟨_,_,_,_,o,_,_,e,_⟩:=x; exact Heap.lt_size e
 | set S n=>obtain⟨o,_,_,_,e,_⟩:=x; exact Heap.lt_size e
 | ins C dx fs=>obtain⟨_,_,_,e,_⟩:=x; exact Heap.lt_size e
 | own y=>obtain⟨_,e⟩:=x; exact Heap.lt_size e
 | xd fs=>obtain⟨_,⟨_,_,_,e,_⟩,_⟩:=x; exact Heap.lt_size e
 | rng lo hi=>obtain⟨_,_,_,e⟩:=x; exact Heap.lt_size e
 | frz ob u=>obtain⟨e,_⟩:=x; exact Heap.lt_size e
 | tbl ps=>exact Heap.lt_size (show h.get? a=some _ from x)
 | met f y=>exact Heap.lt_size (show h.get? a=some _ from x)
 | ext φ=>obtain⟨_,⟨_,e⟩,_⟩:=x; exact Heap.lt_size e
theorem Paired.mapP {α β:Type} {F G:α->β->Prop}:∀ {l₁:List α} {l₂:List β},Paired F l₁ l₂->(∀ a b,F a b->G a b)->Paired G l₁ l₂
 | _,_,.nil,_=>.nil
 | _,_,.cons r t,f=>.cons (f _ _ r) (Paired.mapP t f)
theorem x37.stay (x:x37 P w H h a o) (k:∀ b u,(b=a\/H b=some (.own a))->h.get? b=some u->h'.get? b=some u)
  (ho:∀ b,H b=some (.own a)->H' b=some (.own a)) (ht:∀ b xs,H b=some (.tup xs)->H' b=some (.tup xs)):x37 P w H' h' a o:=by
 induction o with
 | lst xs=>obtain⟨z,its,n,r,e⟩:=x; exact⟨z,its,n,r,k _ _ (.inl rfl) e⟩
 | tup xs=>obtain⟨z,its,r,ob,e,c⟩:=x; exact⟨z,its,r,ob,k _ _ (.inl rfl) e,c⟩
 | dK kvs=>obtain⟨z,y,vs,r,ob,es,ep,e,c⟩:=x; exact⟨z,y,vs,r,ob,es,ep,k _ _ (.inl rfl) e,c⟩
 | dT kvs=>
  obtain⟨z,y,xs,r,ob,es,ep,e,c⟩:=x
  exact⟨z,y,xs,Paired.mapP r fun p q z=>⟨z.1,ht _ _ z.2.1,z.2.2⟩,ob,es,ep,k _ _ (.inl rfl) e,c⟩
 | set S n=>obtain⟨ob,es,ep,t,e,c⟩:=x; exact⟨ob,es,ep,t,k _ _ (.inl rfl) e,c⟩
 | ins C dx fs=>
  obtain⟨d,z,ne,e,mA,⟨od,es,ep,e2,c⟩,r⟩:=x
  exact⟨ho _ d,z,ne,k _ _ (.inl rfl) e,mA,⟨od,es,ep,k _ _ (.inr d) e2,c⟩,r⟩
 | own y=>obtain⟨ob,e⟩:=x; exact⟨ob,k _ _ (.inl rfl) e⟩
 | xd fs=>obtain⟨mA,⟨od,es,ep,e,c⟩,r⟩:=x; exact⟨mA,⟨od,es,ep,k _ _ (.inl rfl) e,c⟩,r⟩
 | rng lo hi=>obtain⟨t,u,v,e⟩:=x; exact⟨t,u,v,k _ _ (.inl rfl) e⟩
 | frz ob u ih=>obtain⟨e,q⟩:=x; exact⟨k _ _ (.inl rfl) e,ih q⟩
 | tbl ps=>
  have e:h.get? a=some { cls:=.none,data:=.fields ps }:=x
  show h'.get? a=some { cls:=.none,data:=.fields ps }
  exact k a _ (.inl rfl) e
 | met f y=>
  have e:h.get? a=some (PySem.W.methodObj (.ref f) (.ref y)):=x
  show h'.get? a=some (PySem.W.methodObj (.ref f) (.ref y))
  exact k a _ (.inl rfl) e
 | ext φ=>obtain⟨p,⟨o,e⟩,st⟩:=x; exact⟨st _ _ p fun o q=>k _ _ (.inl rfl) q,⟨o,k _ _ (.inl rfl) e⟩,st⟩
theorem HOk.lt (x:HOk P w H h) (e:H a=some o):a<h.objs.size:=(x a o e).lt
theorem HOk.fresh (x:HOk P w H h) (e:h.objs.size<=a):H a=none:=by
 cases q:H a with
 | none=>rfl
 | some u=>exact absurd (Nat.lt_of_lt_of_le (x.lt q) e) (Nat.lt_irrefl _)
theorem HOk.kept (x:HOk P w H h) (k:∀ b u,h.get? b=some u->h'.get? b=some u):HOk P w H h':=fun a o e=>
 (x a o e).stay (fun b u _ q=>k b u q) (fun _ q=>q) fun _ _ q=>q
theorem HOk.laid (x:HOk P w H h) (k:∀ b u,h.get? b=some u->h'.get? b=some u) (hp:h.objs.size<=a) (new:x37 P w (upd H a o) h' a o):HOk P w (upd H a o) h':=fun b u e=>by
 have hn:=x.fresh hp
 by_cases hb:b=a
 ·subst hb; rw[x1n]at e; cases e; exact new
 ·rw[x0q hb]at e
  exact(x b u e).stay (fun c v _ q=>k c v q) (fun c q=>by rw[x0q (x11 q hn)]; exact q) fun c xs q=>by rw[x0q (x11 q hn)]; exact q
end
noncomputable def Rd (H:Hp) (a:Addr) (u:HO):Prop:=H a=some u\/∃ o,H a=some (.frz o u)
theorem Rd.of {H:Hp} {a:Addr} {u:HO} (h:H a=some u):Rd H a u:=.inl h
theorem Rd.ok {P:Program} {w:World} {H:Hp} {h:Heap} {a:Addr} {u:HO} (r:Rd H a u) (x:HOk P w H h):x37 P w H h a u:=by
 rcases r with r | ⟨o,r⟩
 ·exact x a u r
 ·obtain⟨_,q⟩:=x a _ r
  exact q
noncomputable def Mut:Option HO->Prop
 | some (.lst _)=>True
 | some (.dK _)=>True
 | some (.dT _)=>True
 | some (.set _ _)=>True
 | some (.ins _ _ _)=>True
 | some (.ext _)=>True
 | _=>False
section
variable {P:Program} {w:World} {H:Hp} {h h':Heap} {x e:Addr} {o':HO}
theorem HOk.write (ok:HOk P w H h) (mu:Mut (H x)) (he:e=x\/H e=some (.own x)) (k:∀ b u,b≠e->h.get? b=some u->h'.get? b=some u) (heo:∃ u,h'.get? e=some u)
  (new:x37 P w (upd H x o') h' x o'):HOk P w (upd H x o') h':=fun b u q=>by
 have nown:∀ c y,H c=some (.own y)->c≠x:=fun c y r z=>by subst z; rw[r]at mu; exact mu
 have ntup:∀ c xs,H c=some (.tup xs)->c≠x:=fun c xs r z=>by subst z; rw[r]at mu; exact mu
 by_cases hb:b=x
 ·subst hb; rw[x1n]at q; cases q; exact new
 ·rw[x0q hb]at q
  by_cases hbe:b=e
  ·have q':H b=some (.own x):=by
    rcases he with z | z
    ·exact absurd (hbe.trans z) hb
    ·rw[hbe]; exact z
   rw[q]at q'; cases q'
   obtain⟨v,hv⟩:=heo
   exact⟨v,by rw[hbe]; exact hv⟩
  ·refine(ok b u q).stay (fun c v hc r=>k c v ?_ r) (fun c r=>by rw[x0q (nown c b r)]; exact r) fun c xs r=>by rw[x0q (ntup c xs r)]; exact r
   rcases hc with rfl | hc
   ·exact hbe
   ·rintro rfl
    rcases he with z | z
    ·exact nown c b hc z
    ·rw[hc]at z; cases z; exact hb rfl
end
structure Un (fs ex:List Addr) (H H':Hp) (h h':Heap):Prop where
 keep:∀ b o,h.get? b=some o->H b=none->b ∉ fs->b ∉ ex->h'.get? b=some o
 slot:∀ b o,h.get? b=some o->H b=none->b∈fs->b ∉ ex->∃ sl,h'.get? b=some { o with slots:=sl }
 free:∀ b o,h.get? b=some o->H b=none->b ∉ ex->H' b=none
 there:∀ b o,h.get? b=some o->b ∉ ex->∃ o',h'.get? b=some o'
 tups:∀ b xs,H b=some (.tup xs)->H' b=some (.tup xs)
 frzs:∀ b o u,H b=some (.frz o u)->H' b=some (.frz o u)
 tbls:∀ b ps,H b=some (.tbl ps)->∃ more,H' b=some (.tbl (ps++more))
section
variable {fs fs' ex ex':List Addr} {H H1 H2:Hp} {h h1 h2 h':Heap} {a x e:Addr} {o:HO}
theorem Un.any (u:Un fs ex H H1 h h1) {b:Addr} {ob:Obj} (q:h.get? b=some ob) (n:H b=none) (hx:b ∉ ex):∃ sl,h1.get? b=some { ob with slots:=sl }:=by
 by_cases hb:b∈fs
 ·exact u.slot b ob q n hb hx
 ·exact⟨ob.slots,u.keep b ob q n hb hx⟩
theorem Un.kept (k:∀ b u,h.get? b=some u->h'.get? b=some u):Un fs ex H H h h':=
 ⟨fun b ob q _ _ _=>k b ob q,fun b ob q _ _ _=>⟨ob.slots,k b ob q⟩,fun _ _ _ n _=>n,fun b ob q _=>⟨ob,k b ob q⟩,fun _ _ q=>q,fun _ _ _ q=>q,fun _ ps q=>⟨#[],by rw[q]; simp⟩⟩
theorem Un.refl:Un fs ex H H h h:=Un.kept fun _ _ q=>q
theorem Un.laid (k:∀ b u,h.get? b=some u->h'.get? b=some u) (hp:h.objs.size<=a) (hn:H a=none):Un fs ex H (upd H a o) h h' where
 keep:=fun b u q _ _ _=>k b u q
 slot:=fun b u q _ _ _=>⟨u.slots,k b u q⟩
 free:=fun b u q n _=>by rw[x0q (Nat.ne_of_lt (Nat.lt_of_lt_of_le (Heap.lt_size q) hp))]; exact n
 there:=fun b u q _=>⟨u,k b u q⟩
 tups:=fun b xs q=>by rw[x0q (x11 q hn)]; exact q
 frzs:=fun b u xs q=>by rw[x0q (x11 q hn)]; exact q
 tbls:=fun b ps q=>⟨#[],by rw[x0q (x11 q hn),q]; simp⟩
theorem Un.write (mu:Mut (H x)) (he:e=x\/H e=some (.own x)) (k:∀ b u,b≠e->h.get? b=some u->h'.get? b=some u) (heo:∃ u,h'.get? e=some u):Un fs ex H (upd H x o) h h':=by
 have hx:∀ b,H b=none->b≠x:=fun b n z=>by subst z; rw[n]at mu; exact mu
 have hb:∀ b,H b=none->b≠e:=fun b n z=>by
  subst z
  rcases he with r | r
  ·exact hx b n r
  ·rw[n]at r; cases r
 have hm:∀ b u,H b=some u->¬ Mut (some u)->b≠x:=fun b u q nm z=>by subst z; rw[q]at mu; exact nm mu
 refine⟨fun b u q n _ _=>k b u (hb b n) q,fun b u q n _ _=>⟨u.slots,k b u (hb b n) q⟩,fun b u q n _=>by rw[x0q (hx b n)]; exact n,fun b u q _=>?_,
  fun b xs q=>by rw[x0q (hm b _ q fun z=>z)]; exact q,fun b u xs q=>by rw[x0q (hm b _ q fun z=>z)]; exact q,fun b ps q=>⟨#[],by rw[x0q (hm b _ q fun z=>z),q]; simp⟩⟩
 by_cases hbe:b=e
 ·subst hbe; exact heo
 ·exact⟨u,k b u hbe q⟩
end
noncomputable def trk (h:Heap) (H:Hp):List Addr:=(List.range h.objs.size).filter fun a=>(H a).isSome
noncomputable def z2g (h:Heap) (H:Hp):Heap:=PySem.W.hideAll h (trk h H)
theorem y9s (h:Heap) (H:Hp):(z2g h H).objs.size=h.objs.size:=PySem.W.hideAll_size _ _
theorem z56 {h:Heap} {H:Hp} {b:Addr} {o:Obj} (e:h.get? b=some o) (n:H b=none):(z2g h H).get? b=some o:=
 PySem.W.hideAll_get _ e fun hm=>by
  have q:(H b).isSome=true:=(List.mem_filter.mp hm).2
  rw[n]at q; simp at q
theorem z8d {h:Heap} {H:Hp} {b:Addr} {o:Obj} (e:(z2g h H).get? b=some o):h.get? b=some o/\H b=none:=by
 have e':h.get? b=some o:=PySem.W.of_hideAll (trk h H) e
 refine⟨e',?_⟩
 cases q:H b with
 | none=>rfl
 | some x=>
  have hm:b∈trk h H:=List.mem_filter.mpr ⟨List.mem_range.mpr (Heap.lt_size e'),by simp[q]⟩
  have z:(z2g h H).get? b=none:=PySem.W.hideAll_none (trk h H) hm
  rw[z]at e; cases e
noncomputable def z7n (g h:Heap) (L:Addr):List (Addr × Obj):=(List.range h.objs.size).filterMap fun a=>if a=L\/(g.get? a).isSome=true then none else(h.get? a).map fun o=>(a,o)
noncomputable def x2o (g h:Heap) (L d:Addr):List (Addr × Obj):=(z7n g h L).filter fun p=>decide (p.1≠d)
structure Mod (K:PySem.W.Frag) (mg:Str->Option Value) (base:Heap):Prop where
 kin:K.In base
 glob:base.Ns mainGlobals mg
 blt:∃ mb,base.Ns builtinsNs mb/\∀ x:Str,x ≠ "__name__"->mb x=bootBuiltins x
 nolimit:base.NoLimit
structure Cx where
 prog:Program
 w:World
 K:PySem.W.Frag
 mg:Str->Option Value
 base:Heap
 A:Around
 N:List Str
 s₀:Shared
 H₀:Hp
 env:Env
 outer:List Env
 stack:List Env
 ex:List Addr
 fn:Str->Bool
 calm:Bool
 pn:List (Addr × Obj)
 xe:Value->Shared->Prop
noncomputable def frs (l:List Env):List Addr:=l.filterMap (·.frame)
noncomputable abbrev Cx.fs (X:Cx):List Addr:=frs X.outer
noncomputable def Vis (sc:Scope) (x:Str):Prop:=sc.names.lookup x=some .local\/sc.names.lookup x=some .cell\/sc.names.lookup x=some .free
noncomputable def Loc (sc:Scope) (x:Str):Prop:=sc.names.lookup x=some .local\/sc.names.lookup x=some .cell
noncomputable def j73 (env:Env) (h:Heap) (m:Str->Option Value) (x:Str) (u:Value):Prop:=
 (env.kindOf x=some .local/\m x=some u)\/((env.kindOf x=some .cell\/env.kindOf x=some .free)/\∃ c,env.cells.lookup x=some c/\h.IsCell c (some u))
structure Cx.Ok (X:Cx):Prop where
 mod:Mod X.K X.mg X.base
 kind:X.env.scope.kind=.function
 glob:X.env.globals=mainGlobals
 blt:X.env.builtins=builtinsNs
 above:X.s₀.heap.objs.size<=X.env.locals
 inj:∀ x y c,X.env.cells.lookup x=some c->X.env.cells.lookup y=some c->x=y
 has:∀ x,(X.env.kindOf x=some .cell\/X.env.kindOf x=some .free)->∃ c,X.env.cells.lookup x=some c
 cab:∀ x c,X.fn x=true->X.env.cells.lookup x=some c->X.s₀.heap.objs.size<=c
 hd:X.calm=true->X.A.handled=none
 frames:X.A.frames=some X.stack
 stk:X.stack=X.outer\/(X.stack=X.env::X.outer/\X.env.frame=some X.env.locals)
 exf:∀ b∈X.ex,b≠X.env.locals/\∀ x c,X.env.cells.lookup x=some c->c≠b
 bs:∀ b o,X.base.get? b=some o->X.s₀.heap.get? b=some o/\X.H₀ b=none
 bsz:X.base.objs.size<=X.s₀.heap.objs.size
 noex:∀ b o,X.base.get? b=some o->b ∉ X.ex
 exfs:∀ b∈X.ex,b ∉ X.fs
 funs:X.s₀.heap.FunFrames X.base X.outer
 frf:∀ b∈X.fs,X.H₀ b=none
structure Inv (X:Cx) (pins:List (Addr × Obj)) (σ:List (Option V)) (H:Hp) (s:Shared):Prop where
 ok:X.Ok
 os:s.os=X.s₀.os
 bare:AllBare s.gens
 base:Un X.fs X.ex X.H₀ H X.s₀.heap s.heap
 loc:∃ m,s.heap.Ns X.env.locals m/\∀ (i:Nat) (x:Str) (v:V),X.N[i]? = some x->σ[i]? = some (some v)->Vis X.env.scope x->∃ u,x47 v u/\j73 X.env s.heap m x u
 cell:∀ x c,X.env.cells.lookup x=some c->∃ v,s.heap.IsCell c v
 free:H X.env.locals=none
 freeC:∀ x c,X.env.cells.lookup x=some c->H c=none
 pin:∀ p∈X.pn++pins,s.heap.get? p.1=some p.2/\H p.1=none/\p.1≠X.env.locals/\p.1 ∉ X.fs/\∀ v,p.2.data ≠ .cell v
 hok:HOk X.prog X.w H s.heap
 len:σ.length=X.N.length
section
variable {X:Cx} {pins:List (Addr × Obj)} {σ:List (Option V)} {H H':Hp} {s:Shared} {h':Heap}
theorem Cx.Ok.nofr (ok:X.Ok) {b:Addr} {o:Obj} (e:X.base.get? b=some o):b ∉ X.fs:=fun hb=>by
 have:=(ok.funs.mem hb).1
 rw[e]at this; cases this
theorem Inv.bs (I:Inv X pins σ H s):∀ b o,X.base.get? b=some o->s.heap.get? b=some o/\H b=none:=fun b o e=>
 ⟨I.base.keep b o (I.ok.bs b o e).1 (I.ok.bs b o e).2 (I.ok.nofr e) (I.ok.noex b o e),I.base.free b o (I.ok.bs b o e).1 (I.ok.bs b o e).2 (I.ok.noex b o e)⟩
theorem Inv.bk (I:Inv X pins σ H s):∀ b o,X.base.get? b=some o->s.heap.get? b=some o:=fun b o e=>(I.bs b o e).1
theorem Inv.mod (I:Inv X pins σ H s):Mod X.K X.mg X.base:=I.ok.mod
theorem Inv.kIn (I:Inv X pins σ H s):X.K.In s.heap:=I.ok.mod.kin.keeps I.bk
theorem Inv.fr (I:Inv X pins σ H s):∃ m,Fr X.base X.env.locals s.heap m:=
 let ⟨m,hn,_⟩:=I.loc
 ⟨m,hn,I.bk,Nat.le_trans I.ok.bsz I.ok.above⟩
theorem Inv.lt (I:Inv X pins σ H s):X.env.locals<s.heap.objs.size:=let ⟨_,hn,_⟩:=I.loc; hn.lt
theorem Inv.sz (I:Inv X pins σ H s):X.s₀.heap.objs.size<=s.heap.objs.size:=Nat.le_trans I.ok.above (Nat.le_of_lt I.lt)
theorem Inv.nofs (I:Inv X pins σ H s) {a:Addr} (h:s.heap.objs.size<=a):a ∉ X.fs:=fun hb=>by
 obtain⟨_,o,ho,_⟩:=I.ok.funs.mem hb
 exact absurd (Nat.lt_of_lt_of_le (Heap.lt_size ho) (Nat.le_trans I.sz h)) (Nat.lt_irrefl _)
theorem Inv.cne (I:Inv X pins σ H s):∀ x c,X.env.cells.lookup x=some c->c≠X.env.locals:=fun x c e z=>by
 obtain⟨v,o,ho,hd⟩:=I.cell x c e
 obtain⟨m,⟨o',es,ep,ho',hd',_⟩,_⟩:=I.loc
 rw[z,ho']at ho; cases ho; rw[hd']at hd; cases hd
theorem Inv.funs (I:Inv X pins σ H s):s.heap.FunFrames X.base X.outer:=by
 have all:∀ (l:List Env),(∀ b∈frs l,b∈X.fs)->X.s₀.heap.FunFrames X.base l->s.heap.FunFrames X.base l:=by
  intro l
  induction l with
  | nil=>intro _ _; trivial
  | cons env r ih=>
   intro hs hl
   obtain⟨hk,⟨L,o,hf,hn,ho,hd⟩,hr⟩:=hl
   have hL:L∈X.fs:=hs L (by unfold frs; rw[List.filterMap_cons,hf]; exact List.mem_cons_self)
   obtain⟨sl,e⟩:=I.base.slot L o ho (I.ok.frf L hL) hL fun z=>I.ok.exfs L z hL
   exact⟨hk,⟨L,_,hf,hn,e,hd⟩,ih (fun b hb=>hs b (by unfold frs; rw[List.filterMap_cons,hf]; exact List.mem_cons_of_mem _ hb)) hr⟩
 exact all X.outer (fun _ hb=>hb) I.ok.funs
theorem Inv.stack (I:Inv X pins σ H s):s.heap.FunFrames X.base X.stack:=by
 rcases I.ok.stk with e | ⟨e,hf⟩
 ·rw[e]; exact I.funs
 ·rw[e]
  obtain⟨m,hn,_⟩:=I.loc
  refine .cons (by rw[I.ok.kind]; decide) hf hn ?_ I.funs
  exact Heap.get?_none_of_le (Nat.le_trans I.ok.bsz I.ok.above)
theorem Inv.stkSub (I:Inv X pins σ H s):∀ b∈frs X.stack,b∈X.env.locals::X.fs:=fun b hb=>by
 rcases I.ok.stk with e | ⟨e,hf⟩
 ·rw[e]at hb; exact List.mem_cons_of_mem _ hb
 ·rw[e]at hb
  unfold frs at hb
  rw[List.filterMap_cons,hf]at hb
  exact hb
theorem Inv.stkFree (I:Inv X pins σ H s):∀ b∈frs X.stack,H b=none:=fun b hb=>by
 rcases List.mem_cons.mp (I.stkSub b hb)with e | hb
 ·rw[e]; exact I.free
 ·obtain⟨_,o,ho,_⟩:=I.ok.funs.mem hb
  exact I.base.free b o ho (I.ok.frf b hb) fun z=>I.ok.exfs b z hb
theorem Inv.step {g':Array GenState} {t':Nat} {d':Drawn} {ch:List Addr} (I:Inv X pins σ H s)
  (hch:∀ b∈ch,(b∈X.ex\/X.s₀.heap.objs.size<=b)/\b≠X.env.locals/\(∀ x c,X.env.cells.lookup x=some c->c≠b)/\∀ p∈X.pn++pins,p.1≠b)
  (keep:∀ b o,b≠X.env.locals->b ∉ X.fs->b ∉ ch->s.heap.get? b=some o->H b=none->h'.get? b=some o)
  (slot:∀ b o,b≠X.env.locals->b∈X.fs->b ∉ ch->s.heap.get? b=some o->H b=none->∃ sl,h'.get? b=some { o with slots:=sl }) (free:∀ b o,b ∉ ch->s.heap.get? b=some o->H b=none->H' b=none)
  (there:∀ b o,b ∉ ch->s.heap.get? b=some o->∃ o',h'.get? b=some o')
  (tups:∀ b xs,H b=some (.tup xs)->H' b=some (.tup xs)) (frzs:∀ b o u,H b=some (.frz o u)->H' b=some (.frz o u)) (tbls:∀ b ps,H b=some (.tbl ps)->∃ more,H' b=some (.tbl (ps++more)))
  (ns:∀ m,s.heap.Ns X.env.locals m->h'.Ns X.env.locals m) (hok:HOk X.prog X.w H' h') (hg:AllBare g') :
  Inv X pins σ H' { s with heap:=h',gens:=g',drawn:=d',toks:=t' }:=by
 have neL:∀ b o,X.s₀.heap.get? b=some o->b≠X.env.locals:=fun b o e=>Nat.ne_of_lt (Nat.lt_of_lt_of_le (Heap.lt_size e) I.ok.above)
 have neC:∀ b o,X.s₀.heap.get? b=some o->b ∉ X.ex->b ∉ ch:=fun b o e hx hb=>by
  rcases(hch b hb).1 with z | z
  ·exact hx z
  ·exact absurd (Nat.lt_of_lt_of_le (Heap.lt_size e) z) (Nat.lt_irrefl _)
 have cellK:∀ x c,X.env.cells.lookup x=some c->∀ v,s.heap.IsCell c v->h'.IsCell c v:=fun x c e v hh0=>by
  obtain⟨o,ho,hd⟩:=hh0
  have nch:c ∉ ch:=fun z=>(hch c z).2.2.1 x c e rfl
  by_cases hc:c∈X.fs
  ·obtain⟨sl,q⟩:=slot c o (I.cne x c e) hc nch ho (I.freeC x c e)
   exact⟨_,q,hd⟩
  ·exact⟨o,keep c o (I.cne x c e) hc nch ho (I.freeC x c e),hd⟩
 refine⟨I.ok,I.os,hg,⟨fun b o e n hb hx=>?_,fun b o e n hb hx=>?_,fun b o e n hx=>?_,fun b o e hx=>?_,fun b xs e=>tups b xs (I.base.tups b xs e),fun b o xs e=>frzs b o xs (I.base.frzs b o xs e),fun b ps e=>?_⟩,?_,fun x c e=>?_,?_,fun x c e=>?_,fun p hp=>?_,hok,I.len⟩
 ·exact keep b o (neL b o e) hb (neC b o e hx) (I.base.keep b o e n hb hx) (I.base.free b o e n hx)
 ·obtain⟨sl,e1⟩:=I.base.slot b o e n hb hx
  obtain⟨sl',e2⟩:=slot b _ (neL b o e) hb (neC b o e hx) e1 (I.base.free b o e n hx)
  exact⟨sl',e2⟩
 ·obtain⟨o',e1⟩:=I.base.there b o e hx
  exact free b o' (neC b o e hx) e1 (I.base.free b o e n hx)
 ·obtain⟨o',e1⟩:=I.base.there b o e hx
  exact there b o' (neC b o e hx) e1
 ·obtain⟨m1,e1⟩:=I.base.tbls b ps e
  obtain⟨m2,e2⟩:=tbls b _ e1
  exact⟨m1++m2,by rw[e2,Array.append_assoc]⟩
 ·obtain⟨m,hn,hl⟩:=I.loc
  refine⟨m,ns m hn,fun i x v e1 e2 e3=>?_⟩
  obtain⟨u,r,l⟩:=hl i x v e1 e2 e3
  refine⟨u,r,?_⟩
  rcases l with l | ⟨k,c,e,z⟩
  ·exact .inl l
  ·exact .inr ⟨k,c,e,cellK x c e _ z⟩
 ·obtain⟨v,z⟩:=I.cell x c e
  exact⟨v,cellK x c e v z⟩
 ·obtain⟨m,⟨o,_,_,ho,_⟩,_⟩:=I.loc
  exact free _ o (fun z=>(hch _ z).2.1 rfl) ho I.free
 ·obtain⟨v,o,ho,hd⟩:=I.cell x c e
  exact free c o (fun z=>(hch c z).2.2.1 x c e rfl) ho (I.freeC x c e)
 ·obtain⟨e,n,ne,nf,d⟩:=I.pin p hp
  have nch:p.1 ∉ ch:=fun z=>(hch p.1 z).2.2.2 p hp rfl
  exact⟨keep p.1 p.2 ne nf nch e n,free p.1 p.2 nch e n,ne,nf,d⟩
theorem Inv.un {t':Nat} (I:Inv X pins σ H s) (u:Un X.fs [] H H' s.heap h') (hok:HOk X.prog X.w H' h'):Inv X pins σ H' { s with heap:=h',toks:=t' }:=by
 obtain⟨m,⟨o,es,ep,ho,r⟩,_⟩:=id I.loc
 obtain⟨sl,hL⟩:=u.any ho I.free (by simp)
 exact I.step (g':=s.gens) (d':=s.drawn) (ch:=[]) (fun _ z=>nomatch z) (fun b o _ hb _ e n=>u.keep b o e n hb (by simp)) (fun b o _ hb _ e n=>u.slot b o e n hb (by simp)) (fun b o _ e n=>u.free b o e n (by simp)) (fun b o _ e=>u.there b o e (by simp)) u.tups u.frzs u.tbls (fun m' hm=>by
  obtain⟨o',es',ep',ho',r'⟩:=hm
  rw[ho]at ho'; cases ho'
  exact⟨_,es',ep',hL,r'⟩) hok I.bare
theorem Inv.call {g':Array GenState} {t':Nat} {d':Drawn} {ch:List Addr} (I:Inv X pins σ H s) (u:Un (frs X.stack) ch H H' s.heap h') (hok:HOk X.prog X.w H' h') (hg:AllBare g')
  (hch:∀ b∈ch,(b∈X.ex\/X.s₀.heap.objs.size<=b)/\b≠X.env.locals/\(∀ x c,X.env.cells.lookup x=some c->c≠b)/\∀ p∈X.pn++pins,p.1≠b) :
  Inv X pins σ H' { s with heap:=h',gens:=g',drawn:=d',toks:=t' }:=by
 obtain⟨m,⟨o,es,ep,ho,r⟩,_⟩:=id I.loc
 obtain⟨sl,hL⟩:=u.any ho I.free fun z=>(hch _ z).2.1 rfl
 exact I.step (ch:=ch) hch (fun b o hL hb hc e n=>u.keep b o e n (fun z=>(List.mem_cons.mp (I.stkSub b z)).elim hL hb) hc) (fun b o _ _ hc e n=>u.any e n hc) (fun b o hc e n=>u.free b o e n hc) (fun b o hc e=>u.there b o e hc) u.tups u.frzs u.tbls (fun m' hm=>by
  obtain⟨o',es',ep',ho',r'⟩:=hm
  rw[ho]at ho'; cases ho'
  exact⟨_,es',ep',hL,r'⟩) hok hg
theorem Inv.turned {t':Nat} {it:Addr} (I:Inv X pins σ H s) (k:∀ b o,b≠it->s.heap.get? b=some o->h'.get? b=some o) (hn:H it=none) (hL:it≠X.env.locals)
  (h1:it∈X.ex\/X.s₀.heap.objs.size<=it) (h2:∀ x c,X.env.cells.lookup x=some c->c≠it) (h3:∀ p∈X.pn++pins,p.1≠it):Inv X pins σ H { s with heap:=h',toks:=t' }:=by
 have nit:∀ b u,H b=some u->b≠it:=fun b u e z=>by rw[z,hn]at e; cases e
 refine I.step (g':=s.gens) (d':=s.drawn) (ch:=[it]) (fun b hb=>?_) (fun b o _ _ hc e _=>k b o (fun z=>hc (by simp[z])) e) (fun b o _ _ hc e _=>⟨o.slots,k b o (fun z=>hc (by simp[z])) e⟩) (fun _ _ _ _ n=>n)
  (fun b o hc e=>⟨o,k b o (fun z=>hc (by simp[z])) e⟩) (fun _ _ e=>e) (fun _ _ _ e=>e) (fun b ps e=>⟨#[],by rw[e]; simp⟩) (fun m hm=>?_) (fun b u e=>?_) I.bare
 ·have e:b=it:=by simpa using hb
  subst e
  exact⟨h1,hL,h2,h3⟩
 ·obtain⟨o,es,ep,ho,r⟩:=hm
  exact⟨o,es,ep,k _ o (Ne.symm hL) ho,r⟩
 ·refine(I.hok b u e).stay (fun c v hc q=>k c v ?_ q) (fun _ q=>q) fun _ _ q=>q
  rcases hc with z | z
  ·rw[z]; exact nit b u e
  ·exact nit c _ z
theorem Inv.tok (I:Inv X pins σ H s) (t:Nat):Inv X pins σ H { s with toks:=t }:=I.un (h':=s.heap) (t':=t) Un.refl I.hok
theorem Inv.kept {t':Nat} (I:Inv X pins σ H s) (k:∀ b u,s.heap.get? b=some u->h'.get? b=some u):Inv X pins σ H { s with heap:=h',toks:=t' }:=I.un (Un.kept k) (I.hok.kept k)
theorem Inv.laid {a:Addr} {o:HO} {t':Nat} (I:Inv X pins σ H s) (k:∀ b u,s.heap.get? b=some u->h'.get? b=some u) (hp:s.heap.objs.size<=a) (new:x37 X.prog X.w (upd H a o) h' a o) :
  Inv X pins σ (upd H a o) { s with heap:=h',toks:=t' }:=I.un (Un.laid k hp (I.hok.fresh hp)) (I.hok.laid k hp new)
theorem Inv.write {x e:Addr} {o:HO} {t':Nat} (I:Inv X pins σ H s) (mu:Mut (H x)) (he:e=x\/H e=some (.own x)) (k:∀ b u,b≠e->s.heap.get? b=some u->h'.get? b=some u) (heo:∃ u,h'.get? e=some u)
  (new:x37 X.prog X.w (upd H x o) h' x o):Inv X pins σ (upd H x o) { s with heap:=h',toks:=t' }:=I.un (Un.write mu he k heo) (I.hok.write mu he k heo new)
theorem Inv.weak {σ':List (Option V)} (I:Inv X pins σ H s) (hl:σ'.length=σ.length) (w:∀ (i:Nat) v,σ'[i]? = some (some v)->σ[i]? = some (some v)):Inv X pins σ' H s:=
 ⟨I.ok,I.os,I.bare,I.base,let ⟨m,hn,hl'⟩:=I.loc; ⟨m,hn,fun i x v e1 e2 e3=>hl' i x v e1 (w i v e2) e3⟩,I.cell,I.free,I.freeC,I.pin,I.hok,hl.trans I.len⟩
theorem Inv.pins_of {pins':List (Addr × Obj)} (I:Inv X pins σ H s) (h:∀ p∈pins',s.heap.get? p.1=some p.2/\H p.1=none/\p.1≠X.env.locals/\p.1 ∉ X.fs/\∀ v,p.2.data ≠ .cell v):Inv X pins' σ H s:=
 ⟨I.ok,I.os,I.bare,I.base,I.loc,I.cell,I.free,I.freeC,fun p hp=>(List.mem_append.mp hp).elim (fun z=>I.pin p (List.mem_append_left _ z)) (h p),I.hok,I.len⟩
theorem y7t {N:List Str} (hN:N.Nodup) {i j:Nat} {x:Str} (a:N[i]? = some x) (b:N[j]? = some x):i=j:=by
 obtain⟨h1,e1⟩:=List.getElem?_eq_some_iff.mp a
 obtain⟨h2,e2⟩:=List.getElem?_eq_some_iff.mp b
 exact(List.getElem_inj hN).mp (e1.trans e2.symm)
theorem y5i {M:Model} {A:Around} {E:Value->Shared->Prop} {i:Nat} {x:Str} {v:V} {u:Value} {Q:Unit->Shared->Prop} (I:Inv X pins σ H s) (hN:X.N.Nodup) (hi:X.N[i]? = some x) (hx:Loc X.env.scope x) (r:x47 v u)
  (h:∀ s',Inv X pins (σ.set i (some v)) H s'->(∃ a,Heap.SameBut a s.heap s'.heap/\(a=X.env.locals\/X.env.cells.lookup x=some a))->Q () s') (hf:X.fn x=true\/X.env.scope.names.lookup x=some .local:=by first | exact .inl rfl | exact .inr rfl | assumption):wpAny M A (storeName X.env x u) Q E s:=by
 obtain⟨m,hn,hl⟩:=id I.loc
 have hcls:(X.env.scope.kind == .class || (X.env.scope.kind == .module && X.env.locals != X.env.globals))=false:=by rw[I.ok.kind]; rfl
 have hiσ:i<σ.length:=by rw[I.len]; exact(List.getElem?_eq_some_iff.mp hi).1
 have cne:=I.cne
 have tracked:∀ {a:Addr} {h':Heap},(∃ o,s.heap.get? a=some o/\H a=none)->Heap.SameBut a s.heap h'->HOk X.prog X.w H h':=fun {a h'} ha hs b ob e=>by
  obtain⟨_,_,hfree⟩:=ha
  refine(I.hok b ob e).stay (fun c w' hc q=>(hs.2 c ?_).trans q) (fun _ q=>q) fun _ _ q=>q
  rintro rfl
  rcases hc with rfl | hc
  ·rw[hfree]at e; cases e
  ·rw[hfree]at hc; cases hc
 rcases hx with hk | hk
 ·refine wpAny_storeName_local hk hn (fun h' hn' hs=>?_) hcls
  obtain⟨oL,_,_,hoL,_⟩:=id hn
  refine h _ ⟨I.ok,I.os,I.bare,⟨fun b o e n hb hx=>?_,fun b o e n hb hx=>?_,I.base.free,fun b o e hx=>?_,I.base.tups,I.base.frzs,I.base.tbls⟩,⟨_,hn',fun j y v' e1 e2 e3=>?_⟩,fun y c e=>?_,I.free,I.freeC,fun p hp=>?_,tracked ⟨oL,hoL,I.free⟩ hs,by simpa using I.len⟩ ⟨_,hs,.inl rfl⟩
  ·exact(hs.2 b (Nat.ne_of_lt (Nat.lt_of_lt_of_le (Heap.lt_size e) I.ok.above))).trans (I.base.keep b o e n hb hx)
  ·obtain⟨sl,e1⟩:=I.base.slot b o e n hb hx
   exact⟨sl,(hs.2 b (Nat.ne_of_lt (Nat.lt_of_lt_of_le (Heap.lt_size e) I.ok.above))).trans e1⟩
  ·obtain⟨o',e1⟩:=I.base.there b o e hx
   exact⟨o',(hs.2 b (Nat.ne_of_lt (Nat.lt_of_lt_of_le (Heap.lt_size e) I.ok.above))).trans e1⟩
  ·by_cases hj:j=i
   ·subst hj
    rw[hi]at e1; cases e1
    rw[List.getElem?_set_self hiσ]at e2
    cases e2
    exact⟨u,r,.inl ⟨hk,by simp⟩⟩
   ·rw[List.getElem?_set_ne (Ne.symm hj)]at e2
    obtain⟨u',r',q⟩:=hl j y v' e1 e2 e3
    refine⟨u',r',?_⟩
    rcases q with⟨k,e⟩ | ⟨k,c,e,z⟩
    ·refine .inl ⟨k,?_⟩
     have:y≠x:=fun e=>hj (y7t hN e1 (e ▸ hi))
     simp[this,e]
    ·exact .inr ⟨k,c,e,z.sameBut hs (cne y c e)⟩
  ·obtain⟨w',z⟩:=I.cell y c e
   exact⟨w',z.sameBut hs (cne y c e)⟩
  ·obtain⟨e,n,ne,nf,d⟩:=I.pin p hp
   exact⟨(hs.2 p.1 ne).trans e,n,ne,nf,d⟩
 ·have hfn:X.fn x=true:=by
   rcases hf with z | z
   ·exact z
   ·rw[z]at hk; cases hk
  obtain⟨c,hc⟩:=I.ok.has x (.inl hk)
  obtain⟨w',z⟩:=I.cell x c hc
  refine wpAny_storeName_cell I.ok.kind hk hc z (fun h' hc' hs=>?_)
  obtain⟨oc,hoc,hocd⟩:=id z
  refine h { s with heap:=h' } ⟨I.ok,I.os,I.bare,⟨fun b o e n hb hx=>?_,fun b o e n hb hx=>?_,I.base.free,fun b o e hx=>?_,I.base.tups,I.base.frzs,I.base.tbls⟩,⟨m,hn.sameBut hs (Ne.symm (cne x c hc)),fun j y v' e1 e2 e3=>?_⟩,fun y c' e=>?_,I.free,I.freeC,fun p hp=>?_,tracked ⟨oc,hoc,I.freeC x c hc⟩ hs,by simpa using I.len⟩ ⟨c,hs,.inr hc⟩
  ·exact(hs.2 b (Nat.ne_of_lt (Nat.lt_of_lt_of_le (Heap.lt_size e) (I.ok.cab x c hfn hc)))).trans (I.base.keep b o e n hb hx)
  ·obtain⟨sl,e1⟩:=I.base.slot b o e n hb hx
   exact⟨sl,(hs.2 b (Nat.ne_of_lt (Nat.lt_of_lt_of_le (Heap.lt_size e) (I.ok.cab x c hfn hc)))).trans e1⟩
  ·obtain⟨o',e1⟩:=I.base.there b o e hx
   exact⟨o',(hs.2 b (Nat.ne_of_lt (Nat.lt_of_lt_of_le (Heap.lt_size e) (I.ok.cab x c hfn hc)))).trans e1⟩
  ·by_cases hj:j=i
   ·subst hj
    rw[hi]at e1; cases e1
    rw[List.getElem?_set_self hiσ]at e2
    cases e2
    exact⟨u,r,.inr ⟨.inl hk,c,hc,hc'⟩⟩
   ·rw[List.getElem?_set_ne (Ne.symm hj)]at e2
    obtain⟨u',r',q⟩:=hl j y v' e1 e2 e3
    refine⟨u',r',?_⟩
    rcases q with q | ⟨k,c',e,z'⟩
    ·exact .inl q
    ·refine .inr ⟨k,c',e,z'.sameBut hs ?_⟩
     rintro rfl
     exact hj (y7t hN e1 (I.ok.inj _ _ _ e hc ▸ hi))
  ·by_cases hcc:c'=c
   ·subst hcc; exact⟨_,hc'⟩
   ·obtain⟨w2,z2⟩:=I.cell y c' e
    exact⟨w2,z2.sameBut hs hcc⟩
  ·obtain⟨e,n,ne,nf,d⟩:=I.pin p hp
   refine⟨(hs.2 p.1 ?_).trans e,n,ne,nf,d⟩
   intro q
   rw[q,hoc]at e
   have q':oc=p.2:=Option.some.inj e
   exact d w' (by rw[<- q']; exact hocd)
theorem y8c {M:Model} {A:Around} {E:Value->Shared->Prop} {i:Nat} {x:Str} {v:V} {u:Value} {Q:Unit->Shared->Prop} (I:Inv X pins σ H s) (hN:X.N.Nodup) (hi:X.N[i]? = some x) (hx:Loc X.env.scope x) (r:x47 v u)
  (h:∀ s',Inv X pins (σ.set i (some v)) H s'->Q () s') (hf:X.fn x=true\/X.env.scope.names.lookup x=some .local:=by first | exact .inl rfl | exact .inr rfl | assumption):wpAny M A (storeName X.env x u) Q E s:=
 y5i I hN hi hx r (fun s' I' _=>h s' I') hf
theorem Inv.call' {s':Shared} {ch:List Addr} (I:Inv X pins σ H s) (ho:s'.os=s.os) (u:Un (frs X.stack) ch H H' s.heap s'.heap) (hok:HOk X.prog X.w H' s'.heap) (hg:AllBare s'.gens)
  (hch:∀ b∈ch,(b∈X.ex\/X.s₀.heap.objs.size<=b)/\b≠X.env.locals/\(∀ x c,X.env.cells.lookup x=some c->c≠b)/\∀ p∈X.pn++pins,p.1≠b):Inv X pins σ H' s':=by
 obtain⟨h',g',d',t',o'⟩:=s'
 have e:o'=s.os:=ho
 subst e
 exact I.call (g':=g') (t':=t') (d':=d') u hok hg hch
end
noncomputable abbrev XK:=Value->Option Addr->Hp->Prop
noncomputable abbrev St:=List (Option V)
noncomputable abbrev VK:=V->Hp->Prop
noncomputable abbrev TE:=St->Hp->VK->Prop
noncomputable abbrev TT:=St->Hp->(Bool->Hp->Prop)->Prop
noncomputable abbrev TA:=St->Hp->(List V->Hp->Prop)->Prop
structure Ends where
 nx:St->Hp->Prop
 rt:VK
 bk:St->Hp->Prop:=fun _ _=>False
 ct:St->Hp->Prop:=fun _ _=>False
noncomputable abbrev TS:=Ends->St->Hp->Prop
noncomputable def EP (X:Cx) (pins:List (Addr × Obj)) (σ:St) (Q:VK) (u:Value) (s':Shared):Prop:=∃ v H',Inv X pins σ H' s'/\x47 v u/\Q v H'
noncomputable def TP (X:Cx) (pins:List (Addr × Obj)) (σ:St) (Q:Bool->Hp->Prop) (b:Bool) (s':Shared):Prop:=∃ H',Inv X pins σ H' s'/\Q b H'
noncomputable def AP (X:Cx) (pins:List (Addr × Obj)) (σ:St) (Q:List V->Hp->Prop) (us:List Value) (s':Shared):Prop:=∃ vs H',Inv X pins σ H' s'/\x2z vs us/\Q vs H'
noncomputable def SP (X:Cx) (pins:List (Addr × Obj)) (D:Ends) (f:Flow) (s':Shared):Prop:=
 match f with
 | .next=>∃ σ' H',Inv X pins σ' H' s'/\D.nx σ' H'
 | .brk=>∃ σ' H',Inv X pins σ' H' s'/\D.bk σ' H'
 | .cont=>∃ σ' H',Inv X pins σ' H' s'/\D.ct σ' H'
 | .ret u=>∃ v σ' H',Inv X pins σ' H' s'/\x47 v u/\D.rt v H'
noncomputable def PE (X:Cx) (e:Expr) (t:TE):Prop:=
 ∀ (pins:List (Addr × Obj)) (s:Shared) (σ:St) (H:Hp) (Q:VK),Inv X pins σ H s->t σ H Q->wpAny (model X.prog X.w) X.A (eval e X.env) (EP X pins σ Q) X.xe s
noncomputable def PT (X:Cx) (e:Expr) (t:TT):Prop:=
 ∀ (pins:List (Addr × Obj)) (s:Shared) (σ:St) (H:Hp) (Q:Bool->Hp->Prop),Inv X pins σ H s->t σ H Q->wpAny (model X.prog X.w) X.A (isTrue e X.env (eval e X.env)) (TP X pins σ Q) X.xe s
noncomputable def PW (X:Cx) (e:Expr) (t:TT):Prop:=
 ∀ (whole:Sem Value) (pins:List (Addr × Obj)) (s:Shared) (σ:St) (H:Hp) (Q:Bool->Hp->Prop),Inv X pins σ H s->t σ H Q->wpAny (model X.prog X.w) X.A (isTrue e X.env whole) (TP X pins σ Q) X.xe s
theorem PW.pt {X:Cx} {e:Expr} {t:TT} (h:PW X e t):PT X e t:=h _
noncomputable def PA (X:Cx) (es:List Expr) (t:TA):Prop:=
 ∀ (pos:Pos) (pins:List (Addr × Obj)) (s:Shared) (σ:St) (H:Hp) (Q:List V->Hp->Prop),Inv X pins σ H s->t σ H Q->wpAny (model X.prog X.w) X.A (spliced (backTo pos (starEach es X.env))) (AP X pins σ Q) X.xe s
noncomputable def PS (X:Cx) (st:Stmt) (t:TS):Prop:=
 ∀ (pins:List (Addr × Obj)) (s:Shared) (σ:St) (H:Hp) (D:Ends),Inv X pins σ H s->t D σ H->wpAny (model X.prog X.w) X.A (exec st X.env) (SP X pins D) X.xe s
noncomputable def PSs (X:Cx) (st:List Stmt) (t:TS):Prop:=
 ∀ (pins:List (Addr × Obj)) (s:Shared) (σ:St) (H:Hp) (D:Ends),Inv X pins σ H s->t D σ H->wpAny (model X.prog X.w) X.A (execs st X.env) (SP X pins D) X.xe s
theorem thn {α:Type} {t:Sem α} {Q Q':α->Shared->Prop} {M:Model} {A:Around} {E:Value->Shared->Prop} {s:Shared} (h:wpAny M A t Q E s) (hQ:∀ a s,Q a s->Q' a s):wpAny M A t Q' E s:=wpAny_mono h hQ fun _ _ x=>x
section
variable {X:Cx}
noncomputable def x9t (i:Nat):TE:=fun σ H Q=>∃ v,σ[i]? = some (some v)/\Q v H
noncomputable def tC (v:V):TE:=fun _ H Q=>Q v H
theorem j1k {i:Nat} {x:Str} {pos:Pos} (hN:X.N[i]? = some x) (hv:Vis X.env.scope x) (hd:(x == ("__debug__":Str))=false:=by decide) (hcd:(x == ("__classdict__":Str))=false:=by decide):PE X (.Name x pos) (x9t i):=by
 intro pins s σ H Q I h
 obtain⟨v,e,h⟩:=h
 obtain⟨m,hn,hl⟩:=I.loc
 obtain⟨u,r,l⟩:=hl i x v hN e hv
 have fin:EP X pins σ Q u s:=⟨v,H,I,r,h⟩
 rcases l with⟨hk,hm⟩ | ⟨hk,c,hc,hcell⟩
 ·exact wpAny_Name (wpAny_loadName_local I.ok.kind hk hn hm fin) hd
 ·rcases hk with hk | hk
  ·exact wpAny_Name (wpAny_loadName_cell I.ok.kind hk hc hcell fin) hd
  ·exact wpAny_Name (wpAny_loadName_free I.ok.kind hk hc hcell fin hcd) hd
theorem z69 {i j pos}:PE X (.Constant (.int i) j pos) (tC (.int i)):=fun _ _ _ H _ I h=>wpAny_Constant_int ⟨.int i,H,I.tok _,⟨_,rfl⟩,h⟩
theorem j4e {b j pos}:PE X (.Constant (.bool b) j pos) (tC (.bl b)):=fun _ _ _ H _ I h=>Constant_bool ⟨.bl b,H,I,rfl,h⟩
theorem z9t {j pos}:PE X (.Constant .none j pos) (tC .non):=fun _ _ _ H _ I h=>Constant_none ⟨.non,H,I,rfl,h⟩
theorem z17 {x j pos}:PE X (.Constant (.str x) j pos) (tC (.str x)):=fun _ _ _ H _ I h=>Calls.Constant_str ⟨.str x,H,I.tok _,⟨_,rfl⟩,h⟩
noncomputable def Gl (X:Cx) (x:Str):Prop:=X.env.kindOf x=some .globalImplicit
theorem z8g {E:Value->Shared->Prop} {pins:List (Addr × Obj)} {s:Shared} {σ:St} {H:Hp} {x:Str} {u:Value} {pos:Pos} {Q:Value->Shared->Prop} (I:Inv X pins σ H s) (hg:Gl X x) (hm:X.mg x=some u) (h:Q u s)
  (hd:(x == ("__debug__":Str))=false:=by decide):wpAny (model X.prog X.w) X.A (eval (.Name x pos) X.env) Q E s:=
 Calls.Name_function_global I.ok.kind hg (Calls.loadGlobal_global (by rw[I.ok.glob]; exact I.mod.glob.keeps I.bk) hm h) hd
theorem y20 {E:Value->Shared->Prop} {pins:List (Addr × Obj)} {s:Shared} {σ:St} {H:Hp} {x:Str} {u:Value} {pos:Pos} {Q:Value->Shared->Prop} (I:Inv X pins σ H s) (hg:Gl X x) (hm:X.mg x=none) (hv:bootBuiltins x=some u) (h:Q u s)
  (hn:x ≠ "__name__":=by decide) (hd:(x == ("__debug__":Str))=false:=by decide):wpAny (model X.prog X.w) X.A (eval (.Name x pos) X.env) Q E s:=by
 obtain⟨mb,h1,h2⟩:=I.mod.blt
 exact Calls.Name_function_global I.ok.kind hg (Calls.loadGlobal_builtin (by rw[I.ok.glob]; exact I.mod.glob.keeps I.bk) hm (by rw[I.ok.blt]; exact h1.keeps I.bk) ((h2 x hn).trans hv) h) hd
theorem z7y {x:Str} {v:V} {u:Value} {pos:Pos} (hg:Gl X x) (hm:X.mg x=none) (hv:bootBuiltins x=some u) (r:x47 v u) (hn:x ≠ "__name__":=by decide) (hd:(x == ("__debug__":Str))=false:=by decide):PE X (.Name x pos) (tC v):=
 fun _ _ _ H _ I h=>y20 I hg hm hv ⟨v,H,I,r,h⟩ hn hd
variable {a b:Expr} {ta tb:TE} {pos:Pos}
variable {tA tB':TT} {x2o:List Expr}
noncomputable def j71 (t u:TT):TT:=fun σ H Q=>t σ H fun c H1=>if c=true then u σ H1 Q else Q false H1
noncomputable def tOr (t u:TT):TT:=fun σ H Q=>t σ H fun c H1=>if c=true then Q true H1 else u σ H1 Q
noncomputable def j6p (t:TT):TT:=fun σ H Q=>t σ H fun c H1=>Q (!c) H1
theorem z8u (ha:PT X a tA):PW X (.BoolOp .And [a] pos) tA:=by
 intro wh pins s σ H Q I h
 refine isTrue_and (thn (ha pins s σ H Q I h) fun c s1 e=>?_)
 cases c with
 | true=>exact isTrue_and_nil e
 | false=>exact e
theorem j07 (ha:PT X a tA):PW X (.BoolOp .Or [a] pos) tA:=by
 intro wh pins s σ H Q I h
 refine isTrue_or (thn (ha pins s σ H Q I h) fun c s1 e=>?_)
 cases c with
 | false=>exact isTrue_or_nil e
 | true=>exact e
theorem j2l (ha:PT X a tA) (hb:PW X (.BoolOp .And (b::x2o) pos) tB'):PW X (.BoolOp .And (a::b::x2o) pos) (j71 tA tB'):=by
 intro wh pins s σ H Q I h
 refine isTrue_and (thn (ha pins s σ H _ I h) fun c s1 hh0=>?_)
 obtain⟨H1,I1,q1⟩:=hh0
 cases c with
 | true=>exact hb wh pins s1 σ H1 Q I1 q1
 | false=>exact⟨H1,I1,q1⟩
theorem j53 (ha:PT X a tA) (hb:PW X (.BoolOp .Or (b::x2o) pos) tB'):PW X (.BoolOp .Or (a::b::x2o) pos) (tOr tA tB'):=by
 intro wh pins s σ H Q I h
 refine isTrue_or (thn (ha pins s σ H _ I h) fun c s1 hh0=>?_)
 obtain⟨H1,I1,q1⟩:=hh0
 cases c with
 | true=>exact⟨H1,I1,q1⟩
 | false=>exact hb wh pins s1 σ H1 Q I1 q1
theorem j25 (ha:PT X a tA):PT X (.UnaryOp .Not a pos) (j6p tA):=by
 intro pins s σ H Q I h
 exact isTrue_not (ha pins s σ H (fun c H1=>Q (!c) H1) I h)
noncomputable def j4h (ta tb:TE):TE:=fun σ H Q=>ta σ H fun x H1=>∃ c,x=.bl c/\if c=true then tb σ H1 Q else Q (.bl false) H1
noncomputable def j4j (ta:TE):TE:=fun σ H Q=>ta σ H fun x H1=>∃ c,x=.bl c/\Q (.bl (!c)) H1
theorem j2n {op} {t:TE} (h:PE X a t):PE X (.BoolOp op [a] pos) t:=fun pins s σ H Q I hw=>BoolOp_one (h pins s σ H Q I hw)
theorem j2y (ha:PE X a ta) (hb:PE X (.BoolOp .And (b::x2o) pos) tb):PE X (.BoolOp .And (a::b::x2o) pos) (j4h ta tb):=by
 intro pins s σ H Q I h
 refine BoolOp_and (thn (ha pins s σ H _ I h) fun v s1 hh0=>?_)
 obtain⟨x,H1,I1,r1,q1⟩:=hh0
 obtain⟨c,rfl,q1⟩:=q1
 cases r1
 refine wpAny_truthy_bool ?_
 cases c with
 | true=>exact hb pins s1 σ H1 Q I1 q1
 | false=>exact⟨.bl false,H1,I1,rfl,q1⟩
theorem j30 (ha:PE X a ta):PE X (.UnaryOp .Not a pos) (j4j ta):=by
 intro pins s σ H Q I h
 refine UnaryOp_ (thn (ha pins s σ H _ I h) fun v s1 hh0=>?_)
 obtain⟨x,H1,I1,r1,q1⟩:=hh0
 obtain⟨c,rfl,q1⟩:=q1
 cases r1
 exact not_of (wpAny_truthy_bool ⟨.bl (!c),H1,I1,rfl,q1⟩)
noncomputable def tIf (t:TT) (ta tb:TE):TE:=fun σ H Q=>t σ H fun c H1=>if c=true then ta σ H1 Q else tb σ H1 Q
theorem z3j {c:Expr} (hc:PT X c tA) (ha:PE X a ta) (hb:PE X b tb):PE X (.IfExp c a b pos) (tIf tA ta tb):=by
 intro pins s σ H Q I h
 refine wpAny_IfExp (thn (hc pins s σ H _ I h) fun d s1 hh0=>?_)
 obtain⟨H1,I1,q1⟩:=hh0
 cases d with
 | true=>exact ha pins s1 σ H1 Q I1 q1
 | false=>exact hb pins s1 σ H1 Q I1 q1
end
noncomputable def SqL (K:PySem.W.Frag) (H:Hp) (a:Addr) (xs:List V):Prop:=
 Rd H a (.lst xs) \/
  ∃ (o:Obj) (its:Array Value) (n:Nat),K.lookup a=some o/\o.cls=.type "list" /\ o.dict=none/\o.data=.seq its n/\its.size<=sizeLine/\x2z xs its.toList
noncomputable def SqT (K:PySem.W.Frag) (H:Hp) (a:Addr) (xs:List V):Prop:=
 Rd H a (.tup xs) \/
  ∃ (o:Obj) (its:Array Value) (n:Nat),K.lookup a=some o/\o.cls=.type "tuple" /\ o.data=.seq its n/\its.size<=sizeLine/\x2z xs its.toList
noncomputable def j70:Value->Option V
 | .none=>some .non
 | .bool b=>some (.bl b)
 | .int i _=>some (.int i)
 | .str x _=>some (.str x)
 | .bytes b _=>some (.byt b)
 | .float b _=>some (.flt b)
 | .ref a=>some (.ref a)
 | .type n=>some (.ty n)
 | _=>none
theorem x47.abs {x:V} {u:Value} (r:x47 x u):j70 u=some x:=by
 cases x with
 | non=>cases r; rfl
 | bl _=>cases r; rfl
 | int _=>obtain⟨t,rfl⟩:=r; rfl
 | str _=>obtain⟨t,rfl⟩:=r; rfl
 | byt _=>obtain⟨t,rfl⟩:=r; rfl
 | flt _=>obtain⟨t,rfl⟩:=r; rfl
 | ref _=>cases r; rfl
 | ty _=>cases r; rfl
theorem x47.inj {x y:V} {u:Value} (r:x47 x u) (q:x47 y u):x=y:=Option.some.inj (r.abs.symm.trans q.abs)
theorem x2z.inj:∀ {xs ys:List V} {us:List Value},x2z xs us->x2z ys us->xs=ys
 | _,_,_,.nil,.nil=>rfl
 | _,_,_,.cons r t,.cons r' t'=>by rw[r.inj r',x2z.inj t t']
section
variable {X:Cx} {pins:List (Addr × Obj)} {σ:St} {H:Hp} {s:Shared} {a:Addr} {xs ys:List V}
theorem SqL.of {K:PySem.W.Frag} (h:H a=some (.lst xs)):SqL K H a xs:=.inl (.inl h)
theorem SqT.of {K:PySem.W.Frag} (h:H a=some (.tup xs)):SqT K H a xs:=.inl (.inl h)
theorem Inv.list (I:Inv X pins σ H s) (h:SqL X.K H a xs):∃ its:List Value,x2z xs its/\PlainL s.heap a its.toArray/\xs.length<=sizeLine:=by
 rcases h with h | ⟨o,its,n,hk,hc,hd,hs,hz,r⟩
 ·obtain⟨z,its,n,r,e⟩:=h.ok I.hok
  exact⟨its,r,⟨_,n,e,rfl,rfl,rfl⟩,z⟩
 ·refine⟨its.toList,r,⟨o,n,I.kIn a o hk,hc,hd,by simpa using hs⟩,?_⟩
  have e:=r.length
  simp only[Array.length_toList]at e
  omega
theorem Inv.tuple (I:Inv X pins σ H s) (h:SqT X.K H a xs):∃ its:List Value,x2z xs its/\IsTup s.heap a its.toArray/\xs.length<=sizeLine:=by
 rcases h with h | ⟨o,its,n,hk,hc,hs,hz,r⟩
 ·obtain⟨z,its,r,p⟩:=h.ok I.hok
  exact⟨its,r,p.tup,z⟩
 ·refine⟨its.toList,r,⟨o,I.kIn a o hk,hc,n,by simpa using hs⟩,?_⟩
  have e:=r.length
  simp only[Array.length_toList]at e
  omega
theorem Inv.list_inj (I:Inv X pins σ H s) (h:SqL X.K H a xs) (h':SqL X.K H a ys):xs=ys:=by
 obtain⟨its,r,⟨o,n,e,_,_,d⟩,_⟩:=I.list h
 obtain⟨its',r',⟨o',n',e',_,_,d'⟩,_⟩:=I.list h'
 rw[e]at e'; cases e'
 rw[d]at d'
 injection d' with d1 _
 have:its=its':=by simpa using congrArg Array.toList d1
 subst this
 exact r.inj r'
theorem Inv.tuple_inj (I:Inv X pins σ H s) (h:SqT X.K H a xs) (h':SqT X.K H a ys):xs=ys:=by
 obtain⟨its,r,⟨o,e,_,n,d⟩,_⟩:=I.tuple h
 obtain⟨its',r',⟨o',e',_,n',d'⟩,_⟩:=I.tuple h'
 rw[e]at e'; cases e'
 rw[d]at d'
 injection d' with d1 _
 have:its=its':=by simpa using congrArg Array.toList d1
 subst this
 exact r.inj r'
end
noncomputable abbrev Cx.wish (X:Cx) (E:Value->Shared->Prop):Cx:={ X with xe:=E }
noncomputable abbrev Cx.nox (X:Cx):Cx:=X.wish fun _ _=>False
theorem Cx.Ok.wish {X:Cx} (ok:X.Ok) (E:Value->Shared->Prop):(X.wish E).Ok:=
 ⟨ok.mod,ok.kind,ok.glob,ok.blt,ok.above,ok.inj,ok.has,ok.cab,ok.hd,ok.frames,ok.stk,ok.exf,ok.bs,ok.bsz,ok.noex,ok.exfs,ok.funs,ok.frf⟩
theorem Cx.Ok.unwish {X:Cx} {E:Value->Shared->Prop} (ok:(X.wish E).Ok):X.Ok:=
 ⟨ok.mod,ok.kind,ok.glob,ok.blt,ok.above,ok.inj,ok.has,ok.cab,ok.hd,ok.frames,ok.stk,ok.exf,ok.bs,ok.bsz,ok.noex,ok.exfs,ok.funs,ok.frf⟩
section
variable {X:Cx} {pins:List (Addr × Obj)} {σ:St} {H:Hp} {s:Shared} {E:Value->Shared->Prop}
theorem Inv.wish (I:Inv X pins σ H s) (E:Value->Shared->Prop):Inv (X.wish E) pins σ H s:=⟨I.ok.wish E,I.os,I.bare,I.base,I.loc,I.cell,I.free,I.freeC,I.pin,I.hok,I.len⟩
theorem Inv.unwish (I:Inv (X.wish E) pins σ H s):Inv X pins σ H s:=⟨I.ok.unwish,I.os,I.bare,I.base,I.loc,I.cell,I.free,I.freeC,I.pin,I.hok,I.len⟩
theorem SP.unwish {D:Ends} {f:Flow} {s':Shared} (h:SP (X.wish E) pins D f s'):SP X pins D f s':=by
 cases f with
 | next=>obtain⟨σ',H',I,q⟩:=h; exact⟨σ',H',I.unwish,q⟩
 | brk=>obtain⟨σ',H',I,q⟩:=h; exact⟨σ',H',I.unwish,q⟩
 | cont=>obtain⟨σ',H',I,q⟩:=h; exact⟨σ',H',I.unwish,q⟩
 | ret u=>obtain⟨v,σ',H',I,r,q⟩:=h; exact⟨v,σ',H',I.unwish,r,q⟩
theorem PSs.nox {st:List Stmt} {t:TS} (h:PSs X.nox st t):PSs X st t:=fun pins s σ H D I hw=>
 wpAny_mono (h pins s σ H D (I.wish _) hw) (fun _ _ q=>q.unwish) fun _ _ z=>False.elim z
end
section
variable {X:Cx} {st:Stmt} {x2o:List Stmt} {t u:TS} {e:Expr} {te:TE} {pos:Pos}
noncomputable def j5j:TS:=fun D σ H=>D.nx σ H
noncomputable def j7f (t u:TS):TS:=fun D σ H=>t { D with nx:=u D } σ H
theorem z6f:PSs X [] j5j:=fun _ _ σ H _ I h=>wpAny_execs_nil ⟨σ,H,I,h⟩
theorem z3p (h1:PS X st t) (h2:PSs X x2o u):PSs X (st::x2o) (j7f t u):=by
 intro pins s σ H D I h
 refine wpAny_execs_cons (thn (h1 pins s σ H { D with nx:=u D } I h) fun f s1 q=>?_)
 cases f with
 | next=>
  obtain⟨σ',H',I',q⟩:=q
  exact h2 pins s1 σ' H' D I' q
 | ret v=>exact q
 | brk=>exact q
 | cont=>exact q
theorem z9b (h1:PS X st t):PSs X [st] t:=by
 intro pins s σ H D I h
 refine wpAny_execs_cons (thn (h1 pins s σ H D I h) fun f s1 q=>?_)
 cases f with
 | next=>exact wpAny_execs_nil q
 | ret v=>exact q
 | brk=>exact q
 | cont=>exact q
noncomputable def z9s:TS:=fun D σ H=>D.bk σ H
theorem z45:PS X (.Break pos) z9s:=fun _ _ σ H _ I h=>wpAny_Break ⟨σ,H,I,h⟩
theorem Inv.quiet {pins:List (Addr × Obj)} {σ:St} {H:Hp} {s:Shared} (I:Inv X pins σ H s):interactive X.env=false:=by simp[interactive,I.ok.kind]
noncomputable def j5o (te:TE):TS:=fun D σ H=>te σ H fun _ H1=>D.nx σ H1
theorem z74 (he:PE X e te) (hs:swapsWith e none pos.line X.env=pure false:=by rfl):PS X (.Expr e pos) (j5o te):=by
 intro pins s σ H D I h
 exact wpAny_Expr_any (thn (he pins s σ H _ I h) fun v s1 ⟨x,H1,I1,r1,q1⟩=>⟨σ,H1,I1,q1⟩) I.quiet hs
noncomputable def j6i (te:TE):TS:=fun D σ H=>te σ H D.rt
theorem j09 (he:PE X e te):PS X (.Return (some e) pos) (j6i te):=by
 intro pins s σ H D I h
 exact wpAny_Return_some (thn (he pins s σ H _ I h) fun v s1 ⟨x,H1,I1,r1,q1⟩=>⟨x,σ,H1,I1,r1,q1⟩)
noncomputable def j7c (c:TT) (t u:TS):TS:=fun D σ H=>c σ H fun b H1=>if b=true then t D σ H1 else u D σ H1
theorem j5y {c:Expr} {a b:List Stmt} {tc:TT} (hc:PT X c tc) (ha:PSs X a t) (hb:PSs X b u):PS X (.If c a b pos) (j7c tc t u):=by
 intro pins s σ H D I h
 refine wpAny_If (thn (hc pins s σ H _ I h) fun d s1 hh0=>?_)
 obtain⟨H1,I1,q1⟩:=hh0
 cases d with
 | true=>exact ha pins s1 σ H1 D I1 q1
 | false=>exact hb pins s1 σ H1 D I1 q1
noncomputable def j13:TS:=fun _ _ _=>False
theorem z2v:PS X st j13:=fun _ _ _ _ _ _ h=>h.elim
end
noncomputable abbrev TG:=V->St->Hp->(St->Hp->Prop)->Prop
noncomputable abbrev TGs:=List V->St->Hp->(St->Hp->Prop)->Prop
noncomputable def PG (X:Cx) (target:Expr) (t:TG):Prop:=
 ∀ (pins:List (Addr × Obj)) (s:Shared) (σ:St) (H:Hp) (v:V) (u:Value) (Q:St->Hp->Prop),Inv X pins σ H s->x47 v u->t v σ H Q->
  wpAny (model X.prog X.w) X.A (assign target X.env u) (fun _ s'=>∃ σ' H',Inv X pins σ' H' s'/\Q σ' H') X.xe s
noncomputable def PGs (X:Cx) (ts:List Expr) (t:TGs):Prop:=
 ∀ (pins:List (Addr × Obj)) (s:Shared) (σ:St) (H:Hp) (vs:List V) (us:List Value) (Q:St->Hp->Prop),Inv X pins σ H s->x2z vs us->t vs σ H Q->
  wpAny (model X.prog X.w) X.A (assignInOrder ((assignEach ts X.env).map (·.2)) us) (fun _ s'=>∃ σ' H',Inv X pins σ' H' s'/\Q σ' H') X.xe s
noncomputable abbrev j4a:=V->V->V->Hp->(Hp->Prop)->Prop
noncomputable def j61 (X:Cx) (t:j4a):Prop:=
 ∀ (pins:List (Addr × Obj)) (s:Shared) (σ:St) (H:Hp) (o i v:V) (ov iv u:Value) (Q:Hp->Prop),Inv X pins σ H s->x47 o ov->x47 i iv->x47 v u->t o i v H Q->
  wpAny (model X.prog X.w) X.A (setItem ov iv u) (fun _ s'=>∃ H',Inv X pins σ H' s'/\Q H') X.xe s
section
variable {X:Cx} {pos:Pos}
noncomputable def z9j (i:Nat):TG:=fun v σ H Q=>Q (σ.set i (some v)) H
theorem z9a {i:Nat} {x:Str} (hN:X.N.Nodup) (hi:X.N[i]? = some x) (hx:Loc X.env.scope x) (hf:X.fn x=true\/X.env.scope.names.lookup x=some .local:=by first | exact .inl rfl | exact .inr rfl | assumption):PG X (.Name x pos) (z9j i):=by
 intro pins s σ H v u Q I r h
 exact wpAny_assign_Name (y8c I hN hi hx r (fun s' I'=>⟨_,H,I',h⟩) hf)
noncomputable def j6y:TGs:=fun vs σ H Q=>vs=[]/\Q σ H
noncomputable def j4v (t:TG) (u:TGs):TGs:=fun vs σ H Q=>∃ v r,vs=v::r/\t v σ H fun σ' H'=>u r σ' H' Q
theorem z7q:PGs X [] j6y:=by
 intro pins s σ H vs us Q I r h
 obtain⟨e,h⟩:=h
 subst e
 cases r
 exact assignInOrder_nil ⟨σ,H,I,h⟩
theorem z4z {e:Expr} {es:List Expr} {t:TG} {u:TGs} (h1:PG X e t) (h2:PGs X es u)
  (hs:(assignEach (e::es) X.env).map (·.2)=assign e X.env::(assignEach es X.env).map (·.2):=by rfl):PGs X (e::es) (j4v t u):=by
 intro pins s σ H vs us Q I r h
 obtain⟨v,vr,e1,h⟩:=h
 subst e1
 cases r with
 | cons r rr=>
  rw[hs]
  refine assignInOrder_cons (thn (h1 pins s σ H _ _ _ I r h) fun _ s1 hh0=>?_)
  obtain⟨σ1,H1,I1,q1⟩:=hh0
  exact h2 pins s1 σ1 H1 _ _ Q I1 rr q1
noncomputable def j6o (K:PySem.W.Frag) (n:Nat) (t:TGs):TG:=fun v σ H Q=>∃ a xs,v=.ref a/\SqT K H a xs/\xs.length=n/\t xs σ H Q
theorem j36 {es:List Expr} {k:Nat} {t:TGs} {n:Nat} (hc:X.calm=true) (h:PGs X es t)
  (hn:(assignEach es X.env).length=n:=by rfl) (hst:(assignEach es X.env).findIdx? (·.1)=none:=by rfl):PG X (.Tuple es k pos) (j6o X.K n t):=by
 intro pins s σ H v u Q I r hw
 obtain⟨a,xs,e1,hq,hl,hw⟩:=hw
 subst e1
 cases r
 obtain⟨its,rv,ht,hz⟩:=I.tuple hq
 refine assign_Tuple_tuple (I.ok.hd hc) ht (by simp[hn,<- hl,rv.length]) hst fun h' hx=>?_
 have I1:Inv X pins σ H { s with heap:=h' }:=I.kept (t':=s.toks) fun b o e=>hx b o (Nat.ne_of_lt (Heap.lt_size e)) e
 exact h pins _ σ H xs _ Q I1 (by simpa using rv) hw
noncomputable def j6g (to ti:TE) (t:j4a):TG:=fun v σ H Q=>to σ H fun o H1=>ti σ H1 fun i H2=>t o i v H2 fun H3=>Q σ H3
theorem z61 {o i:Expr} {to ti:TE} {t:j4a} (ho:PE X o to) (hi:PE X i ti) (hs:j61 X t)
  (ha:∀ v,assign (.Subscript o i pos) X.env v=(do
    let ov <- holding [v] (eval o X.env)
    let iv <- holding [v,ov] (eval i X.env)
    standAt pos
    holding [v,ov,iv] (setItem ov iv v)
    release [v,ov,iv] []):=by intro _; rfl):PG X (.Subscript o i pos) (j6g to ti t):=by
 intro pins s σ H v u Q I r h
 rw[ha]
 refine wpAny_bind (wpAny_holding (thn (ho pins s σ H _ I h) fun ov s1 hh0=>?_))
 obtain⟨x,H1,I1,r1,q1⟩:=hh0
 refine wpAny_bind (wpAny_holding (thn (hi pins s1 σ H1 _ I1 q1) fun iv s2 hh0=>?_))
 obtain⟨y,H2,I2,r2,q2⟩:=hh0
 refine wpAny_bind (wpAny_standAt (wpAny_bind (wpAny_holding (thn (hs pins s2 σ H2 x y v ov iv u _ I2 r1 r2 r q2) fun _ s3 hh0=>?_))))
 obtain⟨H3,I3,q3⟩:=hh0
 exact wpAny_release ⟨σ,H3,I3,q3⟩
noncomputable def j4x (te:TE) (g:TG):TS:=fun D σ H=>te σ H fun x H1=>g x σ H1 D.nx
theorem z63 {tg e:Expr} {te:TE} {g:TG} (he:PE X e te) (hg:PG X tg g) (hs:swapsWithSole [tg] e pos.line X.env=pure false:=by rfl) (hw:swappedStores [tg] e X.env=pure none:=by rfl)
  (h1:(assignEach [tg] X.env).map (·.2)=[assign tg X.env]:=by rfl):PS X (.Assign [tg] e pos) (j4x te g):=by
 intro pins s σ H D I h
 refine wpAny_Assign_stores (thn (he pins s σ H _ I h) fun v s1 ⟨x,H1,I1,r1,q1⟩=>?_) hs hw
 rw[h1]
 exact thn (hg pins s1 σ H1 x v _ I1 r1 q1) fun _ s2 q=>q
theorem j0g {i:Nat} {x:Str} {e:Expr} {te:TE} {pos':Pos} (hN:X.N.Nodup) (hi:X.N[i]? = some x) (hx:Loc X.env.scope x) (he:PE X e te) (hs:swapsWith e (some (.Name x pos')) pos.line X.env=pure false:=by rfl) (hf:X.fn x=true\/X.env.scope.names.lookup x=some .local:=by first | exact .inl rfl | exact .inr rfl | assumption) :
  PS X (.Assign [.Name x pos'] e pos) (j4x te (z9j i)):=by
 intro pins s σ H D I h
 refine wpAny_Assign_Name (thn (he pins s σ H _ I h) fun v s1 ⟨y,H1,I1,r1,q1⟩=>?_) hs
 exact y8c I1 hN hi hx r1 (fun s2 I2=>⟨_,H1,I2,q1⟩) hf
end
section
variable {X:Cx} {pos:Pos}
noncomputable def z9z (c:TT) (tb:TS):TS:=fun D σ H=>∃ W:Nat->St->Hp->Prop,(∃ m,W m σ H)/\∀ m σ H,W m σ H->
 c σ H fun b H1=>if b=true then ∃ N:St->Hp->Prop,(∀ σ' H',N σ' H'->∃ m',m'<m/\W m' σ' H')/\tb { D with nx:=N,ct:=N,bk:=D.nx } σ H1 else D.nx σ H1
theorem z2r {c:Expr} {body:List Stmt} {tc:TT} {tb:TS} (hp:PassesOwn (model X.prog X.w) X.A X.env X.xe) (hc:PT X c tc) (hb:PSs X body tb):PS X (.While c body [] pos) (z9z tc tb):=by
 intro pins s σ H D I h
 obtain⟨W,⟨m0,w0⟩,turn⟩:=h
 refine wpAny_While (codeAny_whileLoop (fun n s'=>∃ σ' H',Inv X pins σ' H' s'/\W n σ' H') ?_ m0 ⟨σ,H,I,w0⟩)
 rintro n s1 ⟨σ1,H1,I1,w1⟩
 refine wpAny_passesOwn hp (thn (hc pins s1 σ1 H1 _ I1 (turn n σ1 H1 w1)) fun b s2 hh0=>?_)
 obtain⟨H2,I2,q2⟩:=hh0
 cases b with
 | true=>
  obtain⟨N,hN,q2⟩:=q2
  rw[if_pos rfl]
  refine wpAny_passesOwn hp (thn (hb pins s2 σ1 H2 _ I2 q2) fun f s3 q3=>?_)
  cases f with
  | next=>
   obtain⟨σ3,H3,I3,n3⟩:=q3
   obtain⟨m',hm,w3⟩:=hN σ3 H3 n3
   exact⟨m',hm,σ3,H3,I3,w3⟩
  | cont=>
   obtain⟨σ3,H3,I3,n3⟩:=q3
   obtain⟨m',hm,w3⟩:=hN σ3 H3 n3
   exact⟨m',hm,σ3,H3,I3,w3⟩
  | brk=>exact q3
  | ret v=>exact q3
 | false=>
  rw[if_neg Bool.false_ne_true]
  exact wpAny_execs_nil ⟨σ1,H2,I2,q2⟩
end
structure It where
 go:Nat->Hp->Prop
 yld:Nat->Hp->V->Hp->Prop
 stop:Nat->Hp->Prop
noncomputable def z18 (X:Cx) (pins:List (Addr × Obj)) (H:Hp) (b:Addr):Prop:=
 H b=none/\b≠X.env.locals/\b ∉ X.fs/\(b∈X.ex\/X.s₀.heap.objs.size<=b)/\(∀ x c,X.env.cells.lookup x=some c->c≠b)/\∀ p∈X.pn++pins,p.1≠b
theorem Inv.fpOk {X:Cx} {pins:List (Addr × Obj)} {σ:St} {H H':Hp} {s:Shared} {b:Addr} (I:Inv X pins σ H s) (hb:s.heap.objs.size<=b) (hn:H' b=none):z18 X pins H' b:=by
 refine⟨hn,Nat.ne_of_gt (Nat.lt_of_lt_of_le I.lt hb),I.nofs hb,.inr (Nat.le_trans I.sz hb),fun x c e z=>?_,fun p hp z=>?_⟩
 ·obtain⟨v,q⟩:=I.cell x c e
  exact absurd (Nat.lt_of_lt_of_le q.lt (by rw[z]; exact hb)) (Nat.lt_irrefl _)
 ·exact absurd (Nat.lt_of_lt_of_le (Heap.lt_size (I.pin p hp).1) (by rw[z]; exact hb)) (Nat.lt_irrefl _)
structure Turn (P:Program) (w:World) (K:PySem.W.Frag) (tg:Expr) (J:It) (fp:List Addr) (it:Addr) (tn:Nat->Heap->Prop):Prop where
 mem:it∈fp
 obj:∀ i h,tn i h->∀ b∈fp,∃ o,h.get? b=some o/\∀ v,o.data ≠ .cell v
 keep:∀ i h h',tn i h->(∀ b∈fp,∀ o,h.get? b=some o->h'.get? b=some o)->tn i h'
 item:∀ (X:Cx),X.prog=P->X.w=w->X.K=K->X.calm=true->∀ (i:Nat) (pins:List (Addr × Obj)) (s:Shared) (σ:St) (H:Hp) (E:Value->Shared->Prop),Inv X pins σ H s->(∀ b∈fp,z18 X pins H b)->tn i s.heap->J.go i H->
  wpAny (model P w) X.A (pyNext (.ref it)) (fun r s1=>∃ u,r=some u /\
   wpAny (model P w) X.A (letOwnedTupleGo tg (.ref it) u) (fun _ s2=>∃ x H',Inv X pins σ H' s2/\x47 x u/\J.yld i H x H'/\tn (i+1) s2.heap/\∀ b∈fp,H' b=none) E s1) E s
 done:∀ (X:Cx),X.prog=P->X.w=w->X.K=K->X.calm=true->∀ (i:Nat) (pins:List (Addr × Obj)) (s:Shared) (σ:St) (H:Hp) (E:Value->Shared->Prop),Inv X pins σ H s->(∀ b∈fp,z18 X pins H b)->tn i s.heap->J.stop i H->
  wpAny (model P w) X.A (pyNext (.ref it)) (fun r s1=>r=none/\Inv X pins σ H s1) E s
 self:∀ (A:Around) (i:Nat) (s:Shared) (Q:Value->Shared->Prop) (E:Value->Shared->Prop),tn i s.heap->Q (.ref it) s->wpAny (model P w) A (pyIter (.ref it)) Q E s
noncomputable abbrev TI:=St->Hp->(It->Hp->Prop)->Prop
noncomputable def PIE (X:Cx) (pins:List (Addr × Obj)) (σ:St) (tg:Expr) (R:It->Hp->Prop) (itv:Value) (s2:Shared):Prop:=
 ∃ (it:Addr) (fp:List Addr) (tn:Nat->Heap->Prop) (J:It) (H':Hp),itv=.ref it/\Inv X pins σ H' s2/\Turn X.prog X.w X.K tg J fp it tn/\tn 0 s2.heap/\(∀ b∈fp,z18 X pins H' b)/\R J H'
noncomputable def PI (X:Cx) (tg iter:Expr) (wi:TI):Prop:=
 ∀ (pins:List (Addr × Obj)) (s:Shared) (σ:St) (H:Hp) (R:It->Hp->Prop),Inv X pins σ H s->wi σ H R->
  wpAny (model X.prog X.w) X.A (eval iter X.env) (fun v s1=>wpAny (model X.prog X.w) X.A (pyIter v) (PIE X pins σ tg R) X.xe s1) X.xe s
theorem z8c {M:Model} {A:Around} {E:Value->Shared->Prop} {s:Shared} {tg:Expr} {it:Addr} {u:Value} {o:Obj} {n:String} {vs:Array Value} {Q:Unit->Shared->Prop} (ho:s.heap.get? it=some o) (hc:o.cls=.type n) (hd:o.data=.fields vs)
  (hn:["enumerate","zip","dict_itemiterator","dict_reverseitemiterator","odict_iterator","itertools.zip_longest","itertools.pairwise"].contains n=false) (hQ:Q () s):wpAny M A (letOwnedTupleGo tg (.ref it) u) Q E s:=by
 unfold letOwnedTupleGo
 cases tg <;> first
  | exact wpAny_pure hQ
  | (cases u <;> first
      | exact wpAny_pure hQ
      | (refine wpAny_bind (wpAny_load ho ?_)
         rw[hc,hd]
         show wpAny M A (if(["enumerate","zip","dict_itemiterator","dict_reverseitemiterator","odict_iterator","itertools.zip_longest","itertools.pairwise"].contains n && vs[0]? == some (rawInt _))=true then _ else _) Q E s
         rw[if_neg (by intro h; rw[hn,Bool.false_and]at h; cases h)]
         exact wpAny_pure hQ))
noncomputable def Itl (K:PySem.W.Frag) (a:Addr):It:=
 ⟨fun i H=>∃ xs x,SqL K H a xs/\xs[i]? = some x,fun i H x H'=>H'=H/\∀ xs,SqL K H a xs->xs[i]? = some x,fun i H=>∃ xs,SqL K H a xs/\xs.length<=i⟩
noncomputable def Itt (K:PySem.W.Frag) (a:Addr):It:=
 ⟨fun i H=>∃ xs x,SqT K H a xs/\xs[i]? = some x,fun i H x H'=>H'=H/\∀ xs,SqT K H a xs->xs[i]? = some x,fun i H=>∃ xs,SqT K H a xs/\xs.length<=i⟩
noncomputable def Itr (lo:Int) (n:Nat):It:=⟨fun i _=>i<n,fun i H x H'=>H'=H/\x=.int (lo+i),fun i _=>n<=i⟩
theorem z0h {P:Program} {w:World} {K:PySem.W.Frag} {tg:Expr} (a it:Addr):Turn P w K tg (Itl K a) [it] it (fun i h=>h.IsListIter it a i) where
 mem:=by simp
 obj:=fun i h st b hb=>by
  have e:b=it:=by simpa using hb
  subst e
  obtain⟨o,e,c,d⟩:=st
  exact⟨o,e,fun v z=>by rw[d]at z; cases z⟩
 keep:=fun i h h' st k=>st.at fun o e=>k it (by simp) o e
 item:=by
  intro X hP hw hK hc i pins s σ H E I hf st hg
  subst hP hw hK
  obtain⟨xs,x,hq,hx⟩:=hg
  obtain⟨its,rv,p,hz⟩:=I.list hq
  obtain⟨u,hu,ru⟩:=rv.get hx
  obtain⟨f0,f1,f2,f3,f4,f5⟩:=hf it (by simp)
  refine wpAny_pyNext_list_item st p.isList (x:=u) (by simpa using hu) fun h' st' sb=>?_
  have I1:Inv X pins σ H { s with heap:=h' }:=I.turned (t':=s.toks) (fun b o hb e=>(sb.2 b hb).trans e) f0 f1 f3 f4 f5
  obtain⟨o,e,c,d⟩:=id st'
  exact⟨u,rfl,z8c (s:={ s with heap:=h' }) e c d (by decide) ⟨x,H,I1,ru,⟨rfl,fun ys hy=>by rw[I.list_inj hy hq]; exact hx⟩,st',fun b hb=>(hf b hb).1⟩⟩
 done:=by
  intro X hP hw hK hc i pins s σ H E I hf st hg
  subst hP hw hK
  obtain⟨xs,hq,hx⟩:=hg
  obtain⟨its,rv,p,hz⟩:=I.list hq
  obtain⟨f0,f1,f2,f3,f4,f5⟩:=hf it (by simp)
  have hl:=rv.length
  exact wpAny_pyNext_list_end (I.ok.hd hc) st p.isList (by simp; omega) fun h' eb=>⟨rfl,I.turned (t':=s.toks) (fun b o hb e=>eb b o hb e) f0 f1 f3 f4 f5⟩
 self:=fun _ _ _ _ _ st h=>wpAny_pyIter_listiter st h
theorem y9l {P:Program} {w:World} {K:PySem.W.Frag} {tg:Expr} (a it:Addr):Turn P w K tg (Itt K a) [it] it (fun i h=>h.IsTupleIter it a i) where
 mem:=by simp
 obj:=fun i h st b hb=>by
  have e:b=it:=by simpa using hb
  subst e
  obtain⟨o,e,c,d⟩:=st
  exact⟨o,e,fun v z=>by rw[d]at z; cases z⟩
 keep:=fun i h h' st k=>st.at fun o e=>k it (by simp) o e
 item:=by
  intro X hP hw hK hc i pins s σ H E I hf st hg
  subst hP hw hK
  obtain⟨xs,x,hq,hx⟩:=hg
  obtain⟨its,rv,p,hz⟩:=I.tuple hq
  obtain⟨u,hu,ru⟩:=rv.get hx
  obtain⟨f0,f1,f2,f3,f4,f5⟩:=hf it (by simp)
  refine wpAny_pyNext_tuple_item st (show s.heap.IsTuple a its.toArray from p) (x:=u) (by simpa using hu) fun h' st' sb=>?_
  have I1:Inv X pins σ H { s with heap:=h' }:=I.turned (t':=s.toks) (fun b o hb e=>(sb.2 b hb).trans e) f0 f1 f3 f4 f5
  obtain⟨o,e,c,d⟩:=id st'
  exact⟨u,rfl,z8c (s:={ s with heap:=h' }) e c d (by decide) ⟨x,H,I1,ru,⟨rfl,fun ys hy=>by rw[I.tuple_inj hy hq]; exact hx⟩,st',fun b hb=>(hf b hb).1⟩⟩
 done:=by
  intro X hP hw hK hc i pins s σ H E I hf st hg
  subst hP hw hK
  obtain⟨xs,hq,hx⟩:=hg
  obtain⟨its,rv,p,hz⟩:=I.tuple hq
  obtain⟨f0,f1,f2,f3,f4,f5⟩:=hf it (by simp)
  have hl:=rv.length
  exact wpAny_pyNext_tuple_end (I.ok.hd hc) st (show s.heap.IsTuple a its.toArray from p) (by simp; omega) fun h' eb=>⟨rfl,I.turned (t':=s.toks) (fun b o hb e=>eb b o hb e) f0 f1 f3 f4 f5⟩
 self:=fun _ _ _ _ _ st h=>wpAny_pyIter_tupleiter st h
theorem y9m {P:Program} {w:World} {K:PySem.W.Frag} {tg:Expr} (it:Addr) (lo:Int) (n:Nat):Turn P w K tg (Itr lo n) [it] it (fun i h=>IsRangeIter h it (lo+(i:Nat)*1) ((n:Int)-(i:Nat)) 1) where
 mem:=by simp
 obj:=fun i h st b hb=>by
  have e:b=it:=by simpa using hb
  subst e
  exact⟨_,st,fun v z=>by
   have z':Data.fields _=Data.cell v:=z
   cases z'⟩
 keep:=fun i h h' st k=>k it (by simp) _ st
 item:=by
  intro X hP hw hK hc i pins s σ H E I hf st hg
  subst hP hw hK
  obtain⟨f0,f1,f2,f3,f4,f5⟩:=hf it (by simp)
  have W:=Walks.range (prog:=X.prog) (w:=X.w) (I.ok.hd hc) it lo 1 n
  refine W.item i s _ _ hg st fun v h' tk hv st' kk=>?_
  obtain⟨t,rfl⟩:=hv
  have I1:Inv X pins σ H { s with heap:=h',toks:=tk }:=I.turned (fun b o hb e=>kk b o (by simpa using hb) e) f0 f1 f3 f4 f5
  refine⟨_,rfl,z8c (s:={ s with heap:=h',toks:=tk }) (n:="range_iterator") st' rfl rfl (by decide) ⟨.int (lo+i),H,I1,⟨t,?_⟩,⟨rfl,rfl⟩,st',fun b hb=>(hf b hb).1⟩⟩
  rw[Int.mul_one]
 done:=by
  intro X hP hw hK hc i pins s σ H E I hf st hg
  subst hP hw hK
  obtain⟨f0,f1,f2,f3,f4,f5⟩:=hf it (by simp)
  exact wpAny_pyNext_range_end (I.ok.hd hc) st (by have:n<=i:=hg; omega) fun h' eb=>⟨rfl,I.turned (t':=s.toks) (fun b o hb e=>eb b o hb e) f0 f1 f3 f4 f5⟩
 self:=fun _ _ _ _ _ st h=>wpAny_pyIter_rangeiter st h
section
variable {X:Cx} {tg:Expr}
theorem z2j {pins:List (Addr × Obj)} {σ:St} {H:Hp} {s:Shared} {R:It->Hp->Prop} {E:Value->Shared->Prop} {lo hi:Int} {t u v:Tok} {tk:Nat} (I:Inv X pins σ H s) (h1:-(2 ^ 62)<=lo) (h2:lo<2 ^ 62) (h3:-(2 ^ 62)<=hi) (h4:hi<2 ^ 62)
  (q:R (Itr lo (hi-lo).toNat) H):wpAny (model X.prog X.w) X.A (pyIter (.ref s.heap.objs.size)) (PIE X pins σ tg R) E { s with heap:=s.heap.push { cls:=.type "range",data:=.fields #[.int lo t,.int hi u,.int 1 v] },toks:=tk }:=by
 refine wpAny_pyIter_range (IsRange.new ..) (small_one h1 h2 h3 h4) ?_
 have I1:Inv X pins σ H { s with heap:=s.heap.push { cls:=.type "range",data:=.fields #[.int lo t,.int hi u,.int 1 v] },toks:=tk }:=I.kept fun b o e=>Heap.get?_push_of_some _ e
 refine⟨(s.heap.push { cls:=.type "range",data:=.fields #[.int lo t,.int hi u,.int 1 v] }).objs.size,[(s.heap.push { cls:=.type "range",data:=.fields #[.int lo t,.int hi u,.int 1 v] }).objs.size],_,_,H,rfl,
  I1.kept (t':=tk) fun b o e=>Heap.get?_push_of_some _ e,y9m _ lo (hi-lo).toNat,?_,fun b hb=>?_,q⟩
 ·have e1:lo+((0:Nat):Int)*1=lo:=by simp
  have e2:(((hi-lo).toNat:Nat):Int)-((0:Nat):Int)=Builtin.Range.rangeSize lo hi 1:=by rw[rangeSize_one]; split <;> omega
  show IsRangeIter _ _ (lo+((0:Nat):Int)*1) ((((hi-lo).toNat:Nat):Int)-((0:Nat):Int)) 1
  rw[e1,e2]
  exact Heap.get?_push_size _ rfl
 ·have e:b=(s.heap.push { cls:=.type "range",data:=.fields #[.int lo t,.int hi u,.int 1 v] }).objs.size:=by simpa using hb
  subst e
  exact I1.fpOk (Nat.le_refl _) (I1.hok.fresh (Nat.le_refl _))
noncomputable def j4y (ta:TA):TI:=fun σ H R=>ta σ H fun vs H1=>∃ j:Int,vs=[.int j] /\ -(2 ^ 62)<=j/\j<2 ^ 62/\R (Itr 0 j.toNat) H1
theorem z0d {a:Expr} {ta:TA} {p pos:Pos} (hg:Gl X "range") (hm:X.mg "range" = none) (ha:PA X [a] ta) (hs:starEach [a] X.env=[(false,eval a X.env)]:=by rfl):PI X tg (.Call (.Name "range" p) [a] [] pos) (j4y ta):=by
 intro pins s σ H R I h
 refine Call_ (y20 I hg hm boot_range (PyProof.Rows.callWith_type1 (thn (ha pos pins s σ H _ I h) fun us s1 ⟨vs,H1,I1,r1,q1⟩=>?_) hs rfl))
 obtain⟨j,e,q1,q2,q⟩:=q1
 subst e
 cases r1 with
 | cons r rr=>
  cases rr
  obtain⟨t,rfl⟩:=r
  exact call_range_1 (z2j I1 (by omega) (by omega) q1 q2 (by simpa using q))
noncomputable def j6v (wi:TI) (g:TG) (tb:TS):TS:=fun D σ H=>wi σ H fun J H1=>∃ W:Nat->Nat->St->Hp->Prop,(∃ m,W 0 m σ H1)/\∀ i m σ H,W i m σ H->
 (J.stop i H/\D.nx σ H)\/(J.go i H/\∃ N:St->Hp->Prop,(∀ σ' H',N σ' H'->∃ m',m'<m/\W (i+1) m' σ' H')/\∀ x H',J.yld i H x H'->g x σ H' fun σ2 H2=>tb { D with nx:=N,ct:=N,bk:=D.nx } σ2 H2)
noncomputable def y0k (fp:List Addr) (h:Heap):List (Addr × Obj):=fp.filterMap fun b=>(h.get? b).map fun o=>(b,o)
theorem x7c {fp:List Addr} {h:Heap} {b:Addr} {o:Obj} (hb:b∈fp) (e:h.get? b=some o):(b,o)∈y0k fp h:=List.mem_filterMap.mpr ⟨b,hb,by rw[e]; rfl⟩
theorem y4y {fp:List Addr} {h:Heap} {p:Addr × Obj} (hp:p∈y0k fp h):p.1∈fp/\h.get? p.1=some p.2:=by
 obtain⟨b,hb,e⟩:=List.mem_filterMap.mp hp
 cases q:h.get? b with
 | none=>rw[q]at e; cases e
 | some o=>
  rw[q]at e
  have e':(b,o)=p:=Option.some.inj e
  subst e'
  exact⟨hb,q⟩
theorem Inv.pinned {pins:List (Addr × Obj)} {σ:St} {H:Hp} {s:Shared} {fp:List Addr} (I:Inv X pins σ H s) (hf:∀ b∈fp,z18 X pins H b) (ho:∀ b∈fp,∃ o,s.heap.get? b=some o/\∀ v,o.data ≠ .cell v):Inv X (pins++y0k fp s.heap) σ H s:=
 I.pins_of fun p hp=>(List.mem_append.mp hp).elim (fun z=>I.pin p (List.mem_append_right _ z)) fun z=>by
  obtain⟨hb,e⟩:=y4y z
  obtain⟨f0,f1,f2,_⟩:=hf p.1 hb
  obtain⟨o,e',d⟩:=ho p.1 hb
  rw[e]at e'; cases e'
  exact⟨e,f0,f1,f2,d⟩
theorem Inv.unpinned {pins pl:List (Addr × Obj)} {σ:St} {H:Hp} {s:Shared} (I:Inv X (pins++pl) σ H s):Inv X pins σ H s:=I.pins_of fun p hp=>I.pin p (List.mem_append_right _ (List.mem_append_left _ hp))
theorem j24 {iter:Expr} {body:List Stmt} {wi:TI} {g:TG} {tb:TS} {pos:Pos} (hp:PassesOwn (model X.prog X.w) X.A X.env X.xe) (hc:X.calm=true) (hi:PI X tg iter wi) (hg:PG X tg g) (hb:PSs X body tb)
  (hs:∀ x,foldedSetIterable iter X.env x=pure x:=by intro _; rfl):PS X (.For tg iter body [] pos) (j6v wi g tb):=by
 intro pins s σ H D I h
 refine wpAny_For (thn (hi pins s σ H _ I h) fun v s1 h1=>thn h1 fun itv s2 h2=>?_) hs
 obtain⟨it,fp,tn,J,H2,e,I2,T,st2,f2,W,⟨m0,w0⟩,turn⟩:=h2
 subst e
 -- what stays true of the iterator's objects through the loop
 have stat:∀ {H':Hp},(∀ b∈fp,H' b=none)->∀ b∈fp,z18 X pins H' b:=fun hn b hb=>⟨hn b hb,(f2 b hb).2⟩
 refine codeAny_forLoop_any (fun n s'=>∃ i σ' H',Inv X pins σ' H' s'/\tn i s'.heap/\(∀ b∈fp,H' b=none)/\W i n σ' H') ?_ m0 ⟨0,σ,H2,I2,st2,fun b hb=>(f2 b hb).1,w0⟩
 rintro n s3 ⟨i,σ3,H3,I3,st3,fr3,w3⟩
 rcases turn i n σ3 H3 w3 with⟨stop,qn⟩ | ⟨go,N,hN,step⟩
 ·refine wpAny_passesOwn hp (thn (T.done X rfl rfl rfl hc i pins s3 σ3 H3 X.xe I3 (stat fr3) st3 stop) fun r s4 ⟨hr,I4⟩=>?_)
  subst hr
  exact wpAny_execs_nil ⟨σ3,H3,I4,qn⟩
 ·refine wpAny_passesOwn hp (thn (T.item X rfl rfl rfl hc i pins s3 σ3 H3 X.xe I3 (stat fr3) st3 go) fun r s4 ⟨u,hr,h4⟩=>?_)
  subst hr
  refine wpAny_passesOwn hp (thn h4 fun _ s5 hh0=>?_)
  obtain⟨x,H5,I5,r5,y5,st5,fr5⟩:=hh0
  have I5':=I5.pinned (stat fr5) (T.obj _ _ st5)
  refine wpAny_passesOwn hp (thn (hg _ s5 σ3 H5 x u _ I5' r5 (step x H5 y5)) fun _ s6 hh0=>?_)
  obtain⟨σ6,H6,I6,q6⟩:=hh0
  refine wpAny_passesOwn hp (thn (hb _ s6 σ6 H6 _ I6 q6) fun f s7 q7=>?_)
  have again:∀ {σ7:St} {H7:Hp},Inv X (pins++y0k fp s5.heap) σ7 H7 s7->N σ7 H7->∃ m,m<n/\∃ i σ' H',Inv X pins σ' H' s7/\tn i s7.heap/\(∀ b∈fp,H' b=none)/\W i m σ' H':=fun {σ7 H7} I7 n7=>by
   obtain⟨m',hm,w7⟩:=hN σ7 H7 n7
   refine⟨m',hm,i+1,σ7,H7,I7.unpinned,T.keep _ _ _ st5 fun b hb o e=>(I7.pin (b,o) (List.mem_append_right _ (List.mem_append_right _ (x7c hb e)))).1,fun b hb=>?_,w7⟩
   obtain⟨o,e,d⟩:=T.obj _ _ st5 b hb
   exact(I7.pin (b,o) (List.mem_append_right _ (List.mem_append_right _ (x7c hb e)))).2.1
  cases f with
  | next=>obtain⟨σ7,H7,I7,n7⟩:=q7; exact again I7 n7
  | cont=>obtain⟨σ7,H7,I7,n7⟩:=q7; exact again I7 n7
  | brk=>obtain⟨σ7,H7,I7,q7⟩:=q7; exact⟨σ7,H7,I7.unpinned,q7⟩
  | ret v=>obtain⟨x7,σ7,H7,I7,r7,q7⟩:=q7; exact⟨x7,σ7,H7,I7.unpinned,r7,q7⟩
end
noncomputable abbrev R2:=V->V->Hp->VK->Prop
noncomputable def OpR (X:Cx) (f:Value->Value->Sem Value) (r:R2):Prop:=
 ∀ (pins:List (Addr × Obj)) (s:Shared) (σ:St) (H:Hp) (x y:V) (v u:Value) (Q:VK),Inv X pins σ H s->x47 x v->x47 y u->r x y H Q->
  wpAny (model X.prog X.w) X.A (f v u) (EP X pins σ Q) X.xe s
noncomputable def UnR (X:Cx) (f:Value->Sem Value) (r:V->Hp->VK->Prop):Prop:=
 ∀ (pins:List (Addr × Obj)) (s:Shared) (σ:St) (H:Hp) (x:V) (v:Value) (Q:VK),Inv X pins σ H s->x47 x v->r x H Q->
  wpAny (model X.prog X.w) X.A (f v) (EP X pins σ Q) X.xe s
noncomputable def y0u (X:Cx) (f:Value) (r:List V->Hp->VK->Prop):Prop:=
 ∀ (pins:List (Addr × Obj)) (s:Shared) (σ:St) (H:Hp) (xs:List V) (us:List Value) (Q:VK),Inv X pins σ H s->x2z xs us->r xs H Q->
  wpAny (model X.prog X.w) X.A (call f us) (EP X pins σ Q) X.xe s
noncomputable def j6r (X:Cx) (r:V->Hp->(Bool->Hp->Prop)->Prop):Prop:=
 ∀ (pins:List (Addr × Obj)) (s:Shared) (σ:St) (H:Hp) (x:V) (v:Value) (Q:Bool->Hp->Prop),Inv X pins σ H s->x47 x v->r x H Q->
  wpAny (model X.prog X.w) X.A (truthy v) (TP X pins σ Q) X.xe s
noncomputable def tOp (r:R2) (ta tb:TE):TE:=fun σ H Q=>ta σ H fun x H1=>tb σ H1 fun y H2=>r x y H2 Q
noncomputable def tUn (r:V->Hp->VK->Prop) (ta:TE):TE:=fun σ H Q=>ta σ H fun x H1=>r x H1 Q
noncomputable def rI (C:Int->Int->Prop) (g:Int->Int->V):R2:=fun x y H Q=>∃ i j,x=.int i/\y=.int j/\C i j/\Q (g i j) H
noncomputable def rI0 (g:Int->Int->V):R2:=fun x y H Q=>∃ i j,x=.int i/\y=.int j/\Q (g i j) H
noncomputable def rU (g:Int->V):V->Hp->VK->Prop:=fun x H Q=>∃ i,x=.int i/\Q (g i) H
section
variable {X:Cx} {a b c:Expr} {ta tb tc:TE} {pos:Pos}
theorem j4p (ha:PE X a ta) (hb:PE X b tb) {pins:List (Addr × Obj)} {s:Shared} {σ:St} {H:Hp} {R:V->V->Hp->Prop} (I:Inv X pins σ H s)
  (h:ta σ H fun x H1=>tb σ H1 fun y H2=>R x y H2) {Q:Value->Shared->Prop} {f:Value->Value->Sem Value}
  (hf:∀ v u s2 x y H2,Inv X pins σ H2 s2->x47 x v->x47 y u->R x y H2->wpAny (model X.prog X.w) X.A (f v u) Q X.xe s2) :
  wpAny (model X.prog X.w) X.A (eval a X.env) (fun v s₁=>wpAny (model X.prog X.w) X.A (eval b X.env) (fun u s₂=>wpAny (model X.prog X.w) X.A (f v u) Q X.xe s₂) X.xe s₁) X.xe s:=by
 refine thn (ha pins s σ H _ I h) fun v s1 hh0=>?_
 obtain⟨x,H1,I1,r1,q1⟩:=hh0
 refine thn (hb pins s1 σ H1 _ I1 q1) fun u s2 hh0=>?_
 obtain⟨y,H2,I2,r2,q2⟩:=hh0
 exact hf v u s2 x y H2 I2 r1 r2 q2
theorem y4m {op:Operator} {r:R2} (ho:OpR X (binaryOp op) r) (ha:PE X a ta) (hb:PE X b tb):PE X (.BinOp a op b pos) (tOp r ta tb):=by
 intro pins s σ H Q I h
 exact wpAny_BinOp (j4p ha hb I h fun v u s2 x y H2 I2 rx ry q=>ho pins s2 σ H2 x y v u Q I2 rx ry q)
theorem j52 {op:UnaryOp} {r:V->Hp->VK->Prop} (ho:UnR X (unaryOp op) r) (ha:PE X a ta):PE X (.UnaryOp op a pos) (tUn r ta):=by
 intro pins s σ H Q I h
 exact UnaryOp_ (thn (ha pins s σ H _ I h) fun v s1 ⟨x,H1,I1,r1,q1⟩=>ho pins s1 σ H1 x v Q I1 r1 q1)
theorem opI {f:Value->Value->Sem Value} {C:Int->Int->Prop} {g:Int->Int->Int}
  (rule:∀ (i j:Int) (t u:Tok) (s:Shared) (Q:Value->Shared->Prop) (E:Value->Shared->Prop),C i j->Q (.int (g i j) s.toks) { s with toks:=s.toks+1 }->wpAny (model X.prog X.w) X.A (f (.int i t) (.int j u)) Q E s) :
  OpR X f (rI C fun i j=>.int (g i j)):=by
 intro pins s σ H x y v u Q I rx ry h
 obtain⟨i,j,rfl,rfl,hc,q⟩:=h
 obtain⟨t,rfl⟩:=rx
 obtain⟨t',rfl⟩:=ry
 exact rule i j t t' s _ _ hc ⟨.int (g i j),H,I.tok _,⟨_,rfl⟩,q⟩
theorem j66 {f:Value->Value->Sem Value} {g:Int->Int->Int}
  (rule:∀ (i j:Int) (t u:Tok) (s:Shared) (Q:Value->Shared->Prop) (E:Value->Shared->Prop),Q (.int (g i j) s.toks) { s with toks:=s.toks+1 }->wpAny (model X.prog X.w) X.A (f (.int i t) (.int j u)) Q E s) :
  OpR X f (rI0 fun i j=>.int (g i j)):=by
 intro pins s σ H x y v u Q I rx ry h
 obtain⟨i,j,rfl,rfl,q⟩:=h
 obtain⟨t,rfl⟩:=rx
 obtain⟨t',rfl⟩:=ry
 exact rule i j t t' s _ _ ⟨.int (g i j),H,I.tok _,⟨_,rfl⟩,q⟩
theorem j44 {f:Value->Value->Sem Value} {g:Int->Int->Bool}
  (rule:∀ (i j:Int) (t u:Tok) (s:Shared) (Q:Value->Shared->Prop) (E:Value->Shared->Prop),Q (.bool (g i j)) s->wpAny (model X.prog X.w) X.A (f (.int i t) (.int j u)) Q E s) :
  OpR X f (rI0 fun i j=>.bl (g i j)):=by
 intro pins s σ H x y v u Q I rx ry h
 obtain⟨i,j,rfl,rfl,q⟩:=h
 obtain⟨t,rfl⟩:=rx
 obtain⟨t',rfl⟩:=ry
 exact rule i j t t' s _ _ ⟨.bl (g i j),H,I,rfl,q⟩
noncomputable def j6m (i j:Int):Prop:=0<j/\j<1073741824
noncomputable def j4i (i j:Int):Prop:=(-(2 ^ 64)<i/\i<2 ^ 64)\/(-(2 ^ 64)<j/\j<2 ^ 64)
theorem j4i.ok {i j:Int} (h:j4i i j):IntMulOk i j:=by
 rcases h with⟨h1,h2⟩ | ⟨h1,h2⟩
 ·exact .of_left (intBits_le_64 h1 h2)
 ·exact .of_right (intBits_le_64 h1 h2)
theorem z9r:OpR X (binaryOp .Add) (rI0 fun i j=>.int (i+j)):=j66 fun _ _ _ _ _ _ _ q=>add_int q
theorem j3n:OpR X (binaryOp .Sub) (rI0 fun i j=>.int (i-j)):=j66 fun _ _ _ _ _ _ _ q=>sub_int q
theorem j1o:OpR X (binaryOp .Mult) (rI j4i fun i j=>.int (i*j)):=opI fun _ _ _ _ _ _ _ hc q=>mul_int q hc.ok
theorem z7e:OpR X (binaryOp .FloorDiv) (rI j6m fun i j=>.int (i / j)):=opI fun i j _ _ _ _ _ hc q=>by
 have h1:(0:Int)<j:=hc.1
 have h2:j<1073741824:=hc.2
 exact floordiv_int (by omega) (by rw[Int.fdiv_eq_ediv_of_nonneg i (by omega)]; exact q) (.inl (PyProof.noPylong_small (by omega)))
theorem j3a:OpR X (binaryOp .Mod) (rI (fun _ j=>0<j) fun i j=>.int (i % j)):=opI fun i j _ _ _ _ _ hc q=>by
 have h1:(0:Int)<j:=hc
 exact mod_int' (by omega) (by rw[Int.fmod_eq_emod_of_nonneg i (by omega)]; exact q)
theorem unI {f:Value->Sem Value} {g:Int->Int}
  (rule:∀ (i:Int) (t:Tok) (s:Shared) (Q:Value->Shared->Prop) (E:Value->Shared->Prop),Q (.int (g i) s.toks) { s with toks:=s.toks+1 }->wpAny (model X.prog X.w) X.A (f (.int i t)) Q E s) :
  UnR X f (rU fun i=>.int (g i)):=by
 intro pins s σ H x v Q I rx h
 obtain⟨i,rfl,q⟩:=h
 obtain⟨t,rfl⟩:=rx
 exact rule i t s _ _ ⟨.int (g i),H,I.tok _,⟨_,rfl⟩,q⟩
theorem j1f:UnR X (unaryOp .USub) (rU fun i=>.int (-i)):=unI fun _ _ _ _ _ q=>neg_int q
end
section
variable {X:Cx} {a b c:Expr} {ta tb tc:TE} {pos:Pos}
theorem j08:OpR X (compareOp .Lt) (rI0 fun i j=>.bl (decide (i<j))):=j44 fun _ _ _ _ _ _ _ q=>lt_int q
theorem j4r:OpR X (compareOp .LtE) (rI0 fun i j=>.bl (decide (i<=j))):=j44 fun _ _ _ _ _ _ _ q=>le_int q
theorem j5r:OpR X (compareOp .Gt) (rI0 fun i j=>.bl (decide (j<i))):=j44 fun _ _ _ _ _ _ _ q=>gt_int q
theorem j4q:OpR X (compareOp .GtE) (rI0 fun i j=>.bl (decide (j<=i))):=j44 fun _ _ _ _ _ _ _ q=>ge_int q
theorem OpR.or {f:Value->Value->Sem Value} {r r':R2} (h:OpR X f r) (h':OpR X f r'):OpR X f (fun x y H Q=>r x y H Q\/r' x y H Q):=by
 intro pins s σ H x y v u Q I rx ry q
 rcases q with q | q
 ·exact h pins s σ H x y v u Q I rx ry q
 ·exact h' pins s σ H x y v u Q I rx ry q
theorem y2t (b:Expr) {op:CmpOp} (h:op ≠ .In:=by decide) (h2:op ≠ .NotIn:=by decide):behindInMarks op b=false:=by
 have e1:(op == CmpOp.In)=false:=by cases op <;> first | rfl | exact absurd rfl h
 have e2:(op == CmpOp.NotIn)=false:=by cases op <;> first | rfl | exact absurd rfl h2
 cases b <;> simp[behindInMarks,e1,e2]
theorem z8t {op:CmpOp} {r:R2} (ho:OpR X (compareOp op) r) (ha:PE X a ta) (hb:PE X b tb) (hm:behindInMarks op b=false):PE X (.Compare a [op] [b] pos) (tOp r ta tb):=by
 intro pins s σ H Q I h
 exact wpAny_Compare1 (j4p ha hb I h fun v u s2 x y H2 I2 rx ry q=>ho pins s2 σ H2 x y v u Q I2 rx ry q) hm
noncomputable def j27 (t:TE):TT:=fun σ H Q=>t σ H fun x H'=>∃ k,x=.bl k/\Q k H'
theorem z8m {op:CmpOp} {r:R2} (ho:OpR X (compareOp op) r) (ha:PE X a ta) (hb:PE X b tb) (hm:behindInMarks op b=false):PT X (.Compare a [op] [b] pos) (j27 (tOp r ta tb)):=by
 intro pins s σ H Q I h
 refine wpAny_isTrue_Compare1 (thn (ha pins s σ H _ I h) fun v s1 ⟨x,H1,I1,r1,q1⟩=>thn (hb pins s1 σ H1 _ I1 q1) fun u s2 ⟨y,H2,I2,r2,q2⟩=>
  thn (ho pins s2 σ H2 x y v u _ I2 r1 r2 q2) fun c s3 ⟨z,H3,I3,r3,k,e,q3⟩=>?_) hm
 subst e
 cases r3
 exact wpAny_truthy_bool ⟨H3,I3,q3⟩
noncomputable def j3t (r r':R2) (ta tb tc:TE):TE:=fun σ H Q=>ta σ H fun x H1=>tb σ H1 fun y H2=>r x y H2 fun z H3=>∃ k,z=.bl k /\
 (if k=true then tc σ H3 fun w' H4=>r' y w' H4 Q else Q (.bl false) H3)
theorem z3l {op op':CmpOp} {r r':R2} (ho:OpR X (compareOp op) r) (ho':OpR X (compareOp op') r') (ha:PE X a ta) (hb:PE X b tb) (hc:PE X c tc)
  (hm:lastMarks [op,op'] [b,c]=false:=by with_unfolding_all rfl):PE X (.Compare a [op,op'] [b,c] pos) (j3t r r' ta tb tc):=by
 intro pins s σ H Q I h
 refine Compare_chain (thn (ha pins s σ H _ I h) fun v s1 ⟨x,H1,I1,r1,q1⟩=>chain_link (thn (hb pins s1 σ H1 _ I1 q1) fun u s2 ⟨y,H2,I2,r2,q2⟩=>
  thn (ho pins s2 σ H2 x y v u _ I2 r1 r2 q2) fun d s3 ⟨z,H3,I3,r3,k,e,q3⟩=>?_)) hm
 subst e
 cases r3
 refine wpAny_truthy_bool ?_
 cases k with
 | false=>exact ite_ff ⟨.bl false,H3,I3,rfl,q3⟩
 | true=>exact ite_tt (chain_last (thn (hc pins s3 σ H3 _ I3 q3) fun w' s4 ⟨z',H4,I4,r4,q4⟩=>ho' pins s4 σ H4 y z' u w' Q I4 r2 r4 q4))
noncomputable def j62 (K:PySem.W.Frag) (x:V) (H:Hp) (k:Bool):Prop:=
 match x with
 | .non=>k=false
 | .bl b=>k=b
 | .int i=>k=(i != 0)
 | .str y=>y.length<=sizeLine/\k=((y.length:Int) != 0)
 | .byt y=>y.size<=sizeLine/\k=((y.size:Int) != 0)
 | .ref p=>(∃ xs,SqL K H p xs/\k = !xs.isEmpty)\/(∃ xs,SqT K H p xs/\k = !xs.isEmpty)\/∃ kvs,H p=some (.dK kvs)/\k = !kvs.isEmpty
 | _=>False
theorem y9o {κ:Type} {kvs:List (κ × V)} {vs:List (κ × Value)} (r:KV kvs vs):(!vs.isEmpty) = !kvs.isEmpty:=by
 cases r <;> rfl
theorem y34 {xs:List V} {its:List Value} (r:x2z xs its):(!its.toArray.isEmpty) = !xs.isEmpty:=by
 cases r <;> simp
theorem y39:(sizeLine:Nat)<2 ^ 63:=by rw[sizeLine_eq]; decide
theorem j2s:j6r X (fun x H Q=>∃ k,j62 X.K x H k/\Q k H):=by
 intro pins s σ H x v Q I rx h
 obtain⟨k,e,q⟩:=h
 have hl:=y39
 have hs:sizeLine=16777216:=sizeLine_eq
 cases x with
 | non=>
  cases rx
  have e':k=false:=e
  subst e'
  exact truthy_none ⟨H,I,q⟩
 | bl b=>
  cases rx
  have e':k=b:=e
  subst e'
  exact wpAny_truthy_bool ⟨H,I,q⟩
 | int i=>
  obtain⟨t,rfl⟩:=rx
  have e':k=(i != 0):=e
  subst e'
  exact PySem.P.truthy_int ⟨H,I,q⟩
 | str y=>
  obtain⟨t,rfl⟩:=rx
  obtain⟨hy,e'⟩:y.length<=sizeLine/\k=((y.length:Int) != 0):=e
  subst e'
  exact PySem.P.truthy_str (by omega) ⟨H,I.tok _,q⟩
 | byt y=>
  obtain⟨t,rfl⟩:=rx
  obtain⟨hy,e'⟩:y.size<=sizeLine/\k=((y.size:Int) != 0):=e
  subst e'
  exact PySem.W.truthy_bytes (by omega) ⟨H,I.tok _,q⟩
 | ref p=>
  cases rx
  have e':(∃ xs,SqL X.K H p xs/\k = !xs.isEmpty)\/(∃ xs,SqT X.K H p xs/\k = !xs.isEmpty)\/∃ kvs,H p=some (.dK kvs)/\k = !kvs.isEmpty:=e
  rcases e' with⟨xs,hx,e'⟩ | ⟨xs,hx,e'⟩ | ⟨kvs,hx,e'⟩
  ·subst e'
   obtain⟨its,r,pl,hz⟩:=I.list hx
   have hlen:=r.length
   exact wpAny_truthy_list pl.isList (by simp only[List.size_toArray]; omega) ⟨H,I.tok _,by rw[y34 r]; exact q⟩
  ·subst e'
   obtain⟨its,r,pl,hz⟩:=I.tuple hx
   have hlen:=r.length
   exact truthy_tuple pl (by simp only[List.size_toArray]; omega) ⟨H,I.tok _,by rw[y34 r]; exact q⟩
  ·subst e'
   obtain⟨hz,hS,vs,r,m⟩:kvs.length<=sizeLine/\(p == sysModules)=false/\∃ vs,KV kvs vs/\s.heap.DictOf (x3a X.prog X.w) p vs:=I.hok p _ hx
   have hlen:kvs.length=vs.length:=Paired.length r
   exact wpAny_truthy_dict hS m (by omega) ⟨H,I.tok _,by rw[y9o r]; exact q⟩
 | _=>exact(show False from e).elim
theorem z2x (ha:PE X a ta) (he:∀ whole,isTrue a X.env whole=(do let v <- whole; standAt a.pos; holding [v] (truthy v))) :
  PT X a (fun σ H Q=>ta σ H fun x H'=>∃ k,j62 X.K x H' k/\Q k H'):=by
 intro pins s σ H Q I h
 exact isTrue_plain (thn (ha pins s σ H _ I h) fun v s1 ⟨x,H1,I1,r1,q1⟩=>j2s pins s1 σ H1 x v Q I1 r1 q1) (he _)
theorem y3o {x:V} {us:List Value} (r:x2z [x] us):∃ u,us=[u]/\x47 x u:=by
 cases r with
 | cons r1 r2=>cases r2; exact⟨_,rfl,r1⟩
theorem j1r {x y:V} {us:List Value} (r:x2z [x,y] us):∃ u w',us=[u,w']/\x47 x u/\x47 y w':=by
 cases r with
 | cons r1 r2=>
  cases r2 with
  | cons r3 r4=>cases r4; exact⟨_,_,rfl,r1,r3⟩
theorem z1m (hc:X.calm=true):y0u X (.builtin "max") (fun xs H Q=>∃ i j,xs=[.int i,.int j]/\Q (.int (if j > i then j else i)) H):=by
 intro pins s σ H xs us Q I r h
 obtain⟨i,j,rfl,q⟩:=h
 obtain⟨u,w',rfl,⟨t,rfl⟩,⟨t',rfl⟩⟩:=j1r r
 refine max_two_ints (I.ok.hd hc) fun h' tk k=>⟨_,H,I.kept k,?_,q⟩
 by_cases hj:j > i
 ·rw[if_pos hj,if_pos hj]; exact⟨_,rfl⟩
 ·rw[if_neg hj,if_neg hj]; exact⟨_,rfl⟩
end
structure ObjM (h:Heap) (x dx C:Addr) (mA:Str->Option Value):Prop where
 obj:h.get? x=some (PySem.W.instObj C dx)
 ns:h.Ns1 dx mA
 ne:dx≠x
theorem z1j {h:Heap} {dx:Addr} {mA:Str->Option Value} (n:h.Ns1 dx mA):∃ od,h.get? dx=some od/\∀ name,PySem.W.lookIn name od=some (mA name):=by
 obtain⟨o,es,ep,ho,hd,hk,_,hm⟩:=n
 refine⟨o,ho,fun name=>?_⟩
 have e:=hm name
 unfold nsFind findBy at e
 rw[<- Array.find?_toList]at e
 unfold PySem.W.lookIn
 rw[hd]
 dsimp only
 split
 ·rename_i y q
  rw[q]at e
  exact congrArg some e
 ·rename_i q
  rw[q]at e
  have a:es.toList.any (·.refKey)=false:=by
   rw[List.any_eq_false]
   intro y hy
   obtain⟨z,t,hkey⟩:=hk y (Array.mem_toList_iff.mp hy)
   simp[DictEntry.refKey,hkey]
  have a':¬ es.toList.any (·.refKey)=true:=by rw[a]; exact Bool.false_ne_true
  rw[if_neg a']
  exact congrArg some e
theorem ObjM.look {h:Heap} {x dx C:Addr} {mA:Str->Option Value} (I:ObjM h x dx C mA):∃ od,PySem.W.InstAt h x (PySem.W.instObj C dx) C (some od)/\∀ name,PySem.W.lookIn name od=some (mA name):=
 let ⟨od,ho,hl⟩:=z1j I.ns
 ⟨od,⟨I.obj,rfl,rfl,ho⟩,hl⟩
section
variable {prog:Program} {w:World} {A:Around} {E:Value->Shared->Prop} {s:Shared} {K:PySem.W.Frag} {x dx C f:Addr} {mA:Str->Option Value} {name:Str} {v:Value}
end
section
variable {P:Program} {w:World} {H H':Hp} {h h':Heap} {a C dx:Addr} {fs fs':List (Str × V)}
theorem z9d (hok:HOk P w H h) (e:H a=some (.ins C dx fs)):∃ mA,ObjM h a dx C mA/\(∀ f,z7h (fs.lookup f) (mA f))/\PySem.Within mA (fs.map (·.1))/\fs.length<=1000/\H dx=some (.own a):=by
 obtain⟨d,z,ne,ob,mA,n,r,q⟩:=(show x37 P w H h a (.ins C dx fs)from hok a _ e)
 exact⟨mA,⟨ob,n,ne⟩,r,q,z,d⟩
end
structure Cls (K:PySem.W.Frag) (C:Addr):Prop where
 pg:PySem.W.plainGet K C Str.empty=true
 hd:PySem.W.hasDictIn K C=true
 po:PySem.W.plainOver K C=true
 sa:PySem.W.findIn K (.ref C) "__setattr__" = some (some (.builtin "object.__setattr__"))
theorem Cls.get {K:PySem.W.Frag} {C:Addr} (c:Cls K C) (f:Str):PySem.W.plainGet K C f=true:=c.pg
section
variable {X:Cx} {pins:List (Addr × Obj)} {σ:St} {H:Hp} {s:Shared} {a C dx:Addr} {fs:List (Str × V)} {f:Str} {v:V} {A:Around} {E:Value->Shared->Prop}
end
section
variable {X:Cx} {pins:List (Addr × Obj)} {σ:St} {H:Hp} {s:Shared} {A:Around} {E:Value->Shared->Prop} {Q:Value->Shared->Prop} {c:Value} {b:Bool}
inductive TyOf (K:PySem.W.Frag) (H:Hp):V->Value->Prop where
 | non:TyOf K H .non (.type "NoneType")
 | bl (x:Bool):TyOf K H (.bl x) (.type "bool")
 | int (i:Int):TyOf K H (.int i) (.type "int")
 | str (x:Str):TyOf K H (.str x) (.type "str")
 | flt (x:UInt64):TyOf K H (.flt x) (.type "float")
 | lst {a:Addr} {xs:List V} (e:H a=some (.lst xs)):TyOf K H (.ref a) (.type "list")
 | frz {a:Addr} {o:Obj} {xs:List V} (e:H a=some (.frz o (.lst xs))):TyOf K H (.ref a) (.type "list")
 | tup {a:Addr} {xs:List V} (e:H a=some (.tup xs)):TyOf K H (.ref a) (.type "tuple")
 | dK {a:Addr} {kvs:List (Key × V)} (e:H a=some (.dK kvs)):TyOf K H (.ref a) (.type "dict")
 | dT {a:Addr} {kvs:List (List Key × V)} (e:H a=some (.dT kvs)):TyOf K H (.ref a) (.type "dict")
 | ins {a C dx:Addr} {fs:List (Str × V)} (e:H a=some (.ins C dx fs)) (cl:Cls K C) (ha:PySem.W.findIn K (.ref C) "__class__" = some (some (.builtin "object.__class__")))
   (hn:PySem.W.specialIn K (.builtin "object.__class__") "__get__" = some (some (.builtin "getset_descriptor.__get__"))) (htk:PySem.W.takesIn K (.builtin "object.__class__")=some true)
   (hm:PySem.W.mroIn K C (.type "object")=some true):TyOf K H (.ref a) (.ref C)
theorem x3x {x:V} {u t:Value} (I:Inv X pins σ H s) (rx:x47 x u) (ty:TyOf X.K H x t) (e:PySem.W.kitOne X.K t c=some b) (h:∀ tk,Q (.bool b) { s with toks:=tk }) :
  wpAny (model X.prog X.w) A (call (.builtin "isinstance") [u,c]) Q E s:=by
 cases ty with
 | non=>cases (show u=Value.none from rx); exact PySem.W.kia_one PySem.W.kitx_none I.kIn True.intro e (fun z=>nomatch z) h
 | bl y=>cases (show u=Value.bool y from rx); exact PySem.W.kia_one PySem.W.kitx_bool I.kIn True.intro e (fun z=>nomatch z) h
 | int i=>obtain⟨t,q⟩:=(show ∃ t,u=Value.int i t from rx); cases q; exact PySem.W.kia_one PySem.W.kitx_int I.kIn True.intro e (fun z=>nomatch z) h
 | str y=>obtain⟨t,q⟩:=(show ∃ t,u=Value.str y t from rx); cases q; exact PySem.W.kia_one PySem.W.kitx_str I.kIn True.intro e (fun z=>nomatch z) h
 | flt y=>obtain⟨t,q⟩:=(show ∃ t,u=Value.float y t from rx); cases q; exact PySem.W.kia_one PySem.W.kitx_float I.kIn True.intro e (fun z=>nomatch z) h
 | @lst a xs ea=>
  cases (show u=Value.ref a from rx)
  obtain⟨_,_,n,_,h1⟩:=(show x37 X.prog X.w H s.heap a (.lst xs)from I.hok a _ ea)
  exact PySem.W.kia_one PySem.W.kitx_list I.kIn ⟨_,h1,rfl⟩ e (fun z=>nomatch z) h
 | @frz a ob xs ea=>
  cases (show u=Value.ref a from rx)
  obtain⟨_,_,_,n,_,h1⟩:=(show x37 X.prog X.w H s.heap a (.frz ob (.lst xs))from I.hok a _ ea)
  exact PySem.W.kia_one PySem.W.kitx_list I.kIn ⟨_,h1,rfl⟩ e (fun z=>nomatch z) h
 | @tup a xs ea=>
  cases (show u=Value.ref a from rx)
  obtain⟨_,_,_,p⟩:=(show x37 X.prog X.w H s.heap a (.tup xs)from I.hok a _ ea)
  obtain⟨o,h1,h2,_⟩:=p
  exact PySem.W.kia_one PySem.W.kitx_tuple I.kIn ⟨o,h1,h2⟩ e (fun z=>nomatch z) h
 | @dK a kvs ea=>
  cases (show u=Value.ref a from rx)
  obtain⟨_,_,vs,_,p⟩:=(show x37 X.prog X.w H s.heap a (.dK kvs)from I.hok a _ ea)
  obtain⟨o,es,ep,h1,h2,_⟩:=p
  exact PySem.W.kia_one PySem.W.kitx_dict I.kIn ⟨o,h1,h2.1⟩ e (fun z=>nomatch z) h
 | @dT a kvs ea=>
  cases (show u=Value.ref a from rx)
  obtain⟨_,_,xs,_,o,es,ep,h1,h2,_⟩:=(show x37 X.prog X.w H s.heap a (.dT kvs)from I.hok a _ ea)
  exact PySem.W.kia_one PySem.W.kitx_dict I.kIn ⟨o,h1,h2.1⟩ e (fun z=>nomatch z) h
 | @ins a C dx fs ea cl ha hn htk hm=>
  cases (show u=Value.ref a from rx)
  obtain⟨mA,O,_⟩:=z9d I.hok ea
  obtain⟨od,J,_⟩:=O.look
  exact PySem.W.kia_one (PySem.W.kitx_own (cl.get _) cl.hd ha hn htk hm) I.kIn J e (fun z=>nomatch z) h
end
structure Room (k:Nat) (A:Around):Prop where
 hd:A.handled=none
 dp:A.depth+3*k+5<recursionLimit
 un:A.units+16*k+200<cLine
theorem Room.mono {j k:Nat} {A:Around} (r:Room k A) (h:j<=k):Room j A:=⟨r.hd,by have:=r.dp; omega,by have:=r.un; omega⟩
theorem Room.deeper {k:Nat} {A:Around} (r:Room (k+1) A) (env:Env):Room k (A.deeper env):=
 ⟨r.hd,by have:=r.dp; show A.depth+1+3*k+5<_; omega,by have:=r.un; show A.units+3+16*k+200<_; omega⟩
theorem Room.depth {k:Nat} {A:Around} (r:Room k A):A.depth<recursionLimit:=by have:=r.dp; omega
theorem Room.units {k:Nat} {A:Around} (r:Room k A):A.units+64<cLine:=by have:=r.un; omega
noncomputable def j60:TA:=fun _ H Q=>Q [] H
noncomputable def j2i (ta:TE) (tr:TA):TA:=fun σ H Q=>ta σ H fun x H1=>tr σ H1 fun xs H2=>Q (x::xs) H2
section
variable {X:Cx} {e:Expr} {es:List Expr} {te:TE} {t:TA} {pos:Pos}
theorem x7k:PA X [] j60:=fun _ _ _ _ H Q I h=>Calls.spliced_nil ⟨[],H,I,.nil,h⟩
theorem x4u (ha:PE X e te) (hr:PA X es t) (hs:starEach (e::es) X.env=(false,eval e X.env)::starEach es X.env:=by rfl):PA X (e::es) (j2i te t):=by
 intro pos pins s σ H Q I h
 rw[hs]
 show wpAny _ _ (spliced ((false,eval e X.env)::backTo pos (starEach es X.env))) _ _ s
 refine Calls.spliced_cons (thn (ha pins s σ H _ I h) fun u s1 hh0=>?_)
 obtain⟨x,H1,I1,r1,q1⟩:=hh0
 exact thn (hr pos pins s1 σ H1 _ I1 q1) fun us s2 ⟨xs,H2,I2,r2,q2⟩=>⟨x::xs,H2,I2,.cons r1 r2,q2⟩
noncomputable def j6h (t:TA):TE:=fun σ H Q=>t σ H fun xs H1=>xs.length<=sizeLine/\∀ p,H1 p=none->Q (.ref p) (upd H1 p (.tup xs))
noncomputable def j6z (t:TA):TE:=fun σ H Q=>t σ H fun xs H1=>xs.length<=sizeLine/\∀ p,H1 p=none->Q (.ref p) (upd H1 p (.lst xs))
theorem j3w {x1} (h:PA X es t):PE X (.Tuple es x1 pos) (j6h t):=by
 intro pins s σ H Q I hq
 refine wpAny_Tuple_spliced (thn (h pos pins s σ H _ I hq) fun us s1 ⟨xs,H1,I1,r,z,q⟩=>⟨by rw[<- r.length]; exact z,?_⟩)
 have hf:H1 s1.heap.objs.size=none:=I1.hok.fresh (Nat.le_refl _)
 refine⟨.ref s1.heap.objs.size,upd H1 s1.heap.objs.size (.tup xs),I1.laid (t':=s1.toks) (fun b u e=>Heap.get?_push_of_some _ e) (Nat.le_refl _) ?_,rfl,q _ hf⟩
 exact⟨z,us,r,⟨_,Heap.get?_push_size _ rfl,rfl,⟨_,rfl⟩,rfl⟩⟩
theorem j03 (h:PA X es t):PE X (.List es pos) (j6z t):=by
 intro pins s σ H Q I hq
 refine wpAny_List_spliced (thn (h pos pins s σ H _ I hq) fun us s1 ⟨xs,H1,I1,r,z,q⟩=>⟨by rw[<- r.length]; exact z,?_⟩)
 have hf:H1 s1.heap.objs.size=none:=I1.hok.fresh (Nat.le_refl _)
 refine⟨.ref s1.heap.objs.size,upd H1 s1.heap.objs.size (.lst xs),I1.laid (t':=s1.toks) (fun b u e=>Heap.get?_push_of_some _ e) (Nat.le_refl _) ?_,rfl,q _ hf⟩
 exact⟨z,us,0,r,Heap.get?_push_size _ rfl⟩
end
noncomputable abbrev Sp:=List V->Hp->VK->XK->Prop
noncomputable abbrev CXT:=List Env->Hp->Shared->XK->Value->Shared->Prop
structure Env0 (P:Program) (w:World) (K:PySem.W.Frag) (mg:Str->Option Value) (base:Heap) (A:Around) (outer:List Env) (s:Shared) (H:Hp):Prop where
 frames:A.frames=some outer
 mod:Mod K mg base
 bs:∀ b o,base.get? b=some o->s.heap.get? b=some o/\H b=none
 bsz:base.objs.size<=s.heap.objs.size
 funs:s.heap.FunFrames base outer
 frf:∀ b∈frs outer,H b=none
 hok:HOk P w H s.heap
 bare:AllBare s.gens
noncomputable def CE (outer:List Env) (P:Program) (w:World) (H:Hp) (s:Shared) (Q:VK) (u:Value) (s':Shared):Prop:=
 ∃ v H',s'.os=s.os/\AllBare s'.gens/\Un (frs outer) [] H H' s.heap s'.heap/\HOk P w H' s'.heap/\x47 v u/\Q v H'
noncomputable def CR (CX:CXT) (outer:List Env) (P:Program) (w:World) (H:Hp) (s:Shared) (Q:VK) (E:XK) (r:Result) (s':Shared):Prop:=
 match r with
 | .ok (.ret u)=>CE outer P w H s Q u s'
 | .ok _=>False
 | .error e=>CX outer H s E e s'
structure FnOk (P:Program) (w:World) (K:PySem.W.Frag) (mg:Str->Option Value) (base:Heap) (CX:CXT) (k:Nat) (f:Addr) (fd:FuncData) (ps:List Str) (sp:Sp):Prop where
 len:∀ vs H Q E,sp vs H Q E->vs.length=ps.length
 run:∀ (A:Around) (outer:List Env) (s:Shared) (H:Hp) (args:Args) (us:List Value) (vs:List V) (Q:VK) (E:XK),Room k A->Env0 P w K mg base A outer s H->BindsTo s fd args (ps.zip us)->x2z vs us->sp vs H Q E->
  codeAny (model P w) A (.call (.ref f) args) (CR CX outer P w H s Q E) s
section
variable {X:Cx} {pins:List (Addr × Obj)} {σ:St} {H:Hp} {s s':Shared}
theorem Inv.env0 (I:Inv X pins σ H s):Env0 X.prog X.w X.K X.mg X.base X.A X.stack s H:=
 ⟨I.ok.frames,I.ok.mod,I.bs,Nat.le_trans I.ok.bsz I.sz,I.stack,I.stkFree,I.hok,I.bare⟩
theorem Inv.after {Q:VK} {u:Value} (I:Inv X pins σ H s) (h:CE X.stack X.prog X.w H s Q u s'):EP X pins σ Q u s':=by
 obtain⟨v,H',os,bare,un,hok,r,q⟩:=h
 obtain⟨hh,g,d,t,os'⟩:=s'
 obtain rfl:os'=s.os:=os
 exact⟨v,H',I.call (h':=hh) (g':=g) (d':=d) (t':=t) (ch:=[]) un hok bare (fun b z=>absurd z (by simp)),r,q⟩
end
noncomputable def j5f (sp:Sp) (dvs:List V) (E:XK) (t:TA):TE:=fun σ H Q=>t σ H fun vs H1=>sp (vs++dvs) H1 Q E
noncomputable def y50 (K:PySem.W.Frag) (fd:FuncData) (ps:List Str) (ds:List Value):Prop:=
 ∀ (s:Shared) (us:List Value),K.In s.heap->(us++ds).length=ps.length->BindsTo s fd ⟨us,[]⟩ (ps.zip (us++ds))
theorem y50.all {K:PySem.W.Frag} {fd:FuncData} {ps:List Str} (h:∀ us:List Value,us.length=ps.length->bindArgs fd ⟨us,[]⟩=pure (ps.zip us)):y50 K fd ps []:=fun s us _ hl=>by
 rw[List.append_nil]at hl ⊢
 exact .of_eq (h us hl)
noncomputable def y7f (CX:CXT) (X:Cx) (E:XK):Prop:=∀ (pins:List (Addr × Obj)) (σ:St) (H:Hp) (s:Shared) (e:Value) (s':Shared),Inv X pins σ H s->CX X.stack H s E e s'->X.xe e s'
section
variable {X:Cx} {CX:CXT} {k:Nat} {f C:Addr} {fd:FuncData} {ps:List Str} {sp:Sp} {dvs:List V} {ds:List Value} {E:XK} {x m:Str} {p pos apos:Pos} {e o:Expr} {es:List Expr} {ta:TE} {t:TA}
theorem j20 {pins:List (Addr × Obj)} {σ:St} {H:Hp} {s:Shared} {Q:VK} {us:List Value} {vs:List V} (F:FnOk X.prog X.w X.K X.mg X.base CX k f fd ps sp) (hr:Room k X.A) (hb:y50 X.K fd ps ds) (hd:x2z dvs ds) (hx:y7f CX X E)
  (I:Inv X pins σ H s) (r:x2z vs us) (h:sp (vs++dvs) H Q E):wpAny (model X.prog X.w) X.A (call (.ref f) us) (EP X pins σ Q) X.xe s:=by
 have r2:x2z (vs++dvs) (us++ds):=r.append hd
 have hl:(us++ds).length=ps.length:=by rw[<- r2.length]; exact F.len _ _ _ _ h
 refine wpAny_call (codeAny_mono (F.run X.A X.stack s H ⟨us,[]⟩ (us++ds) (vs++dvs) Q E hr I.env0 (hb s us I.kIn hl) r2 h) fun r s' hq=>?_)
 cases r with
 | error e=>exact hx pins σ H s e s' I hq
 | ok fl=>
  cases fl with
  | ret u=>exact I.after hq
  | next=>exact False.elim hq
  | brk=>exact False.elim hq
  | cont=>exact False.elim hq
theorem z6z (F:FnOk X.prog X.w X.K X.mg X.base CX k f fd ps sp) (hr:Room k X.A) (hg:Gl X x) (hm:X.mg x=some (.ref f)) (hk:PySem.W.keepIn X.K (.ref f)=true) (hb:y50 X.K fd ps ds) (hd:x2z dvs ds) (hx:y7f CX X E)
  (ha:PA X (e::es) t) (hdb:(x == ("__debug__":Str))=false:=by decide) (he:starEach (e::es) X.env=(false,eval e X.env)::starEach es X.env:=by rfl) (hpl:(backTo pos (starEach es X.env)).any (·.1)=false:=by rfl) :
  PE X (.Call (.Name x p) (e::es) [] pos) (j5f sp dvs E t):=by
 intro pins s σ H Q I h
 refine wpAny_Call_Name_kw (z8g I hg hm ?_ hdb)
 refine PySem.W.callWith_K (h₀:=X.base) I.ok.mod.kin hk (thn (ha pos pins s σ H _ I h) fun us s1 ⟨vs,H1,I1,r,q⟩=>⟨I1.kIn,?_⟩) he hpl
 exact j20 F hr hb hd hx I1 r q
end
structure FnScope (N P:List Str) (sc:Scope):Prop where
 kind:sc.kind=.function
 co:sc.isCoroutine=false
 gen:sc.isGenerator=false
 nd:N.Nodup
 pre:N.take P.length=P
 par:∀ x∈P,sc.names.lookup x=some .local\/sc.names.lookup x=some .cell
 nofree:∀ y∈sc.names,y.2 ≠ .free
theorem y5w {kindOf:Str->Option NameKind} {x:Str}:∀ {binds:List (Str × Value)} {m:Str->Option Value},(∀ v,(x,v) ∉ binds)->bindL kindOf binds m x=m x
 | [],_,_=>rfl
 | (n,v)::r,m,h=>by
  unfold bindL
  rw[y5w fun w hw=>h w (List.mem_cons_of_mem _ hw)]
  split
  ·have:x≠n:=by rintro rfl; exact h v List.mem_cons_self
   simp[this]
  ·rfl
theorem y5g {kindOf:Str->Option NameKind} {x:Str}:∀ {binds:List (Str × Value)} {m:Str->Option Value},(∀ v,(x,v) ∉ binds)->bindC kindOf binds m x=m x
 | [],_,_=>rfl
 | (n,v)::r,m,h=>by
  unfold bindC
  rw[y5g fun w hw=>h w (List.mem_cons_of_mem _ hw)]
  split
  ·rfl
  ·have:x≠n:=by rintro rfl; exact h v List.mem_cons_self
   simp[this]
theorem y5x {kindOf:Str->Option NameKind} {x:Str} {v:Value}:∀ {P:List Str} {vs:List Value} {i:Nat} {m:Str->Option Value},P.Nodup->P[i]? = some x->vs[i]? = some v->kindOf x=some .local->
  bindL kindOf (P.zip vs) m x=some v
 | [],_,_,_,_,h,_,_=>by simp at h
 | _::_,[],_,_,_,_,h,_=>by simp at h
 | p::P,w::vs,0,m,nd,h1,h2,hk=>by
  simp at h1 h2; subst h1; subst h2
  show bindL kindOf ((p,w)::P.zip vs) m p=_
  unfold bindL
  rw[y5w fun v hv=>(List.nodup_cons.mp nd).1 (List.of_mem_zip hv).1,if_pos hk]
  simp
 | p::P,w::vs,i+1,m,nd,h1,h2,hk=>by
  show bindL kindOf ((p,w)::P.zip vs) m x=_
  unfold bindL
  exact y5x (i:=i) (List.nodup_cons.mp nd).2 (by simpa using h1) (by simpa using h2) hk
theorem y4z {kindOf:Str->Option NameKind} {x:Str} {v:Value}:∀ {P:List Str} {vs:List Value} {i:Nat} {m:Str->Option Value},P.Nodup->P[i]? = some x->vs[i]? = some v->kindOf x≠some .local->
  bindC kindOf (P.zip vs) m x=some v
 | [],_,_,_,_,h,_,_=>by simp at h
 | _::_,[],_,_,_,_,h,_=>by simp at h
 | p::P,w::vs,0,m,nd,h1,h2,hk=>by
  simp at h1 h2; subst h1; subst h2
  show bindC kindOf ((p,w)::P.zip vs) m p=_
  unfold bindC
  rw[y5g fun v hv=>(List.nodup_cons.mp nd).1 (List.of_mem_zip hv).1,if_neg hk]
  simp
 | p::P,w::vs,i+1,m,nd,h1,h2,hk=>by
  show bindC kindOf ((p,w)::P.zip vs) m x=_
  unfold bindC
  exact y4z (i:=i) (List.nodup_cons.mp nd).2 (by simpa using h1) (by simpa using h2) hk
noncomputable def y2d (N:List Str) (vs:List V):St:=vs.map some++List.replicate (N.length-vs.length) none
noncomputable def z1q (CX:CXT) (P:Program) (w:World) (K:PySem.W.Frag) (mg:Str->Option Value) (base:Heap) (N:List Str) (qual:Str) (scope:Scope) (f:Addr) (cd:Value) (A:Around) (outer:List Env) (s:Shared) (H:Hp) (E:XK):Cx where
 prog:=P
 w:=w
 K:=K
 mg:=mg
 base:=base
 A:=A.deeper (envOfC qual scope s.heap.objs.size f cd)
 N:=N
 s₀:=s
 H₀:=H
 env:=envOfC qual scope s.heap.objs.size f cd
 outer:=outer
 stack:=envOfC qual scope s.heap.objs.size f cd::outer
 ex:=[]
 calm:=true
 fn:=fun _=>true
 pn:=[]
 xe:=fun e s'=>wpAny (model P w) (A.deeper (envOfC qual scope s.heap.objs.size f cd)) (leaving (envOfC qual scope s.heap.objs.size f cd) e) (fun _ s''=>CX outer H s E e s'') (fun e' s''=>CX outer H s E e' s'') s'
theorem y88 {sc:Scope} {n:Nat} {x:Str} (h:sc.names.lookup x=some .cell):∃ c,(cellsFrom n sc.names []).lookup x=some c:=by
 have q:=PySem.W.cellsFrom_some sc.names n [] (.inl h)
 exact Option.isSome_iff_exists.mp q
theorem z2c {CX:CXT} {P:Program} {w:World} {K:PySem.W.Frag} {mg:Str->Option Value} {base:Heap} {N ps:List Str} {qual:Str} {scope:Scope} {f:Addr} {cd:Value} {A:Around} {outer:List Env} {s s1:Shared} {H:Hp} {E:XK} {us:List Value} {vs:List V}
  (S:FnScope N ps scope) (hd:A.handled=none) (e0:Env0 P w K mg base A outer s H) (hl:vs.length=ps.length) (r:x2z vs us)
  (x:InCallC s s.heap.objs.size (bindL (envOfC qual scope s.heap.objs.size f cd).kindOf (ps.zip us) fun _=>none) (cellsFrom (s.heap.objs.size+1) scope.names []) (bindC (envOfC qual scope s.heap.objs.size f cd).kindOf (ps.zip us) fun _=>none) s1) :
  Inv (z1q CX P w K mg base N qual scope f cd A outer s H E) [] (y2d N vs) H s1:=by
 have hpl:ps.length<=N.length:=by have:=congrArg List.length S.pre; rw[List.length_take]at this; omega
 obtain⟨h1,tk,rfl,hk⟩:=x.done
 have noA:∀ b:Addr,b ∉ (z1q CX P w K mg base N qual scope f cd A outer s H E).ex:=fun b z=>absurd (show b∈([]:List Addr)from z) (by simp)
 refine⟨⟨e0.mod,S.kind,rfl,rfl,Nat.le_refl _,fun y z c h1 h2=>?_,fun y hy=>?_,fun y c _ h=>?_,fun _=>hd,Around.frames_deeper e0.frames,.inr ⟨rfl,rfl⟩,fun b z=>absurd z (noA b),e0.bs,e0.bsz,fun b _ _=>noA b,fun b z=>absurd z (noA b),e0.funs,e0.frf⟩,
  rfl,e0.bare,Un.kept hk,⟨_,x.toInCall.ns,fun i y v h1 h2 h3=>?_⟩,fun y c h=>⟨_,x.cell y c h⟩,e0.hok.fresh (Nat.le_refl _),fun y c h=>?_,fun p hp=>absurd (show p∈([]:List (Addr × Obj))from hp) (by simp),e0.hok.kept hk,?_⟩
 ·exact name_of_addr x.apart (PySem.mem_of_lookup h1) (PySem.mem_of_lookup h2)
 ·have hy:scope.names.lookup y=some .cell\/scope.names.lookup y=some .free:=hy
  rcases hy with hy | hy
  ·exact y88 hy
  ·exact absurd rfl (S.nofree _ (PySem.mem_of_lookup hy))
 ·exact Nat.le_of_lt (x.above y c (PySem.mem_of_lookup h))
 ·have hi:i<vs.length:=by
   unfold y2d at h2
   by_cases hi:i<vs.length
   ·exact hi
   ·rw[List.getElem?_append_right (by simpa using hi)]at h2
    rw[List.getElem?_replicate]at h2
    split at h2 <;> cases h2
  have ha:vs[i]? = some v:=by
   unfold y2d at h2
   rw[List.getElem?_append_left (by simpa using hi),List.getElem?_map]at h2
   cases e:vs[i]? with
   | none=>rw[e]at h2; cases h2
   | some a=>rw[e]at h2; cases h2; rfl
  obtain⟨u,hu,rv⟩:=r.get ha
  have hp:ps[i]? = some y:=by
   rw[<- S.pre,List.getElem?_take_of_lt (by omega)]; exact h1
  have ndP:ps.Nodup:=by rw[<- S.pre]; exact S.nd.sublist (List.take_sublist _ _)
  refine⟨u,rv,?_⟩
  rcases S.par y (List.mem_of_getElem? hp)with k | k
  ·exact .inl ⟨k,y5x ndP hp hu k⟩
  ·obtain⟨c,e⟩:=y88 (n:=s.heap.objs.size+1) k
   refine .inr ⟨.inl k,c,e,?_⟩
   have q:=x.cell y c e
   rw[y4z ndP hp hu (by show scope.names.lookup y≠_; rw[k]; decide)]at q
   exact q
 ·exact e0.hok.fresh (Nat.le_of_lt (x.above y c (PySem.mem_of_lookup h)))
 ·unfold y2d
  show _=N.length
  rw[List.length_append,List.length_map,List.length_replicate]
  omega
theorem j5g {CX:CXT} {P:Program} {w:World} {K:PySem.W.Frag} {mg:Str->Option Value} {base:Heap} {k:Nat} {f:Addr} {name qual:Str} {params:Arguments} {body:List Stmt} {scope:Scope} {dV kV doc pm cdv ct oc:Value} {an od:Option Addr}
  {osl:Array (Option Value)} {N ps:List Str} {sp:Sp} (lk:K.lookup f=some ⟨oc,od,.func (PySem.W.fnOf name qual params body scope dV kV doc pm an cdv ct),osl⟩) (hcd:PySem.W.codeIn K cdv qual=true) (S:FnScope N ps scope)
  (len:∀ vs H Q E,sp vs H Q E->vs.length=ps.length)
  (hbody:∀ (A:Around) (outer:List Env) (s:Shared) (H:Hp) (vs:List V) (Q:VK) (E:XK),Room k (A.deeper (envOfC qual scope s.heap.objs.size f cdv))->sp vs H Q E->
    ∃ t,PSs (z1q CX P w K mg base N qual scope f cdv A outer s H E) body t/\t { nx:=fun _ H'=>Q .non H',rt:=Q } (y2d N vs) H) :
  FnOk P w K mg base CX (k+1) f (PySem.W.fnOf name qual params body scope dV kV doc pm an cdv ct) ps sp:=by
 refine⟨len,fun A outer s H args us vs Q E hr e0 hb r hsp=>?_⟩
 have hl:=len _ _ _ _ hsp
 have KX:K.In s.heap:=e0.mod.kin.keeps fun b o e=>(e0.bs b o e).1
 have lim:s.heap.NoLimit:=e0.mod.nolimit.keeps fun b o e=>(e0.bs b o e).1
 have hkind:∀ y∈ps.zip us,scope.names.lookup y.1=some .local\/(scope.names.lookup y.1=some .cell/\((cellsFrom (s.heap.objs.size+1) scope.names []).lookup y.1).isSome=true):=fun⟨n,v⟩ hy=>by
  rcases S.par n (List.of_mem_zip hy).1 with q | q
  ·exact .inl q
  ·exact .inr ⟨q,PySem.W.cellsFrom_some _ _ _ (.inl q)⟩
 refine codeAny_call_function hr.depth (KX _ _ lk) rfl S.co S.gen rfl (PySem.W.codeRec_of KX hcd) (hb _ _ _ _ ?_)
 refine wpAny_newFunctionEnv_cells S.kind hkind fun env he s1 x=>?_
 subst he
 refine⟨lim.keeps x.toInCall.keep,codeAny_func ?_⟩
 obtain⟨t,ht,hq⟩:=hbody A outer s H vs Q E (hr.deeper _) hsp
 have I:Inv (z1q CX P w K mg base N qual scope f cdv A outer s H E) [] (y2d N vs) H s1:=z2c S hr.hd e0 hl r x
 refine wpAny_mono (ht [] s1 (y2d N vs) H _ I hq) (fun fl s' hs=>?_) fun e s' hs=>hs
 have fin:∀ {σ':St} {H':Hp} {v:V} {u:Value},Inv (z1q CX P w K mg base N qual scope f cdv A outer s H E) [] σ' H' s'->x47 v u->Q v H'->CE outer P w H s Q u s':=
  fun {σ' H' v u} J rv q=>⟨v,H',J.os,J.bare,J.base,J.hok,rv,q⟩
 cases fl with
 | ret u=>
  obtain⟨v,σ',H',J,rv,q⟩:=hs
  exact fin J rv q
 | next=>
  obtain⟨σ',H',J,q⟩:=hs
  exact fin (v:=V.non) (u:=Value.none) J rfl q
 | brk=>
  obtain⟨_,_,_,q⟩:=hs
  exact False.elim q
 | cont=>
  obtain⟨_,_,_,q⟩:=hs
  exact False.elim q
section
variable {X:Cx} {x:Str} {p pos:Pos} {e:Expr} {es:List Expr} {t:TA} {id T:String} {r:List V->Hp->VK->Prop}
noncomputable def tCB (r:List V->Hp->VK->Prop) (t:TA):TE:=fun σ H Q=>t σ H fun vs H1=>r vs H1 Q
theorem x66 (hc:y0u X (.builtin id) r) (hg:Gl X x) (hm:X.mg x=none) (hv:bootBuiltins x=some (.builtin id)) (ha:PA X (e::es) t) (hn:x ≠ "__name__":=by decide) (hdb:(x == ("__debug__":Str))=false:=by decide)
  (he:starEach (e::es) X.env=(false,eval e X.env)::starEach es X.env:=by rfl) (hpl:(backTo pos (starEach es X.env)).any (·.1)=false:=by rfl):PE X (.Call (.Name x p) (e::es) [] pos) (tCB r t):=by
 intro pins s σ H Q I h
 refine wpAny_Call_Name_kw (y20 I hg hm hv ?_ hn hdb)
 exact PyProof.Rows.callWith_builtin1 (thn (ha pos pins s σ H _ I h) fun us s1 ⟨vs,H1,I1,r1,q1⟩=>hc pins s1 σ H1 vs us Q I1 r1 q1) he hpl
theorem x5l (hc:y0u X (.type T) r) (hg:Gl X x) (hm:X.mg x=none) (hv:bootBuiltins x=some (.type T)) (ha:PA X (e::es) t) (hn:x ≠ "__name__":=by decide) (hdb:(x == ("__debug__":Str))=false:=by decide)
  (he:starEach (e::es) X.env=(false,eval e X.env)::starEach es X.env:=by rfl) (hpl:(backTo pos (starEach es X.env)).any (·.1)=false:=by rfl):PE X (.Call (.Name x p) (e::es) [] pos) (tCB r t):=by
 intro pins s σ H Q I h
 refine wpAny_Call_Name_kw (y20 I hg hm hv ?_ hn hdb)
 exact PyProof.Rows.callWith_type1 (thn (ha pos pins s σ H _ I h) fun us s1 ⟨vs,H1,I1,r1,q1⟩=>hc pins s1 σ H1 vs us Q I1 r1 q1) he hpl
end
end L2
namespace HT
open PySem PyProof.Rows
section
open PySem.SeqAt
open PySem.AutoSeq1 (wpAny_loadPart')
open PySem.MeetsSeq PySem.MeetsSeq2 PySem.MeetsSeq3
end
section
variable {prog:Program} {w:World} {A:Around} {E:Value->Shared->Prop} {s:Shared}
theorem j5x {t b:Addr} {vs ws:List Value} {Q:Value->Shared->Prop} (ht:IsTup s.heap t vs.toArray) (hb:IsTup s.heap b ws.toArray) (hv:vs ≠ [])
  (h1:ws=[]->Q (.ref t) s) (h2:ws ≠ []->Q (.ref s.heap.objs.size) { s with heap:=s.heap.push { cls:=.type "tuple",data:=.seq (vs++ws).toArray } })
  (hsz:vs.length+ws.length<=sizeLine):wpAny (model prog w) A (binaryOp .Add (.ref t) (.ref b)) Q E s:=by
 obtain⟨⟨cls,dd,data,sl⟩,ho,hc,n,hd⟩:=id ht
 obtain⟨⟨cls2,dd2,data2,sl2⟩,ho2,hc2,n2,hd2⟩:=id hb
 simp only at hc hd hc2 hd2
 subst hc hd hc2 hd2
 have e:vs.toArray++ws.toArray=(vs++ws).toArray:=by simp
 by_cases hw:ws=[]
 ·exact concat_meets ⟨_,ho,rfl⟩ ⟨_,ho2,rfl⟩ noFill_tuple_add seq_tuple_add PySem.F.slot_tuple_add PySem.F.entry_tuple_add (PySem.F.args_tuple_add_2 _ _)
   (tuple_addW1 t b vs.toArray ws.toArray n n2 dd dd2 sl sl2 (by simpa using hv) (by simp[hw])) ⟨ho,ho2,h1 hw⟩
 ·refine concat_meets ⟨_,ho,rfl⟩ ⟨_,ho2,rfl⟩ noFill_tuple_add seq_tuple_add PySem.F.slot_tuple_add PySem.F.entry_tuple_add (PySem.F.args_tuple_add_2 _ _)
   (tuple_addW2 t b vs.toArray ws.toArray n n2 dd dd2 sl sl2 (by simpa using hv) (by simpa using hw) (by rw[List.size_toArray,List.size_toArray]; exact hsz)) ⟨ho,ho2,?_⟩
  rw[e]
  exact h2 hw
noncomputable def sIx (n d:Nat):Option Int->Nat
 | none=>d
 | some v=>if v<0 then(v+(n:Int)).toNat else min v.toNat n
theorem j1x (n d:Nat) (hd:d<=n) (o:Option Int):sIx n d o<=n:=by
 cases o with
 | none=>exact hd
 | some v=>
  show(if v<0 then(v+(n:Int)).toNat else min v.toNat n)<=n
  by_cases hv:v<0
  ·rw[if_pos hv]; omega
  ·rw[if_neg hv]; exact Nat.min_le_right _ _
theorem z00 (v:Int) (n d:Nat):(if v<0 then max (v+(n:Int)) 0 else min v (n:Int))=((sIx n d (some v):Nat):Int):=by
 show(if v<0 then max (v+(n:Int)) 0 else min v (n:Int))=(((if v<0 then(v+(n:Int)).toNat else min v.toNat n):Nat):Int)
 by_cases hv:v<0
 ·simp only[if_pos hv]; omega
 ·simp only[if_neg hv]; omega
theorem y95 (lo hi:Option Int) (n:Nat):Builtin.Slice.sliceAdjust lo hi 1 (n:Int)=(((sIx n 0 lo:Nat):Int),((sIx n n hi:Nat):Int)):=by
 have h1:¬ ((1:Int)<0):=by omega
 unfold Builtin.Slice.sliceAdjust
 simp only[h1,if_false]
 refine Prod.ext ?_ ?_
 ·cases lo with
  | none=>rfl
  | some v=>exact z00 v n 0
 ·cases hi with
  | none=>rfl
  | some v=>exact z00 v n n
theorem y97 (i j:Nat):Builtin.Slice.slicePlaces (i:Int) (j:Int) 1=j-i:=by
 unfold Builtin.Slice.slicePlaces
 have h1:(1:Int) > 0:=by omega
 simp only[h1,if_true,Int.ediv_one]
 split <;> omega
theorem y2p {v:Value} {o:Option Int} {Q:Option Int->Shared->Prop} (p:IsPart v o) (h:Q o s):wpAny (model prog w) A (Builtin.Slice.slicePartIndex v) Q E s:=by
 cases p with
 | none=>exact slicePart_none h
 | int i t=>exact slicePart_int h
theorem y0n {sl:Addr} {vl vu:Value} {lo hi:Option Int} {n:Nat} {Q:Int × Int × Nat->Shared->Prop} (hs:s.heap.IsSliceOf sl vl vu .none) (pl:IsPart vl lo) (pu:IsPart vu hi)
  (h:Q (((sIx n 0 lo:Nat):Int),1,sIx n n hi-sIx n 0 lo) s):wpAny (model prog w) A (Builtin.Slice.sliceApplied (.ref sl) (pure (n:Int))) Q E s:=by
 obtain⟨os,hos,hcs,hds⟩:=id hs
 unfold Builtin.Slice.sliceApplied Builtin.Slice.sliceFields
 refine wpAny_bind (wpAny_bind (wpAny_field hos hds (x:=vl) rfl (wpAny_bind (wpAny_field hos hds (x:=vu) rfl (wpAny_bind (wpAny_field hos hds (x:=.none) rfl (wpAny_pure ?_)))))))
 refine wpAny_bind (slicePart_none ?_)
 show wpAny _ _ (if((1:Int) == 0)=true then _ else _) _ _ s
 rw[if_neg (by decide)]
 refine wpAny_bind (y2p pl (wpAny_bind (y2p pu (wpAny_bind (wpAny_pure ?_)))))
 show wpAny _ _ (match Builtin.Slice.sliceAdjust lo hi 1 (n:Int)with | (lo,hi)=>pure (lo,(1:Int),Builtin.Slice.slicePlaces lo hi 1)) _ _ s
 rw[y95 lo hi n]
 show wpAny _ _ (pure (((sIx n 0 lo:Nat):Int),(1:Int),Builtin.Slice.slicePlaces ((sIx n 0 lo:Nat):Int) ((sIx n n hi:Nat):Int) 1)) _ _ s
 rw[y97]
 exact wpAny_pure h
theorem z3w (xs:Array Value) (i k:Nat):((List.range k).filterMap fun(m:Nat)=>xs[((i:Int)+(m:Int)*1).toNat]?).toArray=((xs.toList.drop i).take k).toArray:=by
 have e:(fun(m:Nat)=>xs[((i:Int)+(m:Int)*1).toNat]?)=fun m=>xs[i+m]?:=by
  funext m
  have:((i:Int)+(m:Int)*1).toNat=i+m:=by omega
  rw[this]
 rw[e]
 have:=pick_run xs i k
 rw[List.filterMap_map]at this
 have e2:((fun x=>xs[x]?) ∘ fun x=>i+x)=fun m=>xs[i+m]?:=rfl
 rw[e2]at this
 rw[this]
theorem y8u {t sl:Addr} {items:Array Value} {vl vu:Value} {lo hi:Option Int} {Q:Value->Shared->Prop} (ht:IsTup s.heap t items) (hs:s.heap.IsSliceOf sl vl vu .none) (pl:IsPart vl lo) (pu:IsPart vu hi)
  (hw:¬ (sIx items.size 0 lo=0/\sIx items.size items.size hi=items.size))
  (h:Q (.ref s.heap.objs.size) { s with heap:=s.heap.push { cls:=.type "tuple",data:=.seq ((items.toList.drop (sIx items.size 0 lo)).take (sIx items.size items.size hi-sIx items.size 0 lo)).toArray } })
  (hsz:items.size<=sizeLine):wpAny (model prog w) A (getItem (.ref t) (.ref sl)) Q E s:=by
 have htake:sizeOk (.seq ((items.toList.drop (sIx items.size 0 lo)).take (sIx items.size items.size hi-sIx items.size 0 lo)).toArray):=by
  show((items.toList.drop (sIx items.size 0 lo)).take (sIx items.size items.size hi-sIx items.size 0 lo)).toArray.size<=sizeLine
  rw[List.size_toArray,List.length_take,List.length_drop,Array.length_toList]
  omega
 have hj:sIx items.size items.size hi<=items.size:=j1x _ _ (Nat.le_refl _) hi
 obtain⟨os,hos,hcs,hds⟩:=id hs
 have hTs:s.TypeIs (.ref sl) "slice":=⟨os,hos,hcs⟩
 unfold getItem
 try with_reducible refine wpAny_holding ?_
 first | refine wpAny_bind (wpAny_pure ?_) | skip
 refine wpAny_bind (wpAny_sequenceKey ht.typeIs (by decide) ?_)
 refine wpAny_bind (wpAny_callSpecial?_slot (name:=Str.ofString "__getitem__") ht.typeIs PyProof.Rows.slot_tuple_getitem
  (wpAny_call_entry PyProof.Rows.slot_tuple_getitem ht.typeIs entry_tuple_getitem ?_ (args_tuple_getitem _ _)))
 show wpAny _ _ (Builtin.Tuple.tupleItemsOf (.ref t) >>= _) _ _ s
 refine wpAny_bind (tupleItemsOf_ ht ?_)
 refine wpAny_bind (wpAny_typeOf hTs ?_)
 rw[if_pos (by decide)]
 refine wpAny_bind (y0n hs pl pu ?_)
 have hno:¬ ((((sIx items.size 0 lo:Nat):Int) == 0 && (1:Int) == 1 && (sIx items.size items.size hi-sIx items.size 0 lo) == items.size)=true):=by
  intro q
  rw[Bool.and_eq_true,Bool.and_eq_true]at q
  have q1:((sIx items.size 0 lo:Nat):Int)=0:=eq_of_beq q.1.1
  have q2:sIx items.size items.size hi-sIx items.size 0 lo=items.size:=eq_of_beq q.2
  exact hw ⟨by omega,by omega⟩
 show wpAny _ _ (if(((sIx items.size 0 lo:Nat):Int) == 0 && (1:Int) == 1 && (sIx items.size items.size hi-sIx items.size 0 lo) == items.size)=true then _ else _) _ _ s
 rw[if_neg hno,z3w]
 first
  | exact wpAny_bind (m:=Builtin.Tuple.tupleExact _) (wpAny_newObj_type (wpAny_pure ⟨_,rfl,wpAny_pure h⟩) htake)
  | exact wpAny_bind (m:=Builtin.Tuple.tupleExact _) (wpAny_newObj_type (wpAny_bind (wpAny_pure (wpAny_pure ⟨_,rfl,wpAny_pure h⟩))) htake)
  | exact wpAny_bind (wpAny_bind (m:=Builtin.Tuple.tupleExact _) (wpAny_newObj_type (wpAny_pure (wpAny_pure ⟨_,rfl,wpAny_pure h⟩)) htake))
  | exact wpAny_bind (wpAny_bind (m:=Builtin.Tuple.tupleExact _) (wpAny_newObj_type (wpAny_pure ⟨_,rfl,wpAny_pure h⟩) htake))
end
end HT
namespace L2
open PySem PySem.Spec PyProof.Rows
noncomputable abbrev TO:=St->Hp->(Option Int->Hp->Prop)->Prop
noncomputable def PO (X:Cx) (e:Option Expr) (t:TO):Prop:=
 ∀ (pins:List (Addr × Obj)) (s:Shared) (σ:St) (H:Hp) (Q:Option Int->Hp->Prop),Inv X pins σ H s->t σ H Q->
  wpAny (model X.prog X.w) X.A (evalPart e X.env) (fun u s'=>∃ o H',Inv X pins σ H' s'/\IsPart u o/\Q o H') X.xe s
noncomputable def z92:TO:=fun _ H Q=>Q none H
noncomputable def j54 (t:TE):TO:=fun σ H Q=>t σ H fun x H1=>∃ i,x=.int i/\Q (some i) H1
section
variable {X:Cx} {e:Expr} {te:TE} {lo hi:Option Expr} {tl th:TO} {pos p2:Pos}
theorem z8k:PO X none z92:=by
 intro pins s σ H Q I h
 rw[evalPart_none]
 exact wpAny_pure ⟨none,H,I,.none,h⟩
theorem z7m (h:PE X e te):PO X (some e) (j54 te):=by
 intro pins s σ H Q I hw
 rw[evalPart_some]
 refine thn (h pins s σ H _ I hw) fun u s1 hh0=>?_
 obtain⟨x,H1,I1,r1,q1⟩:=hh0
 obtain⟨i,rfl,q⟩:=q1
 obtain⟨t,rfl⟩:=r1
 exact⟨some i,H1,I1,.int i t,q⟩
noncomputable def SlR (X:Cx) (r:V->Option Int->Option Int->Hp->VK->Prop):Prop:=
 ∀ (pins:List (Addr × Obj)) (s:Shared) (σ:St) (H:Hp) (x:V) (v vl vu:Value) (lo hi:Option Int) (sl:Addr) (Q:VK),Inv X pins σ H s->x47 x v->s.heap.IsSliceOf sl vl vu .none->IsPart vl lo->IsPart vu hi->r x lo hi H Q->
  ∃ T id,typeLookup (.type T) "__getitem__" = pure (some (.builtin id))/\s.TypeIs v T/\wpAny (model X.prog X.w) X.A (getItem v (.ref sl)) (EP X pins σ Q) X.xe s
theorem SlR.or {r r':V->Option Int->Option Int->Hp->VK->Prop} (h:SlR X r) (h':SlR X r'):SlR X (fun x lo hi H Q=>r x lo hi H Q\/r' x lo hi H Q):=by
 intro pins s σ H x v vl vu lo hi sl Q I rx hs pl pu q
 rcases q with q | q
 ·exact h pins s σ H x v vl vu lo hi sl Q I rx hs pl pu q
 ·exact h' pins s σ H x v vl vu lo hi sl Q I rx hs pl pu q
noncomputable def tSl (r:V->Option Int->Option Int->Hp->VK->Prop) (te:TE) (tl th:TO):TE:=fun σ H Q=>te σ H fun x H1=>tl σ H1 fun l H2=>th σ H2 fun u H3=>r x l u H3 Q
theorem z34 {r:V->Option Int->Option Int->Hp->VK->Prop} (hr:SlR X r) (he:PE X e te) (hl:PO X lo tl) (hu:PO X hi th):PE X (.Subscript e (.Slice lo hi none p2) pos) (tSl r te tl th):=by
 intro pins s σ H Q I h
 refine Subscript_ (thn (he pins s σ H _ I h) fun v s1 hh0=>?_)
 obtain⟨x,H1,I1,r1,q1⟩:=hh0
 refine wpAny_Slice (thn (hl pins s1 σ H1 _ I1 q1) fun vl s2 ⟨l,H2,I2,pl,q2⟩=>thn (hu pins s2 σ H2 _ I2 q2) fun vu s3 hh0=>?_)
 obtain⟨u,H3,I3,pu,q3⟩:=hh0
 rw[evalPart_none]
 refine wpAny_pure ?_
 have I4:Inv X pins σ H3 { s3 with heap:=s3.heap.push { cls:=.type "slice",data:=.fields #[vl,vu,.none] } }:=I3.kept (t':=s3.toks) fun b ob q=>Heap.get?_push_of_some _ q
 obtain⟨T,id,hT,ht,hg⟩:=hr pins { s3 with heap:=s3.heap.push { cls:=.type "slice",data:=.fields #[vl,vu,.none] } } σ H3 x v vl vu l u s3.heap.objs.size Q I4 r1 (Heap.IsSliceOf.new ..) pl pu q3
 show wpAny (model X.prog X.w) X.A (subscriptTail e (.Slice lo hi none p2) v (.ref s3.heap.objs.size)) (EP X pins σ Q) X.xe { s3 with heap:=s3.heap.push { cls:=.type "slice",data:=.fields #[vl,vu,.none] } }
 exact tail_any (ops:=[.ref s3.heap.objs.size,v]) ht hT hg (by with_unfolding_all rfl)
noncomputable def z62 (xs:List V) (lo hi:Option Int):List V:=(xs.drop (HT.sIx xs.length 0 lo)).take (HT.sIx xs.length xs.length hi-HT.sIx xs.length 0 lo)
theorem y17 (xs:List V) (lo hi:Option Int):(z62 xs lo hi).length<=xs.length:=by
 unfold z62
 rw[List.length_take,List.length_drop]
 omega
noncomputable def j6n (K:PySem.W.Frag):V->Option Int->Option Int->Hp->VK->Prop:=fun x lo hi H Q=>∃ a xs,x=.ref a/\SqT K H a xs /\
 ¬ (HT.sIx xs.length 0 lo=0/\HT.sIx xs.length xs.length hi=xs.length)/\∀ p,H p=none->Q (.ref p) (upd H p (.tup (z62 xs lo hi)))
theorem j0q:SlR X (j6n X.K):=by
 intro pins s σ H x v vl vu lo hi sl Q I rx hs pl pu h
 obtain⟨a,xs,rfl,hx,hw,q⟩:=h
 cases rx
 obtain⟨its,r,ht,hz⟩:=I.tuple hx
 have hlen:its.toArray.size=xs.length:=by rw[List.size_toArray]; exact r.length.symm
 refine⟨"tuple",_,PyProof.Rows.slot_tuple_getitem.lookup,ht.typeIs,?_⟩
 refine HT.y8u ht hs pl pu (by rw[hlen]; exact hw) ?_ (by rw[hlen]; exact hz)
 rw[hlen]
 refine⟨.ref s.heap.objs.size,_,I.laid (t':=s.toks) (o:=.tup (z62 xs lo hi)) (fun b ob q=>Heap.get?_push_of_some _ q) (Nat.le_refl _) ?_,rfl,q _ (I.hok.fresh (Nat.le_refl _))⟩
 exact⟨Nat.le_trans (y17 xs lo hi) hz,_,(r.drop (HT.sIx xs.length 0 lo)).take (HT.sIx xs.length xs.length hi-HT.sIx xs.length 0 lo),x54.new _ _⟩
noncomputable def j56 (K:PySem.W.Frag):R2:=fun x y H Q=>∃ a b xs ys,x=.ref a/\y=.ref b/\SqT K H a xs/\SqT K H b ys/\xs ≠ []/\xs.length+ys.length<=sizeLine /\
 (ys=[]->Q (.ref a) H)/\(ys ≠ []->∀ p,H p=none->Q (.ref p) (upd H p (.tup (xs++ys))))
theorem x2z.nil_iff {xs:List V} {us:List Value} (r:x2z xs us):us=[] ↔ xs=[]:=by
 cases r with
 | nil=>simp
 | cons _ _=>simp
theorem z6j:OpR X (binaryOp .Add) (j56 X.K):=by
 intro pins s σ H x y v u Q I rx ry h
 obtain⟨a,b,xs,ys,rfl,rfl,ha,hb,hx,hz,q1,q2⟩:=h
 cases rx
 cases ry
 obtain⟨its,r1,p1,_⟩:=I.tuple ha
 obtain⟨its2,r2,p2,_⟩:=I.tuple hb
 refine HT.j5x p1 p2 (fun z=>hx (r1.nil_iff.mp z)) (fun z=>⟨.ref a,H,I,rfl,q1 (r2.nil_iff.mp z)⟩) (fun z=>?_) (by rw[<- r1.length,<- r2.length]; exact hz)
 refine⟨.ref s.heap.objs.size,_,I.laid (t':=s.toks) (o:=.tup (xs++ys)) (fun b ob q=>Heap.get?_push_of_some _ q) (Nat.le_refl _) ?_,rfl,q2 (fun w=>z (r2.nil_iff.mpr w)) _ (I.hok.fresh (Nat.le_refl _))⟩
 exact⟨by rw[List.length_append]; exact hz,_,r1.append r2,x54.new _ _⟩
end
noncomputable def ixN (n:Nat) (i:Int):Option Nat:=if 0<=i then(if i<n then some i.toNat else none)else if -(n:Int)<=i then some (i+n).toNat else none
noncomputable def atI {α:Type} (xs:List α) (i:Int):Option α:=(ixN xs.length i).bind fun j=>xs[j]?
theorem y6e {n:Nat} {i:Int} {j:Nat} (h:ixN n i=some j):seqIndex? i n=some j/\j<n /\ -(n:Int)<=i/\i<n:=by
 unfold ixN at h
 by_cases h0:0<=i
 ·rw[if_pos h0]at h
  by_cases h1:i<n
  ·rw[if_pos h1]at h
   have e:i.toNat=j:=Option.some.inj h
   exact⟨by rw[seqIndex_of h0 h1,e],by omega,by omega,h1⟩
  ·rw[if_neg h1]at h; cases h
 ·rw[if_neg h0]at h
  by_cases h1:-(n:Int)<=i
  ·rw[if_pos h1]at h
   have e:(i+n).toNat=j:=Option.some.inj h
   exact⟨by rw[seqIndex_neg (by omega) h1,e],by omega,h1,by omega⟩
  ·rw[if_neg h1]at h; cases h
theorem y6r {α:Type} {xs:List α} {i:Int} {v:α} (h:atI xs i=some v):∃ j,seqIndex? i xs.length=some j/\xs[j]? = some v/\j<xs.length /\ -(xs.length:Int)<=i/\i<xs.length:=by
 unfold atI at h
 cases e:ixN xs.length i with
 | none=>rw[e]at h; cases h
 | some j=>
  rw[e]at h
  obtain⟨h1,h2,h3,h4⟩:=y6e e
  exact⟨j,h1,h,h2,h3,h4⟩
theorem z6q {α:Type} {xs:List α} {j:Nat} {v:α} (h:xs[j]? = some v):atI xs (j:Int)=some v:=by
 have hj:j<xs.length:=(List.getElem?_eq_some_iff.mp h).1
 have e:ixN xs.length (j:Int)=some j:=by
  unfold ixN
  rw[if_pos (by omega),if_pos (by omega)]; simp
 unfold atI; rw[e]; exact h
noncomputable def x4n (b:Expr):Prop:=∀ o i,subscripted b false o i=operate [o,i] (getItem o i)
noncomputable def IxR (X:Cx) (r:R2):Prop:=
 ∀ (value slice:Expr) (pins:List (Addr × Obj)) (s:Shared) (σ:St) (H:Hp) (x y:V) (v u:Value) (Q:VK),Inv X pins σ H s->x47 x v->x47 y u->r x y H Q->
  subscripted slice false v u=operate [v,u] (getItem v u)->wpAny (model X.prog X.w) X.A (subscriptTail value slice v u) (EP X pins σ Q) X.xe s
noncomputable def MtR (X:Cx) (id:String) (r:V->List V->Hp->VK->Prop):Prop:=
 ∀ (pins:List (Addr × Obj)) (s:Shared) (σ:St) (H:Hp) (x:V) (xs:List V) (v:Value) (us:List Value) (Q:VK),Inv X pins σ H s->x47 x v->x2z xs us->r x xs H Q->
  wpAny (model X.prog X.w) X.A (call (.builtin id) (v::us)) (EP X pins σ Q) X.xe s
section
variable {X:Cx} {a b:Expr} {ta tb:TE} {pos:Pos}
theorem IxR.or {r r':R2} (h:IxR X r) (h':IxR X r'):IxR X (fun x y H Q=>r x y H Q\/r' x y H Q):=by
 intro value slice pins s σ H x y v u Q I rx ry q hs
 rcases q with q | q
 ·exact h value slice pins s σ H x y v u Q I rx ry q hs
 ·exact h' value slice pins s σ H x y v u Q I rx ry q hs
theorem z1w {r:R2} (hr:IxR X r) (ha:PE X a ta) (hb:PE X b tb) (hs:x4n b):PE X (.Subscript a b pos) (tOp r ta tb):=by
 intro pins s σ H Q I h
 exact Subscript_ (j4p ha hb I h fun v u s2 x y H2 I2 rx ry q=>hr a b pins s2 σ H2 x y v u Q I2 rx ry q (hs _ _))
noncomputable def j6d (K:PySem.W.Frag):R2:=fun x y H Q=>∃ p xs i v,x=.ref p/\y=.int i/\SqL K H p xs/\atI xs i=some v/\Q v H
noncomputable def j6b (K:PySem.W.Frag):R2:=fun x y H Q=>∃ p xs i v,x=.ref p/\y=.int i/\SqT K H p xs/\atI xs i=some v/\Q v H
noncomputable def j65:R2:=fun x y H Q=>∃ z i c,x=.str z/\y=.int i/\z.length<=sizeLine/\atI z.cps.toList i=some c/\Q (.str ⟨#[c]⟩) H
theorem z9g:IxR X (j6d X.K):=by
 intro value slice pins s σ H x y v u Q I rx ry h hs
 obtain⟨p,xs,i,z,rfl,rfl,hq,he,q⟩:=h
 cases rx
 obtain⟨t,rfl⟩:=ry
 obtain⟨its,r,pl,hz⟩:=I.list hq
 obtain⟨j,h1,h2,h3,h4,h5⟩:=y6r he
 obtain⟨w,ew,rw'⟩:=r.get h2
 have hl:=r.length
 have hn:=y39
 have fin:EP X pins σ Q w s:=⟨z,H,I,rw',q⟩
 by_cases h0:0<=i
 ·have hj:i.toNat=j:=by
   rw[seqIndex_of h0 h5]at h1
   exact Option.some.inj h1
  exact item_listR pl.isList h0 (by omega) (by rw[hj]; simpa using ew) fin hs
 ·have hj:(i+(its.toArray.size:Int)).toNat=j:=by
   rw[seqIndex_neg (by omega) h4]at h1
   rw[List.size_toArray,<- hl]
   exact Option.some.inj h1
  exact subscriptTail_builtinR (x:=w) pl.isList.typeIs slot_list_getitem.lookup
   (wpAny_getItem_list_neg (Q:=fun r s'=>r=w/\EP X pins σ Q r s') pl.isList (by omega) (by rw[List.size_toArray] <;> omega) (by omega) (by rw[hj]; simpa using ew) ⟨rfl,fin⟩) hs
theorem j1j:IxR X (j6b X.K):=by
 intro value slice pins s σ H x y v u Q I rx ry h hs
 obtain⟨p,xs,i,z,rfl,rfl,hq,he,q⟩:=h
 cases rx
 obtain⟨t,rfl⟩:=ry
 obtain⟨its,r,pl,hz⟩:=I.tuple hq
 obtain⟨j,h1,h2,h3,h4,h5⟩:=y6r he
 obtain⟨w,ew,rw'⟩:=r.get h2
 have hl:=r.length
 have hn:=y39
 have fin:EP X pins σ Q w s:=⟨z,H,I,rw',q⟩
 exact subscriptTail_builtinR (x:=w) pl.typeIs slot_tuple_getitem.lookup
  (getItem_tuple (j:=j) (Q:=fun r s'=>r=w/\EP X pins σ Q r s') pl (by omega) (by omega) (by rw[List.size_toArray,<- hl]; exact h1) (by simpa using ew) ⟨rfl,fin⟩) hs
theorem j3c:IxR X j65:=by
 intro value slice pins s σ H x y v u Q I rx ry h hs
 obtain⟨z,i,c,rfl,rfl,hz,he,q⟩:=h
 obtain⟨t,rfl⟩:=rx
 obtain⟨t',rfl⟩:=ry
 obtain⟨j,h1,h2,h3,h4,h5⟩:=y6r he
 have hl:z.cps.toList.length=z.length:=by simp[Str.length]
 rw[hl]at h1 h4 h5
 have hn:=y39
 exact tail_any (typeIs_str s z t) slot_str_getitem.lookup (getItem_str (c:=c) (by
  have e1:decide (i < -(2 ^ 63:Int))=false:=decide_eq_false (by omega)
  have e2:decide (i ≥ 2 ^ 63)=false:=decide_eq_false (by omega)
  rw[e1,e2,Bool.or_false]) (by rw[h1]; simpa using h2) ⟨.str ⟨#[c]⟩,H,I.tok _,⟨_,rfl⟩,q⟩) hs
noncomputable def rIx (K:PySem.W.Frag):R2:=fun x y H Q=>j6d K x y H Q\/j6b K x y H Q\/j65 x y H Q
theorem y5o:IxR X (rIx X.K):=z9g.or (j1j.or j3c)
theorem y99 (its:List Value) (n j:Nat) (u:Value):Obj.mapSeq (·.setIfInBounds j u) { cls:=.type "list",data:=.seq its.toArray n }={ cls:=.type "list",data:=.seq (its.set j u).toArray n }:=by
 simp[Obj.mapSeq]
theorem Inv.lst {pins:List (Addr × Obj)} {σ:St} {H:Hp} {s:Shared} {p:Addr} {xs:List V} (I:Inv X pins σ H s) (h:H p=some (.lst xs)) :
  ∃ (its:List Value) (n:Nat),x2z xs its/\s.heap.get? p=some { cls:=.type "list",data:=.seq its.toArray n }/\xs.length<=sizeLine:=by
 obtain⟨z,its,n,r,e⟩:=I.hok p _ h
 exact⟨its,n,r,e,z⟩
theorem Inv.lstUpd {pins:List (Addr × Obj)} {σ:St} {H:Hp} {s:Shared} {p:Addr} {xs ys:List V} {its its':List Value} {n n':Nat} {f:Obj->Obj} (I:Inv X pins σ H s) (h:H p=some (.lst xs))
  (ho:s.heap.get? p=some { cls:=.type "list",data:=.seq its.toArray n }) (hf:f { cls:=.type "list",data:=.seq its.toArray n }={ cls:=.type "list",data:=.seq its'.toArray n' }) (r:x2z ys its') (hz:ys.length<=sizeLine) (t:Nat) :
  Inv X pins σ (upd H p (.lst ys)) { s with heap:=s.heap.update p f,toks:=t }:=by
 have e:(s.heap.update p f).get? p=some { cls:=.type "list",data:=.seq its'.toArray n' }:=by
  rw[Heap.get?_update_self f ho (by rw[hf] <;> rfl),hf]
 refine I.write (x:=p) (e:=p) (by rw[h]; trivial) (.inl rfl) (fun b u hb q=>(Heap.get?_update_other _ _ (Ne.symm hb)).trans q) ⟨_,e⟩ ?_
 exact⟨hz,its',n',r,e⟩
noncomputable def j5z:V->V->V->Hp->(Hp->Prop)->Prop:=fun o i v H Q=>∃ p xs k j,o=.ref p/\i=.int k/\H p=some (.lst xs)/\ixN xs.length k=some j/\Q (upd H p (.lst (xs.set j v)))
theorem y8r:j61 X j5z:=by
 intro pins s σ H o i v ov iv u Q I ro ri rv h
 obtain⟨p,xs,k,j,rfl,rfl,hp,hj,q⟩:=h
 cases ro
 obtain⟨t,rfl⟩:=ri
 obtain⟨its,n,r,ho,hz⟩:=I.lst hp
 obtain⟨h1,h2,h3,h4⟩:=y6e hj
 have hl:=r.length
 have hn:=y39
 have I':Inv X pins σ (upd H p (.lst (xs.set j v))) { s with heap:=s.heap.update p (Obj.mapSeq (·.setIfInBounds j u)) }:=
  I.lstUpd hp ho (y99 its n j u) (r.set rv j) (by rw[List.length_set]; exact hz) s.toks
 by_cases h0:0<=k
 ·have hk:k.toNat=j:=by
   rw[seqIndex_of h0 h4]at h1
   exact Option.some.inj h1
  exact PySem.W.ki_setAt ho h0 (by omega) (by rw[List.size_toArray,<- hl]; exact h4) (by rw[hk]; exact⟨_,I',q⟩)
 ·have hk:(k+(its.toArray.size:Int)).toNat=j:=by
   rw[seqIndex_neg (by omega) h3]at h1
   rw[List.size_toArray,<- hl]
   exact Option.some.inj h1
  exact PySem.W.ki_setBack ho (by omega) (by rw[List.size_toArray,<- hl]; exact h3) (by omega) (by rw[hk]; exact⟨_,I',q⟩)
theorem y4t (lo hi:Option Int) (n:Nat):(sliceBounds lo hi none n).1=((HT.sIx n 0 lo:Nat):Int)/\(sliceBounds lo hi none n).2.1=((HT.sIx n n hi:Nat):Int)/\(sliceBounds lo hi none n).2.2=1:=by
 refine⟨?_,?_,rfl⟩
 ·cases lo with
  | none=>simp[sliceBounds,HT.sIx]
  | some i=>
   simp only[sliceBounds,HT.sIx,Option.getD_none,show(1:Int) > 0 by decide,if_true]
   by_cases h:i<0
   ·simp only[h,if_true] <;> omega
   ·simp only[h,if_false] <;> omega
 ·cases hi with
  | none=>simp[sliceBounds,HT.sIx]
  | some i=>
   simp only[sliceBounds,HT.sIx,Option.getD_none,show(1:Int) > 0 by decide,if_true]
   by_cases h:i<0
   ·simp only[h,if_true] <;> omega
   ·simp only[h,if_false] <;> omega
theorem y3v (its:List Value) (lo hi:Option Int):slicePick its.toArray lo hi none=((its.drop (HT.sIx its.length 0 lo)).take (HT.sIx its.length its.length hi-HT.sIx its.length 0 lo)).toArray:=by
 obtain⟨h1,h2,h3⟩:=y4t lo hi its.toArray.size
 unfold slicePick
 rw[h1,h2,h3]
 simp only[sliceRange_one,pick_run,List.size_toArray] <;> rfl
noncomputable def j6q (K:PySem.W.Frag):V->Option Int->Option Int->Hp->VK->Prop:=fun x lo hi H Q=>∃ a xs,x=.ref a/\SqL K H a xs/\∀ p,H p=none->Q (.ref p) (upd H p (.lst (z62 xs lo hi)))
theorem j58:SlR X (j6q X.K):=by
 intro pins s σ H x v vl vu lo hi sl Q I rx hs pl pu h
 obtain⟨a,xs,rfl,hx,q⟩:=h
 cases rx
 obtain⟨its,r,ht,hz⟩:=I.list hx
 have hlen:=r.length
 refine⟨"list",_,slot_list_getitem.lookup,ht.isList.typeIs,?_⟩
 refine wpAny_getItem_list_slice ht.isList hs pl pu .none (by simp) ?_ (by rw[List.size_toArray] <;> omega)
 rw[y3v,<- hlen]
 refine⟨.ref s.heap.objs.size,_,I.laid (t':=s.toks) (o:=.lst (z62 xs lo hi)) (fun b ob q=>Heap.get?_push_of_some _ q) (Nat.le_refl _) ?_,rfl,q _ (I.hok.fresh (Nat.le_refl _))⟩
 exact⟨Nat.le_trans (y17 xs lo hi) hz,_,0,(r.drop (HT.sIx xs.length 0 lo)).take (HT.sIx xs.length xs.length hi-HT.sIx xs.length 0 lo),Heap.get?_push_size _ rfl⟩
theorem x6h:y0u X (.builtin "len") (fun xs H Q=>∃ p ys,xs=[.ref p]/\(SqL X.K H p ys\/SqT X.K H p ys)/\Q (.int ys.length) H):=by
 intro pins s σ H xs us Q I r h
 obtain⟨p,ys,rfl,hq,q⟩:=h
 obtain⟨u,rfl,rx⟩:=y3o r
 cases rx
 have hn:=y39
 rcases hq with hq | hq
 ·obtain⟨its,r',pl,hz⟩:=I.list hq
  have hlen:=r'.length
  exact Calls.call_len_list pl.isList (by simp only[List.size_toArray] <;> omega) ⟨.int ys.length,H,I.tok _,⟨s.toks+1,by rw[List.size_toArray,hlen]⟩,q⟩
 ·obtain⟨its,r',pl,hz⟩:=I.tuple hq
  have hlen:=r'.length
  exact len_tuple pl (by simp only[List.size_toArray] <;> omega) ⟨.int ys.length,H,I.tok _,⟨s.toks+1,by rw[List.size_toArray,hlen]⟩,q⟩
theorem y0i:y0u X (.type "list") (fun xs H Q=>∃ p ys,xs=[.ref p]/\(SqL X.K H p ys\/SqT X.K H p ys)/\∀ l,H l=none->Q (.ref l) (upd H l (.lst ys))):=by
 intro pins s σ H xs us Q I r h
 obtain⟨p,ys,rfl,hq,q⟩:=h
 obtain⟨u,rfl,rx⟩:=y3o r
 cases rx
 have fin:∀ (its:List Value),x2z ys its->ys.length<=sizeLine->∀ (h':Heap) (c':Nat),(∀ b o',s.heap.get? b=some o'->h'.get? b=some o')->
   h'.get? s.heap.objs.size=some { cls:=.type "list",dict:=none,data:=.seq its.toArray c',slots:=#[] }->EP X pins σ Q (.ref s.heap.objs.size) { s with heap:=h' }:=fun its r' hz h' c' kp e=>
  ⟨.ref s.heap.objs.size,_,I.laid (t':=s.toks) kp (Nat.le_refl _) (show x37 X.prog X.w _ h' _ (.lst ys)from⟨hz,its,c',r',e⟩),rfl,q _ (I.hok.fresh (Nat.le_refl _))⟩
 rcases hq with hq | hq
 ·obtain⟨its,r',pl,hz⟩:=I.list hq
  have hlen:=r'.length
  obtain⟨o,ho,hc,n,hd⟩:=pl.isList
  exact call_list_seq p (.inl rfl) ho hc hd (fun h' c' kp e=>fin its r' hz h' c' kp e) (by simp only[List.size_toArray] <;> omega)
 ·obtain⟨its,r',pl,hz⟩:=I.tuple hq
  have hlen:=r'.length
  obtain⟨o,ho,hc,n,hd⟩:=pl
  exact call_list_seq p (.inr rfl) ho hc hd (fun h' c' kp e=>fin its r' hz h' c' kp e) (by simp only[List.size_toArray] <;> omega)
theorem y4h:y0u X (.type "tuple") (fun xs H Q=>∃ p ys,xs=[.ref p]/\((SqL X.K H p ys/\∀ l,H l=none->Q (.ref l) (upd H l (.tup ys)))\/(SqT X.K H p ys/\Q (.ref p) H))):=by
 intro pins s σ H xs us Q I r h
 obtain⟨p,ys,rfl,h⟩:=h
 obtain⟨u,rfl,rx⟩:=y3o r
 cases rx
 rcases h with⟨hq,q⟩ | ⟨hq,q⟩
 ·obtain⟨its,r',pl,hz⟩:=I.list hq
  have hlen:=r'.length
  refine call_tuple_list pl.isList (fun h' kp=>?_) (by simp only[List.size_toArray] <;> omega)
  have I1:Inv X pins σ H { s with heap:=h' }:=I.kept (t':=s.toks) kp
  have I2:Inv X pins σ (upd H h'.objs.size (.tup ys)) { s with heap:=h'.push { cls:=.type "tuple",data:=.seq its.toArray } }:=
   I1.laid (t':=s.toks) (fun b o e=>Heap.get?_push_of_some _ e) (Nat.le_refl _) (show x37 X.prog X.w _ _ _ (.tup ys)from⟨hz,its,r',x54.new _ _⟩)
  exact⟨.ref h'.objs.size,_,I2,rfl,q _ (I1.hok.fresh (Nat.le_refl _))⟩
 ·obtain⟨its,r',pl,hz⟩:=I.tuple hq
  exact call_tuple_same pl ⟨.ref p,H,I,rfl,q⟩
noncomputable def tyV (K:PySem.W.Frag) (T:String) (x:V) (H:Hp):Prop:=match x with
 | .str _=>T = "str"
 | .int _=>T = "int"
 | .ref p=>(T = "list" /\ ∃ xs,SqL K H p xs)\/(T = "tuple" /\ ((∃ o,K.lookup p=some o/\o.cls=.type "tuple" /\ o.dict=none)\/∃ xs,H p=some (.tup xs))) \/
   (T = "dict" /\ ((∃ kvs,H p=some (.dK kvs))\/∃ kvs,H p=some (.dT kvs)))\/(T = "set" /\ ∃ S n,H p=some (.set S n))
 | _=>False
theorem j22 {pins:List (Addr × Obj)} {σ:St} {H:Hp} {s:Shared} {T:String} {x:V} {v:Value} (I:Inv X pins σ H s) (r:x47 x v) (ty:tyV X.K T x H) :
  s.TypeIs v T/\∀ a,v=.ref a->∃ ob,s.heap.get? a=some ob/\ob.dict=none:=by
 cases x with
 | str z=>
  obtain⟨t,rfl⟩:=r
  cases (show T = "str" from ty)
  exact⟨typeIs_str s z t,fun _ e=>nomatch e⟩
 | int i=>
  obtain⟨t,rfl⟩:=r
  cases (show T = "int" from ty)
  exact⟨typeIs_int s i t,fun _ e=>nomatch e⟩
 | ref p=>
  cases r
  rcases ty with⟨rfl,xs,hq⟩ | ⟨rfl,⟨o,hk,hc,hd⟩ | ⟨xs,hk⟩⟩ | ⟨rfl,hk⟩ | ⟨rfl,S,n,hk⟩
  ·obtain⟨its,_,pl,_⟩:=I.list hq
   refine⟨pl.isList.typeIs,fun a e=>?_⟩
   cases e
   obtain⟨o,n,e,c,hd,_⟩:=pl
   exact⟨o,e,hd⟩
  ·refine⟨⟨o,I.kIn p o hk,hc⟩,fun a e=>?_⟩
   cases e
   exact⟨o,I.kIn _ o hk,hd⟩
  ·obtain⟨_,its,_,o,e,c,_,hd⟩:=(show x37 X.prog X.w H s.heap p (.tup xs)from I.hok p _ hk)
   refine⟨⟨o,e,c⟩,fun a e2=>?_⟩
   cases e2
   exact⟨o,e,hd⟩
  ·have z:∃ o,s.heap.get? p=some o/\o.ExactDict:=by
    rcases hk with⟨kvs,hk⟩ | ⟨kvs,hk⟩
    ·obtain⟨_,_,_,_,o,_,_,e,ex,_⟩:=I.hok p _ hk
     exact⟨o,e,ex⟩
    ·obtain⟨_,_,_,_,o,_,_,e,ex,_⟩:=I.hok p _ hk
     exact⟨o,e,ex⟩
   obtain⟨o,e,ex⟩:=z
   refine⟨⟨o,e,ex.1⟩,fun a e2=>?_⟩
   cases e2
   exact⟨o,e,ex.2.1⟩
  ·obtain⟨o,_,_,_,e,ex,_⟩:=I.hok p _ hk
   refine⟨⟨o,e,ex.1⟩,fun a e2=>?_⟩
   cases e2
   exact⟨o,e,ex.2.1⟩
 | _=>exact False.elim ty
noncomputable def tBM (K:PySem.W.Frag) (T:String) (r:V->List V->Hp->VK->Prop) (to:TE) (t:TA):TE:=fun σ H Q=>to σ H fun x H1=>tyV K T x H1/\t σ H1 fun xs H2=>r x xs H2 Q
variable {o e:Expr} {es:List Expr} {to:TE} {t:TA} {name:Str} {apos cpos:Pos} {T id:String} {r:V->List V->Hp->VK->Prop}
theorem z4m (pa:PlainAttrs T) (slot:Slot T name id) (hty:typeOf (.builtin id)=pure (.type "method_descriptor")) (hm:MtR X id r) (ho:PE X o to) (ha:PA X (e::es) t)
  (hbase:attributeBase o name X.env (eval o X.env)=eval o X.env:=by rfl)
  (hfew:((backTo cpos (starEach (e::es) X.env)).all (fun x=>!x.1) && (backToKw cpos (keywordEach [] X.env)).all (fun x=>x.1.isSome)
    && decide ((e::es).length+([]:List Keyword).length+(if([]:List Keyword).isEmpty then 0 else 1)<30))=true:=by rfl)
  (hline:(apos.endLine == cpos.line)=true:=by rfl) (hs:starEach (e::es) X.env=(false,eval e X.env)::starEach es X.env:=by rfl) (hplain:(backTo cpos (starEach es X.env)).any (·.1)=false:=by rfl) :
  PE X (.Call (.Attribute o name apos) (e::es) [] cpos) (tBM X.K T r to t):=by
 intro pins s σ H Q I h
 refine wpAny_Call_method_late hbase hfew hline rfl (thn (ho pins s σ H _ I h) fun v s1 hh0=>?_)
 obtain⟨x,H1,I1,r1,ty,q1⟩:=hh0
 obtain⟨h1,h2⟩:=j22 I1 r1 ty
 refine⟨T,id,pa,slot,hty,h1,h2,?_⟩
 have hA:=ha cpos pins s1 σ H1 _ I1 q1
 rw[hs]at hA ⊢
 refine Calls.callWith_builtin (by show(false || (backTo cpos (starEach es X.env)).any (·.1))=false; rw[hplain] <;> rfl) (Calls.evalArgs_plain ?_)
 exact thn hA fun us s2 ⟨vs,H2,I2,r2,q2⟩=>hm pins s2 σ H2 x vs v us Q I2 r1 r2 q2
end
noncomputable def MtM (X:Cx) (id:String) (r:V->List V->Hp->VK->Prop):Prop:=
 ∀ (pins:List (Addr × Obj)) (s:Shared) (σ:St) (H:Hp) (x:V) (xs:List V) (v:Value) (us:List Value) (Q:VK),Inv X pins σ H s->x47 x v->x2z xs us->r x xs H Q->
  wpAny (model X.prog X.w) X.A (call (.builtin id) (v::us)) (EP X pins σ Q) X.xe s
theorem x2z.one:∀ {x:V} {us:List Value},x2z [x] us->∃ u,us=[u]/\x47 x u
 | _,_,.cons r .nil=>⟨_,rfl,r⟩
theorem x2z.eraseIdx:∀ {xs:List V} {us:List Value} (i:Nat),x2z xs us->x2z (xs.eraseIdx i) (us.eraseIdx i)
 | _,_,_,.nil=>.nil
 | _,_,0,.cons _ t=>t
 | _,_,i+1,.cons r t=>.cons r (x2z.eraseIdx i t)
theorem x2z.rep {xs:List V} {us:List Value} (h:x2z xs us):∀ k:Nat,x2z (List.replicate k xs).flatten (List.replicate k us).flatten
 | 0=>.nil
 | k+1=>by
  rw[List.replicate_succ,List.replicate_succ,List.flatten_cons,List.flatten_cons]
  exact x2z.append h (x2z.rep h k)
theorem y5e {α:Type}:∀ (l:List α) (i:Nat),(l.eraseIdx i).length<=l.length
 | [],_=>Nat.le_refl _
 | _::_,0=>Nat.le_succ _
 | _::r,i+1=>Nat.succ_le_succ (y5e r i)
theorem y24 (its:List Value):∀ (k:Nat) (acc:List Value),
  List.foldl (fun x1 x2=>x1++x2) acc.toArray (List.replicate k its.toArray)=(acc++(List.replicate k its).flatten).toArray
 | 0,acc=>by simp
 | k+1,acc=>by
  have e:acc.toArray++its.toArray=(acc++its).toArray:=by simp
  have e2:(acc++its)++(List.replicate k its).flatten=acc++(List.replicate (k+1) its).flatten:=by
   rw[List.replicate_succ,List.flatten_cons,List.append_assoc]
  rw[<- e2,<- y24 its k (acc++its),<- e,List.replicate_succ,List.foldl_cons]
section
variable {X:Cx} {pins:List (Addr × Obj)} {σ:St} {H:Hp} {s:Shared} {l b:Addr} {xs ys zs:List V}
theorem Inv.lset {its its':List Value} {n:Nat} {f:Array Value->Array Value} {t':Nat} (I:Inv X pins σ H s) (hH:H l=some (.lst xs))
  (e:s.heap.get? l=some { cls:=.type "list",data:=.seq its.toArray n }) (hf:f its.toArray=its'.toArray) (hv:x2z ys its') (hz:ys.length<=sizeLine) :
  Inv X pins σ (upd H l (.lst ys)) { s with heap:=s.heap.update l (Obj.mapSeq f),toks:=t' }:=by
 have q:=PySem.IsL.update e f
 rw[hf]at q
 refine I.write (x:=l) (e:=l) (by rw[hH]; exact trivial) (.inl rfl) (fun b' u hb hu=>(Heap.get?_update_other s.heap (Obj.mapSeq f) (Ne.symm hb)).trans hu) ⟨_,q⟩ ?_
 exact⟨hz,its',_,hv,q⟩
theorem Inv.lnew {its:List Value} {t':Nat} (I:Inv X pins σ H s) (hv:x2z ys its) (hz:ys.length<=sizeLine) :
  Inv X pins σ (upd H s.heap.objs.size (.lst ys)) { s with heap:=s.heap.push { cls:=.type "list",data:=.seq its.toArray },toks:=t' }:=
 I.laid (fun _ _ q=>Heap.get?_push_of_some _ q) (Nat.le_refl _) ⟨hz,its,0,hv,Heap.get?_push_size _ rfl⟩
theorem Inv.fresh (I:Inv X pins σ H s):H s.heap.objs.size=none:=I.hok.fresh (Nat.le_refl _)
theorem Inv.lstM (I:Inv X pins σ H s) (hH:H l=some (.lst xs)):xs.length<=sizeLine/\∃ (its:List Value) (n:Nat),x2z xs its/\xs.length=its.length/\s.heap.get? l=some { cls:=.type "list",data:=.seq its.toArray n }:=by
 obtain⟨z,its,n,r,e⟩:=I.hok l _ hH
 exact⟨z,its,n,r,r.length,e⟩
theorem y7k {n:Nat} (h:n<=sizeLine):Builtin.List.listTooLong n=false:=by
 unfold Builtin.List.listTooLong
 exact decide_eq_false (by omega)
end
section
variable {X:Cx}
noncomputable def z9c:V->List V->Hp->VK->Prop:=fun x vs H Q=>∃ l xs y,x=.ref l/\vs=[y]/\H l=some (.lst xs)/\xs.length<sizeLine/\Q .non (upd H l (.lst (xs++[y])))
theorem z0c:MtM X "list.append" z9c:=by
 intro pins s σ H x vs v us Q I rx rv h
 obtain⟨l,xs,y,rfl,rfl,hH,hz,q⟩:=h
 cases rx
 obtain⟨u,rfl,ru⟩:=rv.one
 obtain⟨z,its,n,r,hl,e⟩:=I.lstM hH
 refine call_meets F.slot_list_append ⟨_,e,rfl⟩ F.entry_list_append (F.args_list_append_2 _ _) (PySem.list_append l its.toArray n u (by rw[List.size_toArray]; omega)) ⟨e,?_⟩
 refine⟨.non,_,I.lset (its':=its++[u]) hH e (by simp) (r.append (.cons ru .nil)) ?_,rfl,q⟩
 rw[List.length_append,List.length_singleton]
 omega
noncomputable def z9e:V->List V->Hp->VK->Prop:=fun x vs H Q=>∃ l b xs zs,x=.ref l/\vs=[.ref b]/\H l=some (.lst xs)/\H b=some (.lst zs)/\xs.length+zs.length<=sizeLine/\Q .non (upd H l (.lst (xs++zs)))
theorem z1r:MtM X "list.extend" z9e:=by
 intro pins s σ H x vs v us Q I rx rv h
 obtain⟨l,b,xs,zs,rfl,rfl,hH,hB,hz,q⟩:=h
 cases rx
 obtain⟨u,rfl,ru⟩:=rv.one
 cases ru
 obtain⟨z,its,n,r,hl,e⟩:=I.lstM hH
 obtain⟨z2,its2,n2,r2,hl2,e2⟩:=I.lstM hB
 have hsz:its.toArray.size+its2.toArray.size<=sizeLine:=by rw[List.size_toArray,List.size_toArray]; omega
 have hlong:¬ (!its.toArray.isEmpty && Builtin.List.listTooLong (its.toArray.size+its2.toArray.size))=true:=by
  rw[y7k hsz,Bool.and_false]
  exact Bool.false_ne_true
 refine call_meets F.slot_list_extend ⟨_,e,rfl⟩ F.entry_list_extend (F.args_list_extend_2 _ _)
  (AutoSeq1.list_extend_list_list_0 l its.toArray n b its2.toArray n2 hlong (by rw[List.size_toArray]; omega) (by omega)) ⟨e,e2,?_⟩
 refine⟨.non,_,I.lset (its':=its++its2) hH e (by simp) (r.append r2) ?_,rfl,q⟩
 rw[List.length_append]
 omega
noncomputable def j2t:V->List V->Hp->VK->Prop:=fun x vs H Q=>∃ l xs i k y,x=.ref l/\vs=[.int i]/\H l=some (.lst xs) /\ -(2 ^ 63)<=i/\i<2 ^ 63/\seqIndex? i xs.length=some k/\xs[k]? = some y/\Q y (upd H l (.lst (xs.eraseIdx k)))
theorem z37:MtM X "list.pop" j2t:=by
 intro pins s σ H x vs v us Q I rx rv h
 obtain⟨l,xs,i,k,y,rfl,rfl,hH,h1,h2,hk,hy,q⟩:=h
 cases rx
 obtain⟨u,rfl,ru⟩:=rv.one
 obtain⟨t,rfl⟩:=ru
 obtain⟨z,its,n,r,hl,e⟩:=I.lstM hH
 obtain⟨w,hw,rw'⟩:=r.get hy
 refine call_meets F.slot_list_pop ⟨_,e,rfl⟩ F.entry_list_pop (F.args_list_pop_2 _ _)
  (MeetsSeq.list_pop_at l its.toArray n i t k w (fitsIndex_both h1 h2) (by rw[List.size_toArray,<- hl]; exact hk) (by rw[<- Array.getElem?_toList]; exact hw) (by rw[List.size_toArray]; omega)) ⟨e,?_⟩
 refine⟨y,_,I.lset (its':=its.eraseIdx k) hH e ?_ (r.eraseIdx k) ?_,rw',q⟩
 ·show its.toArray.eraseIdxIfInBounds k=(its.eraseIdx k).toArray
  rw[List.eraseIdxIfInBounds_toArray]
 ·have:=y5e xs k
  omega
noncomputable def j7a:R2:=fun x y H Q=>∃ l k xs,x=.ref l/\y=.int k/\H l=some (.lst xs) /\ -(2 ^ 63)<=k/\k<2 ^ 63/\xs.length*k.toNat<=sizeLine /\
 ∀ p,H p=none->Q (.ref p) (upd H p (.lst (List.replicate k.toNat xs).flatten))
theorem y6y {α:Type} (xs:List α) (k:Nat):(List.replicate k xs).flatten.length=k*xs.length:=by
 induction k with
 | zero=>simp
 | succ k ih=>rw[List.replicate_succ,List.flatten_cons,List.length_append,ih,Nat.succ_mul,Nat.add_comm]
theorem j0k:OpR X (binaryOp .Mult) j7a:=by
 intro pins s σ H x y v u Q I rx ry h
 obtain⟨l,k,xs,rfl,rfl,hH,h1,h2,hz,q⟩:=h
 cases rx
 obtain⟨t,rfl⟩:=ry
 obtain⟨z,its,n,r,hl,e⟩:=I.lstM hH
 have hlen:its.toArray.size*k.toNat<=sizeLine:=by rw[List.size_toArray,<- hl]; exact hz
 have hcap:¬ its.toArray.size*k.toNat > (2 ^ 63-1) / 8:=by
  have:(sizeLine:Nat)<=(2 ^ 63-1) / 8:=by decide
  omega
 have hfit:¬ (!Builtin.List.listFitsIndex k)=true:=by
  rw[fitsIndex_both h1 h2]
  exact Bool.false_ne_true
 have hlong:¬ Builtin.List.listTooLong (its.toArray.size*k.toNat)=true:=by
  rw[y7k hlen]
  exact Bool.false_ne_true
 have hnew:List.foldl (fun x1 x2=>x1++x2) #[] (List.replicate (if its.toArray.isEmpty=true then 0 else k.toNat) its.toArray)=(List.replicate k.toNat its).flatten.toArray:=by
  have f0:∀ m:Nat,List.foldl (fun x1 x2=>x1++x2) #[] (List.replicate m its.toArray)=(List.replicate m its).flatten.toArray:=fun m=>by
   have:=y24 its m []
   rw[List.nil_append]at this
   exact this
  rw[f0]
  cases its with
  | nil=>simp
  | cons a r'=>rw[if_neg (by simp)]
 refine wpAny_binaryOp_repeat_ref (T:="list") (U:="int") (by decide) ⟨_,e,rfl⟩ (fun s'=>typeIs_int s' k t) noFill_list_mul F.fills_int_mul F.slot_int_rmul repeat_list F.slot_int_index.lookup
  (call_meets F.slot_int_rmul (typeIs_int s k t) F.entry_int_rmul (F.args_int_rmul_2 _ _) (int___rmul___int_list k t l its.toArray n)
    ⟨e,rfl,⟨_,e,rfl⟩,call_meets F.slot_list_mul ⟨_,e,rfl⟩ F.entry_list_mul (F.args_list_mul_2 _ _) (AutoListH.list___mul___list_int_3 l its.toArray n k t hfit hcap hlong) ⟨e,?_⟩⟩)
 rw[hnew]
 exact⟨.ref _,_,I.lnew (t':=s.toks) (r.rep k.toNat) (by rw[y6y,Nat.mul_comm]; exact hz),rfl,q _ I.fresh⟩
end
end L2
namespace Att
open PySem PySem.W PySem.Calls PyProof.Rows
theorem y1h {P:Params} {h:Heap}:∀ (ns:List Int) (vs:List Value),WellAll P h vs (ns.map WData.int)->IntsAre vs ns:=by
 intro ns
 induction ns with
 | nil=>
  intro vs w
  rw[List.map_nil]at w
  cases w
  exact .nil
 | cons n ns ih=>
  intro vs w
  rw[List.map_cons]at w
  cases w with
  | cons a b=>
   cases a
   exact .cons _ _ (ih _ b)
theorem z1b {l:OpenLaw} {n:Nat} (hn:l.most=some n) {P:Params} {h:Heap} {args:List WData} {vals:List Value}
  (hpre:l.row.toRowW.claim.pre args=true) (hwl:WellAll P h vals args) :
  ∃ a vs ns,vals=[Value.ref a]/\args=[WData.list (ns.map WData.int)]/\h.get? a=some { cls:=.type "list",data:=.seq vs.toArray }/\IntsAre vs ns/\ns.length<=n:=by
 have hsh:WShape.hasAll [] args [.list .int]=true:=(pre_splitW hpre).1
 have hc:l.pre.holds [] { args:=args }=true:=(pre_splitW hpre).2
 obtain⟨d,r,rfl,h1,h2⟩:=hasAllW_cons hsh
 obtain rfl:=hasAllW_nil h2
 obtain⟨xs,rfl,h3⟩:=hasW_list h1
 obtain⟨ns,rfl⟩:=items_int h3
 have hlen:ns.length<=n:=by
  unfold OpenLaw.pre at hc
  have h4:(WTm.not (.lt (.lit (.int (n:Int))) (.len (.arg 0)))).holds [] { args:=[.list (ns.map .int)] }=true:=by
   have h4:=(holds_andW hc).1
   rw[hn]at h4
   exact h4
  have h5:=condW_of h4 (w_not (w_lt w_lit (w_len_list (w_arg rfl))))
  rw[List.length_map]at h5
  refine Nat.le_of_not_lt fun q=>?_
  have q':(n:Int)<((ns.length:Nat):Int):=by omega
  first
   | (rw[decide_eq_true q']at h5; exact absurd h5 (by decide))
   | (simp at h5; omega)
 cases hwl with
 | cons w1 w2=>
  cases w2
  cases w1 with
  | list ho hall=>exact⟨_,_,ns,rfl,rfl,ho,y1h ns _ hall,hlen⟩
theorem z0m (l:OpenLaw) (args:List WData):l.row.toRowW.claim.post args (.bool true) args=true:=
 postW_of (r:=l.row.toRowW) (X:=(true == true))
  (show WShape.has [] (.bool true) .bool=true by first | rfl | decide | simp[WShape.has,WShape.arms,WShape.armsAll])
  (show(WTm.eq .res (.lit (.bool true))).value [] { args:=args,res:=some (.bool true),after:=args }=some (.bool (true == true))from w_eq_bool (w_res rfl) w_lit) rfl
theorem z9i {l:OpenLaw} {n:Nat} {q:Program} {loose:List Str} {XP:(Str->Option Value)->Heap->Prop} {YP:World->Heap->Prop} {d:DefRec}
  (hn:l.most=some n) (hdf:d.params.defaults=[])
  (call:∀ (w:World) (s₀ s₁:Shared) (mg mb:Str->Option Value) (fa:Addr) (o:Obj) (pm cd doc:Value) (a:Addr) (vs:List Value) (ns:List Int),
    Ground q loose [] XP w s₀ mg mb s₁.heap->YP w s₁.heap->
    s₁.heap.get? fa=some o->o.data=.func (docDef d.name d.params d.body d.scope pm cd doc)->s₁.heap.CodeRec cd d.name->mg d.name=some (.ref fa)->
    s₁.heap.get? a=some { cls:=.type "list",data:=.seq vs.toArray }->IntsAre vs ns->ns.length<=n->s₁.gens = #[]->
    codeAny (model l.prog w) callerA (.call (.ref fa) ⟨[.ref a],[]⟩) (fun r s'=>r=.ok (.ret (.bool true))/\OldK s₁.heap s'.heap/\s'.os=s₁.os/\AllBare s'.gens) s₁) :
  WalkO q loose XP YP l.row.toRowW d [] (fun f vs=>PySem.call f vs):=by
 intro w s₀ s₁ mg mb G Y fa o pm cd doc dV kV ho hd hcd hD hmg hg args vals as hpre hlay hrd hwl hlo
 obtain rfl:dV=.none:=Dflts.none hD hdf
 obtain rfl:kV=.none:=Dflts.noKw hD
 obtain⟨a,vs,ns,rfl,rfl,hobj,hints,hlen⟩:=z1b hn hpre hwl
 refine enter_call (codeAny_mono (call w s₀ s₁ mg mb fa o pm cd doc a vs ns G Y ho (fd_plain hd) hcd hmg hobj hints hlen hg) fun r s' hq=>?_)
 obtain⟨rfl,h2,h3,h4⟩:=hq
 exact⟨.inl ⟨.bool true,.bool true,[],rfl,fun _=>rfl,.bool true,z0m l _,fun _=>⟨List.Pairwise.nil,fun _ hm=>(nomatch hm)⟩⟩,h2,h3,h4⟩
section
variable {prog:Program} {w:World} {A:Around} {E:Value->Shared->Prop} {s:Shared} {K:Frag}
end
end Att
namespace L2
open PySem PySem.Spec PyProof.Rows
theorem x73:∀ {vs:List Value} {ns:List Int},IntsAre vs ns->x2z (ns.map V.int) vs
 | _,_,.nil=>.nil
 | _,_,.cons n t h=>.cons ⟨t,rfl⟩ (x73 h)
end L2
namespace L2
open PySem PySem.Spec PyProof.Rows
end L2
namespace L2
open PySem PySem.Spec PyProof.Rows
noncomputable def x70 (s:Stmt):Arguments:=match s with
 | .FunctionDef _ a _ _ _ _ _ _ _ _=>a
 | _=>{ posonlyargs:=[],args:=[],vararg:=none,kwonlyargs:=[],kw_defaults:=[],kwarg:=none,defaults:=[] }
noncomputable def x44 (s:Stmt):List Stmt:=match s with
 | .FunctionDef _ _ b _ _ _ _ _ _ _=>b
 | _=>[]
noncomputable def x0b (s:Stmt):Scope:=match s with
 | .FunctionDef _ _ _ _ _ _ sc _ _ _=>sc
 | _=>{ kind:=.function,names:=[],isGenerator:=false,isCoroutine:=false }
noncomputable abbrev CX0:CXT:=fun _ _ _ _ _ _=>False
noncomputable abbrev E0:XK:=fun _ _ _=>False
theorem j4m {X:Cx}:y7f CX0 X E0:=fun _ _ _ _ _ _ _ h=>h.elim
structure Fun (K:PySem.W.Frag) (x qual:Str) (st:Stmt) (f:Addr) (fd:FuncData):Prop where
 ex:∃ (oc:Value) (od:Option Addr) (kV doc pm:Value) (an:Option Addr) (cdv ct:Value) (osl:Array (Option Value)),
  fd=PySem.W.fnOf x qual (x70 st) (x44 st) (x0b st) .none kV doc pm an cdv ct/\K.lookup f=some ⟨oc,od,.func fd,osl⟩/\PySem.W.codeIn K cdv qual=true
 kp:PySem.W.keepIn K (.ref f)=true
section
variable {P:Program} {w:World} {K:PySem.W.Frag} {mg:Str->Option Value} {base:Heap}
theorem Fun.ok {x qual:Str} {st:Stmt} {f:Addr} {fd:FuncData} {N ps:List Str} {k:Nat} {sp:Sp} (F:Fun K x qual st f fd) (S:FnScope N ps (x0b st)) (len:∀ vs H Q E,sp vs H Q E->vs.length=ps.length)
  (hbody:∀ (cdv:Value) (A:Around) (outer:List Env) (s:Shared) (H:Hp) (vs:List V) (Q:VK) (E:XK),Room k (A.deeper (envOfC qual (x0b st) s.heap.objs.size f cdv))->sp vs H Q E->
    ∃ t,PSs (z1q CX0 P w K mg base N qual (x0b st) f cdv A outer s H E).nox (x44 st) t/\t { nx:=fun _ H'=>Q .non H',rt:=Q } (y2d N vs) H):FnOk P w K mg base CX0 (k+1) f fd ps sp:=by
 obtain⟨oc,od,kV,doc,pm,an,cdv,ct,osl,rfl,lk,hcd⟩:=F.ex
 refine j5g lk hcd S len fun A outer s H vs Q E hr hsp=>?_
 obtain⟨t,h,q⟩:=hbody cdv A outer s H vs Q E hr hsp
 exact⟨t,h.nox,q⟩
theorem Fun.binds {x qual:Str} {st:Stmt} {f:Addr} {fd:FuncData} {ps:List Str} (F:Fun K x qual st f fd)
  (h:∀ (kV doc pm:Value) (an:Option Addr) (cdv ct:Value) (us:List Value),us.length=ps.length->bindArgs (PySem.W.fnOf x qual (x70 st) (x44 st) (x0b st) .none kV doc pm an cdv ct) ⟨us,[]⟩=pure (ps.zip us)):y50 K fd ps []:=by
 obtain⟨oc,od,kV,doc,pm,an,cdv,ct,osl,rfl,lk,hcd⟩:=F.ex
 exact .all (h kV doc pm an cdv ct)
theorem z5y {x qual:Str} {st:Stmt} {f:Addr} {oc:Value} {od an:Option Addr} {osl:Array (Option Value)} {kV doc pm cdv ct:Value} (l:K.lookup f=some ⟨oc,od,.func (PySem.W.fnOf x qual (x70 st) (x44 st) (x0b st) .none kV doc pm an cdv ct),osl⟩)
  (c:PySem.W.codeIn K cdv qual=true) (k:PySem.W.keepIn K (.ref f)=true):Fun K x qual st f (PySem.W.fnOf x qual (x70 st) (x44 st) (x0b st) .none kV doc pm an cdv ct):=⟨⟨oc,od,kV,doc,pm,an,cdv,ct,osl,rfl,l,c⟩,k⟩
end
theorem j5k {A:Around} {k:Nat} (hr:Room k A):A.units+1<cLine:=Nat.lt_of_le_of_lt (Nat.add_le_add_left (by decide:1<=64) _) hr.units
theorem x3y {n:Nat} (h:n<=1000):n<sizeLine:=Nat.lt_of_le_of_lt h (by decide)
section
variable {X:Cx}
theorem pv (i:Nat) {x:Str} {pos:Pos} (hN:X.N[i]? = some x:=by rfl) (hv:Vis X.env.scope x:=by first | exact Or.inl rfl | exact Or.inr (Or.inl rfl) | exact Or.inr (Or.inr rfl)) (hd:(x == ("__debug__":Str))=false:=by decide)
  (hcd:(x == ("__classdict__":Str))=false:=by decide):PE X (.Name x pos) (x9t i):=j1k hN hv hd hcd
end
section
variable {κ:Type} [DecidableEq κ]
noncomputable def y7p (kvs:List (κ × V)) (k:κ):Option V:=(kvs.find? fun kv=>decide (kv.1=k)).map (·.2)
noncomputable def z54 (kvs:List (κ × V)) (k:κ) (v:V):List (κ × V):=
 if(kvs.any fun kv=>decide (kv.1=k))=true then kvs.map (fun kv=>if kv.1=k then(kv.1,v)else kv)else kvs++[(k,v)]
theorem y46 {p:κ × V} {r:List (κ × V)} {k:κ} (e:p.1=k):y7p (p::r) k=some p.2:=by simp[y7p,List.find?_cons,e]
theorem y3u {p:κ × V} {r:List (κ × V)} {k:κ} (e:¬ p.1=k):y7p (p::r) k=y7p r k:=by simp[y7p,List.find?_cons,e]
theorem y6z (kvs:List (κ × V)) (k:κ) (v:V):(z54 kvs k v).length<=kvs.length+1:=by
 unfold z54
 split
 ·rw[List.length_map]; omega
 ·rw[List.length_append,List.length_cons,List.length_nil]; omega
theorem z7h.getD {o:Option V} {u:Option Value} {d:V} {d':Value} (r:z7h o u) (rd:x47 d d'):x47 (o.getD d) (u.getD d'):=by
 cases o with
 | none=>cases u with
  | none=>exact rd
  | some _=>exact(show False from r).elim
 | some _=>cases u with
  | none=>exact(show False from r).elim
  | some _=>exact r
theorem KV.val {kvs:List (κ × V)} {vs:List (κ × Value)} (r:KV kvs vs) (k:κ):z7h (y7p kvs k) (valueAt vs k):=by
 unfold KV at r
 induction r with
 | nil=>exact True.intro
 | @cons p q ps qs h t ih=>
  obtain⟨h1,h2⟩:=h
  by_cases e:p.1=k
  ·have e':q.1=k:=h1.symm.trans e
   have b:valueAt (q::qs) k=some q.2:=by simp[valueAt,List.find?_cons,e']
   rw[y46 e,b]; exact h2
  ·have e':¬ q.1=k:=fun z=>e (h1.trans z)
   have b:valueAt (q::qs) k=valueAt qs k:=by simp[valueAt,List.find?_cons,e']
   rw[y3u e,b]; exact ih
theorem KV.any {kvs:List (κ × V)} {vs:List (κ × Value)} (r:KV kvs vs) (k:κ):(kvs.any fun kv=>decide (kv.1=k))=vs.any fun kv=>decide (kv.1=k):=by
 unfold KV at r
 induction r with
 | nil=>rfl
 | cons h t ih=>rw[List.any_cons,List.any_cons,ih,h.1]
theorem KV.repl {kvs:List (κ × V)} {vs:List (κ × Value)} (r:KV kvs vs) (k:κ) {y:V} {u:Value} (ry:x47 y u) :
  KV (kvs.map fun kv=>if kv.1=k then(kv.1,y)else kv) (vs.map fun kv=>if kv.1=k then(kv.1,u)else kv):=by
 unfold KV at r ⊢
 induction r with
 | nil=>exact .nil
 | @cons p q ps qs h t ih=>
  rw[List.map_cons,List.map_cons]
  refine .cons ?_ ih
  obtain⟨h1,h2⟩:=h
  by_cases e:p.1=k
  ·rw[if_pos e,if_pos (h1.symm.trans e)]; exact⟨h1,ry⟩
  ·rw[if_neg e,if_neg (fun z=>e (h1.trans z))]; exact⟨h1,h2⟩
theorem KV.put {kvs:List (κ × V)} {vs:List (κ × Value)} (r:KV kvs vs) (k:κ) {y:V} {u:Value} (ry:x47 y u):KV (z54 kvs k y) (stored vs k u):=by
 unfold z54 stored
 rw[r.any k]
 by_cases e:(vs.any fun kv=>decide (kv.1=k))=true
 ·rw[if_pos e,if_pos e]; exact r.repl k ry
 ·rw[if_neg e,if_neg e]; exact Paired.snoc r ⟨rfl,ry⟩
end
theorem z7z {P:Program} {w:World} {k:Key} {u:Value} (r:x47 (kV k) u):(x3a P w).is k u=true:=by
 cases k with
 | inl i=>obtain⟨t,e⟩:=(show ∃ t,u=Value.int i t from r); subst e; exact y6p P w i t
 | inr x=>obtain⟨t,e⟩:=(show ∃ t,u=Value.str x t from r); subst e; exact y6m P w x t
theorem y5h {P:Program} {w:World}:∀ {ks:List Key} {us:List Value},x2z (ks.map kV) us->ItemsAre (x3a P w) ks us
 | [],_,r=>by rw[List.map_nil]at r; cases r; exact .nil
 | k::ks,_,r=>by
  rw[List.map_cons]at r
  cases r with
  | cons h t=>exact .cons (z7z h) (y5h t)
noncomputable abbrev KT (H:Hp):List (List Key × V)->List (List Key × Addr × Value)->Prop:=Paired fun p q=>p.1=q.1/\H q.2.1=some (.tup (p.1.map kV))/\x47 p.2 q.2.2
theorem KT.val {H:Hp} {kvs:List (List Key × V)} {xs:List (List Key × Addr × Value)} (r:KT H kvs xs) (k:List Key):z7h (y7p kvs k) ((atKey xs k).map (·.2)):=by
 induction r with
 | nil=>exact True.intro
 | @cons p q ps qs h t ih=>
  obtain⟨h1,_,h2⟩:=h
  by_cases e:p.1=k
  ·have e':q.1=k:=h1.symm.trans e
   have b:atKey (q::qs) k=some q.2:=by simp[atKey,List.find?_cons,e']
   rw[y46 e,b]; exact h2
  ·have e':¬ q.1=k:=fun z=>e (h1.trans z)
   have b:atKey (q::qs) k=atKey qs k:=by simp[atKey,List.find?_cons,e']
   rw[y3u e,b]; exact ih
section
variable {P:Program} {w:World} {H:Hp} {h:Heap} {a:Addr}
theorem j1q {u:HO} (ok:HOk P w H h) (e:Rd H a u):x37 P w H h a u:=e.ok ok
theorem z79 {kvs:List (Key × V)} (ok:HOk P w H h) (e:Rd H a (.dK kvs)):kvs.length<=sizeLine/\(a == sysModules)=false/\∃ vs,KV kvs vs/\h.DictOf (x3a P w) a vs:=
 show x37 P w H h a (.dK kvs)from j1q ok e
theorem j4w {kvs:List (Key × V)} (ok:HOk P w H h) (e:H a=some (.dK kvs)):kvs.length<=sizeLine/\(a == sysModules)=false/\∃ vs,KV kvs vs/\h.DictOf (x3a P w) a vs:=z79 ok (.inl e)
theorem z5t {ks:List Key} (ok:HOk P w H h) (e:H a=some (.tup (ks.map kV))):(tupleKind (x3a P w)).is h ks a:=by
 obtain⟨_,its,r,o,h1,h2,⟨n,h3⟩,_⟩:=(show x37 P w H h a (.tup (ks.map kV))from ok a _ e)
 exact⟨o,its.toArray,n,h1,h2,h3,by simpa using y5h r⟩
theorem z9w {kvs:List (List Key × V)} (ok:HOk P w H h) (e:Rd H a (.dT kvs)):kvs.length<=sizeLine/\(a == sysModules)=false /\
  ∃ xs,KT H kvs xs/\h.DictOfH (tupleKind (x3a P w)) a xs:=by
 obtain⟨z,y,xs,r,o,es,ep,h1,h2,h3,h4,h5⟩:=(show x37 P w H h a (.dT kvs)from j1q ok e)
 refine⟨z,y,xs,r,o,es,ep,h1,h2,h3,h4,fun x hx=>?_,h5⟩
 have all:∀ {l:List (List Key × V)} {m:List (List Key × Addr × Value)},KT H l m->∀ x∈m,(tupleKind (x3a P w)).is h x.1 x.2.1:=by
  intro l m q
  induction q with
  | nil=>intro x hx; exact nomatch hx
  | @cons p q ps qs hq t ih=>
   intro x hx
   rcases List.mem_cons.mp hx with e | hx
   ·subst e
    exact z5t ok (by rw[<- hq.1]; exact hq.2.1)
   ·exact ih x hx
 exact all r x hx
end
noncomputable def j2h (H:Hp) (a:Addr) (y:V) (r:Option V):Prop:=
 (∃ kvs k,Rd H a (.dK kvs)/\y=kV k/\r=y7p kvs k)\/∃ kvs k b,Rd H a (.dT kvs)/\y=.ref b/\H b=some (.tup (k.map kV))/\r=y7p kvs k
theorem j2h.k {H:Hp} {a:Addr} {kvs:List (Key × V)} {k:Key} (e:H a=some (.dK kvs)):j2h H a (kV k) (y7p kvs k):=.inl ⟨kvs,k,.inl e,rfl,rfl⟩
section
variable {X:Cx} {pins:List (Addr × Obj)} {σ:St} {H:Hp} {s:Shared} {a:Addr} {y v:V} {u r:Value} {o:Option V} {A:Around} {E:Value->Shared->Prop}
theorem Inv.big (I:Inv X pins σ H s):sysModules<s.heap.objs.size:=by
 have h:mainGlobals<s.heap.objs.size:=(I.mod.glob.keeps I.bk).lt
 exact Nat.lt_trans (by decide) h
theorem z7r {h':Heap} {t':Nat} {ob:HO} (I:Inv X pins σ H s) (mu:Mut (H a)) (hs:Heap.SameBut a s.heap h') (he:∃ q,h'.get? a=some q) (new:x37 X.prog X.w (upd H a ob) h' a ob) :
  Inv X pins σ (upd H a ob) { s with heap:=h',toks:=t' }:=
 I.write (x:=a) (e:=a) mu (.inl rfl) (fun b q hb z=>(hs.2 b hb).trans z) he new
theorem j1y {P:Program} {w:World} {H':Hp} {h':Heap} {kvs:List (Key × V)} {vs:List (Key × Value)} (z:kvs.length<=sizeLine) (hd:(a == sysModules)=false) (rel:KV kvs vs) (dd:h'.DictOf (x3a P w) a vs) :
  x37 P w H' h' a (.dK kvs):=⟨z,hd,vs,rel,dd⟩
end
theorem z2n {P:Program} {w:World} {H:Hp} (h:Heap) (hb:sysModules<h.objs.size):x37 P w H (h.push { cls:=.type "dict",data:=.dict #[] }) h.objs.size (.dK []):=
 ⟨Nat.zero_le _,beq_eq_false_iff_ne.mpr (Ne.symm (Nat.ne_of_lt hb)),[],.nil,Heap.DictOf.new h⟩
noncomputable def z0f:List (TE × TE)->St->Hp->(List (V × V)->Hp->Prop)->Prop
 | [],_,H,Q=>Q [] H
 | (tk,tv)::r,σ,H,Q=>tk σ H fun x H1=>tv σ H1 fun y H2=>z0f r σ H2 fun ps H3=>Q ((x,y)::ps) H3
noncomputable abbrev VV:List (V × V)->List (Value × Value)->Prop:=Paired fun p q=>x47 p.1 q.1/\x47 p.2 q.2
noncomputable def PPs (X:Cx) (pos:Pos) (keys:List (Option Expr)) (values:List Expr) (trs:List (TE × TE)):Prop:=
 ∀ (pins:List (Addr × Obj)) (s:Shared) (σ:St) (H:Hp) (Q:List (V × V)->Hp->Prop),Inv X pins σ H s->z0f trs σ H Q->
  wpAny (model X.prog X.w) X.A (evalPairs (pairTrees keys values X.env pos)) (fun vs s'=>∃ ps H',Inv X pins σ H' s'/\VV ps vs/\Q ps H') X.xe s
theorem z97 {X:Cx} {pos:Pos}:PPs X pos [] [] []:=fun pins s σ H Q I h=>pairTrees_nil_walk ⟨[],H,I,.nil,h⟩
theorem y83 {X:Cx} {pos:Pos} {k v:Expr} {ks:List (Option Expr)} {vs:List Expr} {tk tv:TE} {trs:List (TE × TE)} (hk:PE X k tk) (hv:PE X v tv) (hr:PPs X pos ks vs trs) :
  PPs X pos (some k::ks) (v::vs) ((tk,tv)::trs):=fun pins s σ H Q I h=>
 pairTrees_cons_walk (thn (hk pins s σ H _ I h) fun u s1 ⟨x,H1,I1,rx,q1⟩=>thn (hv pins s1 σ H1 _ I1 q1) fun w2 s2 ⟨y,H2,I2,ry,q2⟩=>
  thn (hr pins s2 σ H2 _ I2 q2) fun ws s3 ⟨ps,H3,I3,rel,q3⟩=>⟨(x,y)::ps,H3,I3,.cons ⟨rx,ry⟩ rel,q3⟩)
noncomputable def y1j (kvs more:List (Key × V)):List (Key × V):=more.foldl (fun acc kv=>z54 acc kv.1 kv.2) kvs
theorem KV.merge:∀ {more:List (Key × V)} {rs:List (Key × Value)} {kvs:List (Key × V)} {vs:List (Key × Value)},KV more rs->KV kvs vs->KV (y1j kvs more) (merged vs rs):=by
 intro more rs kvs vs r
 unfold KV at r
 induction r generalizing kvs vs with
 | nil=>intro q; exact q
 | @cons p q ps qs h t ih=>
  intro r0
  have e:KV (z54 kvs p.1 p.2) (stored vs q.1 q.2):=by
   have:=r0.put p.1 h.2
   rw[<- h.1]; exact this
  exact ih e
theorem x8n:∀ (more kvs:List (Key × V)),(y1j kvs more).length<=kvs.length+more.length
 | [],kvs=>by show kvs.length<=kvs.length+0; omega
 | p::r,kvs=>by
  have h1:=x8n r (z54 kvs p.1 p.2)
  have h2:=y6z kvs p.1 p.2
  show(y1j (z54 kvs p.1 p.2) r).length<=_
  rw[List.length_cons]; omega
theorem y3b {P:Program} {w:World}:∀ {kvs:List (Key × V)} {ws:List (Value × Value)},VV (kvs.map fun kv=>(kV kv.1,kv.2)) ws->∃ rs,Carries (x3a P w) ws rs/\KV kvs rs
 | [],_,r=>by rw[List.map_nil]at r; cases r; exact⟨[],True.intro,.nil⟩
 | p::kvs,_,r=>by
  rw[List.map_cons]at r
  cases r with
  | @cons a b as bs h t=>
   obtain⟨rs,c,q⟩:=y3b (P:=P) (w:=w) t
   obtain⟨b1,b2⟩:=b
   exact⟨(p.1,b2)::rs,⟨z7z h.1,rfl,c⟩,.cons ⟨rfl,h.2⟩ q⟩
noncomputable def j4o (trs:List (TE × TE)):TE:=fun σ H Q=>∀ p,H p=none->z0f trs σ (upd H p (.dK [])) fun ps H2=>H2 p=some (.dK [])/\∃ kvs:List (Key × V),ps=kvs.map (fun kv=>(kV kv.1,kv.2))/\kvs.length<=15/\Q (.ref p) (upd H2 p (.dK (y1j [] kvs)))
theorem z84 {X:Cx} {pos:Pos} {keys:List (Option Expr)} {values:List Expr} {trs:List (TE × TE)} (h:PPs X pos keys values trs) (hall:keys.all (·.isSome)=true) (hl:keys.length=values.length) (h0:keys ≠ [])
  (h15:keys.length<=15):PE X (.Dict keys values pos) (j4o trs):=by
 intro pins s σ H Q I q
 have hn:=I.hok.fresh (Nat.le_refl s.heap.objs.size)
 have I1:=I.laid (a:=s.heap.objs.size) (o:=.dK []) (h':=s.heap.push { cls:=.type "dict",data:=.dict #[] }) (t':=s.toks) (fun _ _ q=>Heap.get?_push_of_some _ q) (Nat.le_refl _) (z2n s.heap I.big)
 refine wpAny_Dict_walk (knd:=x3a X.prog X.w) hall hl h0 h15 (thn (h pins _ σ _ _ I1 (q _ hn)) fun ws s2 hh0=>?_)
 obtain⟨ps,H2,I2,rel,e,kvs,ep,lk,q2⟩:=hh0
 subst ep
 obtain⟨rs,c,rk⟩:=y3b (P:=X.prog) (w:=X.w) rel
 obtain⟨z,hd,vs0,r0,dd⟩:=j4w I2.hok e
 cases r0
 refine⟨rs,c,dd,fun h' dd' hs=>⟨.ref s.heap.objs.size,_,?_,rfl,q2⟩⟩
 have hz:(y1j [] kvs).length<=sizeLine:=by
  have h1:=x8n kvs []
  rw[List.length_nil]at h1
  rw[sizeLine_eq]; omega
 have he:∃ q,h'.get? s.heap.objs.size=some q:=let ⟨q,_,_,hq,_⟩:=dd'; ⟨q,hq⟩
 exact z7r I2 (by rw[e]; exact True.intro) hs he (j1y hz hd (rk.merge .nil) dd')
structure M2 (X:Cx) (o:Expr) (m:Str) (apos:Pos) (e f:Expr) (cpos:Pos):Prop where
 base:attributeBase o m X.env (eval o X.env)=eval o X.env
 few:((backTo cpos (starEach [e,f] X.env)).all (fun x=>!x.1) && (backToKw cpos (keywordEach [] X.env)).all (fun x=>x.1.isSome)
  && decide (([e,f]:List Expr).length+([]:List Keyword).length+(if([]:List Keyword).isEmpty then 0 else 1)<30))=true
 line:(apos.endLine == cpos.line)=true
 trees:backTo cpos (starEach [e,f] X.env)=[(false,eval e X.env),(false,eval f X.env)]
noncomputable def IsD (H:Hp) (a:Addr):Prop:=(∃ kvs,Rd H a (.dK kvs))\/∃ kvs,Rd H a (.dT kvs)
theorem j2a {X:Cx} {pins:List (Addr × Obj)} {σ:St} {H:Hp} {s:Shared} {a:Addr} (I:Inv X pins σ H s) (d:IsD H a) :
  s.TypeIs (.ref a) "dict" /\ (∀ b,Value.ref a=.ref b->∃ ob,s.heap.get? b=some ob/\ob.dict=none)/\(a == sysModules)=false:=by
 rcases d with⟨kvs,e⟩ | ⟨kvs,e⟩
 ·obtain⟨_,hd,vs,_,dd⟩:=z79 I.hok e
  refine⟨dd.typeIs,fun b q=>?_,hd⟩
  cases q
  obtain⟨ob,_,_,h1,h2,_⟩:=dd
  exact⟨ob,h1,h2.2.1⟩
 ·obtain⟨_,hd,xs,_,dd⟩:=z9w I.hok e
  refine⟨dd.typeIs,fun b q=>?_,hd⟩
  cases q
  obtain⟨ob,_,_,h1,h2,_⟩:=dd
  exact⟨ob,h1,h2.2.1⟩
section
variable {X:Cx} {pins:List (Addr × Obj)} {σ:St} {H:Hp} {s:Shared} {a:Addr} {y d:V} {u r:Value} {o:Option V} {A:Around} {E:Value->Shared->Prop}
theorem j3x {Q:Value->Shared->Prop} (hu:A.units+1<cLine) (I:Inv X pins σ H s) (g:j2h H a y o) (ry:x47 y u) (rd:x47 d r) (h:∀ w' s',Inv X pins σ H s'->x47 (o.getD d) w'->Q w' s') :
  wpAny (model X.prog X.w) A (call (.builtin "dict.get") [.ref a,u,r]) Q E s:=by
 rcases g with⟨kvs,k,e,ey,l⟩ | ⟨kvs,k,b,e,ey,eb,l⟩
 ·subst ey
  obtain⟨z,hd,vs,rel,dd⟩:=z79 I.hok e
  refine call_meetsIn PySem.F.slot_dict_get dd.typeIs PySem.F.entry_dict_get (PySem.F.args_dict_get_3 _ _ _) (meets_dict_get_default (x3a X.prog X.w) a (z7z ry) hd r) ⟨_,dd.mapOf,h _ _ (I.tok _) ?_⟩
  rw[l]
  exact(rel.val k).getD rd
 ·subst ey
  cases (show u=Value.ref b from ry)
  obtain⟨z,hd,xs,rel,dd⟩:=z9w I.hok e
  refine call_meetsIn PySem.F.slot_dict_get dd.typeIs PySem.F.entry_dict_get (PySem.F.args_dict_get_3 _ _ _) (meetsH_dict_get_default (tupleKind (x3a X.prog X.w)) a b hd r) ⟨tupleKind_room_in1 hu,k,xs,z5t I.hok eb,dd,h _ _ (I.tok _) ?_⟩
  rw[l]
  exact(rel.val k).getD rd
end
noncomputable def j3u (td ty tx:TE):TE:=fun σ H Q=>td σ H fun x H1=>∃ a,x=.ref a/\IsD H1 a/\ty σ H1 fun y H2=>tx σ H2 fun z H3=>∃ o,j2h H3 a y o/\Q (o.getD z) H3
section
variable {X:Cx} {o e f:Expr} {apos cpos:Pos} {td ty tx:TE}
theorem z5i (hu:X.A.units+1<cLine) (ho:PE X o td) (he:PE X e ty) (hf:PE X f tx) (m:M2 X o "get" apos e f cpos):PE X (.Call (.Attribute o "get" apos) [e,f] [] cpos) (j3u td ty tx):=by
 intro pins s σ H Q I h
 refine wpAny_Call_method m.base m.few m.line PySem.F.plainAttrs_dict PySem.F.slot_dict_get PySem.F.type_dict_get (thn (ho pins s σ H _ I h) fun u s1 hh0=>?_)
 obtain⟨x,H1,I1,rx,a,ex,d,q1⟩:=hh0
 subst ex
 obtain rfl:u=Value.ref a:=rx
 obtain⟨t1,t2,_⟩:=j2a I1 d
 refine⟨t1,t2,?_⟩
 rw[m.trees]
 refine Calls.callWith_builtin rfl (Calls.evalArgs_plain (Calls.spliced_cons (thn (he pins s1 σ H1 _ I1 q1) fun iv s2 ⟨y,H2,I2,ry,q2⟩=>
  Calls.spliced_cons (thn (hf pins s2 σ H2 _ I2 q2) fun fv s3 ⟨z,H3,I3,rz,ov,g,q3⟩=>Calls.spliced_nil ?_))))
 exact j3x hu I3 g ry rz fun w' s4 I4 rw'=>⟨_,H3,I4,rw',q3⟩
end
theorem y5y {prog:Program} {w:World} {A:Around} {R:Result->Shared->Prop} {s:Shared} {elt target iter:Expr} {ifs:List Expr} {scope:Scope} {pos:Pos} {it acc:Value} {env:Env} (I:Nat->Shared->Prop)
  (turn:∀ n s,I n s->wpAny (model prog w) A (pyNext it) (fun r s₁=>match r with
    | none=>R (.ok .next) s₁
    | some v=>wpAny (model prog w) A (letOwnedTupleGo target it v) (fun _ s₁'=>wpAny (model prog w) A (assign target env v) (fun _ s₂=>
      wpAny (model prog w) A (forIn ifs true fun c r=>if r=true then do let ok <- isTrue c env (eval c env); pure (ForInStep.yield ok)else pure (ForInStep.yield r)) (fun ok s₃=>
       if ok=true then wpAny (model prog w) A (eval elt env) (fun x s₄=>
        wpAny (model prog w) A (call (.builtin "list.append") [acc,x]) (fun _ s₅=>∃ m,m<n/\I m s₅) (fun _ _=>False) s₄) (fun _ _=>False) s₃
       else ∃ m,m<n/\I m s₃) (fun _ _=>False) s₂) (fun _ _=>False) s₁') (fun _ _=>False) s₁) (fun _ _=>False) s)
  (n:Nat) (h:I n s):codeAny (model prog w) A (.compLoop (.ListComp elt [⟨target,iter,ifs,0⟩] scope pos) 0 it acc env) R s:=by
 refine codeAny_loop rfl I (fun n s hI=>?_) n h
 show wpAny _ A ((compTurn (.ListComp elt [⟨target,iter,ifs,0⟩] scope pos) 0 it acc env).onRaise (fun x=>do noteFrame x env; theTreesLotGoes x)) _ _ s
 refine wpAny_noted ?_
 rw[compTurn_list]
 refine wpAny_bind (wpAny_standAt (wpAny_bind (wpAny_mono (turn n s hI) (fun r s₁ h₁=>?_) fun _ _ h'=>h'.elim)))
 cases r with
 | none=>exact wpAny_pure h₁
 | some v=>
  refine wpAny_bind (wpAny_mono h₁ (fun _ s₁' h₁'=>?_) fun _ _ h'=>h'.elim)
  refine wpAny_bind (wpAny_mono h₁' (fun _ s₂ h₂=>wpAny_bind (wpAny_mono h₂ (fun ok s₃ h₃=>?_) fun _ _ h'=>h'.elim)) fun _ _ h'=>h'.elim)
  cases ok with
  | false=>exact wpAny_pure ⟨rfl,h₃⟩
  | true=>
   exact wpAny_bind (wpAny_bind (wpAny_mono h₃ (fun x s₄ h₄=>wpAny_bind (wpAny_mono h₄ (fun _ s₅ h₅=>wpAny_pure (wpAny_pure ⟨rfl,h₅⟩)) fun _ _ h'=>h'.elim)) fun _ _ h'=>h'.elim))
theorem y6n {M:Model} {A:Around} {E:Value->Shared->Prop} {s:Shared} {scope:Scope} {globals:Addr} {cl:List (Str × Addr)} {qual:Str} {outer:Env} {Q:Env->Shared->Prop}
  (hQ:Q (newEnv scope s.heap.objs.size globals (cellsFrom (s.heap.objs.size+1) scope.names cl) qual none .none (some outer) builtinsNs)
    { s with heap:=pushCells (s.heap.push { cls:=.type "dict",data:=.dict #[] }) scope.names }) :
  wpAny M A (newFunctionEnv scope globals cl [] qual none .none (some outer)) Q E s:=by
 simp only[newFunctionEnv,Option.isSome_some,if_true]
 refine wpAny_bind (wpAny_alloc ?_)
 refine wpAny_bind (wpAny_layCells _ (fun name kind cells=>by cases hkc:kind == NameKind.cell <;> simp[hkc]) _ _ _ _ ?_)
 rw[show({ s with heap:=s.heap.push { cls:=.type "dict",data:=.dict #[] } }:Shared).heap.objs.size=s.heap.objs.size+1 from Heap.size_push ..]
 refine wpAny_bind ?_
 rw[List.forIn_nil]
 exact wpAny_pure (wpAny_pure hQ)
noncomputable def x2k (cells:List (Str × Addr)):List (Str × NameKind)->List (Str × Addr)->List (Str × Addr)
 | [],acc=>acc
 | (n,k)::r,acc=>if k == .free then(match cells.lookup n with
   | some c=>x2k cells r ((n,c)::acc)
   | none=>x2k cells r acc)else x2k cells r acc
theorem x8i {scope:Scope} {env:Env} (h:∀ y∈scope.names,y.2=.free->∃ c,env.cells.lookup y.1=some c):closureFor scope env=pure (x2k env.cells scope.names []):=by
 unfold closureFor
 have key:∀ (names:List (Str × NameKind)) (acc:List (Str × Addr)),(∀ y∈names,y.2=.free->∃ c,env.cells.lookup y.1=some c)->
   (forIn names acc (fun(x:Str × NameKind) (r:List (Str × Addr))=>(match x with
     | (name,kind)=>if(kind == NameKind.free)=true then do
       let c <- cellOf env name
       pure (ForInStep.yield ((name,c)::r))
      else pure (ForInStep.yield r):Sem (ForInStep (List (Str × Addr))))))=(pure (x2k env.cells names acc):Sem (List (Str × Addr))):=by
  intro names
  induction names with
  | nil=>intro acc _; rfl
  | cons y r ih=>
   intro acc hh
   obtain⟨n,kd⟩:=y
   rw[List.forIn_cons]
   unfold x2k
   by_cases hk:(kd == NameKind.free)=true
   ·obtain⟨c,hc⟩:=hh (n,kd) List.mem_cons_self (by simpa using hk)
    have hc':env.cells.lookup n=some c:=hc
    simp only[hk,if_true,hc']
    have e:cellOf env n=pure c:=by unfold cellOf; rw[hc']
    rw[e]
    exact ih ((n,c)::acc) fun z hz=>hh z (List.mem_cons_of_mem _ hz)
   ·simp only[hk]
    exact ih acc fun z hz=>hh z (List.mem_cons_of_mem _ hz)
 exact(congrArg (fun m=>m >>= fun cs=>(pure cs:Sem (List (Str × Addr)))) (key scope.names [] h)).trans rfl
theorem x68 {cells:List (Str × Addr)}:∀ {names:List (Str × NameKind)} {acc:List (Str × Addr)},(∀ y c,(y,c)∈acc->cells.lookup y=some c)->∀ y c,(y,c)∈x2k cells names acc->cells.lookup y=some c
 | [],_,h,y,c,m=>h y c m
 | (n,k)::r,acc,h,y,c,m=>by
  unfold x2k at m
  split at m
  ·split at m
   ·rename_i c' e
    refine x68 (acc:=(n,c')::acc) (fun z d hz=>?_) y c m
    rcases List.mem_cons.mp hz with q | q
    ·cases q; exact e
    ·exact h z d q
   ·exact x68 h y c m
  ·exact x68 h y c m
theorem x65 {cells:List (Str × Addr)}:∀ {names:List (Str × NameKind)} {acc:List (Str × Addr)} {y:Str},(acc.lookup y).isSome=true->((x2k cells names acc).lookup y).isSome=true
 | [],_,_,h=>h
 | (n,k)::r,acc,y,h=>by
  unfold x2k
  split
  ·split
   ·refine x65 ?_
    rw[List.lookup_cons]
    split
    ·rfl
    ·exact h
   ·exact x65 h
  ·exact x65 h
theorem x4w {cells:List (Str × Addr)} {y:Str} {c:Addr} (hc:cells.lookup y=some c):∀ {names:List (Str × NameKind)} {acc:List (Str × Addr)},(y,NameKind.free)∈names->((x2k cells names acc).lookup y).isSome=true
 | (n,k)::r,acc,h=>by
  unfold x2k
  rcases List.mem_cons.mp h with q | q
  ·cases q
   simp only[hc]
   rw[if_pos (by rfl)]
   refine x65 ?_
   rw[List.lookup_cons,beq_self_eq_true]
   rfl
  ·split
   ·split
    ·exact x4w hc q
    ·exact x4w hc q
   ·exact x4w hc q
theorem x63:∀ {names:List (Str × NameKind)} {h:Heap} {acc:List (Str × Addr)} {y:Str} {c:Addr},(y,c)∈cellsFrom h.objs.size names acc->(y,c)∈acc\/(h.objs.size<=c/\(pushCells h names).IsCell c none)
 | [],_,_,_,_,m=>.inl m
 | (n,k)::r,h,acc,y,c,m=>by
  unfold cellsFrom at m
  unfold pushCells
  split at m
  ·rename_i hk
   rw[if_pos hk]
   have m':(y,c)∈cellsFrom (h.push { cls:=.type "cell",data:=.cell none }).objs.size r ((n,h.objs.size)::acc):=by rw[Heap.size_push]; exact m
   rcases x63 m' with q | ⟨q1,q2⟩
   ·rcases List.mem_cons.mp q with e | q
    ·cases e
     refine .inr ⟨Nat.le_refl _,_,pushCells_keeps _ _ _ _ (Heap.get?_push_size _ rfl),rfl⟩
    ·exact .inl q
   ·rw[Heap.size_push]at q1
    exact .inr ⟨by omega,q2⟩
  ·rename_i hk
   rw[if_neg hk]
   exact x63 m
theorem x67:∀ {names:List (Str × NameKind)} {n:Nat} {acc:List (Str × Addr)},(∀ y c,(y,c)∈acc->c<n)->(∀ x y c,(x,c)∈acc->(y,c)∈acc->x=y)->∀ x y c,(x,c)∈cellsFrom n names acc->(y,c)∈cellsFrom n names acc->x=y
 | [],_,_,_,h=>h
 | (nm,k)::r,n,acc,hlt,h=>by
  unfold cellsFrom
  split
  ·refine x67 (n:=n+1) (acc:=(nm,n)::acc) (fun y c m=>?_) (fun x y c m1 m2=>?_)
   ·rcases List.mem_cons.mp m with e | m
    ·cases e; exact Nat.lt_succ_self _
    ·exact Nat.lt_succ_of_lt (hlt y c m)
   ·rcases List.mem_cons.mp m1 with e1 | m1 <;> rcases List.mem_cons.mp m2 with e2 | m2
    ·cases e1; cases e2; rfl
    ·cases e1; exact absurd (hlt y _ m2) (Nat.lt_irrefl _)
    ·cases e2; exact absurd (hlt x _ m1) (Nat.lt_irrefl _)
    ·exact h x y c m1 m2
  ·exact x67 hlt h
theorem x61 {lo:Nat} {y:Str}:∀ {names:List (Str × NameKind)} {n:Nat} {acc:List (Str × Addr)},lo<=n->(∀ c,acc.lookup y=some c->lo<=c)->∀ c,(cellsFrom n names acc).lookup y=some c->lo<=c
 | [],_,_,_,h=>h
 | (nm,k)::r,n,acc,hn,h=>by
  unfold cellsFrom
  split
  ·refine x61 (n:=n+1) (by omega) fun c e=>?_
   rw[List.lookup_cons]at e
   split at e
   ·cases e; exact hn
   ·exact h c e
  ·exact x61 hn h
theorem x6t {lo:Nat} {y:Str}:∀ {names:List (Str × NameKind)} {n:Nat} {acc:List (Str × Addr)},lo<=n->(y,NameKind.cell)∈names->∀ c,(cellsFrom n names acc).lookup y=some c->lo<=c
 | (nm,k)::r,n,acc,hn,h=>by
  unfold cellsFrom
  rcases List.mem_cons.mp h with q | q
  ·cases q
   rw[if_pos (by rfl)]
   refine x61 (n:=n+1) (by omega) fun c e=>?_
   rw[List.lookup_cons,beq_self_eq_true]at e
   cases e; exact hn
  ·split
   ·exact x6t (n:=n+1) (by omega) q
   ·exact x6t hn q
theorem x4m {y:Str}:∀ {names:List (Str × NameKind)} {n:Nat} {acc:List (Str × Addr)},(y,NameKind.cell) ∉ names->(cellsFrom n names acc).lookup y=acc.lookup y
 | [],_,_,_=>rfl
 | (nm,k)::r,n,acc,h=>by
  unfold cellsFrom
  split
  ·rename_i hk
   rw[x4m (fun z=>h (List.mem_cons_of_mem _ z)),List.lookup_cons]
   have hne:(y == nm)=false:=by
    cases e:y == nm with
    | false=>rfl
    | true=>
     have e1:y=nm:=beq_iff_eq.mp e
     have e2:k=NameKind.cell:=by simpa using hk
     exact absurd (by rw[e1,<- e2]; exact List.mem_cons_self) h
   rw[hne]
  ·exact x4m fun z=>h (List.mem_cons_of_mem _ z)
noncomputable def y5r (env:Env) (y:Str) (k:NameKind):NameKind:=if(k == NameKind.free && env.scope.kind == .function && env.kindOf y == some .cell)then .cell else k
theorem x5d {env:Env} {y:Str}:∀ (names:List (Str × NameKind)),(names.map fun(n,k)=>if(k == NameKind.free && env.scope.kind == .function && env.kindOf n == some .cell)then(n,NameKind.cell)else(n,k)).lookup y=(names.lookup y).map (y5r env y)
 | []=>rfl
 | (n,k)::r=>by
  have ih:=x5d (env:=env) (y:=y) r
  show List.lookup y ((if(k == NameKind.free && env.scope.kind == .function && env.kindOf n == some .cell)=true then(n,NameKind.cell)else(n,k))::_)=_
  cases hx:y == n with
  | true=>
   have e:=beq_iff_eq.mp hx
   subst e
   rw[List.lookup_cons,List.lookup_cons]
   by_cases hc:(k == NameKind.free && env.scope.kind == .function && env.kindOf y == some .cell)=true
   ·simp only[y5r,hc,if_true,beq_self_eq_true,Option.map_some]
   ·simp only[y5r,hc,beq_self_eq_true,Option.map_some]
    simp
  | false=>
   by_cases hc:(k == NameKind.free && env.scope.kind == .function && env.kindOf n == some .cell)=true
   ·rw[if_pos hc,List.lookup_cons,List.lookup_cons]; simp only[hx]; exact ih
   ·rw[if_neg hc,List.lookup_cons,List.lookup_cons]; simp only[hx]; exact ih
theorem y4r {l:List (Str × NameKind)} (hn:(l.map (·.1)).Nodup) {y:Str} {k:NameKind} (h:(y,k)∈l):l.lookup y=some k:=by
 induction l with
 | nil=>cases h
 | cons p r ih=>
  rw[List.lookup_cons]
  rcases List.mem_cons.mp h with e | h
  ·rw[<- e,beq_self_eq_true]
  ·have hne:y≠p.1:=fun e=>by
    have:=(List.nodup_cons.mp hn).1
    exact this (by show p.1∈_; rw[<- e]; exact List.mem_map.mpr ⟨(y,k),h,rfl⟩)
   have:(y == p.1)=false:=by simpa using hne
   rw[this]
   exact ih (List.nodup_cons.mp hn).2 h
noncomputable def z24 (scope:Scope) (env:Env) (C:Addr):Env:=
 { newEnv scope C env.globals (cellsFrom (C+1) scope.names (x2k env.cells scope.names [])) env.qual none .none (some env) builtinsNs with scope:=relabel scope env }
noncomputable def x28 (X:Cx) (N':List Str) (scope:Scope) (C:Addr) (s:Shared) (H:Hp) (fp:List Addr):Cx where
 prog:=X.prog
 w:=X.w
 K:=X.K
 mg:=X.mg
 base:=X.base
 A:=X.A
 N:=N'
 s₀:=s
 H₀:=H
 env:=z24 scope X.env C
 outer:=X.stack
 stack:=X.stack
 ex:=fp
 fn:=fun y=>scope.names.lookup y == some .cell
 calm:=X.calm
 pn:=[]
 xe:=fun _ _=>False
structure CompOk (X:Cx) (k:Nat) (N':List Str) (scope:Scope):Prop where
 kind:scope.kind=.function
 names:(scope.names.map (·.1)).Nodup
 len:N'.length=X.N.length+k
 frees:(scope.names.all fun y=>y.2 != .free || X.env.kindOf y.1 == some .cell || X.env.kindOf y.1 == some .free)=true
 outs:((N'.zip X.N).all fun p=>(p.1 == p.2 && scope.names.lookup p.1 == some .free) || scope.names.lookup p.1 == none || scope.names.lookup p.1 == some .globalImplicit)=true
theorem CompOk.free {X:Cx} {k:Nat} {N':List Str} {scope:Scope} (S:CompOk X k N' scope) {y:Str} (h:(y,NameKind.free)∈scope.names):X.env.kindOf y=some .cell\/X.env.kindOf y=some .free:=by
 have:=List.all_eq_true.mp S.frees (y,NameKind.free) h
 simp only[Bool.or_eq_true,bne_iff_ne,ne_eq,beq_iff_eq]at this
 rcases this with(h1 | h1) | h1
 ·exact absurd trivial h1
 ·exact .inl h1
 ·exact .inr h1
theorem CompOk.out {X:Cx} {k:Nat} {N':List Str} {scope:Scope} (S:CompOk X k N' scope) {i:Nat} {y:Str} (hi':i<X.N.length) (h:N'[i]? = some y) (hv:Vis (relabel scope X.env) y):X.N[i]? = some y/\scope.names.lookup y=some .free:=by
 have e2:X.N[i]? = some X.N[i]:=by simp[hi']
 have m:(y,X.N[i])∈N'.zip X.N:=List.mem_of_getElem? (i:=i) (by rw[List.getElem?_zip_eq_some]; exact⟨h,e2⟩)
 have:=List.all_eq_true.mp S.outs _ m
 simp only[Bool.or_eq_true,Bool.and_eq_true,beq_iff_eq]at this
 have hl:(relabel scope X.env).names.lookup y=(scope.names.lookup y).map (y5r X.env y):=x5d _
 rcases this with(⟨h1,h2⟩ | h1) | h1
 ·exact⟨by rw[e2,<- h1],h2⟩
 ·rw[h1]at hl
  rcases hv with z | z | z <;> (rw[hl]at z; cases z)
 ·rw[h1]at hl
  have hr:y5r X.env y .globalImplicit=.globalImplicit:=rfl
  rw[Option.map_some,hr]at hl
  rcases hv with z | z | z <;> (rw[hl]at z; cases z)
theorem Un.updNew {fs ex:List Addr} {P:Program} {w:World} {H H':Hp} {h h':Heap} {D:Addr} {o:HO} (u:Un fs ex H H' h h') (hok:HOk P w H h) (hD:h.objs.size<=D):Un fs ex H (upd H' D o) h h':=by
 have ne:∀ b ob,h.get? b=some ob->b≠D:=fun b ob e z=>absurd (Nat.lt_of_lt_of_le (Heap.lt_size e) hD) (by rw[z]; exact Nat.lt_irrefl _)
 have ne':∀ b x,H b=some x->b≠D:=fun b x e z=>absurd (Nat.lt_of_lt_of_le (hok.lt e) hD) (by rw[z]; exact Nat.lt_irrefl _)
 refine⟨u.keep,u.slot,fun b ob e n hx=>?_,u.there,fun b xs e=>?_,fun b ob x e=>?_,fun b ps e=>?_⟩
 ·rw[x0q (ne b ob e)]; exact u.free b ob e n hx
 ·rw[x0q (ne' b _ e)]; exact u.tups b xs e
 ·rw[x0q (ne' b _ e)]; exact u.frzs b ob x e
 ·rw[x0q (ne' b _ e)]; exact u.tbls b ps e
theorem HOk.add {P:Program} {w:World} {H:Hp} {h:Heap} {D:Addr} {o:HO} (x:HOk P w H h) (hn:H D=none) (new:x37 P w (upd H D o) h D o):HOk P w (upd H D o) h:=fun b u e=>by
 by_cases hb:b=D
 ·subst hb; rw[x1n]at e; cases e; exact new
 ·rw[x0q hb]at e
  exact(x b u e).stay (fun c v _ q=>q) (fun c q=>by rw[x0q (x11 q hn)]; exact q) fun c xs q=>by rw[x0q (x11 q hn)]; exact q
noncomputable def PTs (X:Cx) (ifs:List Expr) (t:TT):Prop:=
 ∀ (pins:List (Addr × Obj)) (s:Shared) (σ:St) (H:Hp) (Q:Bool->Hp->Prop),Inv X pins σ H s->t σ H Q->
  wpAny (model X.prog X.w) X.A (forIn ifs true fun c r=>if r=true then do let ok <- isTrue c X.env (eval c X.env); pure (ForInStep.yield ok)else pure (ForInStep.yield r)) (TP X pins σ Q) X.xe s
noncomputable def j6e:TT:=fun _ H Q=>Q true H
theorem z6c {X:Cx}:PTs X [] j6e:=fun pins s σ H Q I h=>wpAny_tests_nil ⟨H,I,h⟩
theorem z86 {X:Cx} {c:Expr} {t:TT} (h:PT X c t):PTs X [c] t:=fun pins s σ H Q I q=>wpAny_tests_one (h pins s σ H Q I q)
noncomputable def j01 (k:Nat) (g:TG) (tt:TT) (te:TE) (σ:St) (J:It) (H:Hp) (Fin:List V->Hp->Prop):Prop:=
 ∃ W:Nat->Nat->List V->Hp->Prop,(∃ m,W 0 m [] H)/\∀ i m ys H2,W i m ys H2->ys.length<=sizeLine /\
  ((J.stop i H2/\Fin ys H2)\/(J.go i H2/\ys.length<sizeLine/\∀ x H3,J.yld i H2 x H3->g x (σ++List.replicate k none) H3 fun σ4 H4=>(∃ τ,σ4=σ++τ/\τ.length=k) /\
    tt σ4 H4 fun b H5=>if b=true then te σ4 H5 fun v H6=>∃ m',m'<m/\W (i+1) m' (ys++[v]) H6 else ∃ m',m'<m/\W (i+1) m' ys H5))
noncomputable def z4g (k:Nat) (wi:TI) (g:TG) (tt:TT) (te:TE):TE:=fun σ H Q=>wi σ H fun J H1=>j01 k g tt te σ J H1 fun ys H2=>∀ p,H2 p=none->Q (.ref p) (upd H2 p (.lst ys))
noncomputable def lsO (us:List Value) (n:Nat):Obj:={ cls:=.type "list",data:=.seq us.toArray n }
theorem j0t {X:Cx} {pins:List (Addr × Obj)} {τ σ:St} {H:Hp} {s:Shared} (I:Inv X pins (σ++τ) H s):Inv X pins (σ++List.replicate τ.length none) H s:=
 I.weak (by simp) fun i v e=>by
  by_cases hi:i<σ.length
  ·rw[List.getElem?_append_left hi]at e ⊢
   exact e
  ·rw[List.getElem?_append_right (by omega),List.getElem?_replicate]at e
   split at e <;> cases e
section
variable {X:Cx} {k:Nat} {N':List Str} {scope:Scope} {pins:List (Addr × Obj)} {σ:St} {H2:Hp} {s2:Shared} {fp:List Addr}
noncomputable abbrev x86 (scope:Scope) (s2:Shared):Heap:=pushCells ((s2.heap.push (lsO [] 0)).push { cls:=.type "dict",data:=.dict #[] }) scope.names
theorem z2t (S:CompOk X k N' scope) (I2:Inv X pins σ H2 s2) (f2:∀ b∈fp,z18 X pins H2 b) (hfp:∀ b∈fp,b<s2.heap.objs.size) :
  Inv (x28 X N' scope (s2.heap.objs.size+1) s2 H2 fp) [(s2.heap.objs.size,lsO [] 0)] (σ++List.replicate k none) H2 { s2 with heap:=x86 scope s2 }:=by
 have e1:(s2.heap.push (lsO [] 0)).objs.size=s2.heap.objs.size+1:=Heap.size_push ..
 have e2:((s2.heap.push (lsO [] 0)).push { cls:=.type "dict",data:=.dict #[] }).objs.size=s2.heap.objs.size+1+1:=by rw[Heap.size_push,e1]
 have keep:∀ b o,s2.heap.get? b=some o->(x86 scope s2).get? b=some o:=fun b o e=>pushCells_keeps _ _ b o (Heap.get?_push_of_some _ (Heap.get?_push_of_some _ e))
 have hsub:∀ y c,(y,c)∈x2k X.env.cells scope.names []->X.env.cells.lookup y=some c:=x68 (fun _ _ m=>nomatch m)
 have cmem:∀ y c,(y,c)∈cellsFrom (s2.heap.objs.size+1+1) scope.names (x2k X.env.cells scope.names [])->X.env.cells.lookup y=some c\/(s2.heap.objs.size+1+1<=c/\(x86 scope s2).IsCell c none):=fun y c m=>by
  have m':(y,c)∈cellsFrom ((s2.heap.push (lsO [] 0)).push { cls:=.type "dict",data:=.dict #[] }).objs.size scope.names (x2k X.env.cells scope.names []):=by rw[e2]; exact m
  rcases x63 m' with q | ⟨q1,q2⟩
  ·exact .inl (hsub y c q)
  ·rw[e2]at q1; exact .inr ⟨q1,q2⟩
 have clt:∀ y c,X.env.cells.lookup y=some c->c<s2.heap.objs.size:=fun y c e=>by obtain⟨v,z⟩:=I2.cell y c e; exact z.lt
 have hl:∀ y,(relabel scope X.env).names.lookup y=(scope.names.lookup y).map (y5r X.env y):=fun y=>x5d _
 have ok:(x28 X N' scope (s2.heap.objs.size+1) s2 H2 fp).Ok:=by
  refine⟨I2.ok.mod,S.kind,I2.ok.glob,I2.ok.blt,Nat.le_succ _,fun x y c h1 h2=>?_,fun x hx=>?_,fun x c hf h=>?_,I2.ok.hd,I2.ok.frames,.inl rfl,fun b hb=>⟨?_,fun x c h z=>?_⟩,I2.bs,Nat.le_trans I2.ok.bsz I2.sz,fun b o e hb=>?_,fun b hb z=>?_,I2.stack,I2.stkFree⟩
  ·refine x67 (n:=s2.heap.objs.size+1+1) (names:=scope.names) (acc:=x2k X.env.cells scope.names []) (fun y c m=>?_) (fun x y c m1 m2=>?_) x y c (PySem.mem_of_lookup h1) (PySem.mem_of_lookup h2)
   ·exact Nat.lt_of_lt_of_le (clt y c (hsub y c m)) (by omega)
   ·exact I2.ok.inj x y c (hsub x c m1) (hsub y c m2)
  ·have hx':(relabel scope X.env).names.lookup x=some .cell\/(relabel scope X.env).names.lookup x=some .free:=hx
   rw[hl x]at hx'
   have:scope.names.lookup x=some .cell\/scope.names.lookup x=some .free:=by
    cases e:scope.names.lookup x with
    | none=>rw[e]at hx'; rcases hx' with z | z <;> cases z
    | some kd=>
     rw[e,Option.map_some]at hx'
     cases kd <;> first
      | exact .inl rfl
      | exact .inr rfl
      | (rcases hx' with z | z <;> (have z':=Option.some.inj z; unfold y5r at z'; simp at z'))
   rcases this with q | q
   ·exact Option.isSome_iff_exists.mp (PySem.W.cellsFrom_some scope.names (s2.heap.objs.size+1+1) _ (.inl q))
   ·have qm:=PySem.mem_of_lookup q
    have hk:=S.free qm
    obtain⟨c,hc⟩:=I2.ok.has x hk
    exact Option.isSome_iff_exists.mp (PySem.W.cellsFrom_some scope.names (s2.heap.objs.size+1+1) _ (.inr (x4w hc qm)))
  ·have hf':(scope.names.lookup x == some .cell)=true:=hf
   have:=x6t (lo:=s2.heap.objs.size) (n:=s2.heap.objs.size+1+1) (acc:=x2k X.env.cells scope.names []) (by omega) (PySem.mem_of_lookup (beq_iff_eq.mp hf')) c h
   exact this
  ·have:=hfp b hb
   show b≠s2.heap.objs.size+1
   exact Nat.ne_of_lt (Nat.lt_of_lt_of_le this (Nat.le_succ _))
  ·have q:=hfp b hb
   rcases cmem x c (PySem.mem_of_lookup h)with w | ⟨w,_⟩
   ·exact(f2 b hb).2.2.2.2.1 x c w z
   ·subst z; exact absurd (Nat.lt_of_lt_of_le q (Nat.le_trans (by omega) w)) (Nat.lt_irrefl _)
  ·rcases(f2 b hb).2.2.2.1 with z | z
   ·exact I2.ok.noex b o e z
   ·have:=Heap.lt_size e
    have:=I2.ok.bsz
    exact absurd (Nat.lt_of_lt_of_le (Heap.lt_size e) (Nat.le_trans I2.ok.bsz z)) (Nat.lt_irrefl _)
  ·rcases List.mem_cons.mp (I2.stkSub b z)with q | q
   ·exact(f2 b hb).2.1 q
   ·exact(f2 b hb).2.2.1 q
 obtain⟨m,hn,hloc⟩:=id I2.loc
 refine⟨ok,rfl,I2.bare,Un.kept keep,⟨fun _=>none,?_,fun i y v h1 h2 h3=>?_⟩,fun y c h=>?_,I2.hok.fresh (Nat.le_succ _),fun y c h=>?_,fun p hp=>?_,I2.hok.kept keep,?_⟩
 ·have:=(Heap.Ns.new (s2.heap.push (lsO [] 0)) (.type "dict")).keeps (pushCells_keeps scope.names _)
  rw[e1]at this
  exact this
 ·by_cases hi:i<σ.length
  ·have h3':Vis (relabel scope X.env) y:=h3
   obtain⟨o1,o2⟩:=S.out (by rw[<- I2.len]; exact hi) h1 h3'
   have hk:=S.free (PySem.mem_of_lookup o2)
   have hs:σ[i]? = some (some v):=by
    rw[List.getElem?_append_left hi]at h2
    exact h2
   obtain⟨u,r,l⟩:=hloc i y v o1 hs (.inr hk)
   refine⟨u,r,?_⟩
   rcases l with⟨l,_⟩ | ⟨_,c,hc,hcell⟩
   ·rcases hk with z | z <;> (rw[l]at z; cases z)
   ·refine .inr ⟨?_,c,?_,hcell.keeps keep⟩
    ·show(relabel scope X.env).names.lookup y=some .cell\/(relabel scope X.env).names.lookup y=some .free
     rw[hl y,o2,Option.map_some]
     unfold y5r
     split
     ·exact .inl rfl
     ·exact .inr rfl
    ·show(cellsFrom (s2.heap.objs.size+1+1) scope.names (x2k X.env.cells scope.names [])).lookup y=some c
     rw[x4m (fun z=>by have:=y4r S.names z; rw[o2]at this; cases this)]
     obtain⟨c',hc'⟩:=Option.isSome_iff_exists.mp (x4w (acc:=[]) hc (PySem.mem_of_lookup o2))
     have:=hsub y c' (PySem.mem_of_lookup hc')
     rw[hc]at this; cases this
     exact hc'
  ·rw[List.getElem?_append_right (by omega),List.getElem?_replicate]at h2
   split at h2 <;> cases h2
 ·rcases cmem y c (PySem.mem_of_lookup h)with w | ⟨_,w⟩
  ·obtain⟨v,z⟩:=I2.cell y c w
   exact⟨v,z.keeps keep⟩
  ·exact⟨_,w⟩
 ·rcases cmem y c (PySem.mem_of_lookup h)with w | ⟨w,_⟩
  ·exact I2.freeC y c w
  ·exact I2.hok.fresh (by omega)
 ·have e:p=(s2.heap.objs.size,lsO [] 0):=by
   have:p ∈ [(s2.heap.objs.size,lsO [] 0)]:=hp
   simpa using this
  subst e
  refine⟨pushCells_keeps _ _ _ _ (Heap.get?_push_of_some _ (Heap.get?_push_size _ rfl)),I2.hok.fresh (Nat.le_refl _),?_,fun z=>?_,fun v z=>nomatch z⟩
  ·show s2.heap.objs.size≠s2.heap.objs.size+1
   omega
  ·have z':s2.heap.objs.size∈frs X.stack:=z
   rcases List.mem_cons.mp (I2.stkSub _ z')with q | q
   ·exact absurd I2.lt (by rw[<- q]; exact Nat.lt_irrefl _)
   ·exact I2.nofs (Nat.le_refl _) q
 ·rw[List.length_append,List.length_replicate,I2.len]
  exact S.len.symm
theorem z3g {us:List Value} {n:Nat} {ys:List V} {H':Hp} {s':Shared} {σ':St} {C:Addr} (I2:Inv X pins σ H2 s2) (f2:∀ b∈fp,z18 X pins H2 b)
  (I3:Inv (x28 X N' scope C s2 H2 fp) [(s2.heap.objs.size,lsO us n)] σ' H' s') (r:x2z ys us) (hz:ys.length<=sizeLine):Inv X pins σ (upd H' s2.heap.objs.size (.lst ys)) s':=by
 obtain⟨e,hn,_⟩:=I3.pin (s2.heap.objs.size,lsO us n) (List.mem_append_right _ (List.mem_singleton.mpr rfl))
 have u:Un (frs X.stack) fp H2 H' s2.heap s'.heap:=I3.base
 exact I2.call' (ch:=fp) I3.os (u.updNew I2.hok (Nat.le_refl _)) (I3.hok.add hn ⟨hz,us,n,r,e⟩) I3.bare fun b hb=>⟨(f2 b hb).2.2.2.1,(f2 b hb).2.1,(f2 b hb).2.2.2.2⟩
end
theorem y8e {X:Cx} {k:Nat} {N':List Str} {scope:Scope} {pins:List (Addr × Obj)} {σ:St} {H2:Hp} {s2:Shared} {fp:List Addr} {elt tg iter:Expr} {ifs:List Expr} {pos:Pos} {it:Addr} {tn:Nat->Heap->Prop} {J:It} {g:TG} {tt:TT} {te:TE} {Fin:List V->Hp->Prop} {E:Value->Shared->Prop} {RR:Value->Addr->Result->Shared->Prop}
  (hc:X.calm=true) (S:CompOk X k N' scope) (hg:∀ C s H fp,PG (x28 X N' scope C s H fp) tg g) (ht:∀ C s H fp,PTs (x28 X N' scope C s H fp) ifs tt) (he:∀ C s H fp,PE (x28 X N' scope C s H fp) elt te)
  (I2:Inv X pins σ H2 s2) (T:Turn X.prog X.w X.K tg J fp it tn) (st2:tn 0 s2.heap) (f2:∀ b∈fp,z18 X pins H2 b) (R:j01 k g tt te σ J H2 Fin)
  (hRR:∀ C ys H' s' m',Inv X pins σ (upd H' s2.heap.objs.size (.lst ys)) s'->s'.heap.Ns C m'->H' s2.heap.objs.size=none->upd H' s2.heap.objs.size (.lst ys) C=none->C≠X.env.locals->X.s₀.heap.objs.size<=C->s2.heap.objs.size<C->
    Fin ys H'->RR (.ref s2.heap.objs.size) C (.ok .next) s') :
  wpAny (model X.prog X.w) X.A (newList []) (fun acc s₃=>wpAny (model X.prog X.w) X.A (newFunctionEnv scope X.env.globals (x2k X.env.cells scope.names []) [] X.env.qual none .none (some X.env)) (fun cenv s₄=>
   codeAny (model X.prog X.w) X.A (.compStart (.ListComp elt [⟨tg,iter,ifs,0⟩] scope pos) 0 (.ref it) acc { cenv with scope:=relabel scope X.env }) (RR acc cenv.locals) s₄) E s₃) E s2:=by
 refine wpAny_newObj_type (y6n ?_)
 have e1:(s2.heap.push (lsO [] 0)).objs.size=s2.heap.objs.size+1:=Heap.size_push ..
 have hfp:∀ b∈fp,b<s2.heap.objs.size:=fun b hb=>by obtain⟨o,e,_⟩:=T.obj _ _ st2 b hb; exact Heap.lt_size e
 obtain⟨W,⟨m0,w0⟩,turn⟩:=R
 have I3:=z2t S I2 f2 hfp
 have st3:tn 0 (x86 scope s2):=T.keep _ _ _ st2 fun b hb o e=>pushCells_keeps _ _ b o (Heap.get?_push_of_some _ (Heap.get?_push_of_some _ e))
 have hDC:s2.heap.objs.size≠s2.heap.objs.size+1:=by omega
 -- what stays true of the iterator's objects
 have stat:∀ {H':Hp} {us:List Value} {n:Nat},(∀ b∈fp,H' b=none)->∀ b∈fp,z18 (x28 X N' scope (s2.heap.objs.size+1) s2 H2 fp) [(s2.heap.objs.size,lsO us n)] H' b:=fun {H' us n} hn b hb=>by
  have q:=I3.ok.exf b hb
  refine⟨hn b hb,q.1,I3.ok.exfs b hb,.inl hb,q.2,fun p hp z=>?_⟩
  have hp':p ∈ [(s2.heap.objs.size,lsO us n)]:=hp
  have e:p=(s2.heap.objs.size,lsO us n):=by simpa using hp'
  subst e
  have:=hfp b hb
  have z':s2.heap.objs.size=b:=z
  exact absurd this (by rw[z']; exact Nat.lt_irrefl _)
 have loop:∀ it',it'=Value.ref it->codeAny (model X.prog X.w) X.A (.compLoop (.ListComp elt [⟨tg,iter,ifs,0⟩] scope pos) 0 it' (.ref s2.heap.objs.size) (z24 scope X.env (s2.heap.objs.size+1))) (RR (.ref s2.heap.objs.size) (s2.heap.objs.size+1)) { s2 with heap:=x86 scope s2 }:=by
  rintro _ rfl
  refine y5y (fun n s'=>∃ i ys us cnt H',Inv (x28 X N' scope (s2.heap.objs.size+1) s2 H2 fp) [(s2.heap.objs.size,lsO us cnt)] (σ++List.replicate k none) H' s'/\tn i s'.heap/\(∀ b∈fp,H' b=none)/\x2z ys us/\W i n ys H') ?_ m0
   ⟨0,[],[],0,H2,I3,st3,fun b hb=>(f2 b hb).1,.nil,w0⟩
  rintro n s3 ⟨i,ys,us,cnt,H3,J3,st,fr,r3,w3⟩
  obtain⟨hz,hw⟩:=turn i n ys H3 w3
  rcases hw with⟨stop,fin⟩ | ⟨go,hlt,step⟩
  ·refine thn (T.done (x28 X N' scope (s2.heap.objs.size+1) s2 H2 fp) rfl rfl rfl hc i _ s3 _ H3 _ J3 (stat fr) st stop) fun rr s4 ⟨hr,I4⟩=>?_
   subst hr
   obtain⟨m',hn',_⟩:=id I4.loc
   obtain⟨eD,nD,_⟩:=I4.pin (s2.heap.objs.size,lsO us cnt) (List.mem_append_right _ (List.mem_singleton.mpr rfl))
   refine hRR (s2.heap.objs.size+1) ys H3 s4 m' (z3g I2 f2 I4 r3 hz) hn' nD ?_ ?_ ?_ (Nat.lt_succ_self _) fin
   ·rw[x0q (Ne.symm hDC)]; exact I4.free
   ·exact Ne.symm (Nat.ne_of_lt (Nat.lt_of_lt_of_le I2.lt (Nat.le_succ _)))
   ·have:=I2.sz; omega
  ·refine thn (T.item (x28 X N' scope (s2.heap.objs.size+1) s2 H2 fp) rfl rfl rfl hc i _ s3 _ H3 _ J3 (stat fr) st go) fun rr s4 ⟨u,hr,h4⟩=>?_
   subst hr
   refine thn h4 fun _ s5 hh0=>?_
   obtain⟨x,H5,I5,r5,y5,st5,fr5⟩:=hh0
   have I5':=I5.pinned (stat fr5) (T.obj _ _ st5)
   refine thn (hg _ _ _ _ _ s5 _ H5 x u _ I5' r5 (step x H5 y5)) fun _ s6 ⟨σ6,H6,I6,⟨τ,e6,l6⟩,q6⟩=>?_
   subst e6
   refine thn (ht _ _ _ _ _ s6 _ H6 _ I6 q6) fun ok s7 hh0=>?_
   obtain⟨H7,I7,q7⟩:=hh0
   have kept:∀ {s':Shared} {H':Hp} {σ':St},Inv (x28 X N' scope (s2.heap.objs.size+1) s2 H2 fp) ([(s2.heap.objs.size,lsO us cnt)]++y0k fp s5.heap) σ' H' s'->tn (i+1) s'.heap/\∀ b∈fp,H' b=none:=fun {s' H' σ'} I'=>by
    refine⟨T.keep _ _ _ st5 fun b hb o e=>(I'.pin (b,o) (List.mem_append_right _ (List.mem_append_right _ (x7c hb e)))).1,fun b hb=>?_⟩
    obtain⟨o,e,d⟩:=T.obj _ _ st5 b hb
    exact(I'.pin (b,o) (List.mem_append_right _ (List.mem_append_right _ (x7c hb e)))).2.1
   cases ok with
   | false=>
    rw[if_neg (by decide)]at q7 ⊢
    obtain⟨m',hm,w7⟩:=q7
    have:=j0t I7.unpinned
    rw[l6]at this
    exact⟨m',hm,i+1,ys,us,cnt,H7,this,(kept I7).1,(kept I7).2,r3,w7⟩
   | true=>
    rw[if_pos rfl]at q7 ⊢
    refine thn (he _ _ _ _ _ s7 _ H7 _ I7 q7) fun u8 s8 hh0=>?_
    obtain⟨v,H8,I8,r8,m',hm,w8⟩:=hh0
    obtain⟨eD,nD,neD,nfD,dD⟩:=I8.pin (s2.heap.objs.size,lsO us cnt) (List.mem_append_right _ (List.mem_append_left _ (List.mem_singleton.mpr rfl)))
    refine append_at eD (fun h9 hs9 hD9=>?_) (hsz:=by rw[List.size_toArray,<- r3.length]; exact Nat.le_of_lt hlt)
    have Ia:=I8.pins_of (pins':=y0k fp s5.heap) fun p hp=>I8.pin p (List.mem_append_right _ (List.mem_append_right _ hp))
    have nfp:∀ p∈y0k fp s5.heap,p.1≠s2.heap.objs.size:=fun p hp z=>by
     have:=hfp p.1 (y4y hp).1
     exact absurd this (by rw[z]; exact Nat.lt_irrefl _)
    have Ib:=Ia.turned (h':=h9) (t':=s8.toks) (it:=s2.heap.objs.size) (fun b o hb e=>hs9.extBut b o hb e) nD neD (.inr (Nat.le_refl _)) (fun y c h z=>by
      obtain⟨vv,o,ho,hd⟩:=I8.cell y c h
      rw[z,eD]at ho
      cases ho
      cases hd) (fun p hp=>nfp p (by
      have hp':p ∈ []++y0k fp s5.heap:=hp
      simpa using hp'))
    have Ic:=Ib.pins_of (pins':=[(s2.heap.objs.size,lsO (us++[u8]) (cnt+1))]) fun p hp=>by
     have e:p=(s2.heap.objs.size,lsO (us++[u8]) (cnt+1)):=by simpa using hp
     subst e
     refine⟨?_,nD,neD,nfD,fun v z=>nomatch z⟩
     show h9.get? s2.heap.objs.size=_
     rw[hD9]
     unfold lsO
     simp
    have Id:=j0t Ic
    rw[l6]at Id
    have kp:=kept I8
    refine⟨m',hm,i+1,ys++[v],us++[u8],cnt+1,H8,Id,T.keep _ _ _ kp.1 fun b hb o e=>hs9.extBut b o (fun z=>by
     have:=hfp b hb
     have z':b=s2.heap.objs.size:=z
     exact absurd this (by rw[z']; exact Nat.lt_irrefl _)) e,kp.2,x2z.append r3 (.cons r8 .nil),w8⟩
 have hC:(s2.heap.push { cls:=.type "list",dict:=none,data:=.seq ([]:List Value).toArray }).objs.size=s2.heap.objs.size+1:=Heap.size_push ..
 have fin:=codeAny_compStart_list (loop _ rfl) (T.self X.A 0 _ _ _ st3 (loop _ rfl))
 dsimp only at fin ⊢
 rw[hC]
 exact fin
theorem CompOk.locs {X:Cx} {k:Nat} {N':List Str} {scope:Scope} (S:CompOk X k N' scope):∀ y∈scope.names,y.2=.local->scope.names.lookup y.1=some .local:=fun y hy e=>by
 obtain⟨n,kd⟩:=y
 have e':kd=.local:=e
 subst e'
 exact y4r S.names hy
theorem y00 {h:Heap} {C c:Addr} {m:Str->Option Value} {v:Option Value} (hn:h.Ns C m) (hc:h.IsCell c v):c≠C:=fun z=>by
 obtain⟨o,es,ep,ho,hd,_⟩:=hn
 obtain⟨o',ho',hd'⟩:=hc
 rw[z,ho]at ho'
 cases ho'
 rw[hd]at hd'
 cases hd'
section
variable {X:Cx} {k:Nat} {N':List Str} {scope:Scope} {elt tg iter:Expr} {ifs:List Expr} {pos:Pos} {wi:TI} {g:TG} {tt:TT} {te:TE}
theorem z6y (hc:X.calm=true) (S:CompOk X k N' scope) (hi:PI X tg iter wi) (hg:∀ C s H fp,PG (x28 X N' scope C s H fp) tg g) (ht:∀ C s H fp,PTs (x28 X N' scope C s H fp) ifs tt) (he:∀ C s H fp,PE (x28 X N' scope C s H fp) elt te)
  (hs:∀ x,foldedSetIterable iter X.env x=pure x:=by intro _; rfl):PE X (.ListComp elt [⟨tg,iter,ifs,0⟩] scope pos) (z4g k wi g tt te):=by
 intro pins s σ H Q I h
 rw[eval_ListComp]
 refine wpAny_comprehension_free (use:=none) rfl hs (x8i fun y hy e=>?_) S.kind S.locs (thn (hi pins s σ H _ I h) fun v s1 h1=>thn h1 fun itv s2 h2=>?_)
 ·obtain⟨n,kd⟩:=y
  have e':kd=.free:=e
  subst e'
  exact I.ok.has n (S.free hy)
 ·obtain⟨it,fp,tn,J,H2,e,I2,T,st2,f2,R⟩:=h2
  subst e
  refine y8e hc S hg ht he I2 T st2 f2 R ?_
  intro C ys H' s' m' I' hn hD hCn hCL hCs hCD fin
  refine⟨m',hn,fun h' hs'=>⟨.ref s2.heap.objs.size,_,I'.turned (h':=h') (t':=s'.toks) (it:=C) (fun b o hb e=>hs'.extBut b o hb e) hCn hCL (.inr hCs) (fun x c h=>?_) (fun p hp z=>?_),rfl,fin _ hD⟩⟩
  ·obtain⟨v,q⟩:=I'.cell x c h
   exact y00 hn q
  ·have:=Heap.lt_size (I2.pin p hp).1
   exact absurd (Nat.lt_trans this hCD) (by rw[z]; exact Nat.lt_irrefl _)
theorem z8n {i:Nat} {y:Str} {py spos:Pos} (hN:X.N.Nodup) (hy:X.N[i]? = some y) (hx:Loc X.env.scope y) (hsw:swapsWith (.ListComp elt [⟨tg,iter,ifs,0⟩] scope pos) (some (.Name y py)) spos.line X.env=pure true)
  (hc:X.calm=true) (S:CompOk X k N' scope) (hi:PI X tg iter wi) (hg:∀ C s H fp,PG (x28 X N' scope C s H fp) tg g) (ht:∀ C s H fp,PTs (x28 X N' scope C s H fp) ifs tt) (he:∀ C s H fp,PE (x28 X N' scope C s H fp) elt te)
  (hs:∀ x,foldedSetIterable iter X.env x=pure x:=by intro _; rfl) (hf:X.fn y=true\/X.env.scope.names.lookup y=some .local:=by first | exact .inl rfl | exact .inr rfl | assumption) :
  PS X (.Assign [.Name y py] (.ListComp elt [⟨tg,iter,ifs,0⟩] scope pos) spos) (j4x (z4g k wi g tt te) (z9j i)):=by
 intro pins s σ H D I h
 rw[exec_Assign_Name_used _ _ _ _ hsw]
 refine wpAny_bind (wpAny_standAt (wpAny_bind ?_))
 show wpAny _ X.A (do let _ <- comprehension (.ListComp elt [⟨tg,iter,ifs,0⟩] scope pos) scope X.env _ (newList []) false (eval iter X.env) (some (assign (.Name y py) X.env))) _ _ s
 refine wpAny_bind (wpAny_mono (wpAny_comprehension_free (use:=some (assign (.Name y py) X.env)) (Q:=fun _ s'=>SP X pins D .next s') rfl hs (x8i fun z hz e=>?_) S.kind S.locs
  (thn (hi pins s σ H _ I h) fun v s1 h1=>thn h1 fun itv s2 h2=>?_)) (fun _ s' hq=>wpAny_pure (wpAny_pure hq)) fun _ _ e=>e)
 ·obtain⟨n,kd⟩:=z
  have e':kd=.free:=e
  subst e'
  exact I.ok.has n (S.free hz)
 ·obtain⟨it,fp,tn,J,H2,e,I2,T,st2,f2,R⟩:=h2
  subst e
  refine y8e hc S hg ht he I2 T st2 f2 R ?_
  intro C ys H' s' m' I' hn hD hCn hCL hCs hCD fin
  show wpAny _ X.A (assign (.Name y py) X.env (.ref s2.heap.objs.size)) _ _ _
  refine wpAny_assign_Name (y5i I' hN hy hx (v:=.ref s2.heap.objs.size) rfl (fun s'' I'' ⟨a,sb,ha⟩=>?_) hf)
  have hCa:C≠a:=fun z=>by
   rcases ha with q | q
   ·exact hCL (z.trans q)
   ·obtain⟨v,w⟩:=I'.cell y a q
    exact y00 hn w z.symm
  have hn2:=hn.sameBut sb hCa
  refine⟨m',hn2,fun h' hs'=>⟨_,_,I''.turned (h':=h') (t':=s''.toks) (it:=C) (fun b o hb e=>hs'.extBut b o hb e) hCn hCL (.inr hCs) (fun x c h=>?_) (fun p hp z=>?_),fin _ hD⟩⟩
  ·obtain⟨v,q⟩:=I''.cell x c h
   exact y00 hn2 q
  ·have:=Heap.lt_size (I2.pin p hp).1
   exact absurd (Nat.lt_trans this hCD) (by rw[z]; exact Nat.lt_irrefl _)
end
end L2
namespace L3
open PySem PySem.Spec PyProof.Rows PySem.W L2
section
variable {prog:Program} {w:World} {A:Around} {E:Value->Shared->Prop} {s:Shared} {K:Frag} {x C:Addr} {ox:Obj}
structure XAt (h:Heap) (x:Addr) (ox:Obj) (C:Addr):Prop where
 at_:h.get? x=some ox
 cls:ox.cls=.ref C
theorem XAt.type {M:Model} {h:Heap} (I:XAt h x ox C):Looks M h (typeOf (.ref x)) (.ref C):=I.cls ▸ (Looks.ld I.at_).andThen .now
structure XCls (K:Frag) (C:Addr):Prop where
 ci:(clsIn K C).isSome=true
 ga:findIn K (.ref C) "__getattribute__" = some (some (.builtin "BaseException.__getattribute__"))
 gt:findIn K (.ref C) "__getattr__" = some none
 cl:findIn K (.ref C) "__class__" = some (some (.builtin "object.__class__"))
 cg:specialIn K (.builtin "object.__class__") "__get__" = some (some (.builtin "getset_descriptor.__get__"))
 ct:takesIn K (.builtin "object.__class__")=some true
 mo:mroIn K C (.type "object")=some true
 mb:mroIn K C (.type "BaseException")=some true
theorem z95 {M:Model} {h:Heap} (X:K.In h) (I:XAt h x ox C) (XC:XCls K C):Looks M h (Builtin.ObjectAttr.find (.ref x) (.ref C) "__class__") (.bind (.builtin "getset_descriptor.__get__") (.builtin "object.__class__")):=by
 have L1:=looks_findIn (M:=M) X XC.cl
 have L2:Looks M h (Builtin.ObjectAttr.getOf (some (.builtin "object.__class__"))) _:=looks_specialIn (M:=M) X XC.cg
 have L3:=looks_takesIn (M:=M) X XC.ct
 exact L1.andThen (L2.andThen ((show Looks M h (Builtin.ObjectAttr.dataDescriptor? (some (.builtin "object.__class__")) (some (.builtin "getset_descriptor.__get__"))) (some ((.builtin "getset_descriptor.__get__"),(.builtin "object.__class__")))from L3.andThen .now).andThen (Looks.tag .now)))
theorem y6u {tp:Value} {R:Result->Shared->Prop} (X:K.In s.heap) (I:XAt s.heap x ox C) (hm:mroIn K C (.type "object")=some true)
  (h:R (.ok (.ret (.ref C))) s):codeAny (model prog w) A (.call (.builtin "getset_descriptor.__get__") ⟨[.builtin "object.__class__",.ref x,tp],[]⟩) R s:=by
 obtain⟨hh,g,dr,t,os⟩:=s
 have L0:=I.type (M:=model prog w)
 have L1:=looks_mroIn (M:=model prog w) X hm
 refine codeAny_call_builtin KF.slot_gs.plain KF.entry_gs (KF.slot_gs.check _ _ _ _ _ _ _ _ KF.type_class (KF.args_gs _ _ _) ?_)
 unfold Builtin.«getset_descriptor.__get__» Builtin.Getset_descriptor.descrGet
 rw[dga_obj]
 refine wpAny_bind (wpAny_pure ?_)
 unfold Builtin.Getset_descriptor.descrGetter Builtin.Getset_descriptor.descrCheckInstance Builtin.Getset_descriptor.descrNameAndClass isInstance
 simp only[KF.owner_class]
 repeat lk
 refine⟨Code.quiet_builtin _ (by decide +kernel),codeAny_builtin KF.entry_class ?_⟩
 unfold Builtin.«object.__class__» shownTypeOf
 repeat lk
 exact h
theorem z4e {M:Model} {nameV:Value} {Q:Unit->Shared->Prop} (X:K.In s.heap) (I:XAt s.heap x ox C) (XC:XCls K C) (hq:Q () s):wpAny M A (checkBuiltinCall "BaseException.__getattribute__" ⟨[.ref x,nameV],[]⟩) Q E s:=by
 obtain⟨hh,g,d,t,os⟩:=s
 have L0:=I.type (M:=M)
 have L1:=looks_mroIn (M:=M) X XC.mb
 have hk:builtinKind "BaseException.__getattribute__" = some .slot:=by decide +kernel
 have hsplit:splitId "BaseException.__getattribute__" = some ("BaseException","__getattribute__"):=by decide +kernel
 have ha:=PySem.F.args_bexc_ga (.ref x) nameV
 simp only[checkBuiltinCall,hk,hsplit]
 unfold isInstance
 repeat lk
 exact hq
theorem j5e {tk:Tok} {R:Result->Shared->Prop} (X:K.In s.heap) (I:XAt s.heap x ox C) (XC:XCls K C) (h:R (.ok (.ret (.ref C))) s) :
  codeAny (model prog w) A (.call (.builtin "BaseException.__getattribute__") ⟨[.ref x,.str "__class__" tk],[]⟩) R s:=by
 refine codeAny_call_builtin PySem.F.excAttr_ValueError.ga.plain PySem.F.entry_bexc_ga (z4e X I XC ?_)
 obtain⟨hh,g,d,t,os⟩:=s
 have L0:=I.type (M:=model prog w)
 have L1:=z95 (M:=model prog w) X I XC
 show wpAny _ _ (Builtin.«object.__getattribute__» ⟨[.ref x,.str "__class__" tk],[]⟩) _ _ _
 refine wpAny_bind (wpAny_pure ?_)
 refine wpAny_bind (wpAny_pure ?_)
 refine wpAny_bind (L0.at (wpAny_bind (L1.at ?_)))
 show wpAny _ _ (holding [.builtin "object.__class__"] (call (.builtin "getset_descriptor.__get__") [.builtin "object.__class__",.ref x,.ref C]) >>= ret) _ _ _
 exact wpAny_bind (wpAny_holding (wpAny_call (y6u X I XC.mo (wpAny_pure h))))
theorem z5a {Q:Option Value->Shared->Prop} (X:K.In s.heap) (I:XAt s.heap x ox C) (XC:XCls K C) (h:Q (some (.ref C)) { s with toks:=s.toks+1 }):wpAny (model prog w) A (getAttr? (.ref x) "__class__") Q E s:=by
 obtain⟨hh,g,d,t,os⟩:=s
 have L0:=I.type (M:=model prog w)
 have L1:=looks_findIn (M:=model prog w) X XC.ga
 have L2:=looks_findIn (M:=model prog w) X XC.gt
 have f3:=PySem.F.excAttr_ValueError.ga.bind (.ref x)
 unfold getAttr? getAttrBy? getAttrBy
 refine wpAny_bind (wpAny_mkText (wpAny_bind (wpAny_attempt (wpAny_holding (wpAny_bind (L0.at (wpAny_bind (L1.at ?_))))))))
 show wpAny _ _ (getAttrByItsOwn _ _ _ _ _ _) _ _ _
 unfold getAttrByItsOwn
 refine wpAny_bind (L2.at ?_)
 refine wpAny_bind (wpAny_attempt (wpAny_holding ?_))
 show wpAny _ _ (boundAndCalled _ _ _) _ _ _
 unfold boundAndCalled
 rw[f3]
 refine wpAny_bind (wpAny_pure ?_)
 show wpAny _ _ (call (.builtin "BaseException.__getattribute__") [.ref x,.str "__class__" t]) _ _ _
 refine wpAny_call (j5e (s:=⟨hh,g,d,t+1,os⟩) X I XC ?_)
 exact handed_on rfl (wpAny_pure h)
theorem y5d {M:Model} {h:Heap} {D:Addr} (X:K.In h) (e:(clsIn K D).isSome=true):Looks M h (isType (.ref D)) true:=by
 unfold clsIn at e
 split at e
 ·rename_i c' d' cd' sl' ho
  intro A' Q' E' s' k q
  unfold isType loadHead
  exact wpAny_bind (wpAny_loadPart (k _ _ (X _ _ ho)) (wpAny_pure q))
 ·cases e
theorem z1a {c:Value} {dep:Int} {tk:Tok} {Q:Fin->Shared->Prop} (X:K.In s.heap) (I:XAt s.heap x ox C) (XC:XCls K C) (hty:Looks (model prog w) s.heap (typeOf c) (.type "type")) (his:Looks (model prog w) s.heap (isType c) true)
  (hne:(Value.ref C == c)=false) (hsub:Looks (model prog w) s.heap (isSubtype (.ref C) c) false) (h:Q (.done (.ret (.bool false))) { s with toks:=s.toks+1 }) :
  wpAny (model prog w) A (Builtin.«isinstance.nested» ⟨[.ref x,c,.int dep tk],[]⟩) Q E s:=by
 have hisD:=y5d (M:=model prog w) X XC.ci
 obtain⟨h0,g,d,tt,os⟩:=s
 have L0:=I.type (M:=model prog w)
 have LI:Looks (model prog w) h0 (isInstance (.ref x) c) false:=L0.andThen hsub
 unfold Builtin.«isinstance.nested»
 refine wpAny_bind (L0.at ?_)
 rw[if_neg (fun q=>by rw[hne]at q; exact Bool.noConfusion q)]
 refine wpAny_bind (hty.at ?_)
 rw[if_pos (by decide)]
 k_delta "plainIsInstance"
 refine wpAny_bind (wpAny_bind (his.at ?_))
 simp only[Bool.not_true,Bool.false_eq_true,if_false]
 refine wpAny_bind (LI.at ?_)
 simp only[Bool.false_eq_true,if_false]
 refine wpAny_bind (z5a X I XC ?_)
 refine wpAny_bind (hisD.at ?_)
 simp only[Bool.not_true,Bool.false_eq_true,if_false]
 refine wpAny_bind (wpAny_rule ?_)
 refine hsub.at ?_
 first
  | exact wpAny_pure h
  | exact wpAny_pure (wpAny_pure h)
  | exact wpAny_bind (wpAny_pure (wpAny_pure h))
theorem j0v {T:String} {Q:Value->Shared->Prop} (X:K.In s.heap) (I:XAt s.heap x ox C) (XC:XCls K C) (hty:typeOf (.type T)=pure (.type "type")) (e:subIn K (.ref C) (.type T)=some false) (h:Q (.bool false) { s with toks:=s.toks+1 }):wpAny (model prog w) A (call (.builtin "isinstance") [.ref x,.type T]) Q E s:=
 call_isinstance (S:=fun _ R s=>(K.In s.heap/\XAt s.heap x ox C)/\R (.ok (.ret (.bool false))) { s with toks:=s.toks+1 })
  (fun _ _ _ _ _ hs=>isinstance_outer (z1a hs.1.1 hs.1.2 XC (Looks.of_pure hty) (Looks.of_pure rfl) (Bool.eq_false_iff.mpr fun q=>by cases beq_iff_eq.mp q) (looks_subIn hs.1.1 e) hs.2) (by intro q; cases q)) ⟨⟨X,I⟩,h⟩
end
def bmV:List Value:=[.type "ValueError",.type "Exception",.type "BaseException",.type "object"]
structure XKls (K:Frag) (nm:Str) (C:Addr):Prop where
 ns:nsIn K mainGlobals nm=some (some (.ref C))
 xc:XCls K C
 ex:excIn K C bmV "ValueError.__new__" = true
 ve:subIn K (.ref C) (.type "ValueError")=some true
 no:∀ T ∈ ["int","bool","tuple","list","str"],subIn K (.ref C) (.type T)=some false
noncomputable def XO (K:Frag) (nm:Str) (ob:Obj):Prop:=∃ C,ob.cls=.ref C/\XKls K nm C
end L3
namespace L3
open PySem PySem.Spec PyProof.Rows L2
theorem y4n:Slot "function" "__getattribute__" "object.__getattribute__" :=
 .of (owner:="object") (n:="__getattribute__") (by rw[typeLookup_type,builtinLookup_eq_fast]; kernel_rfl) (by decide +kernel) (by decide +kernel) (by decide +kernel)
  (by first | exact .inl (by decide +kernel) | exact .inr (by decide +kernel)) (by rw[isSubtype_type]; kernel_rfl)
theorem z6r:typeLookup (.type "function") "__class__" = pure (some (.builtin "object.__class__")):=by rw[typeLookup_type,builtinLookup_eq_fast]; kernel_rfl
theorem j0z:isSubtype (.type "function") (.type (".".intercalate ("object.__class__".cutAt '.').dropLast))=pure true:=by
 rw[PySem.F.owner_object_class,isSubtype_type]; kernel_rfl
theorem z5d:entryFor table "object.__getattribute__" = some Builtin.«object.__getattribute__»:=entryFor_of_tree (by kernel_rfl)
theorem z9f (a b:Value):argsOk "object.__getattribute__" ⟨[a,b],[]⟩:=by unfold argsOk; kernel_rfl
section
variable {prog:Program} {w:World} {A:Around} {E:Value->Shared->Prop} {s:Shared} {a:Addr}
theorem j2z {R:Result->Shared->Prop} (hT:s.TypeIs (.ref a) "function") (hq:R (.ok (.ret (.type "function"))) s) :
  codeAny (model prog w) A (.call (.builtin "getset_descriptor.__get__") ⟨[.builtin "object.__class__",.ref a,.type "function"],[]⟩) R s:=by
 obtain⟨h,g,d,t,os⟩:=s
 have h5:(⟨h,g,d,t,os⟩:Shared).TypeIs (.builtin "object.__class__") "getset_descriptor":=PySem.F.typeOf_object_class
 have f8:=j0z
 refine codeAny_call_builtin PySem.F.slot_gs_get.plain PySem.F.entry_gs_get (PySem.F.slot_gs_get.check _ _ _ _ _ _ _ _ h5 (PySem.F.args_gs_get _ _ _) ?_)
 repeat (any_goals (first | assumption | wp_step))
 refine⟨Code.quiet_builtin _ (by decide +kernel),codeAny_builtin PySem.F.entry_object_class ?_⟩
 repeat (any_goals (first | assumption | wp_step))
theorem z2p {Q:Option Value->Shared->Prop} (hT:s.TypeIs (.ref a) "function") (hq:Q (some (.type "function")) { s with toks:=s.toks+1 }):wpAny (model prog w) A (getAttr? (.ref a) "__class__") Q E s:=by
 obtain⟨h,g,d,t,os⟩:=s
 have hT1:∀ t',(⟨h,g,d,t',os⟩:Shared).TypeIs (.ref a) "function":=fun _=>hT
 have en:∀ {tk:Tok} {t':Nat} {Q:Fin->Shared->Prop} {E:Value->Shared->Prop} {A:Around},Q (.done (.ret (.type "function"))) ⟨h,g,d,t',os⟩->
   wpAny (model prog w) A (Builtin.«object.__getattribute__» ⟨[.ref a,.str "__class__" tk],[]⟩) Q E ⟨h,g,d,t',os⟩:=by
  intro tk t' Q E A hq
  have hT:=hT1 t'
  have h5:(⟨h,g,d,t',os⟩:Shared).TypeIs (.builtin "object.__class__") "getset_descriptor":=PySem.F.typeOf_object_class
  have f4:=z6r
  have f5:=PySem.F.typeOf_object_class
  have f6:=PySem.F.slot_gs_get.lookup
  have f7:=PySem.F.slot_gs_set.lookup
  repeat (any_goals (first | assumption | wp_step))
  refine j2z hT ?_
  repeat (any_goals (first | assumption | wp_step))
 have by':∀ {tk:Tok} {t':Nat} {Q:Value->Shared->Prop} {E:Value->Shared->Prop} {A:Around},Q (.type "function") ⟨h,g,d,t',os⟩->wpAny (model prog w) A (getAttrBy (.ref a) (.str "__class__" tk) false) Q E ⟨h,g,d,t',os⟩:=by
  intro tk t' Q E A hq
  have hT:=hT1 t'
  have f2:=y4n.lookup
  have f3:=y4n.bind (.ref a)
  repeat (any_goals (first | assumption | wp_step))
  refine codeAny_call_builtin y4n.plain z5d (y4n.check _ _ _ _ _ _ _ _ hT (z9f _ _) (en ?_))
  repeat (any_goals (first | assumption | wp_step))
 unfold getAttr? getAttrBy?
 repeat (any_goals (first | assumption | with_reducible apply by' | wp_step))
theorem z5h {K:PySem.W.Frag}:PySem.W.KitX K (.ref a) (.type "function") (PySem.W.KitAt a "function"):=PySem.W.kitx_of PySem.W.kitAt_ty (fun {_ _ _ _ _ s} p k=>z2p (by obtain⟨o,h1,h2⟩:=p; exact⟨o,h1,h2⟩) k)
end
inductive D where
 | non | bl (b:Bool) | int (i:Int) | str (x:Str) | tup (ds:List D) | lst (ds:List D)
 /-- a dict that is not changed,its keys texts -/
 | dic (ks:List Str) (ds:List D)
 /-- an exception,by its class's name -/
 | exc (nm:Str)
 /-- a function made here: its place,its object,what it keeps of the names around it -/
 | ob (f:Addr) (fo:Obj) (vs:List V) (ds:List D)
noncomputable abbrev St:=L2.St
inductive Ow where
 | s (i:Nat) | t (i:Nat) | f
 deriving DecidableEq
noncomputable abbrev Wn:=Addr->Option Ow
noncomputable def KL (K:PySem.W.Frag) (a:Addr) (xs:List V):Prop:=
 ∃ (o:Obj) (its:Array Value) (n:Nat),K.lookup a=some o/\o.cls=.type "list" /\ o.dict=none/\o.data=.seq its n/\its.size<=sizeLine/\x2z xs its.toList
theorem SqL.cases {K:PySem.W.Frag} {H:Hp} {a:Addr} {xs:List V} (h:SqL K H a xs):Rd H a (.lst xs)\/KL K a xs:=h
theorem KL.sq {K:PySem.W.Frag} {H:Hp} {a:Addr} {xs:List V} (h:KL K a xs):SqL K H a xs:=.inr h
noncomputable def kvL (ks:List Str) (vs:List V):List (Key × V):=(ks.map fun x=>(Sum.inr x:Key)).zip vs
noncomputable def Clo (fo:Obj) (c:Addr) (oc:Obj):Prop:=fo.cls=.type "function" /\ (∃ fd,fo.data=.func fd/\fd.code=.ref c)/\∃ fs q t,oc.data=.fields fs/\fs[1]? = some (.str q t)
mutual
/-- q: how deep the lists are owned -/
inductive Rep (K:PySem.W.Frag) (H:Hp) (w:Wn) (o:Ow):Nat->D->V->List Addr->Prop
 | non {q}:Rep K H w o q .non .non []
 | bl {q} (b:Bool):Rep K H w o q (.bl b) (.bl b) []
 | int {q} (i:Int):Rep K H w o q (.int i) (.int i) []
 | str {q} (x:Str):Rep K H w o q (.str x) (.str x) []
 | tup {q} {a:Addr} {vs:List V} {ds:List D}:H a=some (.tup vs)->Reps K H w o 0 ds vs []->Rep K H w o q (.tup ds) (.ref a) []
 | dic {q} {a:Addr} {ks:List Str} {vs:List V} {ds:List D}:H a=some (.dK (kvL ks vs))->Reps K H w o 0 ds vs []->Rep K H w o q (.dic ks ds) (.ref a) []
 | exc {q} {a:Addr} {nm:Str} {ob:Obj} {u:HO}:H a=some (.frz ob u)->XO K nm ob->(∀ xs,u ≠ .lst xs)->Rep K H w o q (.exc nm) (.ref a) []
 | ob {q} {f c:Addr} {fo oc:Obj} {u u':HO} {vs:List V} {ds:List D}:H f=some (.frz fo u)->H c=some (.frz oc u')->Clo fo c oc->Reps K H w o 0 ds vs []->Rep K H w o q (.ob f fo vs ds) (.ref f) []
 | kl {a:Addr} {vs:List V} {ds:List D}:KL K a vs->Reps K H w o 0 ds vs []->Rep K H w o 0 (.lst ds) (.ref a) []
 | shr {a:Addr} {vs:List V} {ds:List D}:Rd H a (.lst vs)->w a=none->Reps K H w o 0 ds vs []->Rep K H w o 0 (.lst ds) (.ref a) []
 | own {q} {a:Addr} {vs:List V} {ds:List D} {F:List Addr}:H a=some (.lst vs)->w a=some o->Reps K H w o q ds vs F->a ∉ F->Rep K H w o (q+1) (.lst ds) (.ref a) (a::F)
inductive Reps (K:PySem.W.Frag) (H:Hp) (w:Wn) (o:Ow):Nat->List D->List V->List Addr->Prop
 | nil {q}:Reps K H w o q [] [] []
 | cons {q} {d:D} {v:V} {ds:List D} {vs:List V} {F G:List Addr}:Rep K H w o q d v F->Reps K H w o q ds vs G->(∀ a∈F,a ∉ G)->Reps K H w o q (d::ds) (v::vs) (F++G)
end
noncomputable def j3b:HO->Bool
 | .tbl _=>true
 | _=>false
noncomputable def Sm (x:HO) (y:Option HO):Prop:=match x with
 | .tbl _=>∃ ps,y=some (.tbl ps)
 | x=>y=some x
theorem sm {x:HO} {y:Option HO} (h:y=some x):Sm x y:=by cases x <;> first | exact h | exact⟨_,h⟩
theorem Sm.is {x:HO} {y:Option HO} (h:Sm x y):∃ z,y=some z/\j3b z=j3b x:=by
 cases x <;> first | exact⟨_,h,rfl⟩ | (obtain⟨ps,e⟩:=h; exact⟨_,e,rfl⟩)
theorem Sm.eq {x:HO} {y:Option HO} (h:Sm x y) (n:j3b x=false):y=some x:=by cases x <;> first | exact h | cases n
noncomputable def y21:List Str:=["turned","chain_ladder","flat_ladder","paired"]
structure TB (K:PySem.W.Frag) (H:Hp):Prop where
 tr:∀ P ps,H P=some (.tbl ps)->PySem.TriplesOk ps.toList
 cd:∀ P ps,H P=some (.tbl ps)->∀ pos cv,PySem.codeAmong pos ps.toList=some cv->∃ c oc u vs q t,cv=.ref c/\H c=some (.frz oc u)/\oc.data=.fields vs/\vs[1]? = some (.str q t)/\∀ xs,u ≠ .lst xs
 is:∀ x∈y21,∀ c P,PySem.W.tabIn K x=some (c,P)->∃ ps,H P=some (.tbl ps)
structure WL (K:PySem.W.Frag) (w:Wn) (H:Hp):Prop where
 own:∀ a o,w a=some o->∃ vs,H a=some (.lst vs)
 tb:TB K H
instance {K:PySem.W.Frag} {w:Wn} {H:Hp}:CoeFun (WL K w H) (fun _=>∀ a o,w a=some o->∃ vs,H a=some (.lst vs)):=⟨WL.own⟩
theorem TB.upd {K:PySem.W.Frag} {H:Hp} (t:TB K H) {p:Addr} {x:HO} (hx:j3b x=false) (hp:H p=none\/∃ vs,H p=some (.lst vs)):TB K (L2.upd H p x):=by
 have ne:∀ a y,H a=some y->(∀ vs,y ≠ .lst vs)->a≠p:=fun a y e h z=>by
  subst z
  rcases hp with q | ⟨vs,q⟩
  ·rw[e]at q; cases q
  ·rw[e]at q; cases q; exact h _ rfl
 refine⟨fun P ps e=>?_,fun P ps e pos cv hc=>?_,fun x hx c P hP=>by
  obtain⟨ps,e⟩:=t.is x hx c P hP
  exact⟨ps,by rw[x0q (ne P _ e fun _ z=>nomatch z)]; exact e⟩⟩
 ·by_cases hP:P=p
  ·subst hP; rw[x1n]at e; cases e; cases hx
  ·rw[x0q hP]at e; exact t.tr P ps e
 ·by_cases hP:P=p
  ·subst hP; rw[x1n]at e; cases e; cases hx
  ·rw[x0q hP]at e
   obtain⟨c,oc,u,vs,q,tt,h1,h2,h3,h4,h5⟩:=t.cd P ps e pos cv hc
   exact⟨c,oc,u,vs,q,tt,h1,by rw[x0q (ne c _ h2 fun _ z=>nomatch z)]; exact h2,h3,h4,h5⟩
noncomputable def x7d (H:Hp) (w:Wn) (H':Hp) (w':Wn):Prop:=∀ a x,H a=some x->w a=none->Sm x (H' a)/\w' a=none
theorem x7d.trans {H H1 H2:Hp} {w w1 w2:Wn} (a:x7d H w H1 w1) (b:x7d H1 w1 H2 w2):x7d H w H2 w2:=fun c x h n=>by
 obtain⟨s1,n1⟩:=a c x h n
 cases ht:j3b x with
 | false=>exact b c x (s1.eq ht) n1
 | true=>
  obtain⟨y,e,hy⟩:=s1.is
  obtain⟨s2,n2⟩:=b c y e n1
  refine⟨?_,n2⟩
  rw[ht]at hy
  cases x with
  | tbl ps=>
   cases y with
   | tbl ps'=>exact s2
   | _=>cases hy
  | _=>cases ht
theorem WL.rdT {K:PySem.W.Frag} {w:Wn} {H:Hp} (wl:WL K w H) {a:Addr} {x:HO} (e:H a=some x) (h:∀ vs,x ≠ .lst vs):w a=none:=by
 cases q:w a with
 | none=>rfl
 | some o=>
  obtain⟨vs,e'⟩:=wl a o q
  rw[e]at e'
  exact absurd (Option.some.inj e') (h vs)
theorem SqT.go {K:PySem.W.Frag} {H H':Hp} {w w':Wn} (wl:WL K w H) (st:x7d H w H' w') {a:Addr} {vs:List V} (h:SqT K H a vs):SqT K H' a vs:=by
 rcases h with(h | ⟨o,h⟩) | h
 ·exact .inl (.inl (st a _ h (wl.rdT h (fun _ z=>nomatch z))).1)
 ·exact .inl (.inr ⟨o,(st a _ h (wl.rdT h (fun _ z=>nomatch z))).1⟩)
 ·exact .inr h
theorem RdL.go {H H':Hp} {w w':Wn} (st:x7d H w H' w') {a:Addr} {vs:List V} (n:w a=none) (h:Rd H a (.lst vs)):Rd H' a (.lst vs)/\w' a=none:=by
 rcases h with h | ⟨o,h⟩
 ·exact⟨.inl (st a _ h n).1,(st a _ h n).2⟩
 ·exact⟨.inr ⟨o,(st a _ h n).1⟩,(st a _ h n).2⟩
theorem Rep.go {K:PySem.W.Frag} {H H':Hp} {w w':Wn} {o o':Ow} (wl:WL K w H) (st:x7d H w H' w'):∀ {q:Nat} {d:D} {v:V} {F:List Addr},Rep K H w o q d v F->(∀ a∈F,H' a=H a/\w' a=some o')->Rep K H' w' o' q d v F:=by
 intro q d v F r
 refine Rep.rec (motive_1:=fun q d v F _=>(∀ a∈F,H' a=H a/\w' a=some o')->Rep K H' w' o' q d v F) (motive_2:=fun q ds vs F _=>(∀ a∈F,H' a=H a/\w' a=some o')->Reps K H' w' o' q ds vs F) ?_ ?_ ?_ ?_ ?_ ?_ ?_ ?_ ?_ ?_ ?_ ?_ ?_ r
 ·intro q _; exact .non
 ·intro q b _; exact .bl b
 ·intro q i _; exact .int i
 ·intro q x _; exact .str x
 ·intro q a vs ds h r ih _; exact .tup (st _ _ h (wl.rdT h (fun _ z=>by cases z))).1 (ih (fun _ z=>(List.not_mem_nil z).elim))
 ·intro q a ks vs ds h r ih _; exact .dic (st _ _ h (wl.rdT h (fun _ z=>by cases z))).1 (ih (fun _ z=>(List.not_mem_nil z).elim))
 ·intro q a nm ob u h x n _; exact .exc (st _ _ h (wl.rdT h (fun _ z=>by cases z))).1 x n
 ·intro q f c fo oc u u' vs ds h1 h2 x r ih _; exact .ob (st _ _ h1 (wl.rdT h1 (fun _ z=>by cases z))).1 (st _ _ h2 (wl.rdT h2 (fun _ z=>by cases z))).1 x (ih (fun _ z=>(List.not_mem_nil z).elim))
 ·intro a vs ds h r ih _; exact .kl h (ih (fun _ z=>(List.not_mem_nil z).elim))
 ·intro a vs ds h n r ih _; exact .shr (RdL.go st n h).1 (RdL.go st n h).2 (ih (fun _ z=>(List.not_mem_nil z).elim))
 ·intro q a vs ds F h e r ne ih k; exact .own ((k _ List.mem_cons_self).1.trans h) (k _ List.mem_cons_self).2 (ih fun a m=>k a (List.mem_cons_of_mem _ m)) ne
 ·intro q _; exact .nil
 ·intro q d v ds vs F G r s ne ih1 ih2 k; exact .cons (ih1 fun a m=>k a (List.mem_append_left _ m)) (ih2 fun a m=>k a (List.mem_append_right _ m)) ne
theorem Reps.go {K:PySem.W.Frag} {H H':Hp} {w w':Wn} {o o':Ow} (wl:WL K w H) (st:x7d H w H' w'):∀ {q:Nat} {ds:List D} {vs:List V} {F:List Addr},Reps K H w o q ds vs F->(∀ a∈F,H' a=H a/\w' a=some o')->Reps K H' w' o' q ds vs F:=by
 intro q ds vs F r
 refine Reps.rec (motive_1:=fun q d v F _=>(∀ a∈F,H' a=H a/\w' a=some o')->Rep K H' w' o' q d v F) (motive_2:=fun q ds vs F _=>(∀ a∈F,H' a=H a/\w' a=some o')->Reps K H' w' o' q ds vs F) ?_ ?_ ?_ ?_ ?_ ?_ ?_ ?_ ?_ ?_ ?_ ?_ ?_ r
 ·intro q _; exact .non
 ·intro q b _; exact .bl b
 ·intro q i _; exact .int i
 ·intro q x _; exact .str x
 ·intro q a vs ds h r ih _; exact .tup (st _ _ h (wl.rdT h (fun _ z=>by cases z))).1 (ih (fun _ z=>(List.not_mem_nil z).elim))
 ·intro q a ks vs ds h r ih _; exact .dic (st _ _ h (wl.rdT h (fun _ z=>by cases z))).1 (ih (fun _ z=>(List.not_mem_nil z).elim))
 ·intro q a nm ob u h x n _; exact .exc (st _ _ h (wl.rdT h (fun _ z=>by cases z))).1 x n
 ·intro q f c fo oc u u' vs ds h1 h2 x r ih _; exact .ob (st _ _ h1 (wl.rdT h1 (fun _ z=>by cases z))).1 (st _ _ h2 (wl.rdT h2 (fun _ z=>by cases z))).1 x (ih (fun _ z=>(List.not_mem_nil z).elim))
 ·intro a vs ds h r ih _; exact .kl h (ih (fun _ z=>(List.not_mem_nil z).elim))
 ·intro a vs ds h n r ih _; exact .shr (RdL.go st n h).1 (RdL.go st n h).2 (ih (fun _ z=>(List.not_mem_nil z).elim))
 ·intro q a vs ds F h e r ne ih k; exact .own ((k _ List.mem_cons_self).1.trans h) (k _ List.mem_cons_self).2 (ih fun a m=>k a (List.mem_cons_of_mem _ m)) ne
 ·intro q _; exact .nil
 ·intro q d v ds vs F G r s ne ih1 ih2 k; exact .cons (ih1 fun a m=>k a (List.mem_append_left _ m)) (ih2 fun a m=>k a (List.mem_append_right _ m)) ne
theorem Rep.freeze {K:PySem.W.Frag} {H:Hp} {w w':Wn} {o o':Ow} (n:∀ a,w a=none->w' a=none):∀ {q:Nat} {d:D} {v:V} {F:List Addr},Rep K H w o q d v F->(∀ a∈F,w' a=none)->Rep K H w' o' 0 d v []:=by
 intro q d v F r
 refine Rep.rec (motive_1:=fun q d v F _=>(∀ a∈F,w' a=none)->Rep K H w' o' 0 d v []) (motive_2:=fun q ds vs F _=>(∀ a∈F,w' a=none)->Reps K H w' o' 0 ds vs []) ?_ ?_ ?_ ?_ ?_ ?_ ?_ ?_ ?_ ?_ ?_ ?_ ?_ r
 ·intro q _; exact .non
 ·intro q b _; exact .bl b
 ·intro q i _; exact .int i
 ·intro q x _; exact .str x
 ·intro q a vs ds h r ih _; exact .tup h (ih (fun _ z=>(List.not_mem_nil z).elim))
 ·intro q a ks vs ds h r ih _; exact .dic h (ih (fun _ z=>(List.not_mem_nil z).elim))
 ·intro q a nm ob u h x n _; exact .exc h x n
 ·intro q f c fo oc u u' vs ds h1 h2 x r ih _; exact .ob h1 h2 x (ih (fun _ z=>(List.not_mem_nil z).elim))
 ·intro a vs ds h r ih _; exact .kl h (ih (fun _ z=>(List.not_mem_nil z).elim))
 ·intro a vs ds h e r ih _; exact .shr h (n _ e) (ih (fun _ z=>(List.not_mem_nil z).elim))
 ·intro q a vs ds F h e r ne ih k; exact .shr (Rd.of h) (k _ List.mem_cons_self) (ih fun a m=>k a (List.mem_cons_of_mem _ m))
 ·intro q _; exact .nil
 ·intro q d v ds vs F G r s ne ih1 ih2 k; exact .cons (F:=[]) (G:=[]) (ih1 fun a m=>k a (List.mem_append_left _ m)) (ih2 fun a m=>k a (List.mem_append_right _ m)) (fun _ z=>(List.not_mem_nil z).elim)
theorem Reps.freeze {K:PySem.W.Frag} {H:Hp} {w w':Wn} {o o':Ow} (n:∀ a,w a=none->w' a=none):∀ {q:Nat} {ds:List D} {vs:List V} {F:List Addr},Reps K H w o q ds vs F->(∀ a∈F,w' a=none)->Reps K H w' o' 0 ds vs []:=by
 intro q ds vs F r
 refine Reps.rec (motive_1:=fun q d v F _=>(∀ a∈F,w' a=none)->Rep K H w' o' 0 d v []) (motive_2:=fun q ds vs F _=>(∀ a∈F,w' a=none)->Reps K H w' o' 0 ds vs []) ?_ ?_ ?_ ?_ ?_ ?_ ?_ ?_ ?_ ?_ ?_ ?_ ?_ r
 ·intro q _; exact .non
 ·intro q b _; exact .bl b
 ·intro q i _; exact .int i
 ·intro q x _; exact .str x
 ·intro q a vs ds h r ih _; exact .tup h (ih (fun _ z=>(List.not_mem_nil z).elim))
 ·intro q a ks vs ds h r ih _; exact .dic h (ih (fun _ z=>(List.not_mem_nil z).elim))
 ·intro q a nm ob u h x n _; exact .exc h x n
 ·intro q f c fo oc u u' vs ds h1 h2 x r ih _; exact .ob h1 h2 x (ih (fun _ z=>(List.not_mem_nil z).elim))
 ·intro a vs ds h r ih _; exact .kl h (ih (fun _ z=>(List.not_mem_nil z).elim))
 ·intro a vs ds h e r ih _; exact .shr h (n _ e) (ih (fun _ z=>(List.not_mem_nil z).elim))
 ·intro q a vs ds F h e r ne ih k; exact .shr (Rd.of h) (k _ List.mem_cons_self) (ih fun a m=>k a (List.mem_cons_of_mem _ m))
 ·intro q _; exact .nil
 ·intro q d v ds vs F G r s ne ih1 ih2 k; exact .cons (F:=[]) (G:=[]) (ih1 fun a m=>k a (List.mem_append_left _ m)) (ih2 fun a m=>k a (List.mem_append_right _ m)) (fun _ z=>(List.not_mem_nil z).elim)
theorem Rep.owns {K:PySem.W.Frag} {H:Hp} {w:Wn} {o:Ow}:∀ {q:Nat} {d:D} {v:V} {F:List Addr},Rep K H w o q d v F->∀ a∈F,w a=some o:=by
 intro q d v F r
 refine Rep.rec (motive_1:=fun q d v F _=>∀ a∈F,w a=some o) (motive_2:=fun q ds vs F _=>∀ a∈F,w a=some o) ?_ ?_ ?_ ?_ ?_ ?_ ?_ ?_ ?_ ?_ ?_ ?_ ?_ r
 ·intro q a m; exact(List.not_mem_nil m).elim
 ·intro q b a m; exact(List.not_mem_nil m).elim
 ·intro q i a m; exact(List.not_mem_nil m).elim
 ·intro q x a m; exact(List.not_mem_nil m).elim
 ·intro q a vs ds h r ih b m; exact(List.not_mem_nil m).elim
 ·intro q a ks vs ds h r ih b m; exact(List.not_mem_nil m).elim
 ·intro q a nm ob u h x n b m; exact(List.not_mem_nil m).elim
 ·intro q f c fo oc u u' vs ds h1 h2 x r ih b m; exact(List.not_mem_nil m).elim
 ·intro a vs ds h r ih b m; exact(List.not_mem_nil m).elim
 ·intro a vs ds h e r ih b m; exact(List.not_mem_nil m).elim
 ·intro q a vs ds F h e r ne ih b m
  rcases List.mem_cons.mp m with z | z
  ·rw[z]; exact e
  ·exact ih b z
 ·intro q a m; exact(List.not_mem_nil m).elim
 ·intro q d v ds vs F G r s ne ih1 ih2 a m
  rcases List.mem_append.mp m with z | z
  ·exact ih1 a z
  ·exact ih2 a z
theorem Reps.owns {K:PySem.W.Frag} {H:Hp} {w:Wn} {o:Ow}:∀ {q:Nat} {ds:List D} {vs:List V} {F:List Addr},Reps K H w o q ds vs F->∀ a∈F,w a=some o:=by
 intro q ds vs F r
 refine Reps.rec (motive_1:=fun q d v F _=>∀ a∈F,w a=some o) (motive_2:=fun q ds vs F _=>∀ a∈F,w a=some o) ?_ ?_ ?_ ?_ ?_ ?_ ?_ ?_ ?_ ?_ ?_ ?_ ?_ r
 ·intro q a m; exact(List.not_mem_nil m).elim
 ·intro q b a m; exact(List.not_mem_nil m).elim
 ·intro q i a m; exact(List.not_mem_nil m).elim
 ·intro q x a m; exact(List.not_mem_nil m).elim
 ·intro q a vs ds h r ih b m; exact(List.not_mem_nil m).elim
 ·intro q a ks vs ds h r ih b m; exact(List.not_mem_nil m).elim
 ·intro q a nm ob u h x n b m; exact(List.not_mem_nil m).elim
 ·intro q f c fo oc u u' vs ds h1 h2 x r ih b m; exact(List.not_mem_nil m).elim
 ·intro a vs ds h r ih b m; exact(List.not_mem_nil m).elim
 ·intro a vs ds h e r ih b m; exact(List.not_mem_nil m).elim
 ·intro q a vs ds F h e r ne ih b m
  rcases List.mem_cons.mp m with z | z
  ·rw[z]; exact e
  ·exact ih b z
 ·intro q a m; exact(List.not_mem_nil m).elim
 ·intro q d v ds vs F G r s ne ih1 ih2 a m
  rcases List.mem_append.mp m with z | z
  ·exact ih1 a z
  ·exact ih2 a z
noncomputable def D.isL:D->Bool
 | .lst _=>true
 | _=>false
@[simp] theorem D.isL_non:D.isL .non=false:=rfl
@[simp] theorem D.isL_bl (b:Bool):D.isL (.bl b)=false:=rfl
@[simp] theorem D.isL_int (i:Int):D.isL (.int i)=false:=rfl
@[simp] theorem D.isL_str (x:Str):D.isL (.str x)=false:=rfl
@[simp] theorem D.isL_tup (ds:List D):D.isL (.tup ds)=false:=rfl
@[simp] theorem D.isL_dic (ks:List Str) (ds:List D):D.isL (.dic ks ds)=false:=rfl
@[simp] theorem D.isL_exc (nm:Str):D.isL (.exc nm)=false:=rfl
@[simp] theorem D.isL_ob (f:Addr) (fo:Obj) (vs:List V) (ds:List D):D.isL (.ob f fo vs ds)=false:=rfl
@[simp] theorem D.isL_lst (ds:List D):D.isL (.lst ds)=true:=rfl
theorem Rep.nolist {K:PySem.W.Frag} {H:Hp} {w:Wn} {o:Ow} {q:Nat} {d:D} {v:V} {F:List Addr} (r:Rep K H w o q d v F) (h:d.isL=false):F=[]/\∀ q',Rep K H w o q' d v []:=by
 cases r with
 | non=>exact⟨rfl,fun _=>.non⟩
 | bl b=>exact⟨rfl,fun _=>.bl b⟩
 | int i=>exact⟨rfl,fun _=>.int i⟩
 | str x=>exact⟨rfl,fun _=>.str x⟩
 | tup h' r'=>exact⟨rfl,fun _=>.tup h' r'⟩
 | dic h' r'=>exact⟨rfl,fun _=>.dic h' r'⟩
 | exc h' x n=>exact⟨rfl,fun _=>.exc h' x n⟩
 | ob h1 h2 x r=>exact⟨rfl,fun _=>.ob h1 h2 x r⟩
 | kl=>cases h
 | shr=>cases h
 | own=>cases h
theorem Rep.zero {K:PySem.W.Frag} {H:Hp} {w:Wn} {o:Ow} {d:D} {v:V} {F:List Addr} (r:Rep K H w o 0 d v F):F=[]:=by
 cases r <;> rfl
theorem Reps.zero {K:PySem.W.Frag} {H:Hp} {w:Wn} {o:Ow}:∀ {ds:List D} {vs:List V} {F:List Addr},Reps K H w o 0 ds vs F->F=[]
 | _,_,_,.nil=>rfl
 | _,_,_,.cons r s _=>by rw[r.zero,s.zero]; rfl
theorem Reps.length {K:PySem.W.Frag} {H:Hp} {w:Wn} {o:Ow} {q:Nat}:∀ {ds:List D} {vs:List V} {F:List Addr},Reps K H w o q ds vs F->ds.length=vs.length
 | _,_,_,.nil=>rfl
 | _,_,_,.cons _ s _=>by simp[s.length]
theorem Rep.any {K:PySem.W.Frag} {H:Hp} {w:Wn} {o o':Ow} {q:Nat} {d:D} {v:V} (r:Rep K H w o q d v []) (wl:WL K w H):Rep K H w o' q d v []:=
 Rep.go wl (fun a x h n=>⟨sm h,n⟩) r (fun _ z=>nomatch z)
theorem Reps.any {K:PySem.W.Frag} {H:Hp} {w:Wn} {o o':Ow} {q:Nat} {d:List D} {v:List V} (r:Reps K H w o q d v []) (wl:WL K w H):Reps K H w o' q d v []:=
 Reps.go wl (fun a x h n=>⟨sm h,n⟩) r (fun _ z=>nomatch z)
theorem Reps.get {K:PySem.W.Frag} {H:Hp} {w:Wn} {o:Ow}:∀ {ds:List D} {vs:List V} {i:Nat} {d:D},Reps K H w o 0 ds vs []->ds[i]? = some d->∃ v,vs[i]? = some v/\Rep K H w o 0 d v []
 | ds,vs,i,d,r,e=>by
  generalize hF:([]:List Addr)=F at r
  cases r with
  | nil=>simp at e
  | @cons _ d' v' ds' vs' F' G' r s _=>
   have h1:F'=[]:=r.zero
   have h2:G'=[]:=s.zero
   subst h1 h2
   cases i with
   | zero=>simp at e; subst e; exact⟨v',rfl,r⟩
   | succ j=>
    obtain⟨v,h1,h2⟩:=Reps.get (i:=j) (d:=d) s (by simpa using e)
    exact⟨v,by simpa using h1,h2⟩
theorem Reps.snoc {K:PySem.W.Frag} {H:Hp} {w:Wn} {o:Ow} {q:Nat} {d:D} {v:V} {G:List Addr} (r':Rep K H w o q d v G):∀ {ds:List D} {vs:List V} {F:List Addr},Reps K H w o q ds vs F->(∀ a∈F,a ∉ G)->Reps K H w o q (ds++[d]) (vs++[v]) (F++G)
 | _,_,_,.nil,_=>by
  have:Reps K H w o q [d] [v] (G++[]):=.cons r' .nil (fun a _ z=>nomatch z)
  simpa using this
 | _,_,_,.cons (F:=F) (G:=F') r s ne,k=>by
  rw[List.append_assoc]
  refine .cons r (Reps.snoc r' s fun a m=>k a (List.mem_append_right _ m)) fun a m z=>?_
  rcases List.mem_append.mp z with z | z
  ·exact ne a m z
  ·exact k a (List.mem_append_left _ m) z
noncomputable abbrev Rho:=List (Option (D × Nat))
structure Good (K:PySem.W.Frag) (ρ:Rho) (σ:St) (H:Hp) (w:Wn) (t:Nat):Prop where
 wl:WL K w H
 ws:∀ a i,w a=some (.s i)->i<σ.length
 wt:∀ a i,w a=some (.t i)->i<t
 len:ρ.length=σ.length
 slot:∀ (i:Nat) d q,ρ[i]? = some (some (d,q))->∃ v F,σ[i]? = some (some v)/\Rep K H w (.s i) q d v F
structure Go (H:Hp) (w:Wn) (H':Hp) (w':Wn):Prop where
 stab:x7d H w H' w'
 keep:∀ a o,w a=some o->(∀ i,o ≠ .s i)->H' a=H a/\w' a=some o
theorem Go.refl {H:Hp} {w:Wn}:Go H w H w:=⟨fun a x h n=>⟨sm h,n⟩,fun a o e _=>⟨rfl,e⟩⟩
theorem Go.trans {H H1 H2:Hp} {w w1 w2:Wn} (a:Go H w H1 w1) (b:Go H1 w1 H2 w2):Go H w H2 w2:=
 ⟨a.stab.trans b.stab,fun c o e h=>by
   obtain⟨h1,w1⟩:=a.keep c o e h
   obtain⟨h2,w2⟩:=b.keep c o w1 h
   exact⟨h2.trans h1,w2⟩⟩
theorem Rep.gone {K:PySem.W.Frag} {H H':Hp} {w w':Wn} {q:Nat} {d:D} {v:V} {F:List Addr} {i:Nat} (r:Rep K H w (.t i) q d v F) (wl:WL K w H) (g:Go H w H' w'):Rep K H' w' (.t i) q d v F:=
 Rep.go wl g.stab r fun a m=>g.keep a _ (r.owns a m) (fun _ z=>nomatch z)
theorem Reps.gone {K:PySem.W.Frag} {H H':Hp} {w w':Wn} {q:Nat} {d:List D} {v:List V} {F:List Addr} {i:Nat} (r:Reps K H w (.t i) q d v F) (wl:WL K w H) (g:Go H w H' w'):Reps K H' w' (.t i) q d v F:=
 Reps.go wl g.stab r fun a m=>g.keep a _ (r.owns a m) (fun _ z=>nomatch z)
noncomputable def x2d (t:Nat) (w:Wn):Wn:=fun a=>match w a with
 | some (.t i)=>if t<=i then none else some (.t i)
 | x=>x
theorem x75 {t:Nat} {w:Wn} {a:Addr} (h:w a=none):x2d t w a=none:=by unfold x2d; rw[h]
theorem z88 {t:Nat} {w:Wn} {a:Addr} {i:Nat} (h:w a=some (.s i)):x2d t w a=some (.s i):=by unfold x2d; rw[h]
theorem z87 {t:Nat} {w:Wn} {a:Addr} (h:w a=some .f):x2d t w a=some .f:=by unfold x2d; rw[h]
theorem z3x {t:Nat} {w:Wn} {a:Addr} {i:Nat} (h:w a=some (.t i)) (hi:i<t):x2d t w a=some (.t i):=by unfold x2d; rw[h]; exact if_neg (by omega)
theorem z4d {t:Nat} {w:Wn} {a:Addr} {i:Nat} (h:w a=some (.t i)) (hi:t<=i):x2d t w a=none:=by unfold x2d; rw[h]; exact if_pos hi
theorem x9q {t:Nat} {w:Wn} {a:Addr} {o:Ow} (h:x2d t w a=some o):w a=some o/\∀ i,o=.t i->i<t:=by
 unfold x2d at h
 cases e:w a with
 | none=>rw[e]at h; cases h
 | some o'=>
  rw[e]at h
  cases o' with
  | s i=>cases h; exact⟨rfl,fun i z=>nomatch z⟩
  | f=>cases h; exact⟨rfl,fun i z=>nomatch z⟩
  | t i=>
   dsimp only at h
   split at h
   ·cases h
   ·cases h; exact⟨rfl,fun j z=>by cases z; omega⟩
theorem Good.drop {K:PySem.W.Frag} {ρ:Rho} {σ:St} {H:Hp} {w:Wn} {t t':Nat} (g:Good K ρ σ H w t):Good K ρ σ H (x2d t' w) t':=by
 refine⟨⟨fun a o e=>g.wl a o (x9q e).1,g.wl.tb⟩,fun a i e=>g.ws a i (x9q e).1,fun a i e=>(x9q e).2 i rfl,g.len,fun i d q e=>?_⟩
 obtain⟨v,F,h1,h2⟩:=g.slot i d q e
 exact⟨v,F,h1,Rep.go g.wl (fun a x h n=>⟨sm h,x75 n⟩) h2 fun a m=>⟨rfl,z88 (h2.owns a m)⟩⟩
theorem Go.drop {H H':Hp} {w w':Wn} {t:Nat} (g:Go H w H' w') (wt:∀ a i,w a=some (.t i)->i<t):Go H w H' (x2d t w'):=
 ⟨fun a x h n=>⟨(g.stab a x h n).1,x75 (g.stab a x h n).2⟩,fun a o e h=>by
   obtain⟨h1,h2⟩:=g.keep a o e h
   refine⟨h1,?_⟩
   cases o with
   | s i=>exact absurd rfl (h i)
   | f=>exact z87 h2
   | t i=>exact z3x h2 (wt a i e)⟩
theorem Rep.drop {K:PySem.W.Frag} {H:Hp} {w:Wn} {q:Nat} {d:D} {v:V} {F:List Addr} {t:Nat} {o:Ow} (r:Rep K H w (.t t) q d v F) {t':Nat} (h:t'<=t):Rep K H (x2d t' w) o 0 d v []:=
 Rep.freeze (fun a n=>x75 n) r fun a m=>z4d (r.owns a m) h
noncomputable abbrev Den:=Rho->Option (D × Nat × Rho)
noncomputable def tD (K:PySem.W.Frag) (f:Den):TE:=fun σ H Q=>∃ ρ w t r q ρ',Good K ρ σ H w t/\f ρ=some (r,q,ρ')/\∀ v H' w' F,Good K ρ' σ H' w' (t+1)->Go H w H' w'->Rep K H' w' (.t t) q r v F->Q v H'
theorem PE.imp {X:Cx} {e:Expr} {t t':TE} (h:PE X e t) (i:∀ σ H Q,t' σ H Q->t σ H Q):PE X e t':=fun pins s σ H Q I q=>h pins s σ H Q I (i σ H Q q)
noncomputable abbrev PD (X:Cx) (e:Expr) (f:Den):Prop:=PE X e (tD X.K f)
theorem Good.up {K:PySem.W.Frag} {ρ:Rho} {σ:St} {H:Hp} {w:Wn} {t:Nat} (g:Good K ρ σ H w t):Good K ρ σ H w (t+1):=⟨g.wl,g.ws,fun a i e=>Nat.lt_succ_of_lt (g.wt a i e),g.len,g.slot⟩
@[simp] noncomputable def y36 (d:D):Nat:=if d.isL then 0 else 9
theorem Rep.dep {K:PySem.W.Frag} {H:Hp} {w:Wn} {o:Ow} {d:D} {v:V} (r:Rep K H w o 0 d v []):Rep K H w o (y36 d) d v []:=by
 unfold y36
 cases e:d.isL with
 | true=>exact r
 | false=>exact(r.nolist e).2 9
section
variable {K:PySem.W.Frag} {σ:St} {H:Hp} {ρ ρ' ρ1 ρ2:Rho} {w:Wn} {t:Nat} {Q:VK}
theorem z81 {fa fb:Den} {R:V->V->Hp->Prop} (g:Good K ρ σ H w t) {d1 d2:D} {q1 q2:Nat} (e1:fa ρ=some (d1,q1,ρ1)) (e2:fb ρ1=some (d2,q2,ρ2))
  (k:∀ x y H2 w2 F1 F2,Good K ρ2 σ H2 w2 (t+2)->Go H w H2 w2->Rep K H2 w2 (.t t) q1 d1 x F1->Rep K H2 w2 (.t (t+1)) q2 d2 y F2->R x y H2) :
  tD K fa σ H fun x H1=>tD K fb σ H1 fun y H2=>R x y H2:=
 ⟨ρ,w,t,d1,q1,ρ1,g,e1,fun x H1 w1 F1 g1 go1 r1=>⟨ρ1,w1,t+1,d2,q2,ρ2,g1,e2,fun y H2 w2 F2 g2 go2 r2=>k x y H2 w2 F1 F2 g2 (go1.trans go2) (r1.gone g1.wl go2) r2⟩⟩
theorem z6e {r:D} {q:Nat} {v:V} {H2:Hp} {w2:Wn} {t2:Nat} (k:∀ v H' w' F,Good K ρ' σ H' w' (t+1)->Go H w H' w'->Rep K H' w' (.t t) q r v F->Q v H') (g:Good K ρ σ H w t) (g2:Good K ρ' σ H2 w2 t2) (go:Go H w H2 w2)
  (rr:Rep K H2 (x2d t w2) (.t t) q r v []):Q v H2:=k v H2 (x2d t w2) [] g2.drop.up (go.drop g.wt) rr
noncomputable def z2h (p:Addr) (o:Ow) (w:Wn):Wn:=fun a=>if a=p then some o else w a
theorem x5r {p:Addr} {o:Ow} {w:Wn}:z2h p o w p=some o:=if_pos rfl
theorem x48 {p a:Addr} {o:Ow} {w:Wn} (h:a≠p):z2h p o w a=w a:=if_neg h
theorem y3s {H1:Hp} {p:Addr} {vs:List V} {ds:List D} {w1:Wn} (g:Good K ρ σ H1 w1 t) (hp:H1 p=none) (r:Reps K H1 w1 .f 0 ds vs []) :
  Good K ρ σ (upd H1 p (.lst vs)) (z2h p (.t t) w1) (t+1)/\Go H1 w1 (upd H1 p (.lst vs)) (z2h p (.t t) w1)/\Rep K (upd H1 p (.lst vs)) (z2h p (.t t) w1) (.t t) 1 (.lst ds) (.ref p) [p]:=by
 have ne:∀ a x,H1 a=some x->a≠p:=fun a x e=>x11 e hp
 have nw:∀ a o,w1 a=some o->a≠p:=fun a o e=>by obtain⟨vs,q⟩:=g.wl a o e; exact ne a _ q
 have st:x7d H1 w1 (upd H1 p (.lst vs)) (z2h p (.t t) w1):=fun a x e n=>⟨sm (by rw[x0q (ne a x e)]; exact e),by rw[x48 (ne a x e)]; exact n⟩
 refine⟨⟨⟨fun a o e=>?_,g.wl.tb.upd rfl (.inl hp)⟩,fun a i e=>?_,fun a i e=>?_,g.len,fun i d q e=>?_⟩,⟨st,fun a o e _=>⟨x0q (nw a o e),(x48 (nw a o e)).trans e⟩⟩,?_⟩
 ·by_cases h:a=p
  ·subst h; exact⟨vs,x1n⟩
  ·rw[x48 h]at e
   obtain⟨us,q⟩:=g.wl a o e
   exact⟨us,by rw[x0q h]; exact q⟩
 ·by_cases h:a=p
  ·subst h; rw[x5r]at e; cases e
  ·rw[x48 h]at e; exact g.ws a i e
 ·by_cases h:a=p
  ·subst h; rw[x5r]at e; cases e; exact Nat.lt_succ_self _
  ·rw[x48 h]at e; exact Nat.lt_succ_of_lt (g.wt a i e)
 ·obtain⟨v,F,h1,h2⟩:=g.slot i d q e
  exact⟨v,F,h1,Rep.go g.wl st h2 fun a m=>⟨x0q (nw a _ (h2.owns a m)),(x48 (nw a _ (h2.owns a m))).trans (h2.owns a m)⟩⟩
 ·exact .own x1n x5r (Reps.go g.wl st r (fun _ z=>nomatch z)) (fun z=>nomatch z)
theorem y2q {H1:Hp} {p:Addr} {vs:List V} {ds:List D} {w1:Wn} (g:Good K ρ σ H1 w1 t) (hp:H1 p=none) (r:Reps K H1 w1 .f 0 ds vs []) :
  Good K ρ σ (upd H1 p (.tup vs)) w1 (t+1)/\Go H1 w1 (upd H1 p (.tup vs)) w1/\Rep K (upd H1 p (.tup vs)) w1 (.t t) 9 (.tup ds) (.ref p) []:=by
 have ne:∀ a x,H1 a=some x->a≠p:=fun a x e=>x11 e hp
 have nw:∀ a o,w1 a=some o->a≠p:=fun a o e=>by obtain⟨vs,q⟩:=g.wl a o e; exact ne a _ q
 have st:x7d H1 w1 (upd H1 p (.tup vs)) w1:=fun a x e n=>⟨sm (by rw[x0q (ne a x e)]; exact e),n⟩
 refine⟨⟨⟨fun a o e=>?_,g.wl.tb.upd rfl (.inl hp)⟩,g.ws,fun a i e=>Nat.lt_succ_of_lt (g.wt a i e),g.len,fun i d q e=>?_⟩,⟨st,fun a o e _=>⟨x0q (nw a o e),e⟩⟩,?_⟩
 ·obtain⟨us,q⟩:=g.wl a o e
  exact⟨us,by rw[x0q (nw a o e)]; exact q⟩
 ·obtain⟨v,F,h1,h2⟩:=g.slot i d q e
  exact⟨v,F,h1,Rep.go g.wl st h2 fun a m=>⟨x0q (nw a _ (h2.owns a m)),h2.owns a m⟩⟩
 ·exact .tup x1n (Reps.go g.wl st r (fun _ z=>nomatch z))
end
@[simp] noncomputable def eC (d:D):Den:=fun ρ=>some (d,9,ρ)
@[simp] noncomputable def x04 (i:Nat):Den:=fun ρ=>match ρ[i]? with
 | some (some (d,q))=>if d.isL=false then some (d,9,ρ)else if q=0 then some (d,0,ρ)else some (d,0,ρ.set i (some (d,0)))
 | _=>none
section
variable {X:Cx} {a b c e:Expr} {fa fb fc f:Den} {pos:Pos}
theorem y13 {v:V} {d:D} (h:PE X e (tC v)) (r:∀ K H w o q,Rep K H w o q d v []):PD X e (eC d):=PE.imp h fun σ H Q hh0=>by
 obtain⟨ρ,w,t,r',q,ρ',g,ee,k⟩:=hh0
 cases ee
 exact k v H w [] g.up Go.refl (r _ _ _ _ _)
theorem j3d {i j}:PD X (.Constant (.int i) j pos) (eC (.int i)):=y13 z69 fun _ _ _ _ _=>.int i
theorem j5l {i j}:PD X (.Constant (.bool i) j pos) (eC (.bl i)):=y13 j4e fun _ _ _ _ _=>.bl i
theorem j1n {j}:PD X (.Constant .none j pos) (eC .non):=y13 z9t fun _ _ _ _ _=>.non
theorem j3q {x j}:PD X (.Constant (.str x) j pos) (eC (.str x)):=y13 z17 fun _ _ _ _ _=>.str x
noncomputable def x7g (i:Nat) (w:Wn):Wn:=fun a=>if w a=some (.s i)then none else w a
theorem x74 {i:Nat} {w:Wn} {a:Addr} (h:w a=none):x7g i w a=none:=by unfold x7g; rw[h]; rfl
theorem y2x {i:Nat} {w:Wn} {a:Addr} (h:w a=some (.s i)):x7g i w a=none:=by unfold x7g; rw[if_pos h]
theorem y11 {i:Nat} {w:Wn} {a:Addr} {o:Ow} (h:w a=some o) (n:o ≠ .s i):x7g i w a=some o:=by unfold x7g; rw[if_neg (by rw[h]; exact fun z=>n (Option.some.inj z))]; exact h
theorem x4g {i:Nat} {w:Wn} {a:Addr} {o:Ow} (h:x7g i w a=some o):w a=some o/\o ≠ .s i:=by
 unfold x7g at h
 split at h
 ·cases h
 ·rename_i n; exact⟨h,fun z=>n (by rw[h,z])⟩
theorem Good.give {K:PySem.W.Frag} {ρ:Rho} {σ:St} {H:Hp} {w:Wn} {t i:Nat} {d:D} {q:Nat} (g:Good K ρ σ H w t) (e:ρ[i]? = some (some (d,q))):Good K (ρ.set i (some (d,0))) σ H (x7g i w) t/\Go H w H (x7g i w):=by
 have st:x7d H w H (x7g i w):=fun a x h n=>⟨sm h,x74 n⟩
 refine⟨⟨⟨fun a o h=>g.wl a o (x4g h).1,g.wl.tb⟩,fun a j h=>g.ws a j (x4g h).1,fun a j h=>g.wt a j (x4g h).1,by rw[List.length_set]; exact g.len,fun j d' q' e'=>?_⟩,⟨st,fun a o h n=>⟨rfl,y11 h (n i)⟩⟩⟩
 by_cases hj:i=j
 ·subst hj
  rw[List.getElem?_set_self (List.getElem?_eq_some_iff.mp e).1]at e'
  cases e'
  obtain⟨v,F,h1,h2⟩:=g.slot i d q e
  exact⟨v,[],h1,Rep.freeze (fun a n=>x74 n) h2 fun a m=>y2x (h2.owns a m)⟩
 ·rw[List.getElem?_set_ne hj]at e'
  obtain⟨v,F,h1,h2⟩:=g.slot j d' q' e'
  exact⟨v,F,h1,Rep.go g.wl st h2 fun a m=>⟨rfl,y11 (h2.owns a m) (fun z=>hj (by cases z; rfl))⟩⟩
theorem j2m {i:Nat} {x:Str} (h:PE X (.Name x pos) (x9t i)):PD X (.Name x pos) (x04 i):=PE.imp h fun σ H Q hh0=>by
 obtain⟨ρ,w,t,r',q,ρ',g,ee,k⟩:=hh0
 unfold x04 at ee
 split at ee
 ·rename_i d q0 e0
  obtain⟨v,F,h1,h2⟩:=g.slot i d q0 e0
  refine⟨v,h1,?_⟩
  split at ee
  ·rename_i hl
   cases ee
   obtain⟨hF,hr⟩:=h2.nolist hl
   exact k v H w [] g.up Go.refl ((hr 9).any g.wl)
  ·split at ee
   ·rename_i hq
    subst hq
    cases ee
    have:=h2.zero
    subst this
    exact k v H w [] g.up Go.refl (h2.any g.wl)
   ·cases ee
    obtain⟨g',go'⟩:=g.give e0
    refine k v H (x7g i w) [] g'.up go' ?_
    exact Rep.freeze (fun a n=>x74 n) h2 fun a m=>y2x (h2.owns a m)
 ·cases ee
noncomputable def y4k:D->Option V
 | .non=>some .non
 | .bl b=>some (.bl b)
 | .int i=>some (.int i)
 | .str x=>some (.str x)
 | _=>none
theorem y4g {K:PySem.W.Frag} {H:Hp} {w:Wn} {o:Ow} {q:Nat} {d:D} {v:V} (h:y4k d=some v):Rep K H w o q d v []:=by
 cases d <;> cases h
 ·exact .non
 ·exact .bl _
 ·exact .int _
 ·exact .str _
@[simp] noncomputable def e2 (g:D->D->Option D) (fa fb:Den):Den:=fun ρ=>match fa ρ with
 | some (x,_,ρ1)=>match fb ρ1 with
  | some (y,_,ρ2)=>match g x y with
   | some d=>some (d,9,ρ2)
   | none=>none
  | none=>none
 | none=>none
theorem z71 {g:D->D->Option D} {ρ ρ':Rho} {r:D} {q:Nat} (h:e2 g fa fb ρ=some (r,q,ρ')):∃ x q1 ρ1 y q2,fa ρ=some (x,q1,ρ1)/\fb ρ1=some (y,q2,ρ')/\g x y=some r/\q=9:=by
 unfold e2 at h
 split at h
 ·rename_i x q1 ρ1 h1
  split at h
  ·rename_i y q2 ρ2 h2
   split at h
   ·rename_i d hd
    cases h
    exact⟨x,q1,ρ1,y,q2,h1,h2,hd,rfl⟩
   ·cases h
  ·cases h
 ·cases h
theorem y5k {K:PySem.W.Frag} {g:D->D->Option D} {r:R2} (hg:∀ x y d,g x y=some d->∃ v,y4k d=some v/\∀ H w o o' q q' u u' F F',Rep K H w o q x u F->Rep K H w o' q' y u' F'->WL K w H->∀ Q:VK,Q v H->r u u' H Q) :
  ∀ σ H Q,tD K (e2 g fa fb) σ H Q->tOp r (tD K fa) (tD K fb) σ H Q:=fun σ H Q hh0=>by
 obtain⟨ρ,w,t,r',q,ρ',gd,ee,k⟩:=hh0
 obtain⟨x,q1,ρ1,y,q2,h1,h2,h3,rfl⟩:=z71 ee
 obtain⟨v,hv,hr⟩:=hg x y r' h3
 exact z81 gd h1 h2 fun u u' H2 w2 F1 F2 g2 go r1 r2=>hr H2 w2 _ _ _ _ u u' F1 F2 r1 r2 g2.wl Q (z6e k gd g2 go (y4g hv))
@[simp] noncomputable def gI (f:Int->Int->Option D):D->D->Option D
 | .int i,.int j=>f i j
 | _,_=>none
theorem y1l {f:Int->Int->Option D} {x y d:D} (h:gI f x y=some d):∃ i j,x=.int i/\y=.int j/\f i j=some d:=by
 unfold gI at h
 split at h
 ·exact⟨_,_,rfl,rfl,h⟩
 ·cases h
theorem x4c {K:PySem.W.Frag} {H:Hp} {w:Wn} {o:Ow} {q:Nat} {i:Int} {v:V} {F:List Addr} (r:Rep K H w o q (.int i) v F):v=.int i:=by cases r; rfl
theorem y76 {K:PySem.W.Frag} {f:Int->Int->Option D} {C:Int->Int->Prop} {h:Int->Int->V} (hf:∀ i j d,f i j=some d->C i j/\y4k d=some (h i j)) :
  ∀ σ H Q,tD K (e2 (gI f) fa fb) σ H Q->tOp (rI C h) (tD K fa) (tD K fb) σ H Q:=
 y5k fun x y d e=>by
  obtain⟨i,j,rfl,rfl,e⟩:=y1l e
  obtain⟨c,s⟩:=hf i j d e
  exact⟨_,s,fun H w o o' q q' u u' F F' r1 r2 _ Q hq=>⟨i,j,x4c r1,x4c r2,c,hq⟩⟩
theorem x9i {K:PySem.W.Frag} {f:Int->Int->Option D} {h:Int->Int->V} (hf:∀ i j d,f i j=some d->y4k d=some (h i j)) :
  ∀ σ H Q,tD K (e2 (gI f) fa fb) σ H Q->tOp (rI0 h) (tD K fa) (tD K fb) σ H Q:=
 y5k fun x y d e=>by
  obtain⟨i,j,rfl,rfl,e⟩:=y1l e
  exact⟨_,hf i j d e,fun H w o o' q q' u u' F F' r1 r2 _ Q hq=>⟨i,j,x4c r1,x4c r2,hq⟩⟩
end
section
variable {X:Cx} {a b c e:Expr} {fa fb fc f:Den} {pos:Pos}
@[simp] noncomputable def x2w:D->D->Option D:=gI fun i j=>some (.int (i+j))
@[simp] noncomputable def z67:D->D->Option D:=gI fun i j=>some (.int (i-j))
@[simp] noncomputable def x95:D->D->Option D:=gI fun i j=>if(-(2 ^ 64)<i/\i<2 ^ 64)\/(-(2 ^ 64)<j/\j<2 ^ 64)then some (.int (i*j))else none
@[simp] noncomputable def j05:D->D->Option D:=gI fun i j=>if 0<j/\j<1073741824 then some (.int (i / j))else none
@[simp] noncomputable def z5s:D->D->Option D:=gI fun i j=>if 0<j then some (.int (i % j))else none
theorem j2f (ha:PD X a fa) (hb:PD X b fb):PD X (.BinOp a .Add b pos) (e2 x2w fa fb):=PE.imp (y4m z9r ha hb) (x9i fun i j d h=>by cases h; rfl)
theorem j0p (ha:PD X a fa) (hb:PD X b fb):PD X (.BinOp a .Sub b pos) (e2 z67 fa fb):=PE.imp (y4m j3n ha hb) (x9i fun i j d h=>by cases h; rfl)
theorem j0m (ha:PD X a fa) (hb:PD X b fb):PD X (.BinOp a .Mult b pos) (e2 x95 fa fb):=PE.imp (y4m j1o ha hb) (y76 fun i j d h=>by
 split at h
 ·cases h; exact⟨by assumption,rfl⟩
 ·cases h)
theorem j3r (ha:PD X a fa) (hb:PD X b fb):PD X (.BinOp a .FloorDiv b pos) (e2 j05 fa fb):=PE.imp (y4m z7e ha hb) (y76 fun i j d h=>by
 split at h
 ·cases h; exact⟨by assumption,rfl⟩
 ·cases h)
theorem j2r (ha:PD X a fa) (hb:PD X b fb):PD X (.BinOp a .Mod b pos) (e2 z5s fa fb):=PE.imp (y4m j3a ha hb) (y76 fun i j d h=>by
 split at h
 ·cases h; exact⟨by assumption,rfl⟩
 ·cases h)
noncomputable def atD:D->Int->Option D
 | .lst ds,i=>atI ds i
 | .tup ds,i=>atI ds i
 | _,_=>none
@[simp] noncomputable def eIx (fa fb:Den):Den:=fun ρ=>match fa ρ with
 | some (x,_,ρ1)=>match fb ρ1 with
  | some (.int i,_,ρ2)=>match atD x i with
   | some d=>some (d,y36 d,ρ2)
   | none=>none
  | _=>none
 | none=>none
theorem Rep.seqL {K:PySem.W.Frag} {H:Hp} {w:Wn} {o:Ow} {q:Nat} {ds:List D} {v:V} {F:List Addr} (r:Rep K H w o q (.lst ds) v F):∃ a vs q' G,v=.ref a/\SqL K H a vs/\Reps K H w o q' ds vs G:=by
 cases r with
 | kl h r=>exact⟨_,_,_,_,rfl,h.sq,r⟩
 | shr h n r=>exact⟨_,_,_,_,rfl,.inl h,r⟩
 | own h n r _=>exact⟨_,_,_,_,rfl,SqL.of h,r⟩
theorem Rep.seqL0 {K:PySem.W.Frag} {H:Hp} {w:Wn} {o:Ow} {ds:List D} {v:V} {F:List Addr} (r:Rep K H w o 0 (.lst ds) v F):∃ a vs,v=.ref a/\SqL K H a vs/\Reps K H w o 0 ds vs []:=by
 cases r with
 | kl h r=>exact⟨_,_,rfl,h.sq,r⟩
 | shr h n r=>exact⟨_,_,rfl,.inl h,r⟩
theorem Rep.seqT {K:PySem.W.Frag} {H:Hp} {w:Wn} {o:Ow} {q:Nat} {ds:List D} {v:V} {F:List Addr} (r:Rep K H w o q (.tup ds) v F):∃ a vs,v=.ref a/\SqT K H a vs/\Reps K H w o 0 ds vs []:=by
 cases r with
 | tup h r=>exact⟨_,_,rfl,SqT.of h,r⟩
theorem Rep.tupAt {K:PySem.W.Frag} {H:Hp} {w:Wn} {o:Ow} {q:Nat} {ds:List D} {v:V} {F:List Addr} (r:Rep K H w o q (.tup ds) v F):∃ a vs,v=.ref a/\H a=some (.tup vs)/\Reps K H w o 0 ds vs []:=by
 cases r with
 | tup h r=>exact⟨_,_,rfl,h,r⟩
theorem Reps.atI {K:PySem.W.Frag} {H:Hp} {w:Wn} {o:Ow} {ds:List D} {vs:List V} {i:Int} {d:D} (r:Reps K H w o 0 ds vs []) (h:L2.atI ds i=some d):∃ v,L2.atI vs i=some v/\Rep K H w o 0 d v []:=by
 unfold L2.atI at h ⊢
 rw[<- r.length]
 cases e:ixN ds.length i with
 | none=>rw[e]at h; cases h
 | some j=>
  rw[e]at h
  exact r.get h
theorem j5v (ha:PD X a fa) (hb:PD X b fb) (hs:x4n b:=by exact fun _ _=>rfl):PD X (.Subscript a b pos) (eIx fa fb):=PE.imp (z1w y5o ha hb hs) fun σ H Q hh0=>by
 obtain⟨ρ,w,t,r',q,ρ',gd,ee,k⟩:=hh0
 unfold eIx at ee
 split at ee
 ·rename_i x q1 ρ1 h1
  split at ee
  ·rename_i i q2 ρ2 h2
   split at ee
   ·rename_i d hd
    cases ee
    refine z81 gd h1 h2 fun u u' H2 w2 F1 F2 g2 go r1 r2=>?_
    have hu':=x4c r2
    subst hu'
    have r0:=r1.drop (o:=.t t) (Nat.le_refl t)
    cases x with
    | lst ds=>
     obtain⟨p,vs,rfl,hq,rs⟩:=r0.seqL0
     obtain⟨v,hv,rv⟩:=rs.atI hd
     exact .inl ⟨p,vs,i,v,rfl,rfl,hq,hv,z6e k gd g2 go rv.dep⟩
    | tup ds=>
     obtain⟨p,vs,rfl,hq,rs⟩:=r0.seqT
     obtain⟨v,hv,rv⟩:=rs.atI hd
     exact .inr (.inl ⟨p,vs,i,v,rfl,rfl,hq,hv,z6e k gd g2 go rv.dep⟩)
    | _=>cases hd
   ·cases ee
  ·cases ee
 ·cases ee
noncomputable abbrev x2c:=Rho->Option (List D × Rho)
noncomputable def tDA (K:PySem.W.Frag) (f:x2c):TA:=fun σ H Q=>∃ ρ w t ds ρ',Good K ρ σ H w t/\f ρ=some (ds,ρ')/\∀ vs H' w',Good K ρ' σ H' w' t->Go H w H' w'->Reps K H' w' .f 0 ds vs []->Q vs H'
noncomputable abbrev PDA (X:Cx) (es:List Expr) (f:x2c):Prop:=PA X es (tDA X.K f)
theorem PA.imp {X:Cx} {e:List Expr} {t t':TA} (h:PA X e t) (i:∀ σ H Q,t' σ H Q->t σ H Q):PA X e t':=fun pos pins s σ H Q I q=>h pos pins s σ H Q I (i σ H Q q)
@[simp] noncomputable def x0c:x2c:=fun ρ=>some ([],ρ)
@[simp] noncomputable def x01 (f:Den) (g:x2c):x2c:=fun ρ=>match f ρ with
 | some (d,_,ρ1)=>match g ρ1 with
  | some (ds,ρ2)=>some (d::ds,ρ2)
  | none=>none
 | none=>none
theorem z96:PDA X [] x0c:=PA.imp x7k fun σ H Q hh0=>by
 obtain⟨ρ,w,t,ds,ρ',gd,ee,k⟩:=hh0
 cases ee
 exact k [] H w gd Go.refl .nil
theorem z2w {es:List Expr} {g:x2c} (ha:PD X e f) (hr:PDA X es g) (hs:starEach (e::es) X.env=(false,eval e X.env)::starEach es X.env:=by rfl):PDA X (e::es) (x01 f g):=PA.imp (x4u ha hr hs) fun σ H Q hh0=>by
 obtain⟨ρ,w,t,ds,ρ',gd,ee,k⟩:=hh0
 unfold x01 at ee
 split at ee
 ·rename_i d q ρ1 h1
  split at ee
  ·rename_i ds' ρ2 h2
   cases ee
   refine⟨ρ,w,t,d,q,ρ1,gd,h1,fun x H1 w1 F1 g1 go1 r1=>⟨ρ1,x2d t w1,t,ds',_,g1.drop,h2,fun vs H2 w2 g2 go2 r2=>?_⟩⟩
   have gl:=(g1.drop (t':=t)).wl
   have r0:Rep X.K H2 w2 .f 0 d x []:=Rep.go gl go2.stab (r1.drop (o:=.f) (Nat.le_refl t)) (fun _ z=>nomatch z)
   exact k (x::vs) H2 w2 g2 ((go1.drop gd.wt).trans go2) (.cons (F:=[]) (G:=[]) r0 r2 (fun _ z=>nomatch z))
  ·cases ee
 ·cases ee
@[simp] noncomputable def x4x (g:x2c):Den:=fun ρ=>match g ρ with
 | some (ds,ρ1)=>if ds.length<=1000 then some (.lst ds,1,ρ1)else none
 | none=>none
@[simp] noncomputable def x4e (g:x2c):Den:=fun ρ=>match g ρ with
 | some (ds,ρ1)=>if ds.length<=1000 then some (.tup ds,9,ρ1)else none
 | none=>none
theorem y0b {n:Nat} (h:n<=1000):n<=sizeLine:=Nat.le_of_lt (x3y h)
theorem j15 {es:List Expr} {g:x2c} (h:PDA X es g):PD X (.List es pos) (x4x g):=PE.imp (j03 h) fun σ H Q hh0=>by
 obtain⟨ρ,w,t,r',q,ρ',gd,ee,k⟩:=hh0
 unfold x4x at ee
 split at ee
 ·rename_i ds ρ1 h1
  split at ee
  ·rename_i hl
   cases ee
   refine⟨ρ,w,t,ds,_,gd,h1,fun vs H1 w1 g1 go1 r1=>⟨by rw[<- r1.length]; exact y0b hl,fun p hp=>?_⟩⟩
   obtain⟨a1,a2,a3⟩:=y3s g1 hp r1
   exact k _ _ _ _ a1 (go1.trans a2) a3
  ·cases ee
 ·cases ee
theorem j0w {es:List Expr} {g:x2c} {x1} (h:PDA X es g):PD X (.Tuple es x1 pos) (x4e g):=PE.imp (j3w h) fun σ H Q hh0=>by
 obtain⟨ρ,w,t,r',q,ρ',gd,ee,k⟩:=hh0
 unfold x4e at ee
 split at ee
 ·rename_i ds ρ1 h1
  split at ee
  ·rename_i hl
   cases ee
   refine⟨ρ,w,t,ds,_,gd,h1,fun vs H1 w1 g1 go1 r1=>⟨by rw[<- r1.length]; exact y0b hl,fun p hp=>?_⟩⟩
   obtain⟨a1,a2,a3⟩:=y2q g1 hp r1
   exact k _ _ _ _ a1 (go1.trans a2) a3
  ·cases ee
 ·cases ee
noncomputable def spD (K:PySem.W.Frag) (n:Nat) (F:List D->Option (D × Nat)):Sp:=fun vs H Q _=>vs.length=n/\∃ ds w r q,(∀ a o,w a=some o->o=.f)/\WL K w H/\Reps K H w .f 0 ds vs []/\F ds=some (r,q) /\
 ∀ v H' w' Fo,Go H w H' w'->WL K w' H'->Rep K H' w' (.t 0) q r v Fo->Q v H'
@[simp] noncomputable def x0g (F:List D->Option (D × Nat)) (n:Nat) (g:x2c):Den:=fun ρ=>match g ρ with
 | some (ds,ρ1)=>if ds.length=n then match F ds with
  | some (r,q)=>some (r,q,ρ1)
  | none=>none
  else none
 | none=>none
theorem j6t {K:PySem.W.Frag} {ρ:Rho} {σ:St} {H H':Hp} {w w':Wn} {t q:Nat} {d:D} {v:V} {Fo:List Addr} (g:Good K ρ σ H w t)
  (go:Go H (fun a=>(w a).map fun _=>Ow.f) H' w') (wl':WL K w' H') (r:Rep K H' w' (.t 0) q d v Fo) :
  Good K ρ σ H' (fun a=>if a∈Fo then some (.t t)else w a) (t+1)/\Go H w H' (fun a=>if a∈Fo then some (.t t)else w a)/\Rep K H' (fun a=>if a∈Fo then some (.t t)else w a) (.t t) q d v Fo:=by
 have kf:∀ a o,w a=some o->H' a=H a/\w' a=some .f:=fun a o e=>go.keep a .f (by show(w a).map _=_; rw[e]; rfl) (fun _ z=>nomatch z)
 have nf:∀ a x,H a=some x->a ∉ Fo:=fun a x e m=>by
  have h1:=r.owns a m
  cases ew:w a with
  | none=>
   have:=(go.stab a x e (by show(w a).map _=_; rw[ew]; rfl)).2
   rw[h1]at this; cases this
  | some o=>rw[(kf a o ew).2]at h1; cases h1
 have nw:∀ a o,w a=some o->a ∉ Fo:=fun a o e=>by obtain⟨vs,q⟩:=g.wl a o e; exact nf a _ q
 have st:x7d H w H' (fun a=>if a∈Fo then some (.t t)else w a):=fun a x e n=>⟨(go.stab a x e (by show(w a).map _=_; rw[n]; rfl)).1,by show(if a∈Fo then _ else _)=_; rw[if_neg (nf a x e)]; exact n⟩
 have wv:∀ a o,(if a∈Fo then some (Ow.t t)else w a)=some o->(a∈Fo/\o=.t t)\/w a=some o:=fun a o e=>by
  split at e
  ·cases e; exact .inl ⟨by assumption,rfl⟩
  ·exact .inr e
 refine⟨⟨⟨fun a o e=>?_,wl'.tb⟩,fun a i e=>?_,fun a i e=>?_,g.len,fun i d q e=>?_⟩,⟨st,fun a o e _=>⟨(kf a o e).1,by show(if a∈Fo then _ else _)=_; rw[if_neg (nw a o e)]; exact e⟩⟩,?_⟩
 ·rcases wv a o e with⟨m,_⟩ | z
  ·exact wl' a _ (r.owns a m)
  ·obtain⟨vs,h⟩:=g.wl a o z
   exact⟨vs,(kf a o z).1.trans h⟩
 ·rcases wv a _ e with⟨_,z⟩ | z
  ·cases z
  ·exact g.ws a i z
 ·rcases wv a _ e with⟨_,z⟩ | z
  ·cases z; exact Nat.lt_succ_self _
  ·exact Nat.lt_succ_of_lt (g.wt a i z)
 ·obtain⟨v,F,h1,h2⟩:=g.slot i d q e
  refine⟨v,F,h1,Rep.go g.wl st h2 fun a m=>⟨(kf a _ (h2.owns a m)).1,?_⟩⟩
  show(if a∈Fo then _ else _)=_
  rw[if_neg (nw a _ (h2.owns a m))]
  exact h2.owns a m
 ·refine Rep.go wl' (fun a x e n=>⟨sm e,?_⟩) r fun a m=>⟨rfl,if_pos m⟩
  show(if a∈Fo then _ else _)=_
  rw[if_neg (fun m=>by have:=r.owns a m; rw[n]at this; cases this)]
  cases ew:w a with
  | none=>rfl
  | some o=>have:=(kf a o ew).2; rw[n]at this; cases this
theorem z4a {CX:CXT} {k n:Nat} {fn:Addr} {fd:FuncData} {ps:List Str} {x:Str} {p:Pos} {es:List Expr} {F:List D->Option (D × Nat)} {g:x2c} {E:XK} (Fk:FnOk X.prog X.w X.K X.mg X.base CX k fn fd ps (spD X.K n F)) (hr:Room k X.A) (hm:X.mg x=some (.ref fn)) (hk:PySem.W.keepIn X.K (.ref fn)=true) (hb:y50 X.K fd ps [])
  (hx:y7f CX X E) (ha:PDA X (e::es) g) (hg:Gl X x:=by rfl) (hdb:(x == ("__debug__":Str))=false:=by decide) (he:starEach (e::es) X.env=(false,eval e X.env)::starEach es X.env:=by rfl) (hpl:(backTo pos (starEach es X.env)).any (·.1)=false:=by rfl) :
  PD X (.Call (.Name x p) (e::es) [] pos) (x0g F n g):=PE.imp (z6z Fk hr hg hm hk hb .nil hx ha hdb he hpl) fun σ H Q hh0=>by
 obtain⟨ρ,w,t,r',q,ρ',gd,ee,k⟩:=hh0
 unfold x0g at ee
 split at ee
 ·rename_i ds ρ1 h1
  split at ee
  ·rename_i hn
   split at ee
   ·rename_i r0 q0 h2
    cases ee
    refine⟨ρ,w,t,ds,_,gd,h1,fun vs H1 w1 g1 go1 r1=>?_⟩
    show spD X.K n F (vs++[]) H1 Q E
    rw[List.append_nil]
    refine⟨by rw[<- r1.length]; exact hn,ds,fun a=>(w1 a).map fun _=>Ow.f,r',q,fun a o e=>?_,⟨fun a o e=>?_,g1.wl.tb⟩,?_,h2,fun v H2 w2 Fo go2 wl2 rr=>?_⟩
    ·dsimp only at e
     cases ew:w1 a with
     | none=>rw[ew]at e; cases e
     | some o'=>rw[ew]at e; cases e; rfl
    ·try dsimp only at e
     cases ew:w1 a with
     | none=>rw[ew]at e; cases e
     | some o'=>exact g1.wl a o' ew
    ·exact Reps.freeze (fun a n=>by show(w1 a).map _=_; rw[n]; rfl) r1 (fun _ z=>nomatch z)
    ·obtain⟨b1,b2,b3⟩:=j6t g1 go2 wl2 rr
     exact k _ _ _ _ b1 (go1.trans b2) b3
   ·cases ee
  ·cases ee
 ·cases ee
end
noncomputable abbrev x2b:=Rho->Option (Bool × Rho)
noncomputable def tDT (K:PySem.W.Frag) (f:x2b):TT:=fun σ H Q=>∃ ρ w t b ρ',Good K ρ σ H w t/\f ρ=some (b,ρ')/\∀ H' w',Good K ρ' σ H' w' t->Go H w H' w'->Q b H'
theorem PT.imp {X:Cx} {e:Expr} {t t':TT} (h:PT X e t) (i:∀ σ H Q,t' σ H Q->t σ H Q):PT X e t':=fun pins s σ H Q I q=>h pins s σ H Q I (i σ H Q q)
theorem PW.imp {X:Cx} {e:Expr} {t t':TT} (h:PW X e t) (i:∀ σ H Q,t' σ H Q->t σ H Q):PW X e t':=fun whole pins s σ H Q I q=>h whole pins s σ H Q I (i σ H Q q)
noncomputable abbrev PDT (X:Cx) (e:Expr) (f:x2b):Prop:=PT X e (tDT X.K f)
noncomputable abbrev PDW (X:Cx) (e:Expr) (f:x2b):Prop:=PW X e (tDT X.K f)
@[simp] noncomputable def j6s:D->Option Bool
 | .non=>some false
 | .bl b=>some b
 | .int i=>some (i != 0)
 | .tup ds=>some (!ds.isEmpty)
 | .lst ds=>some (!ds.isEmpty)
 | .str _=>none
 | .dic _ _=>none
 | .exc _=>none
 | .ob _ _ _ _=>none
@[simp] noncomputable def x81 (f:Den):x2b:=fun ρ=>match f ρ with
 | some (d,_,ρ1)=>match j6s d with
  | some b=>some (b,ρ1)
  | none=>none
 | none=>none
section
variable {X:Cx} {a b c e:Expr} {fa fb fc f:Den} {ga gb gc:x2b} {pos:Pos}
theorem y0z {α β:Type} {l:List α} {l':List β} (h:l.length=l'.length):(!l.isEmpty) = !l'.isEmpty:=by
 cases l <;> cases l' <;> first | rfl | cases h
theorem z7x (ha:PD X a fa) (he:∀ whole,isTrue a X.env whole=(do let v <- whole; standAt a.pos; holding [v] (truthy v)):=by exact fun _=>rfl):PDT X a (x81 fa):=PT.imp (z2x ha he) fun σ H Q hh0=>by
 obtain⟨ρ,w,t,b,ρ',gd,ee,k⟩:=hh0
 unfold x81 at ee
 split at ee
 ·rename_i d q ρ1 h1
  split at ee
  ·rename_i b' hb
   cases ee
   refine⟨ρ,w,t,d,q,_,gd,h1,fun v H1 w1 F g1 go1 r1=>⟨b,?_,k H1 (x2d t w1) g1.drop (go1.drop gd.wt)⟩⟩
   cases r1 with
   | non=>cases hb; rfl
   | bl x=>cases hb; rfl
   | int i=>cases hb; rfl
   | str x=>cases hb
   | tup h r=>cases hb; exact .inr (.inl ⟨_,SqT.of h,y0z r.length⟩)
   | dic h r=>cases hb
   | exc h x n=>cases hb
   | ob h1 h2 x r=>cases hb
   | kl h r=>cases hb; exact .inl ⟨_,h.sq,y0z r.length⟩
   | shr h _ r=>cases hb; exact .inl ⟨_,.inl h,y0z r.length⟩
   | own h _ r _=>cases hb; exact .inl ⟨_,SqL.of h,y0z r.length⟩
  ·cases ee
 ·cases ee
@[simp] noncomputable def x2g (f:Den):x2b:=fun ρ=>match f ρ with
 | some (.bl b,_,ρ1)=>some (b,ρ1)
 | _=>none
theorem z4n {K:PySem.W.Frag} {te:TE} (h:∀ σ H Q,tD K f σ H Q->te σ H Q):∀ σ H Q,tDT K (x2g f) σ H Q->j27 te σ H Q:=fun σ H Q hh0=>by
 obtain⟨ρ,w,t,b,ρ',gd,ee,k⟩:=hh0
 unfold x2g at ee
 split at ee
 ·rename_i b' q ρ1 h1
  cases ee
  refine h σ H _ ⟨ρ,w,t,.bl b,q,_,gd,h1,fun v H1 w1 F g1 go1 r1=>?_⟩
  cases r1
  exact⟨b,rfl,k H1 (x2d t w1) g1.drop (go1.drop gd.wt)⟩
 ·cases ee
theorem x9l {op:CmpOp} {g:D->D->Option D} {r:R2} (ho:OpR X (compareOp op) r) (hr:∀ σ H Q,tD X.K (e2 g fa fb) σ H Q->tOp r (tD X.K fa) (tD X.K fb) σ H Q) (ha:PD X a fa) (hb:PD X b fb) (hm:behindInMarks op b=false) :
  PDT X (.Compare a [op] [b] pos) (x2g (e2 g fa fb)):=PT.imp (z8m ho ha hb hm) (z4n hr)
theorem j1g {op:CmpOp} {g:D->D->Option D} {r:R2} (ho:OpR X (compareOp op) r) (hr:∀ σ H Q,tD X.K (e2 g fa fb) σ H Q->tOp r (tD X.K fa) (tD X.K fb) σ H Q) (ha:PD X a fa) (hb:PD X b fb) (hm:behindInMarks op b=false) :
  PD X (.Compare a [op] [b] pos) (e2 g fa fb):=PE.imp (z8t ho ha hb hm) hr
@[simp] noncomputable def dLt:D->D->Option D:=gI fun i j=>some (.bl (decide (i<j)))
@[simp] noncomputable def dLe:D->D->Option D:=gI fun i j=>some (.bl (decide (i<=j)))
@[simp] noncomputable def dGt:D->D->Option D:=gI fun i j=>some (.bl (decide (j<i)))
@[simp] noncomputable def dGe:D->D->Option D:=gI fun i j=>some (.bl (decide (j<=i)))
theorem hLt {K:PySem.W.Frag}:∀ σ H Q,tD K (e2 dLt fa fb) σ H Q->tOp (rI0 fun i j=>.bl (decide (i<j))) (tD K fa) (tD K fb) σ H Q:=x9i fun i j d h=>by cases h; rfl
theorem hGt {K:PySem.W.Frag}:∀ σ H Q,tD K (e2 dGt fa fb) σ H Q->tOp (rI0 fun i j=>.bl (decide (j<i))) (tD K fa) (tD K fb) σ H Q:=x9i fun i j d h=>by cases h; rfl
theorem hGe {K:PySem.W.Frag}:∀ σ H Q,tD K (e2 dGe fa fb) σ H Q->tOp (rI0 fun i j=>.bl (decide (j<=i))) (tD K fa) (tD K fb) σ H Q:=x9i fun i j d h=>by cases h; rfl
theorem j06 (ha:PD X a fa) (hb:PD X b fb):PDT X (.Compare a [.Lt] [b] pos) (x2g (e2 dLt fa fb)):=x9l j08 hLt ha hb (y2t _)
theorem j1h (ha:PD X a fa) (hb:PD X b fb):PDT X (.Compare a [.Gt] [b] pos) (x2g (e2 dGt fa fb)):=x9l j5r hGt ha hb (y2t _)
theorem j21 (ha:PD X a fa) (hb:PD X b fb):PDT X (.Compare a [.GtE] [b] pos) (x2g (e2 dGe fa fb)):=x9l j4q hGe ha hb (y2t _)
@[simp] noncomputable def x5e (g:x2b):x2b:=fun ρ=>match g ρ with
 | some (b,ρ1)=>some (!b,ρ1)
 | none=>none
theorem z7b (ha:PDT X a ga):PDT X (.UnaryOp .Not a pos) (x5e ga):=PT.imp (j25 ha) fun σ H Q hh0=>by
 obtain⟨ρ,w,t,b,ρ',gd,ee,k⟩:=hh0
 unfold x5e at ee
 split at ee
 ·rename_i b' ρ1 h1
  cases ee
  exact⟨ρ,w,t,b',_,gd,h1,fun H1 w1 g1 go1=>k H1 w1 g1 go1⟩
 ·cases ee
@[simp] noncomputable def x5o (g h:x2b):x2b:=fun ρ=>match g ρ with
 | some (b,ρ1)=>if b=true then h ρ1 else some (false,ρ1)
 | none=>none
@[simp] noncomputable def z0w (g h:x2b):x2b:=fun ρ=>match g ρ with
 | some (b,ρ1)=>if b=true then some (true,ρ1)else h ρ1
 | none=>none
variable {x2o:List Expr}
theorem z58 (ha:PDT X a ga):PDW X (.BoolOp .And [a] pos) ga:=z8u ha
theorem z7k (ha:PDT X a ga):PDW X (.BoolOp .Or [a] pos) ga:=j07 ha
theorem z6h (ha:PDT X a ga) (hb:PDW X (.BoolOp .And (b::x2o) pos) gb):PDW X (.BoolOp .And (a::b::x2o) pos) (x5o ga gb):=PW.imp (j2l ha hb) fun σ H Q hh0=>by
 obtain⟨ρ,w,t,b,ρ',gd,ee,k⟩:=hh0
 unfold x5o at ee
 split at ee
 ·rename_i b' ρ1 h1
  refine⟨ρ,w,t,b',ρ1,gd,h1,fun H1 w1 g1 go1=>?_⟩
  split at ee
  ·rename_i hb; rw[if_pos hb]
   exact⟨ρ1,w1,t,b,ρ',g1,ee,fun H2 w2 g2 go2=>k H2 w2 g2 (go1.trans go2)⟩
  ·rename_i hb; rw[if_neg hb]
   cases ee
   exact k H1 w1 g1 go1
 ·cases ee
theorem j0f (ha:PDT X a ga) (hb:PDW X (.BoolOp .Or (b::x2o) pos) gb):PDW X (.BoolOp .Or (a::b::x2o) pos) (z0w ga gb):=PW.imp (j53 ha hb) fun σ H Q hh0=>by
 obtain⟨ρ,w,t,b,ρ',gd,ee,k⟩:=hh0
 unfold z0w at ee
 split at ee
 ·rename_i b' ρ1 h1
  refine⟨ρ,w,t,b',ρ1,gd,h1,fun H1 w1 g1 go1=>?_⟩
  split at ee
  ·rename_i hb; rw[if_pos hb]
   cases ee
   exact k H1 w1 g1 go1
  ·rename_i hb; rw[if_neg hb]
   exact⟨ρ1,w1,t,b,ρ',g1,ee,fun H2 w2 g2 go2=>k H2 w2 g2 (go1.trans go2)⟩
 ·cases ee
@[simp] noncomputable def eIf (g:x2b) (fa fb:Den):Den:=fun ρ=>match g ρ with
 | some (b,ρ1)=>if b=true then fa ρ1 else fb ρ1
 | none=>none
theorem z5e (hc:PDT X c gc) (ha:PD X a fa) (hb:PD X b fb):PD X (.IfExp c a b pos) (eIf gc fa fb):=PE.imp (z3j hc ha hb) fun σ H Q hh0=>by
 obtain⟨ρ,w,t,r',q,ρ',gd,ee,k⟩:=hh0
 unfold eIf at ee
 split at ee
 ·rename_i b' ρ1 h1
  refine⟨ρ,w,t,b',ρ1,gd,h1,fun H1 w1 g1 go1=>?_⟩
  split at ee
  ·rename_i hb; rw[if_pos hb]
   exact⟨ρ1,w1,t,r',q,ρ',g1,ee,fun v H2 w2 F g2 go2=>k v H2 w2 F g2 (go1.trans go2)⟩
  ·rename_i hb; rw[if_neg hb]
   exact⟨ρ1,w1,t,r',q,ρ',g1,ee,fun v H2 w2 F g2 go2=>k v H2 w2 F g2 (go1.trans go2)⟩
 ·cases ee
end
inductive Out where
 | nx (ρ:Rho) | rt (d:D) (q:Nat) | bk (ρ:Rho) | ct (ρ:Rho)
noncomputable abbrev x19:=Rho->Option Out
noncomputable def y2g (K:PySem.W.Frag) (Dn:Ends) (n:Nat) (H:Hp) (w:Wn):Out->Prop
 | .nx ρ'=>∀ σ' H' w',σ'.length=n->Good K ρ' σ' H' w' 0->Go H w H' w'->Dn.nx σ' H'
 | .bk ρ'=>∀ σ' H' w',σ'.length=n->Good K ρ' σ' H' w' 0->Go H w H' w'->Dn.bk σ' H'
 | .ct ρ'=>∀ σ' H' w',σ'.length=n->Good K ρ' σ' H' w' 0->Go H w H' w'->Dn.ct σ' H'
 | .rt d q=>∀ v H' w' F,WL K w' H'->Go H w H' w'->Rep K H' w' (.t 0) q d v F->Dn.rt v H'
noncomputable def tDS (K:PySem.W.Frag) (f:x19):TS:=fun Dn σ H=>∃ ρ w o,Good K ρ σ H w 0/\f ρ=some o/\y2g K Dn σ.length H w o
theorem PS.imp {X:Cx} {e:Stmt} {t t':TS} (h:PS X e t) (i:∀ D σ H,t' D σ H->t D σ H):PS X e t':=fun pins s σ H D I q=>h pins s σ H D I (i D σ H q)
theorem PSs.imp {X:Cx} {e:List Stmt} {t t':TS} (h:PSs X e t) (i:∀ D σ H,t' D σ H->t D σ H):PSs X e t':=fun pins s σ H D I q=>h pins s σ H D I (i D σ H q)
noncomputable abbrev PDS (X:Cx) (st:Stmt) (f:x19):Prop:=PS X st (tDS X.K f)
noncomputable abbrev y9p (X:Cx) (st:List Stmt) (f:x19):Prop:=PSs X st (tDS X.K f)
@[simp] noncomputable def x7e:x19:=fun ρ=>some (.nx ρ)
@[simp] noncomputable def x0z (f g:x19):x19:=fun ρ=>match f ρ with
 | some (.nx ρ1)=>g ρ1
 | o=>o
theorem y2g.trans {K:PySem.W.Frag} {Dn:Ends} {n:Nat} {H H1:Hp} {w w1:Wn} (go:Go H w H1 w1):∀ {o:Out},y2g K Dn n H w o->y2g K Dn n H1 w1 o
 | .nx _,h=>fun σ' H' w' e g go'=>h σ' H' w' e g (go.trans go')
 | .bk _,h=>fun σ' H' w' e g go'=>h σ' H' w' e g (go.trans go')
 | .ct _,h=>fun σ' H' w' e g go'=>h σ' H' w' e g (go.trans go')
 | .rt _ _,h=>fun v H' w' F wl go'=>h v H' w' F wl (go.trans go')
section
variable {X:Cx} {a b c e:Expr} {fa fb fc f:Den} {ga gb gc:x2b} {pos:Pos} {st:Stmt} {x2o sa sb:List Stmt} {s s':x19}
theorem z8y:y9p X [] x7e:=PSs.imp z6f fun D σ H hh0=>by
 obtain⟨ρ,w,o,g,ee,k⟩:=hh0
 cases ee
 exact k σ H w rfl g Go.refl
theorem z33 (h1:PDS X st s) (h2:y9p X x2o s'):y9p X (st::x2o) (x0z s s'):=PSs.imp (z3p h1 h2) fun D σ H hh0=>by
 obtain⟨ρ,w,o,g,ee,k⟩:=hh0
 unfold x0z at ee
 split at ee
 ·rename_i ρ1 h1
  exact⟨ρ,w,.nx ρ1,g,h1,fun σ' H' w' e g' go'=>⟨ρ1,w',o,g',ee,by rw[e]; exact k.trans go'⟩⟩
 ·rename_i hne
  refine⟨ρ,w,o,g,ee,?_⟩
  cases o with
  | nx ρ1=>exact absurd ee (hne ρ1)
  | bk ρ1=>exact k
  | ct ρ1=>exact k
  | rt d q=>exact k
theorem z75 (h1:PDS X st s):y9p X [st] s:=z9b h1
@[simp] noncomputable def x3h (f:Den):x19:=fun ρ=>match f ρ with
 | some (d,q,_)=>some (.rt d q)
 | none=>none
theorem z8f (h:PD X e f):PDS X (.Return (some e) pos) (x3h f):=PS.imp (j09 h) fun D σ H hh0=>by
 obtain⟨ρ,w,o,g,ee,k⟩:=hh0
 unfold x3h at ee
 split at ee
 ·rename_i d q ρ1 h1
  cases ee
  exact⟨ρ,w,0,d,q,ρ1,g,h1,fun v H' w' F g' go' r=>k v H' w' F g'.wl go' r⟩
 ·cases ee
@[simp] noncomputable def sIf (g:x2b) (s s':x19):x19:=fun ρ=>match g ρ with
 | some (b,ρ1)=>if b=true then s ρ1 else s' ρ1
 | none=>none
theorem j0b (hc:PDT X c gc) (ha:y9p X sa s) (hb:y9p X sb s'):PDS X (.If c sa sb pos) (sIf gc s s'):=PS.imp (j5y hc ha hb) fun D σ H hh0=>by
 obtain⟨ρ,w,o,g,ee,k⟩:=hh0
 unfold sIf at ee
 split at ee
 ·rename_i b' ρ1 h1
  refine⟨ρ,w,0,b',ρ1,g,h1,fun H1 w1 g1 go1=>?_⟩
  split at ee
  ·rename_i hb; rw[if_pos hb]
   exact⟨ρ1,w1,o,g1,ee,k.trans go1⟩
  ·rename_i hb; rw[if_neg hb]
   exact⟨ρ1,w1,o,g1,ee,k.trans go1⟩
 ·cases ee
@[simp] noncomputable def y7j:x19:=fun ρ=>some (.bk ρ)
theorem z1y:PDS X (.Break pos) y7j:=PS.imp z45 fun D σ H hh0=>by
 obtain⟨ρ,w,o,g,ee,k⟩:=hh0
 cases ee
 exact k σ H w rfl g Go.refl
noncomputable def x9r (t i:Nat) (w:Wn):Wn:=fun a=>if w a=some (.t t)then some (.s i)else if w a=some (.s i)then none else w a
theorem Good.set {K:PySem.W.Frag} {ρ:Rho} {σ:St} {H:Hp} {w:Wn} {i q:Nat} {d:D} {v:V} {F:List Addr} (g:Good K ρ σ H w 1) (hi:i<σ.length) (r:Rep K H w (.t 0) q d v F) :
  Good K (ρ.set i (some (d,q))) (σ.set i (some v)) H (x9r 0 i w) 0/\∀ H₀ w₀,Go H₀ w₀ H w->(∀ a j,w₀ a=some (.t j)->j<0)->Go H₀ w₀ H (x9r 0 i w):=by
 have mN:∀ a,w a=none->x9r 0 i w a=none:=fun a e=>by unfold x9r; rw[e]; rfl
 have mT:∀ a,w a=some (.t 0)->x9r 0 i w a=some (.s i):=fun a e=>by unfold x9r; rw[if_pos e]
 have mS:∀ a j,w a=some (.s j)->j≠i->x9r 0 i w a=some (.s j):=fun a j e n=>by
  unfold x9r
  rw[if_neg (by rw[e]; exact fun z=>nomatch z),if_neg (by rw[e]; intro z; cases z; exact n rfl)]
  exact e
 have mF:∀ a,w a=some .f->x9r 0 i w a=some .f:=fun a e=>by
  unfold x9r
  rw[if_neg (by rw[e]; exact fun z=>nomatch z),if_neg (by rw[e]; exact fun z=>nomatch z)]
  exact e
 have mI:∀ a o,x9r 0 i w a=some o->(w a=some (.t 0)/\o=.s i)\/(w a=some o/\o ≠ .s i/\o ≠ .t 0):=fun a o e=>by
  unfold x9r at e
  split at e
  ·cases e; exact .inl ⟨by assumption,rfl⟩
  ·rename_i n1
   split at e
   ·cases e
   ·rename_i n2; exact .inr ⟨e,fun z=>n2 (by rw[e,z]),fun z=>n1 (by rw[e,z])⟩
 have st:x7d H w H (x9r 0 i w):=fun a x h n=>⟨sm h,mN a n⟩
 refine⟨⟨⟨fun a o e=>?_,g.wl.tb⟩,fun a j e=>?_,fun a j e=>?_,by rw[List.length_set,List.length_set]; exact g.len,fun j d' q' e'=>?_⟩,fun H₀ w₀ go hw=>⟨fun a x h n=>⟨(go.stab a x h n).1,mN a (go.stab a x h n).2⟩,fun a o e n=>?_⟩⟩
 ·rcases mI a o e with⟨z,_⟩ | ⟨z,_⟩
  ·exact g.wl a _ z
  ·exact g.wl a _ z
 ·rw[List.length_set]
  rcases mI a _ e with⟨_,z⟩ | ⟨z,_⟩
  ·cases z; exact hi
  ·exact g.ws a j z
 ·rcases mI a _ e with⟨_,z⟩ | ⟨z,_,n⟩
  ·cases z
  ·have:=g.wt a j z
   have:j=0:=by omega
   subst this
   exact absurd rfl n
 ·by_cases hj:i=j
  ·subst hj
   rw[List.getElem?_set_self (by rw[g.len]; exact hi)]at e'
   cases e'
   exact⟨v,F,List.getElem?_set_self hi,Rep.go g.wl st r fun a m=>⟨rfl,mT a (r.owns a m)⟩⟩
  ·rw[List.getElem?_set_ne hj]at e'
   obtain⟨v',F',h1,h2⟩:=g.slot j d' q' e'
   exact⟨v',F',by rw[List.getElem?_set_ne hj]; exact h1,Rep.go g.wl st h2 fun a m=>⟨rfl,mS a j (h2.owns a m) (fun z=>hj z.symm)⟩⟩
 ·obtain⟨h1,h2⟩:=go.keep a o e n
  refine⟨h1,?_⟩
  cases o with
  | s j=>exact absurd rfl (n j)
  | f=>exact mF a h2
  | t j=>exact absurd (hw a j e) (Nat.not_lt_zero _)
@[simp] noncomputable def x1m (i:Nat) (f:Den):x19:=fun ρ=>match f ρ with
 | some (d,q,ρ1)=>some (.nx (ρ1.set i (some (d,q))))
 | none=>none
theorem z1l {K:PySem.W.Frag} {i:Nat} {D:Ends} {σ:St} {H:Hp} {te:TE} (hi:i<σ.length) (he:∀ Q,tD K f σ H Q->te σ H Q) (h:tDS K (x1m i f) D σ H):te σ H fun x H1=>D.nx (σ.set i (some x)) H1:=by
 obtain⟨ρ,w,o,g,ee,k⟩:=h
 unfold x1m at ee
 split at ee
 ·rename_i d q ρ1 h1
  cases ee
  refine he _ ⟨ρ,w,0,d,q,ρ1,g,h1,fun v H' w' F g' go' r=>?_⟩
  obtain⟨a1,a2⟩:=g'.set hi r
  exact k _ _ _ (by rw[List.length_set]) a1 (a2 _ _ go' g.wt)
 ·cases ee
theorem z72 {i:Nat} {x:Str} {pos':Pos} (hN:X.N.Nodup) (hi:X.N[i]? = some x) (hx:Loc X.env.scope x) (he:PD X e f) (hs:swapsWith e (some (.Name x pos')) pos.line X.env=pure false:=by rfl) (hf:X.fn x=true\/X.env.scope.names.lookup x=some .local:=by first | exact .inl rfl | exact .inr rfl) :
  PDS X (.Assign [.Name x pos'] e pos) (x1m i f):=by
 intro pins s σ H D I h
 have hl:i<σ.length:=by rw[I.len]; exact(List.getElem?_eq_some_iff.mp hi).1
 exact j0g (te:=tD X.K f) hN hi hx he hs hf pins s σ H D I (z1l hl (fun _ z=>z) h)
@[simp] noncomputable def x2t (f:Den):x19:=fun ρ=>match f ρ with
 | some (_,_,ρ1)=>some (.nx ρ1)
 | none=>none
theorem z3a (he:PD X e f) (hs:swapsWith e none pos.line X.env=pure false:=by rfl):PDS X (.Expr e pos) (x2t f):=PS.imp (z74 he hs) fun D σ H hh0=>by
 obtain⟨ρ,w,o,g,ee,k⟩:=hh0
 unfold x2t at ee
 split at ee
 ·rename_i d q ρ1 h1
  cases ee
  exact⟨ρ,w,0,d,q,ρ1,g,h1,fun v H' w' F g' go' r=>k σ H' (x2d 0 w') rfl g'.drop (go'.drop g.wt)⟩
 ·cases ee
end
structure Mo (K:PySem.W.Frag) (H H':Hp):Prop where
 mo:∀ a o,H a=some o->H' a=some o
 tb:TB K H->TB K H'
theorem Mo.rfl' {K:PySem.W.Frag} {H:Hp}:Mo K H H:=⟨fun _ _ e=>e,fun t=>t⟩
structure ItOk (K:PySem.W.Frag) (J:It) (ds:List D) (P:Hp->Wn->Prop):Prop where
 go:∀ i H w,P H w->i<ds.length->J.go i H
 yld:∀ i H w x H' d,P H w->WL K w H->ds[i]? = some d->J.yld i H x H'->Mo K H H'/\Rep K H' w .f 0 d x []/\P H' w
 stop:∀ H w,P H w->J.stop ds.length H
 st:∀ H w H' w',P H w->WL K w H->x7d H w H' w'->P H' w'
noncomputable abbrev y2s:=Rho->Option (List D × Rho)
noncomputable def tDI (K:PySem.W.Frag) (f:y2s):TI:=fun σ H R=>∃ ρ w t ds ρ',Good K ρ σ H w t/\f ρ=some (ds,ρ') /\
 ∀ J P H' w',Good K ρ' σ H' w' t->Go H w H' w'->ItOk K J ds P->P H' w'->ds.length<sizeLine->R J H'
theorem PI.imp {X:Cx} {tg e:Expr} {t t':TI} (h:PI X tg e t) (i:∀ σ H R,t' σ H R->t σ H R):PI X tg e t':=fun pins s σ H R I q=>h pins s σ H R I (i σ H R q)
noncomputable abbrev PDI (X:Cx) (tg e:Expr) (f:y2s):Prop:=PI X tg e (tDI X.K f)
theorem It.list {K:PySem.W.Frag} {a:Addr} {vs:List V} {ds:List D} (hl:ds.length=vs.length):ItOk K (Itl K a) ds fun H w=>(KL K a vs\/(Rd H a (.lst vs)/\w a=none))/\Reps K H w .f 0 ds vs []:=by
 have sq:∀ {H:Hp} {w:Wn},KL K a vs\/(Rd H a (.lst vs)/\w a=none)->SqL K H a vs:=fun h=>h.elim (fun z=>z.sq) fun z=>.inl z.1
 refine⟨fun i H w p hi=>⟨vs,vs[i],sq p.1,by simp[hl ▸ hi]⟩,fun i H w x H' d p wl hd y=>?_,fun H w p=>⟨vs,sq p.1,by omega⟩,fun H w H' w' p wl st=>?_⟩
 ·obtain⟨rfl,hx⟩:=y
  obtain⟨v,hv,rv⟩:=p.2.get hd
  have:=hx vs (sq p.1)
  rw[hv]at this
  cases this
  exact⟨Mo.rfl',rv,p⟩
 ·refine⟨?_,Reps.go wl st p.2 (fun _ z=>nomatch z)⟩
  rcases p.1 with p | ⟨p,n⟩
  ·exact .inl p
  ·exact .inr (RdL.go st n p)
theorem It.tup {K:PySem.W.Frag} {a:Addr} {vs:List V} {ds:List D} (hl:ds.length=vs.length):ItOk K (Itt K a) ds fun H w=>SqT K H a vs/\Reps K H w .f 0 ds vs []:=
 ⟨fun i H w p hi=>⟨vs,vs[i],p.1,by simp[hl ▸ hi]⟩,fun i H w x H' d p wl hd y=>by
   obtain⟨rfl,hx⟩:=y
   obtain⟨v,hv,rv⟩:=p.2.get hd
   have:=hx vs p.1
   rw[hv]at this
   cases this
   exact⟨Mo.rfl',rv,p⟩,fun H w p=>⟨vs,p.1,by omega⟩,fun H w H' w' p wl st=>⟨SqT.go wl st p.1,Reps.go wl st p.2 (fun _ z=>nomatch z)⟩⟩
noncomputable def y09 (n:Nat):List V:=(List.range n).map fun i=>.int (Int.ofNat i)
noncomputable def x1a (n:Nat):List D:=(List.range n).map fun i=>.int (Int.ofNat i)
theorem x15 (n:Nat):(x1a n).length=n:=by simp[x1a]
theorem y30 (n:Nat):(y09 n).length=n:=by simp[y09]
theorem It.range {K:PySem.W.Frag} {n:Nat}:ItOk K (Itr 0 n) (x1a n) fun _ _=>True:=by
 refine⟨fun i H w _ hi=>by rw[x15]at hi; exact hi,fun i H w x H' d _ _ hd y=>?_,fun H w _=>by rw[x15]; exact Nat.le_refl _,fun _ _ _ _ _ _ _=>trivial⟩
 have hi:i<n:=by have:=(List.getElem?_eq_some_iff.mp hd).1; rw[x15]at this; exact this
 have e:x=.int (0+(i:Int)):=y.2
 have ed:d=.int (Int.ofNat i):=by
  have:(x1a n)[i]? = some (.int (Int.ofNat i)):=by simp[x1a,hi]
  rw[hd]at this
  exact Option.some.inj this
 obtain⟨rfl,_⟩:=y
 subst ed
 rw[e,Int.zero_add]
 exact⟨Mo.rfl',.int _,trivial⟩
theorem x8f {K:PySem.W.Frag} {H:Hp} {w:Wn} {o:Ow}:∀ (ns:List Int),Reps K H w o 0 (ns.map D.int) (ns.map V.int) []
 | []=>.nil
 | n::r=>.cons (F:=[]) (G:=[]) (.int n) (x8f r) (fun _ z=>nomatch z)
theorem y9j {K:PySem.W.Frag} {H:Hp} {w:Wn} {o:Ow} (n:Nat):Reps K H w o 0 (x1a n) (y09 n) []:=by
 have:=x8f (K:=K) (H:=H) (w:=w) (o:=o) ((List.range n).map Int.ofNat)
 rw[List.map_map,List.map_map]at this
 exact this
section
variable {X:Cx} {tg a b c e:Expr} {fa fb fc f:Den} {ga gb gc:x2b} {pos p:Pos}
@[simp] noncomputable def x14 (g:x2c):y2s:=fun ρ=>match g ρ with
 | some ([.int n],ρ1)=>if -1000<=n/\n<=1000 then some (x1a n.toNat,ρ1)else none
 | _=>none
theorem y9h {g:x2c} (hm:X.mg "range" = none) (ha:PDA X [a] g) (hg:Gl X "range":=by rfl) (hs:starEach [a] X.env=[(false,eval a X.env)]:=by rfl):PDI X tg (.Call (.Name "range" p) [a] [] pos) (x14 g):=PI.imp (z0d hg hm ha hs) fun σ H R hh0=>by
 obtain⟨ρ,w,t,ds,ρ',gd,ee,k⟩:=hh0
 unfold x14 at ee
 split at ee
 ·rename_i n ρ1 h1
  split at ee
  ·rename_i hn
   cases ee
   refine⟨ρ,w,t,[.int n],_,gd,h1,fun vs H1 w1 g1 go1 r1=>?_⟩
   have hv:vs=[.int n]:=by
    have l:=r1.length
    match vs,l with
    | [v],_=>
     obtain⟨v',h1,h2⟩:=r1.get (i:=0) rfl
     cases h1
     rw[x4c h2]
   subst hv
   refine⟨n,rfl,by omega,by omega,k _ _ H1 w1 g1 go1 It.range trivial ?_⟩
   rw[x15]
   exact x3y (by omega)
  ·cases ee
 ·cases ee
noncomputable def j6k (K:PySem.W.Frag) (tl:TE):TI:=fun σ H R=>tl σ H fun x H1=>∃ a,x=.ref a/\(((∃ xs,SqL K H1 a xs)/\R (Itl K a) H1)\/((∃ xs,SqT K H1 a xs)/\R (Itt K a) H1))
theorem j0d {l:Expr} {tl:TE} (hl:PE X l tl):PI X tg l (j6k X.K tl):=by
 intro pins s σ H R I h
 refine thn (hl pins s σ H _ I h) fun v s1 ⟨x,H1,I1,r1,q1⟩=>?_
 obtain⟨a,e,q⟩:=q1
 subst e
 cases r1
 rcases q with⟨⟨xs,hq⟩,q⟩ | ⟨⟨xs,hq⟩,q⟩
 ·obtain⟨its,rv,p,hz⟩:=I1.list hq
  refine wpAny_pyIter_list p.isList ?_
  refine⟨s1.heap.objs.size,[s1.heap.objs.size],_,_,H1,rfl,I1.kept (t':=s1.toks) fun b o e=>Heap.get?_push_of_some _ e,z0h a _,⟨_,Heap.get?_push_size _ rfl,rfl,rfl⟩,fun b hb=>?_,q⟩
  have e:b=s1.heap.objs.size:=by simpa using hb
  subst e
  exact I1.fpOk (Nat.le_refl _) (I1.hok.fresh (Nat.le_refl _))
 ·obtain⟨its,rv,p,hz⟩:=I1.tuple hq
  refine wpAny_pyIter_tuple (show s1.heap.IsTuple a its.toArray from p) ?_
  refine⟨s1.heap.objs.size,[s1.heap.objs.size],_,_,H1,rfl,I1.kept (t':=s1.toks) fun b o e=>Heap.get?_push_of_some _ e,y9l a _,⟨_,Heap.get?_push_size _ rfl,rfl,rfl⟩,fun b hb=>?_,q⟩
  have e:b=s1.heap.objs.size:=by simpa using hb
  subst e
  exact I1.fpOk (Nat.le_refl _) (I1.hok.fresh (Nat.le_refl _))
@[simp] noncomputable def x5t (f:Den):y2s:=fun ρ=>match f ρ with
 | some (.lst ds,_,ρ1)=>if ds.length<=1000 then some (ds,ρ1)else none
 | some (.tup ds,_,ρ1)=>if ds.length<=1000 then some (ds,ρ1)else none
 | _=>none
theorem z8q (ha:PD X a fa):PDI X tg a (x5t fa):=PI.imp (j0d ha) fun σ H R hh0=>by
 obtain⟨ρ,w,t,ds,ρ',gd,ee,k⟩:=hh0
 unfold x5t at ee
 split at ee
 ·rename_i ds' q ρ1 h1
  split at ee
  ·rename_i hl
   cases ee
   refine⟨ρ,w,t,.lst ds,q,ρ',gd,h1,fun v H1 w1 F g1 go1 r1=>?_⟩
   have r0:=r1.drop (o:=.f) (Nat.le_refl t)
   cases r0 with
   | kl h r=>exact⟨_,rfl,.inl ⟨⟨_,h.sq⟩,k _ _ H1 (x2d t w1) g1.drop (go1.drop gd.wt) (It.list r.length) ⟨.inl h,r⟩ (x3y hl)⟩⟩
   | shr h n r=>exact⟨_,rfl,.inl ⟨⟨_,.inl h⟩,k _ _ H1 (x2d t w1) g1.drop (go1.drop gd.wt) (It.list r.length) ⟨.inr ⟨h,n⟩,r⟩ (x3y hl)⟩⟩
  ·cases ee
 ·rename_i ds' q ρ1 h1
  split at ee
  ·rename_i hl
   cases ee
   refine⟨ρ,w,t,.tup ds,q,ρ',gd,h1,fun v H1 w1 F g1 go1 r1=>?_⟩
   have r0:=r1.drop (o:=.f) (Nat.le_refl t)
   cases r0 with
   | tup h r=>exact⟨_,rfl,.inr ⟨⟨_,SqT.of h⟩,k _ _ H1 (x2d t w1) g1.drop (go1.drop gd.wt) (It.tup r.length) ⟨SqT.of h,r⟩ (x3y hl)⟩⟩
  ·cases ee
 ·cases ee
end
noncomputable abbrev x6q:=D->Rho->Option Rho
noncomputable def tDG (K:PySem.W.Frag) (b:Nat) (pt:x6q):TG:=fun v σ H Q=>∃ d ρ w t ρ',Good K ρ σ H w t/\Rep K H w .f 0 d v []/\pt d ρ=some ρ'/\∀ σ' H' w',σ'.length=σ.length->(∀ i,i<b->σ'[i]? = σ[i]?)->Good K ρ' σ' H' w' t->Go H w H' w'->Q σ' H'
theorem PG.imp {X:Cx} {tg:Expr} {t t':TG} (h:PG X tg t) (i:∀ v σ H Q,t' v σ H Q->t v σ H Q):PG X tg t':=fun pins s σ H v u Q I r q=>h pins s σ H v u Q I r (i v σ H Q q)
noncomputable abbrev PDG (X:Cx) (b:Nat) (tg:Expr) (pt:x6q):Prop:=PG X tg (tDG X.K b pt)
@[simp] noncomputable def x0l (i:Nat):x6q:=fun d ρ=>if i<ρ.length then some (ρ.set i (some (d,y36 d)))else none
theorem Good.setV {K:PySem.W.Frag} {ρ:Rho} {σ:St} {H:Hp} {w:Wn} {t i:Nat} {d:D} {v:V} (g:Good K ρ σ H w t) (hi:i<σ.length) (r:Rep K H w .f 0 d v []) :
  Good K (ρ.set i (some (d,y36 d))) (σ.set i (some v)) H (x7g i w) t/\Go H w H (x7g i w):=by
 have st:x7d H w H (x7g i w):=fun a x h n=>⟨sm h,x74 n⟩
 refine⟨⟨⟨fun a o h=>g.wl a o (x4g h).1,g.wl.tb⟩,fun a j h=>by rw[List.length_set]; exact g.ws a j (x4g h).1,fun a j h=>g.wt a j (x4g h).1,by rw[List.length_set,List.length_set]; exact g.len,fun j d' q' e'=>?_⟩,⟨st,fun a o h n=>⟨rfl,y11 h (n i)⟩⟩⟩
 by_cases hj:i=j
 ·subst hj
  rw[List.getElem?_set_self (by rw[g.len]; exact hi)]at e'
  cases e'
  exact⟨v,[],List.getElem?_set_self hi,(Rep.go g.wl st r (fun _ z=>nomatch z):Rep K H (x7g i w) (.s i) 0 d v []).dep⟩
 ·rw[List.getElem?_set_ne hj]at e'
  obtain⟨v',F,h1,h2⟩:=g.slot j d' q' e'
  exact⟨v',F,by rw[List.getElem?_set_ne hj]; exact h1,Rep.go g.wl st h2 fun a m=>⟨rfl,y11 (h2.owns a m) (fun z=>hj (by cases z; rfl))⟩⟩
theorem z4r {X:Cx} {b i:Nat} {x:Str} {pos:Pos} (hb:b<=i) (hN:X.N.Nodup) (hi:X.N[i]? = some x) (hx:Loc X.env.scope x) (hf:X.fn x=true\/X.env.scope.names.lookup x=some .local:=by first | exact .inl rfl | exact .inr rfl):PDG X b (.Name x pos) (x0l i):=PG.imp (z9a hN hi hx hf) fun v σ H Q hh0=>by
 obtain⟨d,ρ,w,t,ρ',g,r,e,k⟩:=hh0
 unfold x0l at e
 split at e
 ·rename_i hl
  cases e
  obtain⟨a1,a2⟩:=g.setV (by rw[<- g.len]; exact hl) r
  exact k _ _ _ (by rw[List.length_set]) (fun j hj=>List.getElem?_set_ne (by omega)) a1 a2
 ·cases e
noncomputable def y12 (pt:x6q) (body:x19):List D->Rho->Option Out
 | [],ρ=>some (.nx ρ)
 | d::ds,ρ=>match pt d ρ with
  | none=>none
  | some ρ1=>match body ρ1 with
   | some (.nx ρ2)=>y12 pt body ds ρ2
   | some (.ct ρ2)=>y12 pt body ds ρ2
   | some (.bk ρ2)=>some (.nx ρ2)
   | o=>o
@[simp] noncomputable def x7a (it:y2s) (pt:x6q) (body:x19):x19:=fun ρ=>match it ρ with
 | some (ds,ρ1)=>y12 pt body ds ρ1
 | none=>none
theorem Reps.go0 {K:PySem.W.Frag} {H H':Hp} {w w':Wn} {ds:List D} {vs:List V} (r:Reps K H w .f 0 ds vs []) (wl:WL K w H) (st:x7d H w H' w'):Reps K H' w' .f 0 ds vs []:=Reps.go wl st r (fun _ z=>nomatch z)
theorem Rep.go0 {K:PySem.W.Frag} {H H':Hp} {w w':Wn} {ds:D} {vs:V} (r:Rep K H w .f 0 ds vs []) (wl:WL K w H) (st:x7d H w H' w'):Rep K H' w' .f 0 ds vs []:=Rep.go wl st r (fun _ z=>nomatch z)
theorem Reps.drop0 {K:PySem.W.Frag} {H:Hp} {w:Wn}:∀ {ds:List D} {vs:List V} (i:Nat),Reps K H w .f 0 ds vs []->Reps K H w .f 0 (ds.drop i) (vs.drop i) []
 | _,_,0,r=>r
 | ds,vs,i+1,r=>by
  generalize hF:([]:List Addr)=F at r
  cases r with
  | nil=>exact .nil
  | cons r s _=>
   have h2:=s.zero
   have h1:=r.zero
   subst h2
   subst h1
   exact Reps.drop0 i s
theorem Good.more {K:PySem.W.Frag} {ρ:Rho} {σ:St} {H H':Hp} {w:Wn} {t:Nat} (g:Good K ρ σ H w t) (hm:Mo K H H'):Good K ρ σ H' w t/\Go H w H' w:=by
 have h:=hm.mo
 have st:x7d H w H' w:=fun a x e n=>⟨sm (h a x e),n⟩
 have kp:∀ a o,w a=some o->H' a=H a:=fun a o e=>by
  obtain⟨vs,q⟩:=g.wl a o e
  rw[q,h a _ q]
 refine⟨⟨⟨fun a o e=>?_,hm.tb g.wl.tb⟩,g.ws,g.wt,g.len,fun i d q e=>?_⟩,st,fun a o e _=>⟨kp a o e,e⟩⟩
 ·obtain⟨vs,q⟩:=g.wl a o e
  exact⟨vs,h a _ q⟩
 ·obtain⟨v,F,h1,h2⟩:=g.slot i d q e
  exact⟨v,F,h1,Rep.go g.wl st h2 fun a m=>⟨kp a _ (h2.owns a m),h2.owns a m⟩⟩
theorem z7o {X:Cx} {tg iter:Expr} {body:List Stmt} {it:y2s} {pt:x6q} {s:x19} {pos:Pos} (hp:PassesOwn (model X.prog X.w) X.A X.env X.xe) (hc:X.calm=true) (hi:PDI X tg iter it) (hg:PDG X 0 tg pt) (hb:y9p X body s)
  (hs:∀ x,foldedSetIterable iter X.env x=pure x:=by intro _; rfl):PDS X (.For tg iter body [] pos) (x7a it pt s):=PS.imp (j24 hp hc hi hg hb hs) fun D σ H hh0=>by
 obtain⟨ρ,w,o,g,ee,k⟩:=hh0
 unfold x7a at ee
 split at ee
 ·rename_i ds ρ1 h1
  refine⟨ρ,w,0,ds,ρ1,g,h1,fun J P H1 w1 g1 go1 ok p1 hl=>?_⟩
  refine⟨fun i m σ' H'=>m=ds.length-i/\i<=ds.length/\σ'.length=σ.length/\∃ ρ' w',Good X.K ρ' σ' H' w' 0/\P H' w'/\y12 pt s (ds.drop i) ρ'=some o/\y2g X.K D σ.length H' w' o,
   ⟨ds.length,by simp,Nat.zero_le _,rfl,ρ1,w1,g1,p1,ee,k.trans go1⟩,?_⟩
  rintro i m σ' H' ⟨rfl,hile,hσ,ρ',w',g',p',e',k'⟩
  by_cases hlt:i<ds.length
  ·refine .inr ⟨ok.go i H' w' p' hlt,fun σ2 H2=>ds.length-(i+1)=ds.length-(i+1)/\i+1<=ds.length/\σ2.length=σ.length/\∃ ρ2 w2,Good X.K ρ2 σ2 H2 w2 0/\P H2 w2/\y12 pt s (ds.drop (i+1)) ρ2=some o/\y2g X.K D σ.length H2 w2 o,
    fun σ2 H2 n2=>⟨ds.length-(i+1),by omega,n2⟩,fun x H2 hy=>?_⟩
   obtain⟨mo,rx,p2⟩:=ok.yld i H' w' x H2 ds[i] p' g'.wl (List.getElem?_eq_getElem hlt) hy
   obtain⟨g2,go2⟩:=g'.more mo
   have ed:ds.drop i=ds[i]::ds.drop (i+1):=List.drop_eq_getElem_cons hlt
   rw[ed]at e'
   unfold y12 at e'
   split at e'
   ·cases e'
   ·rename_i ρ3 h3
    refine⟨ds[i],ρ',w',0,ρ3,g2,rx,h3,fun σ4 H4 w4 l4 _ g4 go4=>?_⟩
    have p4:=ok.st _ _ _ _ p2 g2.wl go4.stab
    have nx:∀ {ρ5:Rho},y12 pt s (ds.drop (i+1)) ρ5=some o->∀ σ5 H5 w5,σ5.length=σ4.length->Good X.K ρ5 σ5 H5 w5 0->Go H4 w4 H5 w5->ds.length-(i+1)=ds.length-(i+1)/\i+1<=ds.length/\σ5.length=σ.length/\∃ ρ2 w2,Good X.K ρ2 σ5 H5 w2 0/\P H5 w2/\y12 pt s (ds.drop (i+1)) ρ2=some o/\y2g X.K D σ.length H5 w2 o:=fun {ρ5} e5 σ5 H5 w5 l5 g5 go5=>
     ⟨rfl,hlt,by rw[l5,l4,hσ],ρ5,w5,g5,ok.st _ _ _ _ p4 g4.wl go5.stab,e5,k'.trans ((go2.trans go4).trans go5)⟩
    cases h6:s ρ3 with
    | none=>rw[h6]at e'; cases e'
    | some o6=>
     rw[h6]at e'
     refine⟨ρ3,w4,o6,g4,h6,?_⟩
     cases o6 with
     | nx ρ5=>exact nx e'
     | ct ρ5=>exact nx e'
     | bk ρ5=>
      cases e'
      exact fun σ5 H5 w5 l5 g5 go5=>k' σ5 H5 w5 (by rw[l5,l4,hσ]) g5 ((go2.trans go4).trans go5)
     | rt d q=>
      cases e'
      exact fun v H5 w5 F wl5 go5 r5=>k' v H5 w5 F wl5 ((go2.trans go4).trans go5) r5
  ·have hi':i=ds.length:=Nat.le_antisymm hile (Nat.not_lt.mp hlt)
   subst hi'
   refine .inl ⟨ok.stop H' w' p',?_⟩
   have ed:ds.drop ds.length=[]:=by simp
   rw[ed]at e'
   cases e'
   exact k' σ' H' w' hσ g' Go.refl
 ·cases ee
@[simp] noncomputable def x8h (n:Nat) (ds:List D):Rho:=ds.map (fun d=>some (d,y36 d))++List.replicate (n-ds.length) none
@[simp] noncomputable def fnD (n:Nat) (body:x19):List D->Option (D × Nat):=fun ds=>match body (x8h n ds)with
 | some (.rt d q)=>some (d,q)
 | some (.nx _)=>some (.non,9)
 | _=>none
theorem y33 {K:PySem.W.Frag} {H:Hp} {w:Wn} {N:List Str} {ds:List D} {vs:List V} (hw:∀ a o,w a=some o->o=.f) (wl:WL K w H) (r:Reps K H w .f 0 ds vs []):Good K (x8h N.length ds) (y2d N vs) H w 0:=by
 refine⟨wl,(fun a i e=>by cases (hw a _ e)),(fun a i e=>by cases (hw a _ e)),?_,fun i d q e=>?_⟩
 ·unfold x8h L2.y2d
  rw[List.length_append,List.length_append,List.length_map,List.length_map,List.length_replicate,List.length_replicate,r.length]
 ·unfold x8h at e
  by_cases hi:i<ds.length
  ·rw[List.getElem?_append_left (by simpa using hi),List.getElem?_map]at e
   cases h:ds[i]? with
   | none=>rw[h]at e; cases e
   | some d'=>
    rw[h]at e
    cases e
    obtain⟨v,hv,rv⟩:=r.get h
    refine⟨v,[],?_,(rv.any wl:Rep K H w (.s i) 0 d v []).dep⟩
    unfold L2.y2d
    rw[List.getElem?_append_left (by rw[List.length_map,<- r.length]; exact hi),List.getElem?_map,hv]
    rfl
  ·rw[List.getElem?_append_right (by simpa using hi),List.getElem?_replicate]at e
   split at e <;> cases e
theorem z3c {K:PySem.W.Frag} {N:List Str} {n:Nat} {body:x19} {vs:List V} {H:Hp} {Q:VK} {E:XK} (h:spD K n (fnD N.length body) vs H Q E):tDS K body { nx:=fun _ H'=>Q .non H',rt:=Q } (y2d N vs) H:=by
 obtain⟨hn,ds,w,r,q,hw,wl,rs,e,k⟩:=h
 unfold fnD at e
 split at e
 ·rename_i d q' h1
  cases e
  exact⟨_,w,_,y33 hw wl rs,h1,fun v H' w' F wl' go' r'=>k v H' w' F go' wl' r'⟩
 ·rename_i ρ' h1
  cases e
  exact⟨_,w,_,y33 hw wl rs,h1,fun σ' H' w' _ g' go'=>k .non H' w' [] go' g'.wl .non⟩
 ·cases e
theorem j3e {P:Program} {wd:World} {K:PySem.W.Frag} {mg:Str->Option Value} {base:Heap} {x qual:Str} {st:Stmt} {f:Addr} {fd:FuncData} {N ps:List Str} {k:Nat} {body:x19} (F:Fun K x qual st f fd) (S:FnScope N ps (x0b st))
  (h:∀ (cdv:Value) (A:Around) (outer:List Env) (s:Shared) (H:Hp) (E:XK),Room k (A.deeper (envOfC qual (x0b st) s.heap.objs.size f cdv))->y9p (z1q CX0 P wd K mg base N qual (x0b st) f cdv A outer s H E).nox (x44 st) body) :
  FnOk P wd K mg base CX0 (k+1) f fd ps (spD K ps.length (fnD N.length body)):=
 F.ok S (fun vs H Q E h=>h.1) fun cdv A outer s H vs Q E hr hsp=>⟨_,h cdv A outer s H E hr,z3c hsp⟩
noncomputable def x6r (k:Nat) (pt:x6q) (tt:x2b) (te:Den) (deep:Bool):List D->Rho->Option (List D × Rho)
 | [],ρ=>some ([],ρ)
 | d::ds,ρ=>match pt d (ρ++List.replicate k none)with
  | none=>none
  | some ρ1=>match tt ρ1 with
   | none=>none
   | some (b,ρ2)=>if b=true then(match te ρ2 with
     | none=>none
     | some (v,q,ρ3)=>if deep=true/\v.isL=true/\q≠1 then none else match x6r k pt tt te deep ds (ρ3.take ρ.length)with
      | none=>none
      | some (vs,ρ4)=>some (v::vs,ρ4))
    else x6r k pt tt te deep ds (ρ2.take ρ.length)
@[simp] noncomputable def x3f (k:Nat) (it:y2s) (pt:x6q) (tt:x2b) (te:Den) (deep:Bool):Den:=fun ρ=>match it ρ with
 | some (ds,ρ1)=>match x6r k pt tt te deep ds ρ1 with
  | some (vs,ρ2)=>some (.lst vs,if deep=true then 2 else 1,ρ2)
  | none=>none
 | none=>none
@[simp] noncomputable def x2p:x2b:=fun ρ=>some (true,ρ)
theorem Good.ext {K:PySem.W.Frag} {ρ:Rho} {σ:St} {H:Hp} {w:Wn} {t:Nat} (g:Good K ρ σ H w t) (k:Nat):Good K (ρ++List.replicate k none) (σ++List.replicate k none) H w t:=by
 refine⟨g.wl,fun a i e=>by rw[List.length_append]; exact Nat.lt_of_lt_of_le (g.ws a i e) (Nat.le_add_right _ _),g.wt,by rw[List.length_append,List.length_append,List.length_replicate,List.length_replicate,g.len],fun i d q e=>?_⟩
 by_cases hi:i<ρ.length
 ·rw[List.getElem?_append_left hi]at e
  obtain⟨v,F,h1,h2⟩:=g.slot i d q e
  exact⟨v,F,by rw[List.getElem?_append_left (by rw[<- g.len]; exact hi)]; exact h1,h2⟩
 ·rw[List.getElem?_append_right (by omega),List.getElem?_replicate]at e
  split at e <;> cases e
noncomputable def x45 (n:Nat) (w:Wn):Wn:=fun a=>match w a with
 | some (.s i)=>if n<=i then none else some (.s i)
 | x=>x
theorem y4e {n:Nat} {w:Wn} {a:Addr} (h:w a=none):x45 n w a=none:=by unfold x45; rw[h]
theorem y6w {n:Nat} {w:Wn} {a:Addr} {i:Nat} (h:w a=some (.s i)) (hi:i<n):x45 n w a=some (.s i):=by unfold x45; rw[h]; exact if_neg (by omega)
theorem y6h {n:Nat} {w:Wn} {a:Addr} {o:Ow} (h:w a=some o) (hn:∀ i,o ≠ .s i):x45 n w a=some o:=by
 unfold x45; rw[h]
 cases o with
 | s i=>exact absurd rfl (hn i)
 | t i=>rfl
 | f=>rfl
theorem x5y {n:Nat} {w:Wn} {a:Addr} {o:Ow} (h:x45 n w a=some o):w a=some o/\∀ i,o=.s i->i<n:=by
 unfold x45 at h
 cases e:w a with
 | none=>rw[e]at h; cases h
 | some o'=>
  rw[e]at h
  cases o' with
  | t i=>cases h; exact⟨rfl,fun i z=>nomatch z⟩
  | f=>cases h; exact⟨rfl,fun i z=>nomatch z⟩
  | s i=>
   dsimp only at h
   split at h
   ·cases h
   ·cases h; exact⟨rfl,fun j z=>by cases z; omega⟩
theorem Good.cut {K:PySem.W.Frag} {ρ:Rho} {σ τ:St} {H:Hp} {w:Wn} {t:Nat} (g:Good K ρ (σ++τ) H w t):Good K (ρ.take σ.length) σ H (x45 σ.length w) t/\Go H w H (x45 σ.length w):=by
 have st:x7d H w H (x45 σ.length w):=fun a x h n=>⟨sm h,y4e n⟩
 refine⟨⟨⟨fun a o e=>g.wl a o (x5y e).1,g.wl.tb⟩,fun a i e=>(x5y e).2 i rfl,fun a i e=>g.wt a i (x5y e).1,?_,fun i d q e=>?_⟩,⟨st,fun a o e n=>⟨rfl,y6h e n⟩⟩⟩
 ·rw[List.length_take,g.len,List.length_append]
  omega
 ·by_cases hi:i<σ.length
  ·rw[List.getElem?_take_of_lt hi]at e
   obtain⟨v,F,h1,h2⟩:=g.slot i d q e
   rw[List.getElem?_append_left hi]at h1
   exact⟨v,F,h1,Rep.go g.wl st h2 fun a m=>⟨rfl,y6w (h2.owns a m) hi⟩⟩
  ·rw[List.getElem?_take_eq_none (by omega)]at e
   cases e
theorem j4t {σ σ' τ:St} (l:σ'.length=(σ++τ).length) (h:∀ i,i<σ.length->σ'[i]? = (σ++τ)[i]?):∃ τ',σ'=σ++τ'/\τ'.length=τ.length:=by
 refine⟨σ'.drop σ.length,?_,by rw[List.length_drop,l,List.length_append]; omega⟩
 have e:σ'.take σ.length=σ:=by
  apply List.ext_getElem?
  intro i
  by_cases hi:i<σ.length
  ·rw[List.getElem?_take_of_lt hi,h i hi,List.getElem?_append_left hi]
  ·rw[List.getElem?_take_eq_none (by omega),List.getElem?_eq_none (by omega)]
 conv=>lhs; rw[<- List.take_append_drop σ.length σ',e]
noncomputable def dq (deep:Bool):Nat:=if deep=true then 1 else 0
noncomputable def x7f (deep:Bool) (t:Nat) (w:Wn):Wn:=fun a=>if w a=some (.t (t+1))then(if deep=true then some (.t t)else none)else w a
theorem j76 {K:PySem.W.Frag} {ρ:Rho} {σ:St} {H:Hp} {w:Wn} {t q:Nat} {d:D} {v:V} {F:List Addr} {deep:Bool} (g:Good K ρ σ H w (t+2)) (r:Rep K H w (.t (t+1)) q d v F) (hq:¬ (deep=true/\d.isL=true/\q≠1)) :
  Good K ρ σ H (x7f deep t w) (t+1)/\(∃ F',Rep K H (x7f deep t w) (.t t) (dq deep) d v F'/\∀ a∈F',w a=some (.t (t+1)))/\x7d H w H (x7f deep t w)/\(∀ a o,w a=some o->o ≠ .t (t+1)->x7f deep t w a=some o):=by
 have hN:∀ a,w a=none->x7f deep t w a=none:=fun a e=>by unfold x7f; rw[e]; rfl
 have hO:∀ a o,w a=some o->o ≠ .t (t+1)->x7f deep t w a=some o:=fun a o e n=>by
  unfold x7f
  rw[if_neg (by rw[e]; exact fun z=>n (Option.some.inj z))]
  exact e
 have hI:∀ a o,x7f deep t w a=some o->(w a=some (.t (t+1))/\o=.t t)\/(w a=some o/\o ≠ .t (t+1)):=fun a o e=>by
  unfold x7f at e
  split at e
  ·split at e
   ·cases e; exact .inl ⟨by assumption,rfl⟩
   ·cases e
  ·rename_i n; exact .inr ⟨e,fun z=>n (by rw[e,z])⟩
 have st:x7d H w H (x7f deep t w):=fun a x h n=>⟨sm h,hN a n⟩
 refine⟨⟨⟨fun a o e=>?_,g.wl.tb⟩,fun a i e=>?_,fun a i e=>?_,g.len,fun i d' q' e'=>?_⟩,?_,st,hO⟩
 ·rcases hI a o e with⟨z,_⟩ | ⟨z,_⟩ <;> exact g.wl a _ z
 ·rcases hI a _ e with⟨_,z⟩ | ⟨z,_⟩
  ·cases z
  ·exact g.ws a i z
 ·rcases hI a _ e with⟨_,z⟩ | ⟨z,n⟩
  ·cases z; exact Nat.lt_succ_self _
  ·have:=g.wt a i z
   have:i≠t+1:=fun z=>n (by rw[z])
   omega
 ·obtain⟨v',F',h1,h2⟩:=g.slot i d' q' e'
  exact⟨v',F',h1,Rep.go g.wl st h2 fun a m=>⟨rfl,hO a _ (h2.owns a m) (fun z=>nomatch z)⟩⟩
 ·cases deep with
  | false=>
   refine⟨[],Rep.freeze hN r fun a m=>?_,fun _ z=>nomatch z⟩
   unfold x7f
   rw[if_pos (r.owns a m)]
   rfl
  | true=>
   have hT:∀ a,w a=some (.t (t+1))->x7f true t w a=some (.t t):=fun a e=>by unfold x7f; rw[if_pos e]; rfl
   cases hl:d.isL with
   | false=>
    obtain⟨_,hr⟩:=r.nolist hl
    exact⟨[],Rep.go g.wl st (hr 1) (fun _ z=>nomatch z),fun _ z=>nomatch z⟩
   | true=>
    have:q=1:=by
     by_cases h:q=1
     ·exact h
     ·exact absurd ⟨rfl,hl,h⟩ hq
    subst this
    exact⟨F,Rep.go g.wl st r fun a m=>⟨rfl,hT a (r.owns a m)⟩,r.owns⟩
theorem j00 {K:PySem.W.Frag} {ρ:Rho} {σ:St} {H1:Hp} {w1:Wn} {t q:Nat} {p:Addr} {vs:List V} {ds:List D} {F:List Addr} (g:Good K ρ σ H1 w1 (t+1)) (hp:H1 p=none) (r:Reps K H1 w1 (.t t) q ds vs F) :
  Good K ρ σ (upd H1 p (.lst vs)) (z2h p (.t t) w1) (t+1)/\Go H1 w1 (upd H1 p (.lst vs)) (z2h p (.t t) w1)/\Rep K (upd H1 p (.lst vs)) (z2h p (.t t) w1) (.t t) (q+1) (.lst ds) (.ref p) (p::F):=by
 have ne:∀ a x,H1 a=some x->a≠p:=fun a x e=>x11 e hp
 have nw:∀ a o,w1 a=some o->a≠p:=fun a o e=>by obtain⟨vs,q⟩:=g.wl a o e; exact ne a _ q
 have st:x7d H1 w1 (upd H1 p (.lst vs)) (z2h p (.t t) w1):=fun a x e n=>⟨sm (by rw[x0q (ne a x e)]; exact e),by rw[x48 (ne a x e)]; exact n⟩
 refine⟨⟨⟨fun a o e=>?_,g.wl.tb.upd rfl (.inl hp)⟩,fun a i e=>?_,fun a i e=>?_,g.len,fun i d q e=>?_⟩,⟨st,fun a o e _=>⟨x0q (nw a o e),(x48 (nw a o e)).trans e⟩⟩,?_⟩
 ·by_cases h:a=p
  ·subst h; exact⟨vs,x1n⟩
  ·rw[x48 h]at e
   obtain⟨us,q⟩:=g.wl a o e
   exact⟨us,by rw[x0q h]; exact q⟩
 ·by_cases h:a=p
  ·subst h; rw[x5r]at e; cases e
  ·rw[x48 h]at e; exact g.ws a i e
 ·by_cases h:a=p
  ·subst h; rw[x5r]at e; cases e; exact Nat.lt_succ_self _
  ·rw[x48 h]at e; exact g.wt a i e
 ·obtain⟨v,F,h1,h2⟩:=g.slot i d q e
  exact⟨v,F,h1,Rep.go g.wl st h2 fun a m=>⟨x0q (nw a _ (h2.owns a m)),(x48 (nw a _ (h2.owns a m))).trans (h2.owns a m)⟩⟩
 ·exact .own x1n x5r (Reps.go g.wl st r fun a m=>⟨x0q (nw a _ (r.owns a m)),(x48 (nw a _ (r.owns a m))).trans (r.owns a m)⟩) fun m=>absurd rfl (nw p _ (r.owns p m))
theorem y3e {K:PySem.W.Frag} {k:Nat} {it:y2s} {pt:x6q} {tt:x2b} {te:Den} {deep:Bool}:∀ σ H Q,tD K (x3f k it pt tt te deep) σ H Q->z4g k (tDI K it) (tDG K σ.length pt) (tDT K tt) (tD K te) σ H Q:=fun σ H Q hh0=>by
 obtain⟨ρ,w,t,r',q,ρ',g,ee,kk⟩:=hh0
 unfold x3f at ee
 split at ee
 ·rename_i ds ρ1 h1
  split at ee
  ·rename_i all ρ2 h2
   cases ee
   refine⟨ρ,w,t,ds,ρ1,g,h1,fun J P H1 w1 g1 go1 ok p1 hl=>?_⟩
   refine⟨fun i m ys H'=>m=ds.length-i/\i<=ds.length/\ys.length<=i/\∃ ρ3 w3 zs F x2o,Good K ρ3 σ H' w3 (t+1)/\Go H w H' w3/\P H' w3/\Reps K H' w3 (.t t) (dq deep) zs ys F /\
     x6r k pt tt te deep (ds.drop i) ρ3=some (x2o,ρ')/\zs++x2o=all,
    ⟨ds.length,by simp,Nat.zero_le _,Nat.le_refl _,ρ1,w1,[],[],all,g1.up,go1,p1,.nil,h2,rfl⟩,?_⟩
   rintro i m ys H' ⟨rfl,hile,hys,ρ3,w3,zs,F,x2o,g0,go0,p0,rz0,e3,ez⟩
   have hsz:ys.length<sizeLine:=by omega
   refine⟨Nat.le_of_lt hsz,?_⟩
   by_cases hlt:i<ds.length
   ·refine .inr ⟨ok.go i H' w3 p0 hlt,hsz,fun x H2 hy=>?_⟩
    obtain⟨mo,rx,p3⟩:=ok.yld i H' w3 x H2 ds[i] p0 g0.wl (List.getElem?_eq_getElem hlt) hy
    obtain⟨g3,go2⟩:=g0.more mo
    have go3:=go0.trans go2
    have rz:=rz0.gone g0.wl go2
    have ed:ds.drop i=ds[i]::ds.drop (i+1):=List.drop_eq_getElem_cons hlt
    rw[ed]at e3
    unfold x6r at e3
    split at e3
    ·cases e3
    ·rename_i ρ4 h4
     split at e3
     ·cases e3
     ·rename_i b ρ5 h5
      have gx:=g3.ext k
      have lρ:ρ3.length=σ.length:=g3.len
      refine⟨ds[i],_,w3,t+1,ρ4,gx,rx,h4,fun σ4 H4 w4 l4 s4 g4 go4=>?_⟩
      obtain⟨τ,rfl,lτ⟩:=j4t l4 s4
      refine⟨⟨τ,rfl,by rw[lτ,List.length_replicate]⟩,ρ4,w4,t+1,b,ρ5,g4,h5,fun H5 w5 g5 go5=>?_⟩
      have p5:=ok.st _ _ _ _ (ok.st _ _ _ _ p3 g3.wl go4.stab) g4.wl go5.stab
      have z5:Reps K H5 w5 (.t t) (dq deep) zs ys F:=(rz.gone g3.wl go4).gone g4.wl go5
      cases b with
      | false=>
       rw[if_neg (by decide)]at e3
       dsimp only
       rw[if_neg (by decide)]
       obtain⟨gc,goc⟩:=g5.cut
       rw[lρ]at e3
       refine⟨ds.length-(i+1),by omega,rfl,hlt,by omega,_,_,zs,F,x2o,gc,(go3.trans go4).trans (go5.trans goc),ok.st _ _ _ _ p5 g5.wl goc.stab,z5.gone g5.wl goc,e3,ez⟩
      | true=>
       rw[if_pos rfl]at e3
       dsimp only
       rw[if_pos rfl]
       split at e3
       ·cases e3
       ·rename_i d6 q6 ρ6 h6
        split at e3
        ·cases e3
        ·rename_i hq6
         split at e3
         ·cases e3
         ·rename_i vs7 ρ7 h7
          cases e3
          refine⟨ρ5,w5,t+1,d6,q6,ρ6,g5,h6,fun v H6 w6 F6 g6 go6 r6=>?_⟩
          obtain⟨gs,⟨F',rs,hF'⟩,sts,hOs⟩:=j76 g6 r6 hq6
          obtain⟨gc,goc⟩:=gs.cut
          rw[lρ]at h7
          have zs6:=z5.gone g5.wl go6
          have zF:∀ a∈F,w6 a=some (.t t):=zs6.owns
          have zs7:Reps K H6 (x7f deep t w6) (.t t) (dq deep) zs ys F:=Reps.go g6.wl sts zs6 fun a m=>⟨rfl,hOs a _ (zF a m) (by intro z; cases z)⟩
          have gos:Go H w H6 (x7f deep t w6):=by
           have go:Go H w H6 w6:=(go3.trans go4).trans (go5.trans go6)
           refine⟨go.stab.trans sts,fun a o h n=>⟨(go.keep a o h n).1,hOs a o (go.keep a o h n).2 fun z=>?_⟩⟩
           subst z
           have:=g.wt a _ h
           omega
          refine⟨ds.length-(i+1),by omega,rfl,hlt,by rw[List.length_append]; simp; omega,_,_,zs++[d6],F++F',vs7,gc,gos.trans goc,ok.st _ _ _ _ (ok.st _ _ _ _ p5 g5.wl go6.stab |> fun q=>ok.st _ _ _ _ q g6.wl sts) gs.wl goc.stab,
           ?_,h7,by rw[List.append_assoc]; exact ez⟩
          refine(Reps.snoc rs zs7 fun a m m'=>?_).gone gs.wl goc
          have h1:=zF a m
          rw[hF' a m']at h1
          cases h1
   ·have hi':i=ds.length:=Nat.le_antisymm hile (Nat.not_lt.mp hlt)
    subst hi'
    refine .inl ⟨ok.stop H' w3 p0,fun p hp=>?_⟩
    have ed:ds.drop ds.length=[]:=by simp
    rw[ed]at e3
    cases e3
    rw[List.append_nil]at ez
    subst ez
    obtain⟨a1,a2,a3⟩:=j00 g0 hp rz0
    refine kk _ _ _ (p::F) a1 (go0.trans a2) ?_
    cases deep <;> exact a3
  ·cases ee
 ·cases ee
section
variable {X:Cx} {k:Nat} {N':List Str} {scope:Scope} {elt tg iter:Expr} {ifs:List Expr} {pos:Pos} {it:y2s} {pt:x6q} {tt:x2b} {te:Den}
noncomputable abbrev j18 (X:Cx) (ifs:List Expr) (f:x2b):Prop:=PTs X ifs (tDT X.K f)
theorem z4p:j18 X [] x2p:=fun pins s σ H Q I hh0=>by
 obtain⟨ρ,w,t,b,ρ',gd,ee,k⟩:=hh0
 cases ee
 exact z6c pins s σ H Q I (k H w gd Go.refl)
theorem z3k {c:Expr} {g:x2b} (h:PDT X c g):j18 X [c] g:=z86 h
theorem z80 (deep:Bool) (hc:X.calm=true) (S:CompOk X k N' scope) (hi:PDI X tg iter it) (hg:∀ C s H fp,PDG (x28 X N' scope C s H fp) X.N.length tg pt) (ht:∀ C s H fp,j18 (x28 X N' scope C s H fp) ifs tt) (he:∀ C s H fp,PD (x28 X N' scope C s H fp) elt te)
  (hs:∀ x,foldedSetIterable iter X.env x=pure x:=by intro _; rfl):PD X (.ListComp elt [⟨tg,iter,ifs,0⟩] scope pos) (x3f k it pt tt te deep):=by
 intro pins s σ H Q I h
 have:=y3e σ H Q h
 rw[I.len]at this
 exact z6y (N':=N') hc S hi hg ht he hs pins s σ H Q I this
theorem z3e {i:Nat} {y:Str} {py spos:Pos} (deep:Bool) (hN:X.N.Nodup) (hy:X.N[i]? = some y) (hx:Loc X.env.scope y) (hsw:swapsWith (.ListComp elt [⟨tg,iter,ifs,0⟩] scope pos) (some (.Name y py)) spos.line X.env=pure true)
  (hc:X.calm=true) (S:CompOk X k N' scope) (hi:PDI X tg iter it) (hg:∀ C s H fp,PDG (x28 X N' scope C s H fp) X.N.length tg pt) (ht:∀ C s H fp,j18 (x28 X N' scope C s H fp) ifs tt) (he:∀ C s H fp,PD (x28 X N' scope C s H fp) elt te)
  (hs:∀ x,foldedSetIterable iter X.env x=pure x:=by intro _; rfl) (hf:X.fn y=true\/X.env.scope.names.lookup y=some .local:=by first | exact .inl rfl | exact .inr rfl | assumption) :
  PDS X (.Assign [.Name y py] (.ListComp elt [⟨tg,iter,ifs,0⟩] scope pos) spos) (x1m i (x3f k it pt tt te deep)):=by
 intro pins s σ H D I h
 have hl:i<σ.length:=by rw[I.len]; exact(List.getElem?_eq_some_iff.mp hy).1
 refine z8n (N':=N') (te:=tD X.K te) (tt:=tDT X.K tt) (g:=tDG X.K X.N.length pt) (wi:=tDI X.K it) hN hy hx hsw hc S hi hg ht he hs hf pins s σ H D I ?_
 have z:=z1l (te:=z4g k (tDI X.K it) (tDG X.K σ.length pt) (tDT X.K tt) (tD X.K te)) hl (fun Q q=>y3e σ H Q q) h
 rw[I.len]at z
 exact z
end
mutual
noncomputable def toP:D->PyData
 | .non=>.none
 | .bl b=>.bool b
 | .int i=>.int i
 | .str x=>.str x
 | .tup ds=>.tuple (x6v ds)
 | .lst ds=>.list (x6v ds)
 | .dic _ _=>.none
 | .exc _=>.none
 | .ob _ _ _ _=>.none
noncomputable def x6v:List D->List PyData
 | []=>[]
 | d::ds=>toP d::x6v ds
end
mutual
noncomputable def x91:D->Bool
 | .dic _ _=>false
 | .exc _=>false
 | .ob _ _ _ _=>false
 | .tup ds=>y1v ds
 | .lst ds=>y1v ds
 | _=>true
noncomputable def y1v:List D->Bool
 | []=>true
 | d::ds=>x91 d && y1v ds
end
noncomputable def okD (d:D):Bool:=x91 d && SeqAt.shaped (toP d)
theorem y57 {d:D} (h:okD d=true):x91 d=true:=(Bool.and_eq_true_iff.mp h).1
theorem y5u {d:D} (h:okD d=true):SeqAt.shaped (toP d)=true:=(Bool.and_eq_true_iff.mp h).2
noncomputable def eqD (d e:D):Bool:=PyData.eqv (toP d) (toP e)
section
variable {X:Cx} {pins:List (Addr × Obj)} {σ:St} {H:Hp} {s:Shared}
theorem Rep.reads (I:Inv X pins σ H s) {w:Wn} {o:Ow}:∀ {q:Nat} {d:D} {v:V} {F:List Addr} {u:Value},Rep X.K H w o q d v F->x47 v u->x91 d=true->∃ as,Reads s.heap u (toP d) as:=by
 intro q d v F u r
 refine(Rep.rec (motive_1:=fun q d v F _=>∀ u,x47 v u->x91 d=true->∃ as,Reads s.heap u (toP d) as) (motive_2:=fun q ds vs F _=>∀ us,x2z vs us->y1v ds=true->∃ as,ReadsAll s.heap us (x6v ds) as) ?_ ?_ ?_ ?_ ?_ ?_ ?_ ?_ ?_ ?_ ?_ ?_ ?_ r:∀ u,x47 v u->x91 d=true->∃ as,Reads s.heap u (toP d) as) u
 ·intro q u ru hn; cases ru; exact⟨_,by unfold toP; exact .none⟩
 ·intro q b u ru hn; cases ru; exact⟨_,by unfold toP; exact .bool b⟩
 ·intro q i u ru hn; obtain⟨t,rfl⟩:=ru; exact⟨_,by unfold toP; exact .int i t⟩
 ·intro q x u ru hn; obtain⟨t,rfl⟩:=ru; exact⟨_,by unfold toP; exact .str x t⟩
 ·intro q a vs ds h r ih u ru hn
  cases ru
  obtain⟨its,rv,p,hz⟩:=I.tuple (SqT.of h)
  obtain⟨as,ra⟩:=ih its rv (by unfold x91 at hn; exact hn)
  obtain⟨ob,ho,hc,n,hd⟩:=p
  exact⟨_,by unfold toP; exact .tuple ho hc hd ra⟩
 ·intro q a ks vs ds h r ih u ru hn; cases hn
 ·intro q a nm ob v h x n u ru hn; cases hn
 ·intro q f c fo oc u1 u2 vs ds h1 h2 x r ih u ru hn; cases hn
 ·intro a vs ds h r ih u ru hn
  cases ru
  obtain⟨its,rv,p,hz⟩:=I.list h.sq
  obtain⟨as,ra⟩:=ih its rv (by unfold x91 at hn; exact hn)
  obtain⟨ob,ho,hc,n,hd⟩:=p.isList
  exact⟨_,by unfold toP; exact .list ho hc hd ra⟩
 ·intro a vs ds h n0 r ih u ru hn
  cases ru
  obtain⟨its,rv,p,hz⟩:=I.list (.inl h)
  obtain⟨as,ra⟩:=ih its rv (by unfold x91 at hn; exact hn)
  obtain⟨ob,ho,hc,n,hd⟩:=p.isList
  exact⟨_,by unfold toP; exact .list ho hc hd ra⟩
 ·intro q a vs ds F h e r ne ih u ru hn
  cases ru
  obtain⟨its,rv,p,hz⟩:=I.list (SqL.of h)
  obtain⟨as,ra⟩:=ih its rv (by unfold x91 at hn; exact hn)
  obtain⟨ob,ho,hc,n,hd⟩:=p.isList
  exact⟨_,by unfold toP; exact .list ho hc hd ra⟩
 ·intro q us ru hn; cases ru; exact⟨_,by unfold x6v; exact .nil⟩
 ·intro q d v ds vs F G r s' ne ih1 ih2 us ru hn
  cases ru with
  | cons rv rvs=>
   unfold y1v at hn
   obtain⟨as,ra⟩:=ih1 _ rv (Bool.and_eq_true_iff.mp hn).1
   obtain⟨bs,rb⟩:=ih2 _ rvs (Bool.and_eq_true_iff.mp hn).2
   exact⟨_,by unfold x6v; exact .cons ra rb⟩
end
noncomputable def Is (K:PySem.W.Frag) (H:Hp) (d:D) (v:V):Prop:=∃ w o q F,Rep K H w o q d v F
noncomputable def j6a (K:PySem.W.Frag):R2:=fun x y H Q=>∃ d e,Is K H d x/\Is K H e y/\okD d=true/\okD e=true/\Q (.bl (eqD d e)) H
noncomputable def j67 (K:PySem.W.Frag):R2:=fun x y H Q=>∃ d e,Is K H d x/\Is K H e y/\okD d=true/\okD e=true/\Q (.bl (!eqD d e)) H
noncomputable def inD (d:D):D->Option Bool
 | .lst ds=>some ((x6v ds).any fun y=>PyData.eqv y (toP d))
 | .tup ds=>some ((x6v ds).any fun y=>PyData.eqv y (toP d))
 | _=>none
noncomputable def j6c (K:PySem.W.Frag) (neg:Bool):R2:=fun x y H Q=>∃ d e b,Is K H d x/\Is K H e y/\okD d=true/\okD e=true/\inD d e=some b/\Q (.bl (if neg then !b else b)) H
section
variable {X:Cx} {a b c e:Expr} {fa fb fc f:Den} {pos:Pos}
theorem z68 (hu:X.A.units+64<cLine):OpR X (compareOp .Eq) (j6a X.K):=by
 intro pins s σ H x y v u Q I rx ry ⟨d,e,⟨w,o,q,F,h1⟩,⟨w',o',q',F',h2⟩,k1,k2,hq⟩
 obtain⟨as,ra⟩:=h1.reads I rx (y57 k1)
 obtain⟨bs,rb⟩:=h2.reads I ry (y57 k2)
 exact eq_dataH ra rb (y5u k1) (y5u k2) hu ⟨.bl _,H,I,rfl,hq⟩
theorem j2g (hu:X.A.units+64<cLine):OpR X (compareOp .NotEq) (j67 X.K):=by
 intro pins s σ H x y v u Q I rx ry ⟨d,e,⟨w,o,q,F,h1⟩,⟨w',o',q',F',h2⟩,k1,k2,hq⟩
 obtain⟨as,ra⟩:=h1.reads I rx (y57 k1)
 obtain⟨bs,rb⟩:=h2.reads I ry (y57 k2)
 exact ne_dataH ra rb (y5u k1) (y5u k2) hu ⟨.bl _,H,I,rfl,hq⟩
theorem j2w (hu:X.A.units+65<cLine):OpR X (compareOp .In) (j6c X.K false):=by
 intro pins s σ H x y v u Q I rx ry ⟨d,e,b,⟨w,o,q,F,h1⟩,⟨w',o',q',F',h2⟩,k1,k2,hb,hq⟩
 obtain⟨as,ra⟩:=h1.reads I rx (y57 k1)
 obtain⟨bs,rb⟩:=h2.reads I ry (y57 k2)
 replace k1:=y5u k1
 replace k2:=y5u k2
 cases e with
 | lst ds=>
  cases hb
  unfold toP at rb k2
  exact SeqAt.in_list_reads rb ra (SeqAt.canLay_of_shaped k2) (SeqAt.canLay_of_shaped k1) (room_in_shaped k1 hu) ⟨.bl _,H,I,rfl,hq⟩
 | tup ds=>
  cases hb
  unfold toP at rb k2
  exact SeqAt.in_tuple_reads rb ra (SeqAt.canLay_of_shaped k2) (SeqAt.canLay_of_shaped k1) (room_in_shaped k1 hu) ⟨.bl _,H,I,rfl,hq⟩
 | _=>cases hb
noncomputable def dEq (x y:D):Option D:=if okD x=true/\okD y=true then some (.bl (eqD x y))else none
noncomputable def dNe (x y:D):Option D:=if okD x=true/\okD y=true then some (.bl (!eqD x y))else none
noncomputable def dIn (x y:D):Option D:=if okD x=true/\okD y=true then(inD x y).map fun b=>.bl b else none
theorem hEq {K:PySem.W.Frag}:∀ σ H Q,tD K (e2 dEq fa fb) σ H Q->tOp (j6a K) (tD K fa) (tD K fb) σ H Q:=y5k fun x y d h=>by
 unfold dEq at h
 split at h
 ·rename_i hk
  cases h
  exact⟨_,rfl,fun H w o o' q q' u u' F F' r1 r2 _ Q hq=>⟨x,y,⟨_,_,_,_,r1⟩,⟨_,_,_,_,r2⟩,hk.1,hk.2,hq⟩⟩
 ·cases h
theorem hNe {K:PySem.W.Frag}:∀ σ H Q,tD K (e2 dNe fa fb) σ H Q->tOp (j67 K) (tD K fa) (tD K fb) σ H Q:=y5k fun x y d h=>by
 unfold dNe at h
 split at h
 ·rename_i hk
  cases h
  exact⟨_,rfl,fun H w o o' q q' u u' F F' r1 r2 _ Q hq=>⟨x,y,⟨_,_,_,_,r1⟩,⟨_,_,_,_,r2⟩,hk.1,hk.2,hq⟩⟩
 ·cases h
theorem hIn {K:PySem.W.Frag}:∀ σ H Q,tD K (e2 dIn fa fb) σ H Q->tOp (j6c K false) (tD K fa) (tD K fb) σ H Q:=y5k fun x y d h=>by
 unfold dIn at h
 split at h
 ·rename_i hk
  cases hi:inD x y with
  | none=>rw[hi]at h; cases h
  | some b=>
   rw[hi]at h
   cases h
   exact⟨_,rfl,fun H w o o' q q' u u' F F' r1 r2 _ Q hq=>⟨x,y,b,⟨_,_,_,_,r1⟩,⟨_,_,_,_,r2⟩,hk.1,hk.2,hi,hq⟩⟩
 ·cases h
theorem j57 {k:Nat} (hr:Room k X.A) (ha:PD X a fa) (hb:PD X b fb):PD X (.Compare a [.Eq] [b] pos) (e2 dEq fa fb):=j1g (z68 hr.units) hEq ha hb (y2t _)
theorem j1m {k:Nat} (hr:Room k X.A) (ha:PD X a fa) (hb:PD X b fb):PDT X (.Compare a [.Eq] [b] pos) (x2g (e2 dEq fa fb)):=x9l (z68 hr.units) hEq ha hb (y2t _)
theorem j2u {k:Nat} (hr:Room k X.A) (ha:PD X a fa) (hb:PD X b fb):PDT X (.Compare a [.NotEq] [b] pos) (x2g (e2 dNe fa fb)):=x9l (j2g hr.units) hNe ha hb (y2t _)
theorem u65 {k:Nat} {A:Around} (r:Room k A):A.units+65<cLine:=by have:=r.un; omega
theorem j33 {k:Nat} (hr:Room k X.A) (ha:PD X a fa) (hb:PD X b fb) (hm:behindInMarks .In b=false:=by with_unfolding_all rfl):PDT X (.Compare a [.In] [b] pos) (x2g (e2 dIn fa fb)):=x9l (j2w (u65 hr)) hIn ha hb hm
end
@[simp] noncomputable def eB (h:List D->Option D) (g:x2c):Den:=fun ρ=>match g ρ with
 | some (ds,ρ1)=>match h ds with
  | some d=>some (d,9,ρ1)
  | none=>none
 | none=>none
section
variable {X:Cx} {a b c e:Expr} {es:List Expr} {fa fb fc f:Den} {g:x2c} {pos p p1 p2:Pos}
theorem z1u {K:PySem.W.Frag} {h:List D->Option D} {r:List V->Hp->VK->Prop} (hh:∀ ds d,h ds=some d->∃ v,y4k d=some v/\∀ H w vs,WL K w H->Reps K H w .f 0 ds vs []->∀ Q:VK,Q v H->r vs H Q) :
  ∀ σ H Q,tD K (eB h g) σ H Q->tCB r (tDA K g) σ H Q:=fun σ H Q hh0=>by
 obtain⟨ρ,w,t,r',q,ρ',gd,ee,k⟩:=hh0
 unfold eB at ee
 split at ee
 ·rename_i ds ρ1 h1
  split at ee
  ·rename_i d hd
   cases ee
   obtain⟨v,hv,hr⟩:=hh ds _ hd
   exact⟨ρ,w,t,ds,_,gd,h1,fun vs H1 w1 g1 go1 r1=>hr H1 w1 vs g1.wl r1 Q (k v H1 w1 [] g1.up go1 (y4g hv))⟩
  ·cases ee
 ·cases ee
theorem one {K:PySem.W.Frag} {H:Hp} {w:Wn} {o:Ow} {d:D} {vs:List V} (r:Reps K H w o 0 [d] vs []):∃ v,vs=[v]/\Rep K H w o 0 d v []:=by
 have l:=r.length
 match vs,l with
 | [v],_=>
  obtain⟨v',h1,h2⟩:=r.get (i:=0) rfl
  cases h1
  exact⟨v,rfl,h2⟩
theorem two {K:PySem.W.Frag} {H:Hp} {w:Wn} {o:Ow} {d d':D} {vs:List V} (r:Reps K H w o 0 [d,d'] vs []):∃ v v',vs=[v,v']/\Rep K H w o 0 d v []/\Rep K H w o 0 d' v' []:=by
 have l:=r.length
 match vs,l with
 | [v,v'],_=>
  obtain⟨u,h1,h2⟩:=r.get (i:=0) rfl
  obtain⟨u',h3,h4⟩:=r.get (i:=1) rfl
  cases h1
  cases h3
  exact⟨v,v',rfl,h2,h4⟩
noncomputable def y0t:D->Option Nat
 | .lst ds=>some ds.length
 | .tup ds=>some ds.length
 | _=>none
@[simp] noncomputable def z4k:List D->Option D
 | [d]=>(y0t d).map fun n=>.int (Int.ofNat n)
 | _=>none
theorem Rep.len {K:PySem.W.Frag} {H:Hp} {w:Wn} {o:Ow} {q:Nat} {d:D} {v:V} {F:List Addr} {n:Nat} (r:Rep K H w o q d v F) (h:y0t d=some n):∃ p ys,v=.ref p/\(SqL K H p ys\/SqT K H p ys)/\ys.length=n:=by
 cases d with
 | lst ds=>
  cases h
  obtain⟨p,vs,q',G,rfl,hq,rs⟩:=r.seqL
  exact⟨p,vs,rfl,.inl hq,rs.length.symm⟩
 | tup ds=>
  cases h
  obtain⟨p,vs,rfl,hq,rs⟩:=r.seqT
  exact⟨p,vs,rfl,.inr hq,rs.length.symm⟩
 | _=>cases h
theorem j0h (hm:X.mg "len" = none) (ha:PDA X [a] g) (hg:Gl X "len":=by rfl) (he:starEach [a] X.env=(false,eval a X.env)::starEach [] X.env:=by rfl) (hpl:(backTo pos (starEach [] X.env)).any (·.1)=false:=by rfl):PD X (.Call (.Name "len" p) [a] [] pos) (eB z4k g):=
 PE.imp (x66 x6h hg hm PySem.boot_len ha (by decide) (by decide) he hpl) (z1u fun ds d h=>by
  match ds,h with
  | [d0],h=>
   cases hl:y0t d0 with
   | none=>simp only[z4k,hl,Option.map_none]at h; cases h
   | some n=>
    simp only[z4k,hl,Option.map_some,Option.some.injEq]at h
    subst h
    refine⟨_,rfl,fun H w vs wl r Q hq=>?_⟩
    obtain⟨v,rfl,rv⟩:=one r
    obtain⟨p,ys,rfl,hs,hn⟩:=rv.len hl
    exact⟨p,ys,rfl,hs,by rw[hn]; exact hq⟩)
@[simp] noncomputable def x1c (i:Nat):Den:=fun ρ=>match ρ[i]? with
 | some (some (d,_))=>match y0t d with
  | some n=>some (.int (Int.ofNat n),9,ρ)
  | none=>none
 | _=>none
theorem z77 {i:Nat} {x:Str} (hm:X.mg "len" = none) (h:PE X (.Name x p1) (x9t i)) (hg:Gl X "len":=by rfl) (he:starEach [.Name x p1] X.env=(false,eval (.Name x p1) X.env)::starEach [] X.env:=by rfl) (hpl:(backTo pos (starEach [] X.env)).any (·.1)=false:=by rfl):PD X (.Call (.Name "len" p) [.Name x p1] [] pos) (x1c i):=
 PE.imp (x66 x6h hg hm PySem.boot_len (x4u h x7k he) (by decide) (by decide) he hpl) fun σ H Q hh0=>by
 obtain⟨ρ,w,t,r',q,ρ',gd,ee,k⟩:=hh0
 unfold x1c at ee
 split at ee
 ·rename_i d q0 e0
  split at ee
  ·rename_i n hn
   cases ee
   obtain⟨v,F,h1,h2⟩:=gd.slot i d q0 e0
   obtain⟨p,ys,rfl,hs,hl⟩:=h2.len hn
   exact⟨_,h1,p,ys,rfl,hs,by rw[hl]; exact k _ H w [] gd.up Go.refl (.int _)⟩
  ·cases ee
 ·cases ee
@[simp] noncomputable def j2e:List D->Option D
 | [.int i,.int j]=>some (.int (if j > i then j else i))
 | _=>none
theorem z8x (hc:X.calm=true) (hm:X.mg "max" = none) (hb:bootBuiltins "max" = some (.builtin "max")) (ha:PDA X (a::es) g) (hg:Gl X "max":=by rfl) (he:starEach (a::es) X.env=(false,eval a X.env)::starEach es X.env:=by rfl) (hpl:(backTo pos (starEach es X.env)).any (·.1)=false:=by rfl):PD X (.Call (.Name "max" p) (a::es) [] pos) (eB j2e g):=
 PE.imp (x66 (z1m hc) hg hm hb ha (by decide) (by decide) he hpl) (z1u fun ds d h=>by
  unfold j2e at h
  split at h
  ·rename_i i j
   cases h
   refine⟨_,rfl,fun H w vs wl r Q hq=>?_⟩
   obtain⟨v,v',rfl,r1,r2⟩:=two r
   exact⟨i,j,by rw[x4c r1,x4c r2],hq⟩
  ·cases h)
@[simp] noncomputable def x9m (g:x2c):Den:=fun ρ=>match g ρ with
 | some ([.lst ds],ρ1)=>some (.lst ds,1,ρ1)
 | some ([.tup ds],ρ1)=>some (.lst ds,1,ρ1)
 | _=>none
theorem z1h (hm:X.mg "list" = none) (hb:bootBuiltins "list" = some (.type "list")) (ha:PDA X [a] g) (hg:Gl X "list":=by rfl) (he:starEach [a] X.env=(false,eval a X.env)::starEach [] X.env:=by rfl) (hpl:(backTo pos (starEach [] X.env)).any (·.1)=false:=by rfl):PD X (.Call (.Name "list" p) [a] [] pos) (x9m g):=
 PE.imp (x5l y0i hg hm hb ha (by decide) (by decide) he hpl) fun σ H Q hh0=>by
 obtain⟨ρ,w,t,r',q,ρ',gd,ee,k⟩:=hh0
 unfold x9m at ee
 split at ee
 ·rename_i ds ρ1 h1
  cases ee
  refine⟨ρ,w,t,_,_,gd,h1,fun vs H1 w1 g1 go1 r1=>?_⟩
  obtain⟨v,rfl,rv⟩:=one r1
  obtain⟨p,ys,rfl,hs,rs⟩:=rv.seqL0
  refine⟨p,ys,rfl,.inl hs,fun l hl=>?_⟩
  obtain⟨a1,a2,a3⟩:=y3s g1 hl rs
  exact k _ _ _ _ a1 (go1.trans a2) a3
 ·rename_i ds ρ1 h1
  cases ee
  refine⟨ρ,w,t,_,_,gd,h1,fun vs H1 w1 g1 go1 r1=>?_⟩
  obtain⟨v,rfl,rv⟩:=one r1
  obtain⟨p,ys,rfl,hs,rs⟩:=rv.seqT
  refine⟨p,ys,rfl,.inr hs,fun l hl=>?_⟩
  obtain⟨a1,a2,a3⟩:=y3s g1 hl rs
  exact k _ _ _ _ a1 (go1.trans a2) a3
 ·cases ee
@[simp] noncomputable def x2m (g:x2c):Den:=fun ρ=>match g ρ with
 | some ([.lst ds],ρ1)=>some (.tup ds,9,ρ1)
 | some ([.tup ds],ρ1)=>some (.tup ds,9,ρ1)
 | _=>none
theorem z4y (hm:X.mg "tuple" = none) (hb:bootBuiltins "tuple" = some (.type "tuple")) (ha:PDA X [a] g) (hg:Gl X "tuple":=by rfl) (he:starEach [a] X.env=(false,eval a X.env)::starEach [] X.env:=by rfl) (hpl:(backTo pos (starEach [] X.env)).any (·.1)=false:=by rfl):PD X (.Call (.Name "tuple" p) [a] [] pos) (x2m g):=
 PE.imp (x5l y4h hg hm hb ha (by decide) (by decide) he hpl) fun σ H Q hh0=>by
 obtain⟨ρ,w,t,r',q,ρ',gd,ee,k⟩:=hh0
 unfold x2m at ee
 split at ee
 ·rename_i ds ρ1 h1
  cases ee
  refine⟨ρ,w,t,_,_,gd,h1,fun vs H1 w1 g1 go1 r1=>?_⟩
  obtain⟨v,rfl,rv⟩:=one r1
  obtain⟨p,ys,rfl,hs,rs⟩:=rv.seqL0
  refine⟨p,ys,rfl,.inl ⟨hs,fun l hl=>?_⟩⟩
  obtain⟨a1,a2,a3⟩:=y2q g1 hl rs
  exact k _ _ _ _ a1 (go1.trans a2) a3
 ·rename_i ds ρ1 h1
  cases ee
  refine⟨ρ,w,t,_,_,gd,h1,fun vs H1 w1 g1 go1 r1=>?_⟩
  obtain⟨v,rfl,rv⟩:=one r1
  have rr:=rv
  obtain⟨p,ys,rfl,hs,rs⟩:=rv.seqT
  refine⟨p,ys,rfl,.inr ⟨hs,?_⟩⟩
  exact k _ H1 w1 [] g1.up go1 (((rr.nolist rfl).2 9).any g1.wl)
 ·cases ee
noncomputable def z66 (ta:TA):TE:=fun σ H Q=>ta σ H fun vs H1=>∃ j:Int,vs=[.int j] /\ -(2 ^ 62)<=j/\j<2 ^ 62/\∀ p,H1 p=none->Q (.ref p) (upd H1 p (.rng 0 j))
theorem y7u {ta:TA} (hg:Gl X "range") (hm:X.mg "range" = none) (ha:PA X [a] ta) (hs:starEach [a] X.env=[(false,eval a X.env)]:=by rfl):PE X (.Call (.Name "range" p) [a] [] pos) (z66 ta):=by
 intro pins s σ H Q I h
 refine Call_ (y20 I hg hm boot_range (PyProof.Rows.callWith_type1 (thn (ha pos pins s σ H _ I h) fun us s1 ⟨vs,H1,I1,r1,q1⟩=>?_) hs rfl))
 obtain⟨j,e,q1,q2,q⟩:=q1
 subst e
 cases r1 with
 | cons r rr=>
  cases rr
  obtain⟨t,rfl⟩:=r
  refine call_range_1 ?_
  exact⟨.ref s1.heap.objs.size,upd H1 s1.heap.objs.size (.rng 0 j),I1.laid (fun b u e=>Heap.get?_push_of_some _ e) (Nat.le_refl _) ⟨_,_,_,Heap.get?_push_size _ rfl⟩,rfl,q _ (I1.hok.fresh (Nat.le_refl _))⟩
end
end L3
namespace L3
open PySem PySem.Spec PyProof.Rows L2
theorem y1x {j:Int} (h1:-(2 ^ 62)<=j) (h2:j<2 ^ 62):Builtin.Range.small 0 j 1=true:=by
 have hs:Builtin.Range.rangeSize 0 j 1=((j.toNat:Nat):Int):=by
  simp[Builtin.Range.rangeSize] <;> split <;> omega
 simp only[Builtin.Range.small,hs,Builtin.Range.rangeFitsLong]
 simp
 omega
theorem y38 (j:Int):Builtin.Range.rangeSize 0 j 1=((j.toNat:Nat):Int):=by
 simp[Builtin.Range.rangeSize] <;> split <;> omega
theorem y3c {n:Nat} {acc:Array Value} (h:ItemsOf (fun i v=>∃ t,v=Value.int (0+(i:Nat)*1) t) acc n):x2z (y09 n) acc.toList:=by
 have key:∀ (us:List Value) (k:Nat),(∀ j v,us[j]? = some v->∃ t,v=Value.int (((k+j:Nat)):Int) t)->x2z ((List.range' k us.length).map fun i=>V.int (Int.ofNat i)) us:=by
  intro us
  induction us with
  | nil=>intro k _; exact .nil
  | cons u r ih=>
   intro k hk
   obtain⟨t,e⟩:=hk 0 u rfl
   refine .cons ⟨t,by rw[e]; rfl⟩ (ih (k+1) fun j v hv=>?_)
   obtain⟨t',e'⟩:=hk (j+1) v (by simpa using hv)
   exact⟨t',by rw[e']; congr 2; omega⟩
 have:=key acc.toList 0 fun j v hv=>by
  obtain⟨t,e⟩:=h.2 j v (by simpa using hv)
  exact⟨t,by rw[e]; congr 1; omega⟩
 have hl:acc.toList.length=n:=by simpa using h.1
 rw[hl]at this
 unfold y09
 rw[List.range_eq_range']
 exact this
section
variable {prog:Program} {w:World} {A:Around} {E:Value->Shared->Prop} {s:Shared}
open AutoSeq1 (wpAny_loadPart')
theorem y4o {Q:List Value->Shared->Prop} {r:Addr} {a b c:Int} {t u v:Tok} {n:Nat} (hh:A.handled=none) (hr:IsRange s.heap r a b c t u v) (hsmall:Builtin.Range.small a b c=true) (hn:Builtin.Range.rangeSize a b c=n) (hlen:n<=2 ^ 24)
  (hQ:∀ h' tk acc',(∀ b o',s.heap.get? b=some o'->h'.get? b=some o')->ItemsOf (fun i v=>∃ t,v=.int (a+i*c) t) acc' n->Q acc'.toList { s with heap:=h',toks:=tk }) :
  wpAny (model prog w) A (collect (.ref r)) Q E s:=by
 unfold collect
 refine wpAny_bind (wpAny_runValue (codeAny_builtin F.entry_proto_collect ?_))
 rw[Around.under_plainId F.plain_proto_collect _]
 show wpAny _ A.in1 (newList [] >>= fun l=>again (.builtin "list.__iadd__" ⟨[l,.ref r],[]⟩)) _ _ s
 refine wpAny_bind (wpAny_newObj_type ?_)
 refine wpAny_pure ⟨plainId_quiet F.plain_list_iadd _,codeAny_builtin F.entry_list_iadd ?_⟩
 rw[Around.under_plainId F.plain_list_iadd _]
 show wpAny _ A.in1 (Builtin.List.listExtendWith (.ref s.heap.objs.size) (.ref r) (.ref s.heap.objs.size)) _ _ _
 have hS:(s.heap.push { cls:=.type "list",data:=.seq ([]:List Value).toArray }).get? s.heap.objs.size=some { cls:=.type "list",data:=.seq #[] 0 }:=Heap.get?_push_size _ rfl
 have fin':∀ (h':Heap) (tk:Nat) (acc':Array Value) (c':Nat),(∀ b o,b≠s.heap.objs.size->(s.heap.push { cls:=.type "list",data:=.seq ([]:List Value).toArray }).get? b=some o->h'.get? b=some o)->
   h'.get? s.heap.objs.size=some { cls:=.type "list",dict:=none,data:=.seq acc' c',slots:=#[] }->ItemsOf (fun i v=>∃ t,v=.int (a+i*c) t) acc' n->wpAny (model prog w) A (match Value.ref s.heap.objs.size with
   | Value.ref a=>do
    match (<- load a).data with
     | Data.seq xs _=>pure xs.toList
     | _=>unsupported "internal:collect"
   | _=>unsupported "internal:collect") Q E { s with heap:=h',toks:=tk }:=fun h' tk acc' c' hk hS' hacc=>by
  show wpAny _ A (load s.heap.objs.size >>= _) _ _ _
  refine wpAny_bind (wpAny_load hS' ?_)
  refine wpAny_pure (hQ h' tk acc' (fun b o' hb=>?_) hacc)
  exact hk b o' (Nat.ne_of_lt (Heap.lt_size hb)) (Heap.get?_push_of_some _ hb)
 refine wpAny_mono (wpAny_extend_range (A:=A) (R:=fun rs s'=>rs=.ok (.ret (.ref s.heap.objs.size))/\∃ h' tk acc' c',s'={ s with heap:=h',toks:=tk }/\(∀ b o,b≠s.heap.objs.size->(s.heap.push { cls:=.type "list",data:=.seq ([]:List Value).toArray }).get? b=some o->h'.get? b=some o) /\
   h'.get? s.heap.objs.size=some { cls:=.type "list",dict:=none,data:=.seq acc' c',slots:=#[] }/\ItemsOf (fun i v=>∃ t,v=.int (a+i*c) t) acc' n)
  (s:={ s with heap:=s.heap.push { cls:=.type "list",data:=.seq ([]:List Value).toArray } }) hh (Heap.get?_push_of_some _ hr) hsmall hn hlen s.heap.objs.size (.ref s.heap.objs.size) 0 hS (fun h' tk acc' c' hk hS' hacc=>⟨rfl,h',tk,acc',c',rfl,hk,hS',hacc⟩)) (fun fin s' h=>?_) (fun e s' h=>?_)
 ·cases fin with
  | done f=>
   obtain⟨e,h',tk,acc',c',rfl,hk,hS',hacc⟩:=h
   cases e
   exact fin' h' tk acc' c' hk hS' hacc
  | again c'=>exact⟨h.1,codeAny_mono h.2 fun r s'' hr=>by
    obtain⟨rfl,h',tk,acc',c',rfl,hk,hS',hacc⟩:=hr
    exact fin' h' tk acc' c' hk hS' hacc⟩
 ·exact absurd h.1 (by simp)
end
theorem x6f (r:Addr) (a b c:Int) (t u v:Tok) (n:Nat) (hsmall:Builtin.Range.small a b c=true) (hn:Builtin.Range.rangeSize a b c=n) (hlen:n<=2 ^ 24) :
  Meets (Builtin.«tuple.__new__» ⟨[.type "tuple",.ref r],[]⟩)
   (fun A R s=>A.handled=none/\IsRange s.heap r a b c t u v/\∀ (h':Heap) tk acc',(∀ b o',s.heap.get? b=some o'->h'.get? b=some o')->ItemsOf (fun i v=>∃ t,v=.int (a+i*c) t) acc' n->R (.ok (.ret (.ref h'.objs.size))) { s with heap:=h'.push { cls:=.type "tuple",data:=.seq acc' },toks:=tk }):=
 .of_wp fun prog w A R s h=>by
  obtain⟨hp,g,d,tk,os⟩:=s; obtain⟨hh,hr,h⟩:=h
  have hsub:=sub_tuple_self
  have hinit:=init_tuple_lookup
  have hmh:=madeHere_tuple
  have hT:Shared.TypeIs ⟨hp,g,d,tk,os⟩ (.ref r) "range":=⟨_,hr,rfl⟩
  have hh1:A.in1.handled=none:=hh
  wp_walk using AutoSeq1.wpAny_loadPart' hr,wpAny_typeOf hT,y4o hh1 hr hsmall hn hlen
  intro h' tk' acc' hk hacc
  show wpAny _ _ (Builtin.Tuple.tupleExact acc'.toList.toArray >>= fun v=>ret v) _ _ _
  unfold Builtin.Tuple.tupleExact
  have hsz:acc'.size<=sizeLine:=by rw[hacc.1]; exact hlen
  refine wpAny_bind (wpAny_newObj_type ?_ (by show acc'.toList.toArray.size<=sizeLine; simpa using hsz))
  refine wpAny_pure ⟨_,rfl,?_⟩
  have e:acc'.toList.toArray=acc':=by simp
  rw[e]
  exact h h' tk' acc' hk hacc
theorem y0q {prog:Program} {w:World} {A:Around} {E:Value->Shared->Prop} {s:Shared} {r:Addr} {a b c:Int} {t u v:Tok} {n:Nat} {Q:Value->Shared->Prop} (hh:A.handled=none) (hr:IsRange s.heap r a b c t u v) (hsmall:Builtin.Range.small a b c=true) (hn:Builtin.Range.rangeSize a b c=n) (hlen:n<=2 ^ 24)
  (h:∀ (h':Heap) tk acc',(∀ b o',s.heap.get? b=some o'->h'.get? b=some o')->ItemsOf (fun i v=>∃ t,v=.int (a+i*c) t) acc' n->Q (.ref h'.objs.size) { s with heap:=h'.push { cls:=.type "tuple",data:=.seq acc' },toks:=tk }) :
  wpAny (model prog w) A (call (.type "tuple") [.ref r]) Q E s:=
 callType_new F.called_tuple (by decide) (F.typeCall_tuple_1 _) (F.newCall_tuple_1 _) (fun obj=>F.args_object_init_2 obj _) F.entry_tuple_new
  (x6f r a b c t u v n hsmall hn hlen) ⟨hh,hr,fun h' tk acc' hk hacc=>⟨⟨_,Heap.get?_push_size _ rfl,rfl⟩,h h' tk acc' hk hacc⟩⟩
section
variable {X:Cx}
noncomputable def j4f (mk:List V->HO):List V->Hp->VK->Prop:=fun xs H Q=>∃ a j,xs=[.ref a]/\H a=some (.rng 0 j) /\ -1000<=j/\j<=1000/\∀ p,H p=none->Q (.ref p) (upd H p (mk (y09 j.toNat)))
theorem y40 (hc:X.calm=true):y0u X (.type "list") (j4f .lst):=by
 intro pins s σ H xs us Q I r h
 obtain⟨a,j,rfl,hr,j1,j2,q⟩:=h
 obtain⟨u,rfl,rx⟩:=y3o r
 cases rx
 obtain⟨t,u,v,ho⟩:=(show x37 X.prog X.w H s.heap a (.rng 0 j)from I.hok a _ hr)
 refine call_list_range (I.ok.hd hc) ho (y1x (by omega) (by omega)) (y38 j) (by omega) fun h' tk acc' c' hk hS' hacc=>?_
 refine⟨.ref s.heap.objs.size,_,I.laid (t':=tk) (o:=.lst (y09 j.toNat)) hk (Nat.le_refl _) ⟨by rw[y30]; exact Nat.le_trans (by omega:j.toNat<=1000) (by decide),acc'.toList,c',y3c hacc,by simpa using hS'⟩,rfl,q _ (I.hok.fresh (Nat.le_refl _))⟩
theorem y28 (hc:X.calm=true):y0u X (.type "tuple") (j4f .tup):=by
 intro pins s σ H xs us Q I r h
 obtain⟨a,j,rfl,hr,j1,j2,q⟩:=h
 obtain⟨u,rfl,rx⟩:=y3o r
 cases rx
 obtain⟨t,u,v,ho⟩:=(show x37 X.prog X.w H s.heap a (.rng 0 j)from I.hok a _ hr)
 refine y0q (I.ok.hd hc) ho (y1x (by omega) (by omega)) (y38 j) (by omega) fun h' tk acc' hk hacc=>?_
 have I1:Inv X pins σ H { s with heap:=h',toks:=tk }:=I.kept hk
 have I2:Inv X pins σ (upd H h'.objs.size (.tup (y09 j.toNat))) { s with heap:=h'.push { cls:=.type "tuple",data:=.seq acc' },toks:=tk }:=
  I1.laid (t':=tk) (fun b o e=>Heap.get?_push_of_some _ e) (Nat.le_refl _) (show x37 X.prog X.w _ _ _ (.tup _)from⟨by rw[y30]; exact Nat.le_trans (by omega:j.toNat<=1000) (by decide),acc'.toList,y3c hacc,by simpa using x54.new h' acc'⟩)
 exact⟨.ref h'.objs.size,_,I2,rfl,q _ (I1.hok.fresh (Nat.le_refl _))⟩
variable {a:Expr} {g:x2c} {pos p p1 pos1:Pos}
@[simp] noncomputable def y0d (g:x2c):Den:=fun ρ=>match x14 g ρ with
 | some (ds,ρ1)=>some (.lst ds,1,ρ1)
 | none=>none
@[simp] noncomputable def z7a (g:x2c):Den:=fun ρ=>match x14 g ρ with
 | some (ds,ρ1)=>some (.tup ds,9,ρ1)
 | none=>none
theorem y58 {K:PySem.W.Frag} {mk:List V->HO} {q0:Nat} {md:List D->D} (al:∀ {ρ:Rho} {σ:St} {H1:Hp} {w1:Wn} {t:Nat} {p:Addr} {vs:List V} {ds:List D},Good K ρ σ H1 w1 t->H1 p=none->Reps K H1 w1 .f 0 ds vs []->∃ w' F,Good K ρ σ (upd H1 p (mk vs)) w' (t+1)/\Go H1 w1 (upd H1 p (mk vs)) w'/\Rep K (upd H1 p (mk vs)) w' (.t t) q0 (md ds) (.ref p) F) :
  ∀ σ H Q,tD K (fun ρ=>match x14 g ρ with
   | some (ds,ρ1)=>some (md ds,q0,ρ1)
   | none=>none) σ H Q->tCB (j4f mk) (j2i (z66 (tDA K g)) j60) σ H Q:=fun σ H Q hh0=>by
 obtain⟨ρ,w,t,r',q,ρ',gd,ee,k⟩:=hh0
 dsimp only at ee
 split at ee
 ·rename_i ds ρ1 h1
  cases ee
  unfold x14 at h1
  split at h1
  ·rename_i n ρ2 h2
   split at h1
   ·rename_i hn
    cases h1
    refine⟨ρ,w,t,_,_,gd,h2,fun vs H1 w1 g1 go1 r1=>?_⟩
    obtain⟨v,rfl,rv⟩:=one r1
    have hv:=x4c rv
    subst hv
    refine⟨n,rfl,by omega,by omega,fun p hp=>⟨p,n,rfl,x1n,hn.1,hn.2,fun l hl=>?_⟩⟩
    have ne:∀ a x,H1 a=some x->a≠p:=fun a x e=>x11 e hp
    have st:x7d H1 w1 (upd H1 p (.rng 0 n)) w1:=fun a x e nn=>⟨sm (by rw[x0q (ne a x e)]; exact e),nn⟩
    have nw:∀ a o,w1 a=some o->a≠p:=fun a o e=>by obtain⟨vs,q⟩:=g1.wl a o e; exact ne a _ q
    have g2:Good K ρ' σ (upd H1 p (.rng 0 n)) w1 t:=⟨⟨fun a o e=>by
     obtain⟨us,q⟩:=g1.wl a o e
     exact⟨us,by rw[x0q (nw a o e)]; exact q⟩,g1.wl.tb.upd rfl (.inl hp)⟩,g1.ws,g1.wt,g1.len,fun i d q e=>by
     obtain⟨v,F,h1,h2⟩:=g1.slot i d q e
     exact⟨v,F,h1,Rep.go g1.wl st h2 fun a m=>⟨x0q (nw a _ (h2.owns a m)),h2.owns a m⟩⟩⟩
    have go2:Go H1 w1 (upd H1 p (.rng 0 n)) w1:=⟨st,fun a o e _=>⟨x0q (nw a o e),e⟩⟩
    obtain⟨w',F,a1,a2,a3⟩:=al g2 hl (y9j n.toNat)
    exact k _ _ _ _ a1 ((go1.trans go2).trans a2) a3
   ·cases h1
  ·cases h1
 ·cases ee
theorem z5b (hc:X.calm=true) (hm:X.mg "list" = none) (hb:bootBuiltins "list" = some (.type "list")) (hmr:X.mg "range" = none) (ha:PDA X [a] g) (hg:Gl X "list":=by rfl) (hgr:Gl X "range":=by rfl) (hs:starEach [a] X.env=[(false,eval a X.env)]:=by rfl)
  (he:starEach [.Call (.Name "range" p1) [a] [] pos1] X.env=(false,eval (.Call (.Name "range" p1) [a] [] pos1) X.env)::starEach [] X.env:=by rfl) (hpl:(backTo pos (starEach [] X.env)).any (·.1)=false:=by rfl):PD X (.Call (.Name "list" p) [.Call (.Name "range" p1) [a] [] pos1] [] pos) (y0d g):=
 PE.imp (x5l (y40 hc) hg hm hb (x4u (y7u hgr hmr ha hs) x7k he) (by decide) (by decide) he hpl) (y58 fun g hp r=>by
  obtain⟨a1,a2,a3⟩:=y3s g hp r
  exact⟨_,_,a1,a2,a3⟩)
theorem z6t (hc:X.calm=true) (hm:X.mg "tuple" = none) (hb:bootBuiltins "tuple" = some (.type "tuple")) (hmr:X.mg "range" = none) (ha:PDA X [a] g) (hg:Gl X "tuple":=by rfl) (hgr:Gl X "range":=by rfl) (hs:starEach [a] X.env=[(false,eval a X.env)]:=by rfl)
  (he:starEach [.Call (.Name "range" p1) [a] [] pos1] X.env=(false,eval (.Call (.Name "range" p1) [a] [] pos1) X.env)::starEach [] X.env:=by rfl) (hpl:(backTo pos (starEach [] X.env)).any (·.1)=false:=by rfl):PD X (.Call (.Name "tuple" p) [.Call (.Name "range" p1) [a] [] pos1] [] pos) (z7a g):=
 PE.imp (x5l (y28 hc) hg hm hb (x4u (y7u hgr hmr ha hs) x7k he) (by decide) (by decide) he hpl) (y58 fun g hp r=>by
  obtain⟨a1,a2,a3⟩:=y2q g hp r
  exact⟨_,_,a1,a2,a3⟩)
end
end L3
namespace L3
open PySem PySem.Spec PyProof.Rows L2
theorem y0m {M:Model} {A:Around} {E:Value->Shared->Prop} {s:Shared} {β:Type} {n:Nat} (f:Nat->β->Sem (ForInStep β)) (I:List Nat->β->Shared->Prop) (Q:β->Shared->Prop) (b:β)
  (turn:∀ x x2o b s,I (x::x2o) b s->wpAny M A (f x b) (fun r s'=>match r with | .yield b'=>I x2o b' s' | .done b'=>Q b' s') E s)
  (fin:∀ b s,I [] b s->Q b s) (h:I (List.range' 0 n 1) b s):wpAny M A (forIn [0:n] b f) Q E s:=by
 rw[Std.Legacy.Range.forIn_eq_forIn_range']
 refine wpAny_forIn_list f I Q turn fin _ b ?_
 have e:(Std.Legacy.Range.size [0:n])=n:=by simp[Std.Legacy.Range.size]
 show I (List.range' 0 (Std.Legacy.Range.size [0:n]) 1) b s
 rw[e]
 exact h
open AutoSeq1 (wpAny_loadPart') in
theorem y3y (l:Addr) (items:Array Value) (n:Nat) (dd:Option Addr) (sl:Array (Option Value)) (x:Value) (e:Value->Bool) (j:Nat) (hj:j<items.size) (hit:e items[j]=true) (hno:∀ m (hm:m<items.size),m<j->e items[m]=false) :
  Meets (Builtin.«tuple.index» ⟨[.ref l,x],[]⟩)
   (fun A R s=>s.heap.get? l=some { cls:=.type "tuple",dict:=dd,data:=.seq items n,slots:=sl }/\(∀ y,y∈items->SeqAt.EqAt A.in1 s y x (e y))/\R (.ok (.ret (.int j s.toks))) { s with toks:=s.toks+1 }):=
 .of_wp fun prog w A R s h=>by
  obtain⟨hp,g,d,tk,os⟩:=s; obtain⟨hl,he,h⟩:=h
  wp_walk using wpAny_loadPart' hl,y0m _ (fun x2o b s'=>b.1=none/\s'=⟨hp,g,d,tk,os⟩/\∃ i k,x2o=List.range' i k 1/\i+k=items.size/\i<=j) _
  case turn=>
   rintro y x2o b s' ⟨hb,rfl,i,k,hr,hik,hij⟩
   cases k with
   | zero=>simp at hr
   | succ k=>
    rw[List.range'_succ]at hr
    obtain⟨rfl,rfl⟩:=List.cons.inj hr
    have hlt:y<items.size:=by omega
    have hget:items[y]? = some items[y]:=by simp[hlt]
    rw[hget]
    refine wpAny_bind (he _ (Array.getElem_mem hlt) prog w _ _ ?_)
    by_cases hyj:y=j
    ·subst hyj
     rw[hit]
     wp_walk
     exact⟨_,rfl,h⟩
    ·rw[hno y hlt (by omega)]
     wp_walk
     exact⟨rfl,rfl,y+1,k,rfl,by omega,by omega⟩
  case fin=>
   rintro ⟨b1,b2⟩ s' ⟨hb,rfl,i,k,hr,hik,hij⟩
   cases k with
   | zero=>omega
   | succ k=>simp[List.range'_succ]at hr
  case h=>
   exact⟨rfl,rfl,0,items.size,by simp,by omega,by omega⟩
end L3
namespace L3
open PySem PySem.Spec PyProof.Rows L2
noncomputable def j45 (d:D) (ds:List D):Option Nat:=(x6v ds).findIdx? fun y=>PyData.eqv y (toP d)
noncomputable def z7j (K:PySem.W.Frag):V->List V->Hp->VK->Prop:=fun x xs H Q=>∃ ds d y j,xs=[y]/\Is K H (.tup ds) x/\Is K H d y/\okD (.tup ds)=true/\okD d=true/\j45 d ds=some j/\Q (.int (Int.ofNat j)) H
section
variable {X:Cx} {a b c e:Expr} {es:List Expr} {fa fb fc f:Den} {g:x2c} {pos p p1 p2 cpos apos:Pos}
theorem z2f (hu:X.A.units+65<cLine):MtR X "tuple.index" (z7j X.K):=by
 intro pins s σ H x xs v us Q I rx rs ⟨ds,d,y,j,e,⟨w,o,q,F,h1⟩,⟨w',o',q',F',h2⟩,k1,k2,hj,hq⟩
 subst e
 obtain⟨u,rfl,ru⟩:=y3o rs
 obtain⟨as,ra⟩:=h1.reads I rx (y57 k1)
 obtain⟨bs,rb⟩:=h2.reads I ru (y57 k2)
 replace k1:=y5u k1
 replace k2:=y5u k2
 unfold toP at ra k1
 have hc1:PyData.canLayAll0 (x6v ds)=true:=SeqAt.canLay_of_shaped k1
 have hc2:=SeqAt.canLay_of_shaped k2
 cases ra with
 | @tuple a ob vs n _ _ ho hcl hd hrs=>
  obtain⟨cls,dd,data,sl⟩:=ob
  simp only at hcl hd
  subst hcl hd
  have hmap:=SeqAt.readsAll_map _ _ _ hc1 hrs
  have hfi:=List.findIdx?_eq_some_iff_getElem.mp hj
  obtain⟨hjl,hjt,hjf⟩:=hfi
  have hlen:vs.size=(x6v ds).length:=by rw[<- hmap]; simp
  have hat:∀ m (hm:m<vs.size) (hm':m<(x6v ds).length),SeqAt.readOf s.heap vs[m]=(x6v ds)[m]:=fun m hm hm'=>by
   have:(vs.toList.map (SeqAt.readOf s.heap))[m]? = (x6v ds)[m]?:=by rw[hmap]
   simpa [hm,hm']using this
  refine call_meets PySem.F.slot_tuple_index ⟨_,ho,rfl⟩ PySem.F.entry_tuple_index (PySem.F.args_tuple_index_2 _ _)
   (y3y a vs n dd sl u (fun y=>PyData.eqv (SeqAt.readOf s.heap y) (toP d)) j (by omega) (by rw[hat j (by omega) hjl]; simpa using hjt) (fun m hm hmj=>by rw[hat m hm (by omega)]; simpa using hjf m hmj)) ⟨ho,SeqAt.items_eqAt hrs rb hc1 hc2 (room_in_shaped k2 hu),?_⟩
  exact⟨.int (Int.ofNat j),H,I.tok _,⟨_,rfl⟩,hq⟩
@[simp] noncomputable def y87 (fo:Den) (g:x2c):Den:=fun ρ=>match fo ρ with
 | some (.tup ds,_,ρ1)=>match g ρ1 with
  | some ([d],ρ2)=>if okD (.tup ds)=true/\okD d=true then match j45 d ds with
   | some j=>some (.int (Int.ofNat j),9,ρ2)
   | none=>none
   else none
  | _=>none
 | _=>none
theorem z40 {k:Nat} (hr:Room k X.A) (ho:PD X a fa) (ha:PDA X [e] g)
  (hbase:attributeBase a "index" X.env (eval a X.env)=eval a X.env:=by rfl)
  (hfew:((backTo cpos (starEach [e] X.env)).all (fun x=>!x.1) && (backToKw cpos (keywordEach [] X.env)).all (fun x=>x.1.isSome)
    && decide ([e].length+([]:List Keyword).length+(if([]:List Keyword).isEmpty then 0 else 1)<30))=true:=by rfl)
  (hline:(apos.endLine == cpos.line)=true:=by rfl) (hs:starEach [e] X.env=(false,eval e X.env)::starEach [] X.env:=by rfl) (hplain:(backTo cpos (starEach [] X.env)).any (·.1)=false:=by rfl) :
  PD X (.Call (.Attribute a "index" apos) [e] [] cpos) (y87 fa g):=
 PE.imp (z4m PySem.F.plainAttrs_tuple PySem.F.slot_tuple_index PySem.F.type_tuple_index (z2f (u65 hr)) ho ha hbase hfew hline hs hplain) fun σ H Q hh0=>by
 obtain⟨ρ,w,t,r',q,ρ',gd,ee,k⟩:=hh0
 unfold y87 at ee
 split at ee
 ·rename_i ds q1 ρ1 h1
  split at ee
  ·rename_i d ρ2 h2
   split at ee
   ·rename_i hok
    split at ee
    ·rename_i j hj
     cases ee
     refine⟨ρ,w,t,_,_,_,gd,h1,fun v H1 w1 F1 g1 go1 r1=>?_⟩
     have r0:=r1.drop (o:=.f) (Nat.le_refl t)
     have gg:=g1.drop (t':=t)
     obtain⟨p0,vs,rfl,hq,rs⟩:=r0.tupAt
     refine⟨?_,ρ1,x2d t w1,t,_,_,gg,h2,fun vs2 H2 w2 g2 go2 r2=>?_⟩
     ·exact .inr (.inl ⟨rfl,.inr ⟨_,hq⟩⟩)
     ·obtain⟨v2,rfl,rv2⟩:=one r2
      have r3:Rep X.K H2 w2 .f 0 (.tup ds) (.ref p0) []:=r0.go0 gg.wl go2.stab
      exact⟨ds,d,v2,j,rfl,⟨_,_,_,_,r3⟩,⟨_,_,_,_,rv2⟩,hok.1,hok.2,hj,k _ H2 w2 [] g2.up ((go1.drop gd.wt).trans go2) (.int _)⟩
    ·cases ee
   ·cases ee
  ·cases ee
 ·cases ee
theorem Good.mut {K:PySem.W.Frag} {ρ:Rho} {σ:St} {H:Hp} {w:Wn} {t i:Nat} {ds:List D} (g:Good K ρ σ H w t) (e:ρ[i]? = some (some (.lst ds,1))) :
  ∃ l vs,σ[i]? = some (some (.ref l))/\H l=some (.lst vs)/\Reps K H w .f 0 ds vs []/\∀ ds' vs',Reps K H w .f 0 ds' vs' []->
   Good K (ρ.set i (some (.lst ds',1))) σ (upd H l (.lst vs')) w t/\Go H w (upd H l (.lst vs')) w:=by
 obtain⟨v,F,h1,h2⟩:=g.slot i _ _ e
 cases h2 with
 | @own _ l vs _ F' hl hw rs ne=>
  have hF:=rs.zero
  subst hF
  refine⟨l,vs,h1,hl,rs.any g.wl,fun ds' vs' r'=>?_⟩
  have nl:∀ a o,w a=some o->o ≠ .s i->a≠l:=fun a o e n z=>by subst z; rw[hw]at e; exact n (Option.some.inj e).symm
  have nn:∀ a,w a=none->a≠l:=fun a e z=>by subst z; rw[hw]at e; cases e
  have st:x7d H w (upd H l (.lst vs')) w:=fun a x h n=>⟨sm (by rw[x0q (nn a n)]; exact h),n⟩
  refine⟨⟨⟨fun a o h=>?_,g.wl.tb.upd rfl (.inr (g.wl l _ hw))⟩,g.ws,g.wt,by rw[List.length_set]; exact g.len,fun j d' q' e'=>?_⟩,⟨st,fun a o h n=>⟨x0q (nl a o h (n i)),h⟩⟩⟩
  ·by_cases z:a=l
   ·subst z; exact⟨_,x1n⟩
   ·obtain⟨us,q⟩:=g.wl a o h
    exact⟨us,by rw[x0q z]; exact q⟩
  ·by_cases hj:i=j
   ·subst hj
    rw[List.getElem?_set_self (List.getElem?_eq_some_iff.mp e).1]at e'
    cases e'
    exact⟨_,_,h1,.own x1n hw (Reps.go g.wl st r' (fun _ z=>nomatch z)) (fun z=>nomatch z)⟩
   ·rw[List.getElem?_set_ne hj]at e'
    obtain⟨v',F',h1',h2'⟩:=g.slot j d' q' e'
    exact⟨v',F',h1',Rep.go g.wl st h2' fun a m=>⟨x0q (nl a _ (h2'.owns a m) (fun z=>hj (by cases z; rfl))),h2'.owns a m⟩⟩
@[simp] noncomputable def y65:Option (Option (D × Nat))->Bool
 | some (some (.lst _,_))=>true
 | _=>false
theorem Good.isL {K:PySem.W.Frag} {ρ:Rho} {σ:St} {H:Hp} {w:Wn} {t i:Nat} (g:Good K ρ σ H w t) (h:y65 ρ[i]? = true):∃ l,σ[i]? = some (some (.ref l))/\∃ vs,SqL K H l vs:=by
 unfold y65 at h
 split at h
 ·rename_i ds q e
  obtain⟨v,F,h1,h2⟩:=g.slot i _ _ e
  obtain⟨p,vs,_,_,rfl,hq,_⟩:=h2.seqL
  exact⟨p,h1,vs,hq⟩
 ·cases h
@[simp] noncomputable def x93 (i:Nat) (g:x2c):Den:=fun ρ=>if y65 ρ[i]? = true then match g ρ with
 | some ([d],ρ1)=>match ρ1[i]? with
  | some (some (.lst ds,1))=>if ds.length<=1000 then some (.non,9,ρ1.set i (some (.lst (ds++[d]),1)))else none
  | _=>none
 | _=>none
 else none
theorem z25 {i:Nat} {x:Str} (h:PE X (.Name x p1) (x9t i)) (ha:PDA X [e] g)
  (hbase:attributeBase (.Name x p1) "append" X.env (eval (.Name x p1) X.env)=eval (.Name x p1) X.env:=by rfl)
  (hfew:((backTo cpos (starEach [e] X.env)).all (fun x=>!x.1) && (backToKw cpos (keywordEach [] X.env)).all (fun x=>x.1.isSome)
    && decide ([e].length+([]:List Keyword).length+(if([]:List Keyword).isEmpty then 0 else 1)<30))=true:=by rfl)
  (hline:(apos.endLine == cpos.line)=true:=by rfl) (hs:starEach [e] X.env=(false,eval e X.env)::starEach [] X.env:=by rfl) (hplain:(backTo cpos (starEach [] X.env)).any (·.1)=false:=by rfl) :
  PD X (.Call (.Attribute (.Name x p1) "append" apos) [e] [] cpos) (x93 i g):=
 PE.imp (z4m PySem.F.plainAttrs_list PySem.F.slot_list_append PySem.F.type_list_append z0c h ha hbase hfew hline hs hplain) fun σ H Q hh0=>by
 obtain⟨ρ,w,t,r',q,ρ',gd,ee,k⟩:=hh0
 unfold x93 at ee
 split at ee
 ·rename_i hl
  obtain⟨l,hσ,us,hq⟩:=gd.isL hl
  split at ee
  ·rename_i d ρ1 h1
   split at ee
   ·rename_i ds e1
    split at ee
    ·rename_i hlen
     cases ee
     refine⟨_,hσ,.inl ⟨rfl,us,hq⟩,ρ,w,t,_,_,gd,h1,fun vs H1 w1 g1 go1 r1=>?_⟩
     obtain⟨v,rfl,rv⟩:=one r1
     obtain⟨l',ws,hσ',hH,rs,mk⟩:=g1.mut e1
     rw[hσ]at hσ'
     cases hσ'
     have r2:Reps X.K H1 w1 .f 0 (ds++[d]) (ws++[v]) []:=Reps.snoc (F:=[]) (G:=[]) rv rs (fun _ z=>nomatch z)
     obtain⟨m1,m2⟩:=mk _ _ r2
     refine⟨l,ws,v,rfl,rfl,hH,by rw[<- rs.length]; exact x3y hlen,?_⟩
     exact k .non _ w1 [] m1.up (go1.trans m2) .non
    ·cases ee
   ·cases ee
  ·cases ee
 ·cases ee
theorem Reps.eraseIdx {K:PySem.W.Frag} {H:Hp} {w:Wn}:∀ {ds:List D} {vs:List V} (i:Nat),Reps K H w .f 0 ds vs []->Reps K H w .f 0 (ds.eraseIdx i) (vs.eraseIdx i) []
 | ds,vs,i,r=>by
  generalize hF:([]:List Addr)=F at r
  cases r with
  | nil=>exact .nil
  | @cons _ d v ds vs F G r s _=>
   have h1:F=[]:=r.zero
   have h2:G=[]:=s.zero
   subst h1 h2
   cases i with
   | zero=>exact s
   | succ j=>exact .cons (F:=[]) (G:=[]) r (Reps.eraseIdx j s) (fun _ z=>nomatch z)
@[simp] noncomputable def z9l (i:Nat) (g:x2c):Den:=fun ρ=>if y65 ρ[i]? = true then match g ρ with
 | some ([.int n],ρ1)=>match ρ1[i]? with
  | some (some (.lst ds,1))=>if -1000<=n/\n<=1000 then match seqIndex? n ds.length with
   | some j=>match ds[j]? with
    | some d=>some (d,y36 d,ρ1.set i (some (.lst (ds.eraseIdx j),1)))
    | none=>none
   | none=>none
   else none
  | _=>none
 | _=>none
 else none
theorem j0o {i:Nat} {x:Str} (h:PE X (.Name x p1) (x9t i)) (ha:PDA X [e] g)
  (hbase:attributeBase (.Name x p1) "pop" X.env (eval (.Name x p1) X.env)=eval (.Name x p1) X.env:=by rfl)
  (hfew:((backTo cpos (starEach [e] X.env)).all (fun x=>!x.1) && (backToKw cpos (keywordEach [] X.env)).all (fun x=>x.1.isSome)
    && decide ([e].length+([]:List Keyword).length+(if([]:List Keyword).isEmpty then 0 else 1)<30))=true:=by rfl)
  (hline:(apos.endLine == cpos.line)=true:=by rfl) (hs:starEach [e] X.env=(false,eval e X.env)::starEach [] X.env:=by rfl) (hplain:(backTo cpos (starEach [] X.env)).any (·.1)=false:=by rfl) :
  PD X (.Call (.Attribute (.Name x p1) "pop" apos) [e] [] cpos) (z9l i g):=
 PE.imp (z4m PySem.F.plainAttrs_list PySem.F.slot_list_pop PySem.F.type_list_pop z37 h ha hbase hfew hline hs hplain) fun σ H Q hh0=>by
 obtain⟨ρ,w,t,r',q,ρ',gd,ee,k⟩:=hh0
 unfold z9l at ee
 split at ee
 ·rename_i hl
  obtain⟨l,hσ,us,hq⟩:=gd.isL hl
  split at ee
  ·rename_i n ρ1 h1
   split at ee
   ·rename_i ds e1
    split at ee
    ·rename_i hn
     split at ee
     ·rename_i j hj
      split at ee
      ·rename_i d hd
       cases ee
       refine⟨_,hσ,.inl ⟨rfl,us,hq⟩,ρ,w,t,_,_,gd,h1,fun vs H1 w1 g1 go1 r1=>?_⟩
       obtain⟨v,rfl,rv⟩:=one r1
       have hv:=x4c rv
       subst hv
       obtain⟨l',ws,hσ',hH,rs,mk⟩:=g1.mut e1
       rw[hσ]at hσ'
       cases hσ'
       obtain⟨y,hy,ry⟩:=rs.get hd
       obtain⟨m1,m2⟩:=mk _ _ (rs.eraseIdx j)
       refine⟨l,ws,n,j,y,rfl,rfl,hH,by omega,by omega,by rw[<- rs.length]; exact hj,hy,?_⟩
       have ry':Rep X.K _ w1 (.t t) 0 r' y []:=Rep.go g1.wl m2.stab ry (fun _ z=>nomatch z)
       exact k y _ w1 [] m1.up (go1.trans m2) ry'.dep
      ·cases ee
     ·cases ee
    ·cases ee
   ·cases ee
  ·cases ee
 ·cases ee
end
theorem Reps.getQ {K:PySem.W.Frag} {H:Hp} {w:Wn} {o:Ow} {q:Nat}:∀ {ds:List D} {vs:List V} {F:List Addr} {i:Nat} {d:D},Reps K H w o q ds vs F->ds[i]? = some d->∃ v G,vs[i]? = some v/\Rep K H w o q d v G/\∀ a∈G,a∈F
 | _,_,_,_,_,.nil,e=>by simp at e
 | _,_,_,0,_,.cons r _ _,e=>by
  simp at e; subst e; exact⟨_,_,rfl,r,fun a m=>List.mem_append_left _ m⟩
 | _,_,_,i+1,d,.cons _ s _,e=>by
  obtain⟨v,G,h1,h2,h3⟩:=Reps.getQ (i:=i) (d:=d) s (by simpa using e)
  exact⟨v,G,by simpa using h1,h2,fun a m=>List.mem_append_right _ (h3 a m)⟩
theorem Reps.atQ {K:PySem.W.Frag} {H:Hp} {w:Wn} {o:Ow} {q:Nat} {ds:List D} {vs:List V} {F:List Addr} {i:Int} {d:D} (r:Reps K H w o q ds vs F) (h:L2.atI ds i=some d):∃ v G,L2.atI vs i=some v/\Rep K H w o q d v G/\∀ a∈G,a∈F:=by
 unfold L2.atI at h ⊢
 rw[<- r.length]
 cases e:ixN ds.length i with
 | none=>rw[e]at h; cases h
 | some j=>
  rw[e]at h
  exact r.getQ h
@[simp] noncomputable def x1i (n:Nat) (fb:Den):Den:=fun ρ=>match ρ[n]? with
 | some (some _)=>match fb ρ with
  | some (.int i,_,ρ2)=>match ρ2[n]? with
   | some (some (x,q))=>match atD x i with
    | some d=>if d.isL=true/\1<q/\x.isL=true then none else some (d,y36 d,ρ2)
    | none=>none
   | _=>none
  | _=>none
 | _=>none
section
variable {X:Cx} {a b c e:Expr} {es:List Expr} {fa fb fc f:Den} {g:x2c} {pos p p1 p2 cpos apos:Pos}
theorem j26 {n:Nat} {x:Str} (h:PE X (.Name x p1) (x9t n)) (hb:PD X b fb) (hs:x4n b:=by exact fun _ _=>rfl):PD X (.Subscript (.Name x p1) b pos) (x1i n fb):=PE.imp (z1w y5o h hb hs) fun σ H Q hh0=>by
 obtain⟨ρ,w,t,r',q,ρ',gd,ee,k⟩:=hh0
 unfold x1i at ee
 split at ee
 ·rename_i z0 e0
  obtain⟨d0,q0⟩:=z0
  obtain⟨v,F,hσ,_⟩:=gd.slot n d0 q0 e0
  split at ee
  ·rename_i i q2 ρ2 h2
   split at ee
   ·rename_i x q e2
    split at ee
    ·rename_i d hd
     split at ee
     ·cases ee
     ·rename_i hn
      cases ee
      refine⟨v,hσ,ρ,w,t,_,_,_,gd,h2,fun y H2 w2 F2 g2 go r2=>?_⟩
      have hy:=x4c r2
      subst hy
      have gg:=g2.drop (t':=t)
      obtain⟨v',F',hσ',rr⟩:=gg.slot n x q e2
      rw[hσ]at hσ'
      cases hσ'
      have fin:∀ u,Rep X.K H2 (x2d t w2) (.t t) 0 r' u []->Q u H2:=fun u ru=>k u H2 (x2d t w2) [] gg.up (go.drop gd.wt) ru.dep
      cases x with
      | lst ds=>
       by_cases hq0:q=0
       ·subst hq0
        obtain⟨p0,vs,rfl,hq,rs⟩:=rr.seqL0
        obtain⟨u,hu,ru⟩:=rs.atI hd
        exact .inl ⟨p0,vs,i,u,rfl,rfl,hq,hu,fin u (ru.any gg.wl)⟩
       ·by_cases hq1:q=1
        ·subst hq1
         cases rr with
         | own h0 _ rs _=>
          have z0:=rs.zero
          subst z0
          obtain⟨u,hu,ru⟩:=rs.atI hd
          exact .inl ⟨_,_,i,u,rfl,rfl,SqL.of h0,hu,fin u (ru.any gg.wl)⟩
        ·obtain⟨p0,vs,q',G,rfl,hq,rs⟩:=rr.seqL
         obtain⟨u,G',hu,ru,_⟩:=rs.atQ hd
         refine .inl ⟨p0,vs,i,u,rfl,rfl,hq,hu,fin u ?_⟩
         cases hL:r'.isL with
         | false=>exact((ru.nolist hL).2 0).any gg.wl
         | true=>exact absurd ⟨hL,by omega,rfl⟩ hn
      | tup ds=>
       obtain⟨p0,vs,rfl,hq,rs⟩:=rr.seqT
       obtain⟨u,hu,ru⟩:=rs.atI hd
       exact .inr (.inl ⟨p0,vs,i,u,rfl,rfl,hq,hu,fin u (ru.any gg.wl)⟩)
      | _=>cases hd
    ·cases ee
   ·cases ee
  ·cases ee
 ·cases ee
@[simp] noncomputable def y15 (fa fb:Den):Den:=fun ρ=>match fa ρ with
 | some (.lst ds,1,ρ1)=>match fb ρ1 with
  | some (.int n,_,ρ2)=>if -1000<=n/\n<=1000/\ds.length*n.toNat<=1000 then some (.lst (List.replicate n.toNat ds).flatten,1,ρ2)else none
  | _=>none
 | _=>none
theorem Reps.app {K:PySem.W.Frag} {H:Hp} {w:Wn} {es:List D} {us:List V} (s:Reps K H w .f 0 es us []):∀ {ds:List D} {vs:List V},Reps K H w .f 0 ds vs []->Reps K H w .f 0 (ds++es) (vs++us) []
 | ds,vs,r=>by
  generalize hF:([]:List Addr)=F at r
  cases r with
  | nil=>rw[<- hF]; exact s
  | @cons _ d v ds vs F G r t _=>
   have h1:F=[]:=r.zero
   have h2:G=[]:=t.zero
   subst h1 h2
   exact .cons (F:=[]) (G:=[]) r (Reps.app s t) (fun _ z=>nomatch z)
theorem Reps.times {K:PySem.W.Frag} {H:Hp} {w:Wn} {ds:List D} {vs:List V} (r:Reps K H w .f 0 ds vs []):∀ n:Nat,Reps K H w .f 0 (List.replicate n ds).flatten (List.replicate n vs).flatten []
 | 0=>.nil
 | n+1=>by
  rw[List.replicate_succ,List.replicate_succ,List.flatten_cons,List.flatten_cons]
  exact Reps.app (Reps.times r n) r
theorem z7d (ha:PD X a fa) (hb:PD X b fb):PD X (.BinOp a .Mult b pos) (y15 fa fb):=PE.imp (y4m j0k ha hb) fun σ H Q hh0=>by
 obtain⟨ρ,w,t,r',q,ρ',gd,ee,k⟩:=hh0
 unfold y15 at ee
 split at ee
 ·rename_i ds ρ1 h1
  split at ee
  ·rename_i n q2 ρ2 h2
   split at ee
   ·rename_i hn
    cases ee
    refine z81 gd h1 h2 fun u u' H2 w2 F1 F2 g2 go r1 r2=>?_
    have hu':=x4c r2
    subst hu'
    cases r1 with
    | @own _ l vs _ F hl hw rs ne=>
     have hF:=rs.zero
     subst hF
     have gg:=g2.drop (t':=t)
     have rs':Reps X.K H2 (x2d t w2) .f 0 ds vs []:=Reps.go g2.wl (fun a x h n=>⟨sm h,x75 n⟩) rs (fun _ z=>nomatch z)
     refine⟨l,n,vs,rfl,rfl,hl,by omega,by omega,?_,fun p hp=>?_⟩
     ·rw[<- rs.length]; exact y0b hn.2.2
     ·obtain⟨a1,a2,a3⟩:=y3s gg hp (rs'.times n.toNat)
      exact k _ _ _ _ a1 ((go.drop gd.wt).trans a2) a3
   ·cases ee
  ·cases ee
 ·cases ee
end
theorem Reps.row {K:PySem.W.Frag} {H:Hp} {w:Wn} {o:Ow} (wl:WL K w H):∀ {rows:List D} {vs:List V} {F:List Addr} {i:Nat} {row:List D},Reps K H w o 1 rows vs F->rows[i]? = some (.lst row)->
  ∃ b ws,vs[i]? = some (.ref b)/\H b=some (.lst ws)/\w b=some o/\b∈F/\Reps K H w .f 0 row ws [] /\
   ∀ row' ws',Reps K H w .f 0 row' ws' []->Reps K (upd H b (.lst ws')) w o 1 (rows.set i (.lst row')) vs F
 | _,_,_,_,_,.nil,e=>by simp at e
 | _,_,_,0,row,.cons r s ne,e=>by
  simp at e
  subst e
  cases r with
  | @own _ b ws _ F' hb hw rs nb=>
   have hF:=rs.zero
   subst hF
   refine⟨b,ws,rfl,hb,hw,by simp,rs.any wl,fun row' ws' r'=>?_⟩
   have nn:∀ a,w a=none->a≠b:=fun a e z=>by subst z; rw[hw]at e; cases e
   have st:x7d H w (upd H b (.lst ws')) w:=fun a x h n=>⟨sm (by rw[x0q (nn a n)]; exact h),n⟩
   refine .cons (.own x1n hw (Reps.go wl st r' (fun _ z=>nomatch z)) (fun z=>nomatch z)) (Reps.go wl st s fun a m=>⟨x0q fun z=>?_,s.owns a m⟩) ne
   subst z
   exact ne a (by simp) m
 | _,_,_,i+1,row,.cons (d:=d) (v:=v) (F:=F) (G:=G) r s ne,e=>by
  obtain⟨b,ws,h1,h2,h3,h4,h5,mk⟩:=Reps.row wl (i:=i) (row:=row) s (by simpa using e)
  refine⟨b,ws,by simpa using h1,h2,h3,List.mem_append_right _ h4,h5,fun row' ws' r'=>?_⟩
  have nn:∀ a,w a=none->a≠b:=fun a e z=>by subst z; rw[h3]at e; cases e
  have st:x7d H w (upd H b (.lst ws')) w:=fun a x h n=>⟨sm (by rw[x0q (nn a n)]; exact h),n⟩
  refine .cons (Rep.go wl st r fun a m=>⟨x0q fun z=>?_,r.owns a m⟩) (mk row' ws' r') ne
  subst z
  exact ne a m h4
theorem Good.mut2 {K:PySem.W.Frag} {ρ:Rho} {σ:St} {H:Hp} {w:Wn} {t i m:Nat} {rows row:List D} (g:Good K ρ σ H w t) (e:ρ[i]? = some (some (.lst rows,2))) (em:rows[m]? = some (.lst row)) :
  ∃ l vs b ws,σ[i]? = some (some (.ref l))/\SqL K H l vs/\vs.length=rows.length/\vs[m]? = some (.ref b)/\H b=some (.lst ws)/\Reps K H w .f 0 row ws []/\∀ row' ws',Reps K H w .f 0 row' ws' []->
   Good K (ρ.set i (some (.lst (rows.set m (.lst row')),2))) σ (upd H b (.lst ws')) w t/\Go H w (upd H b (.lst ws')) w:=by
 obtain⟨v,F,h1,h2⟩:=g.slot i _ _ e
 cases h2 with
 | @own _ l vs _ F' hl hw rs nl=>
  obtain⟨b,ws,b1,b2,b3,b4,b5,mk⟩:=Reps.row g.wl rs em
  have hbl:l≠b:=fun z=>by subst z; exact nl b4
  refine⟨l,vs,b,ws,h1,SqL.of hl,rs.length.symm,b1,b2,b5,fun row' ws' r'=>?_⟩
  have nl':∀ a o,w a=some o->o ≠ .s i->a≠b:=fun a o e n z=>by subst z; rw[b3]at e; exact n (Option.some.inj e).symm
  have nn:∀ a,w a=none->a≠b:=fun a e z=>by subst z; rw[b3]at e; cases e
  have st:x7d H w (upd H b (.lst ws')) w:=fun a x h n=>⟨sm (by rw[x0q (nn a n)]; exact h),n⟩
  refine⟨⟨⟨fun a o h=>?_,g.wl.tb.upd rfl (.inr (g.wl b _ b3))⟩,g.ws,g.wt,by rw[List.length_set]; exact g.len,fun j d' q' e'=>?_⟩,⟨st,fun a o h n=>⟨x0q (nl' a o h (n i)),h⟩⟩⟩
  ·by_cases z:a=b
   ·subst z; exact⟨_,x1n⟩
   ·obtain⟨us,q⟩:=g.wl a o h
    exact⟨us,by rw[x0q z]; exact q⟩
  ·by_cases hj:i=j
   ·subst hj
    rw[List.getElem?_set_self (List.getElem?_eq_some_iff.mp e).1]at e'
    cases e'
    exact⟨_,_,h1,.own (by rw[x0q hbl]; exact hl) hw (mk row' ws' r') nl⟩
   ·rw[List.getElem?_set_ne hj]at e'
    obtain⟨v',F',h1',h2'⟩:=g.slot j d' q' e'
    exact⟨v',F',h1',Rep.go g.wl st h2' fun a m=>⟨x0q (nl' a _ (h2'.owns a m) (fun z=>hj (by cases z; rfl))),h2'.owns a m⟩⟩
theorem Reps.set0 {K:PySem.W.Frag} {H:Hp} {w:Wn} {d:D} {v:V} (rv:Rep K H w .f 0 d v []):∀ {ds:List D} {vs:List V} (i:Nat),Reps K H w .f 0 ds vs []->Reps K H w .f 0 (ds.set i d) (vs.set i v) []
 | ds,vs,i,r=>by
  generalize hF:([]:List Addr)=F at r
  cases r with
  | nil=>rw[<- hF]; exact .nil
  | @cons _ d' v' ds vs F G r s _=>
   have h1:F=[]:=r.zero
   have h2:G=[]:=s.zero
   subst h1 h2
   cases i with
   | zero=>exact .cons (F:=[]) (G:=[]) rv s (fun _ z=>nomatch z)
   | succ j=>exact .cons (F:=[]) (G:=[]) r (Reps.set0 rv j s) (fun _ z=>nomatch z)
noncomputable abbrev y1y:=Rho->Option Int
noncomputable def tQ (K:PySem.W.Frag) (f:y1y):TE:=fun σ H Q=>∃ ρ w t i,Good K ρ σ H w t/\f ρ=some i/\Q (.int i) H
noncomputable abbrev PQ (X:Cx) (e:Expr) (f:y1y):Prop:=PE X e (tQ X.K f)
@[simp] noncomputable def y9q (n:Nat):y1y:=fun ρ=>match ρ[n]? with
 | some (some (.int i,_))=>some i
 | _=>none
@[simp] noncomputable def qIx (n:Nat) (f:y1y):y1y:=fun ρ=>match f ρ with
 | some i=>match ρ[n]? with
  | some (some (x,_))=>match atD x i with
   | some (.int j)=>some j
   | _=>none
  | _=>none
 | none=>none
section
variable {X:Cx} {a b c e:Expr} {es:List Expr} {fa fb fc f:Den} {qa qb:y1y} {g:x2c} {pos p p1 p2 cpos apos:Pos}
theorem j0y {n:Nat} {x:Str} (h:PE X (.Name x p1) (x9t n)):PQ X (.Name x p1) (y9q n):=PE.imp h fun σ H Q hh0=>by
 obtain⟨ρ,w,t,i,gd,ee,k⟩:=hh0
 unfold y9q at ee
 split at ee
 ·rename_i j q e0
  cases ee
  obtain⟨v,F,h1,h2⟩:=gd.slot n _ _ e0
  rw[x4c h2]at h1
  exact⟨_,h1,k⟩
 ·cases ee
theorem j55 {n:Nat} {x:Str} (h:PE X (.Name x p1) (x9t n)) (hb:PQ X b qb) (hs:x4n b:=by exact fun _ _=>rfl):PQ X (.Subscript (.Name x p1) b pos) (qIx n qb):=PE.imp (z1w y5o h hb hs) fun σ H Q hh0=>by
 obtain⟨ρ,w,t,i,gd,ee,k⟩:=hh0
 unfold qIx at ee
 split at ee
 ·rename_i i0 h0
  split at ee
  ·rename_i x q e0
   split at ee
   ·rename_i j hj
    cases ee
    obtain⟨v,F,h1,h2⟩:=gd.slot n _ _ e0
    refine⟨v,h1,ρ,w,t,i0,gd,h0,?_⟩
    cases x with
    | lst ds=>
     obtain⟨p0,vs,q',G,rfl,hq,rs⟩:=h2.seqL
     obtain⟨u,G',hu,ru,_⟩:=rs.atQ hj
     rw[x4c ru]at hu
     exact .inl ⟨p0,vs,i0,_,rfl,rfl,hq,hu,k⟩
    | tup ds=>
     obtain⟨p0,vs,rfl,hq,rs⟩:=h2.seqT
     obtain⟨u,hu,ru⟩:=rs.atI hj
     rw[x4c ru]at hu
     exact .inr (.inl ⟨p0,vs,i0,_,rfl,rfl,hq,hu,k⟩)
    | _=>cases hj
   ·cases ee
  ·cases ee
 ·cases ee
@[simp] noncomputable def y92 (n:Nat) (qi qj:y1y) (fe:Den):x19:=fun ρ=>match fe ρ with
 | some (d,_,ρ1)=>match qi ρ1,qj ρ1,ρ1[n]? with
  | some i,some j,some (some (.lst rows,2))=>match ixN rows.length i with
   | some m=>match rows[m]? with
    | some (.lst row)=>match ixN row.length j with
     | some k=>some (.nx (ρ1.set n (some (.lst (rows.set m (.lst (row.set k d))),2))))
     | none=>none
    | _=>none
   | none=>none
  | _,_,_=>none
 | none=>none
theorem z2q {n:Nat} {x:Str} (h:PE X (.Name x p1) (x9t n)) (ha:PQ X a qa) (hb:PQ X b qb) (he:PD X e f) (hi:x4n a:=by exact fun _ _=>rfl)
  (hasg:∀ v,assign (.Subscript (.Subscript (.Name x p1) a p2) b p) X.env v=(do
    let ov <- holding [v] (eval (.Subscript (.Name x p1) a p2) X.env)
    let iv <- holding [v,ov] (eval b X.env)
    standAt p
    holding [v,ov,iv] (setItem ov iv v)
    release [v,ov,iv] []):=by exact fun _=>rfl)
  (hs:swapsWithSole [.Subscript (.Subscript (.Name x p1) a p2) b p] e pos.line X.env=pure false:=by rfl) :
  PDS X (.Assign [.Subscript (.Subscript (.Name x p1) a p2) b p] e pos) (y92 n qa qb f):=by
 refine PS.imp (z63 he (z61 (z1w y5o h ha hi) hb y8r hasg) hs) fun D σ H ⟨ρ,w,o,gd,ee,k⟩=>?_
 unfold y92 at ee
 split at ee
 ·rename_i d q0 ρ1 h1
  split at ee
  ·rename_i i j rows hi hj er
   split at ee
   ·rename_i m hm
    split at ee
    ·rename_i row erow
     split at ee
     ·rename_i kk hk
      cases ee
      refine⟨ρ,w,0,d,q0,ρ1,gd,h1,fun v H1 w1 F1 g1 go1 r1=>?_⟩
      have rv:=r1.drop (o:=.f) (Nat.le_refl 0)
      have gg:=g1.drop (t':=0)
      obtain⟨l,vs,b0,ws,m1,m2,m3,m4,m5,m6,mk⟩:=gg.mut2 er erow
      refine⟨_,m1,ρ1,x2d 0 w1,0,i,gg,hi,.inl ⟨l,vs,i,.ref b0,rfl,rfl,m2,?_,ρ1,x2d 0 w1,0,j,gg,hj,b0,ws,j,kk,rfl,rfl,m5,?_,?_⟩⟩
      ·unfold atI; rw[m3,hm]; exact m4
      ·rw[<- m6.length]; exact hk
      ·obtain⟨n1,n2⟩:=mk _ _ (m6.set0 rv kk)
       exact k _ _ _ rfl n1 ((go1.drop gd.wt).trans n2)
     ·cases ee
    ·cases ee
   ·cases ee
  ·cases ee
 ·cases ee
end
@[simp] noncomputable def z6s (fa fb:Den):Den:=fun ρ=>match fa ρ with
 | some (.bl b,_,ρ1)=>if b=true then fb ρ1 else some (.bl false,9,ρ1)
 | _=>none
@[simp] noncomputable def j46 (fa:Den):Den:=fun ρ=>match fa ρ with
 | some (.bl b,_,ρ1)=>some (.bl (!b),9,ρ1)
 | _=>none
section
variable {X:Cx} {a b c e:Expr} {es x2o:List Expr} {fa fb fc f:Den} {g:x2c} {pos p p1 p2 cpos apos:Pos}
theorem j0j {op} (h:PD X a fa):PD X (.BoolOp op [a] pos) fa:=j2n h
theorem j0s (ha:PD X a fa) (hb:PD X (.BoolOp .And (b::x2o) pos) fb):PD X (.BoolOp .And (a::b::x2o) pos) (z6s fa fb):=PE.imp (j2y ha hb) fun σ H Q hh0=>by
 obtain⟨ρ,w,t,r',q,ρ',gd,ee,k⟩:=hh0
 unfold z6s at ee
 split at ee
 ·rename_i b' q1 ρ1 h1
  refine⟨ρ,w,t,_,_,_,gd,h1,fun v H1 w1 F1 g1 go1 r1=>?_⟩
  cases r1
  refine⟨b',rfl,?_⟩
  split at ee
  ·rename_i hb; rw[if_pos hb]
   exact⟨ρ1,x2d t w1,t,r',q,ρ',g1.drop,ee,fun v H2 w2 F g2 go2=>k v H2 w2 F g2 ((go1.drop gd.wt).trans go2)⟩
  ·rename_i hb; rw[if_neg hb]
   cases ee
   exact k _ H1 w1 [] g1 go1 (.bl false)
 ·cases ee
theorem j3v (ha:PD X a fa):PD X (.UnaryOp .Not a pos) (j46 fa):=PE.imp (j30 ha) fun σ H Q hh0=>by
 obtain⟨ρ,w,t,r',q,ρ',gd,ee,k⟩:=hh0
 unfold j46 at ee
 split at ee
 ·rename_i b' q1 ρ1 h1
  cases ee
  refine⟨ρ,w,t,_,_,_,gd,h1,fun v H1 w1 F1 g1 go1 r1=>?_⟩
  cases r1
  exact⟨b',rfl,k _ H1 w1 [] g1 go1 (.bl _)⟩
 ·cases ee
end
section
variable {es x2o:List Expr} {a b c e:Expr} {pos:Pos} {env:Env}
theorem x1g {op}:starEach (.BinOp a op b pos::x2o) env=(false,eval (.BinOp a op b pos) env)::starEach x2o env:=by simp only[starEach]
theorem y45:starEach (.IfExp a b c pos::x2o) env=(false,eval (.IfExp a b c pos) env)::starEach x2o env:=by simp only[starEach]
theorem x39 {g sc}:starEach (.ListComp a g sc pos::x2o) env=(false,eval (.ListComp a g sc pos) env)::starEach x2o env:=by simp only[starEach]
theorem x0s {k}:starEach (.Call a es k pos::x2o) env=(false,eval (.Call a es k pos) env)::starEach x2o env:=by simp only[starEach]
theorem x07 {v k}:starEach (.Constant v k pos::x2o) env=(false,eval (.Constant v k pos) env)::starEach x2o env:=by simp only[starEach]
theorem x0t:starEach (.Subscript a b pos::x2o) env=(false,eval (.Subscript a b pos) env)::starEach x2o env:=by simp only[starEach]
theorem x05 {x}:starEach (.Name x pos::x2o) env=(false,eval (.Name x pos) env)::starEach x2o env:=by simp only[starEach]
theorem y01:starEach (.List es pos::x2o) env=(false,eval (.List es pos) env)::starEach x2o env:=by simp only[starEach]
theorem x56 {k}:starEach (.Tuple es k pos::x2o) env=(false,eval (.Tuple es k pos) env)::starEach x2o env:=by simp only[starEach]
end
noncomputable def At (K:PySem.W.Frag) (mg:Str->Option Value) (x:Str) (st:Stmt) (ps:List Str):Prop:=
 ∃ f fd,Fun K x x st f fd/\mg x=some (.ref f)/\y50 K fd ps []
noncomputable def Cal (P:Program) (w:World) (K:PySem.W.Frag) (mg:Str->Option Value) (base:Heap) (k:Nat) (x:Str) (n:Nat) (F:List D->Option (D × Nat)):Prop:=
 ∃ f fd ps,FnOk P w K mg base CX0 k f fd ps (spD K n F)/\mg x=some (.ref f)/\PySem.W.keepIn K (.ref f)=true/\y50 K fd ps []
theorem Cal.mk {P:Program} {w:World} {K:PySem.W.Frag} {mg:Str->Option Value} {base:Heap} {k:Nat} {x:Str} {st:Stmt} {N ps:List Str} {body:x19} (a:At K mg x st ps) (S:FnScope N ps (x0b st))
  (h:∀ (f:Addr) (cdv:Value) (A:Around) (outer:List Env) (s:Shared) (H:Hp) (E:XK),Room k (A.deeper (envOfC x (x0b st) s.heap.objs.size f cdv))->y9p (z1q CX0 P w K mg base N x (x0b st) f cdv A outer s H E).nox (x44 st) body) :
  Cal P w K mg base (k+1) x ps.length (fnD N.length body):=by
 obtain⟨f,fd,F,m,b⟩:=a
 exact⟨f,fd,ps,j3e F S (h f),m,F.kp,b⟩
section
variable {X:Cx} {a b c e:Expr} {es x2o:List Expr} {fa fb fc f:Den} {g:x2c} {pos p p1 p2 cpos apos:Pos}
theorem z30 {j k n:Nat} {x:Str} {F:List D->Option (D × Nat)} (C:Cal X.prog X.w X.K X.mg X.base k x n F) (hr:Room j X.A) (hk:k<=j) (ha:PDA X (e::es) g)
  (hg:Gl X x:=by rfl) (hdb:(x == ("__debug__":Str))=false:=by decide) (he:starEach (e::es) X.env=(false,eval e X.env)::starEach es X.env:=by rfl) (hpl:(backTo pos (starEach es X.env)).any (·.1)=false:=by rfl) :
  PD X (.Call (.Name x p) (e::es) [] pos) (x0g F n g):=by
 obtain⟨f,fd,ps,G,hm,hkp,hb⟩:=C
 exact z4a G (hr.mono hk) hm hkp hb j4m ha hg hdb he hpl
end
theorem j3o {K:PySem.W.Frag} {F:List D->Option (D × Nat)} (h:∀ ns:List Int,ns.length<=63->∃ q,F [.lst (ns.map D.int)]=some (.bl true,q)) {H:Hp} {a:Addr} {ns:List Int} (hl:ns.length<=63) (hS:SqL K H a (ns.map V.int)) (tb:TB K H) {E:XK} :
  spD K 1 F [.ref a] H (fun v _=>v=.bl true) E:=by
 obtain⟨q,e⟩:=h ns hl
 have r:Rep K H (fun _=>none) .f 0 (.lst (ns.map D.int)) (.ref a) []:=by
  rcases SqL.cases hS with z | z
  ·exact .shr z rfl (x8f ns)
  ·exact .kl z (x8f ns)
 exact⟨rfl,[.lst (ns.map D.int)],fun _=>none,.bl true,q,(fun a o z=>nomatch z),⟨(fun a o z=>nomatch z),tb⟩,.cons (F:=[]) (G:=[]) r .nil (fun _ z=>nomatch z),e,fun v H' w' Fo _ _ rr=>by cases rr; rfl⟩
theorem j1p {P:Program} {w:World} {K:PySem.W.Frag} {mg:Str->Option Value} {base:Heap} {k:Nat} {x:Str} {st:Stmt} {N ps:List Str} {body:x19} {f:Addr} {fd:FuncData} (F:Fun K x x st f fd) (S:FnScope N ps (x0b st))
  (h:∀ (f:Addr) (cdv:Value) (A:Around) (outer:List Env) (s:Shared) (H:Hp) (E:XK),Room k (A.deeper (envOfC x (x0b st) s.heap.objs.size f cdv))->y9p (z1q CX0 P w K mg base N x (x0b st) f cdv A outer s H E).nox (x44 st) body) :
  FnOk P w K mg base CX0 (k+1) f fd ps (spD K ps.length (fnD N.length body)):=j3e F S (h f)
section
variable {prog:Program} {w:World} {A:Around} {E:Value->Shared->Prop} {s:Shared}
theorem x79 {j p:Addr} {n:Nat} {vs:Array Value} {v:Value} {Q:Value->Shared->Prop} (a:s.heap.IsTupleIter j p n) (b:s.heap.IsTuple p vs) (c:vs[n]? = some v)
  (k:∀ g:Heap,g.IsTupleIter j p (n+1)->Heap.SameBut j s.heap g->Q v { s with heap:=g }):wpAny (model prog w) A (Builtin.SmallTypes.nextOf (.ref j)) Q E s:=by
 obtain⟨oj,ej,kj,dj⟩:=id a
 obtain⟨op,ep,_,mp,dp⟩:=b
 unfold Builtin.SmallTypes.nextOf
 refine wpAny_bind (wpAny_callSpecial?_slot (name:=Str.ofString "__next__") a.typeIs F.slot_tuple_iterator_next (wpAny_call_entry F.slot_tuple_iterator_next a.typeIs F.entry_tuple_iterator_next ?_ (F.args_tuple_iterator_next_1 _)))
 show wpAny _ _ (field (.ref j) 0 >>= _) _ _ s
 refine wpAny_bind (wpAny_field ej dj (x:=.ref p) rfl ?_)
 show wpAny _ _ (if(Value.ref p == Value.none)=true then _ else _) _ _ s
 rw[if_neg (show ¬ ((Value.ref p == Value.none)=true)from Bool.false_ne_true)]
 show wpAny _ _ (field (.ref j) 1 >>= _) _ _ s
 refine wpAny_bind (wpAny_field ej dj (x:=.int n 0) rfl ?_)
 show wpAny _ _ (seqItems? (.ref p) >>= _) _ _ s
 refine wpAny_bind (wpAny_seqItems ep dp ?_)
 simp only[Int.toNat_natCast,c]
 refine wpAny_bind (wpAny_setField ej dj (by simp) (wpAny_pure ⟨v,rfl,wpAny_pure (k _ ⟨_,Heap.get?_update_self _ ej (Obj.isFreed_of_fields (Obj.data_mapFields dj _)),(Obj.cls_mapFields ..).trans kj,?_⟩ (Heap.SameBut.update ..))⟩))
 rw[Obj.data_mapFields dj]
 simp[rawInt]
theorem y1t {j p:Addr} {n:Nat} {vs:Array Value} {Q:Value->Shared->Prop} (hh:A.handled=none) (a:s.heap.IsTupleIter j p n) (b:s.heap.IsTuple p vs) (c:vs[n]? = none)
  (k:∀ (g:Heap) x,Heap.ExtBut j s.heap g->(∃ o,g.get? x=some o/\o.cls=.type "StopIteration")->E (.ref x) { s with heap:=g }):wpAny (model prog w) A (Builtin.SmallTypes.nextOf (.ref j)) Q E s:=by
 obtain⟨oj,ej,kj,dj⟩:=id a
 obtain⟨op,ep,_,mp,dp⟩:=b
 unfold Builtin.SmallTypes.nextOf
 refine wpAny_bind (wpAny_callSpecial?_slot (name:=Str.ofString "__next__") a.typeIs F.slot_tuple_iterator_next (wpAny_call_entry F.slot_tuple_iterator_next a.typeIs F.entry_tuple_iterator_next ?_ (F.args_tuple_iterator_next_1 _)))
 show wpAny _ _ (field (.ref j) 0 >>= _) _ _ s
 refine wpAny_bind (wpAny_field ej dj (x:=.ref p) rfl ?_)
 show wpAny _ _ (if(Value.ref p == Value.none)=true then _ else _) _ _ s
 rw[if_neg (show ¬ ((Value.ref p == Value.none)=true)from Bool.false_ne_true)]
 show wpAny _ _ (field (.ref j) 1 >>= _) _ _ s
 refine wpAny_bind (wpAny_field ej dj (x:=.int n 0) rfl ?_)
 show wpAny _ _ (seqItems? (.ref p) >>= _) _ _ s
 refine wpAny_bind (wpAny_seqItems ep dp ?_)
 simp only[Int.toNat_natCast,c]
 refine wpAny_bind (wpAny_rule (wpAny_bind (wpAny_setField ej dj (by simp) ?_)))
 show wpAny _ _ (newExc (.type "StopIteration") [] >>= _) _ _ _; refine wpAny_bind ?_; simp only[newExc,newTuple]
 refine wpAny_bind (wpAny_newObj_type ?_ (by size_fits)); refine wpAny_bind (m:=firstArgMember _ _) (wpAny_of_eq (a:=Value.none) (by first | rfl | (simp only[firstArgMember]; rfl)) (wpAny_newObj_type ?_ (by size_fits)))
 simp only[raiseNew]
 refine wpAny_bind (wpAny_handled ?_); first | rw[show A.in1.handled=none from hh] | rw[hh]
 exact wpAny_bind (wpAny_pure (wpAny_throw (k _ _ (((Heap.SameBut.update ..).extBut.push _).push _) ⟨_,Heap.get?_push_size _ rfl,rfl⟩)))
structure ZT (h:Heap) (z u o i1 i2 p1 p2:Addr) (f0:Value) (k1 k2:Nat):Prop where
 hz:IsZip h z u o f0
 hu:IsPair h u (.ref i1) (.ref i2)
 ho:∃ a b,IsPair h o a b
 h1:h.IsTupleIter i1 p1 k1
 h2:h.IsTupleIter i2 p2 k2
noncomputable def zfp (z u o i1 i2:Addr):List Addr:=[z,u,o,i1,i2]
structure ZA (z u o i1 i2:Addr):Prop where
 nd:(zfp z u o i1 i2).Nodup
theorem ZA.ne {z u o i1 i2:Addr} (d:ZA z u o i1 i2):z≠u/\z≠o/\z≠i1/\z≠i2/\u≠o/\u≠i1/\u≠i2/\o≠i1/\o≠i2/\i1≠i2:=by
 have:=d.nd
 simp only[zfp,List.nodup_cons,List.mem_cons,List.not_mem_nil,or_false,not_or]at this
 obtain⟨⟨a,b,c,d⟩,⟨e,f,g⟩,⟨h,i⟩,j,_⟩:=this
 exact⟨a,b,c,d,e,f,g,h,i,j⟩
theorem y4b {g:Heap} {o:Addr} {a b x:Value} {n:Nat} {Q:Unit->Shared->Prop} (e:IsPair s.heap o a b)
  (k:∀ g:Heap,g.get? o=some { cls:=.type "tuple",data:=.seq ((#[a,b]:Array Value).setIfInBounds n x) }->Heap.SameBut o s.heap g->Q () { s with heap:=g }):wpAny (model prog w) A (updateSeq o (·.setIfInBounds n x)) Q E s:=by
 refine wpAny_updateSeq e rfl (k _ ?_ (Heap.SameBut.update ..))
 rw[Heap.get?_update_self _ e rfl]; simp[Obj.mapSeq]
theorem z21 {z u o i1 i2 p1 p2:Addr} {n:Nat} {xs ys:Array Value} {x y:Value} {Q:Option Value->Shared->Prop} (d:ZA z u o i1 i2) (Z:ZT s.heap z u o i1 i2 p1 p2 .none n n) (t1:s.heap.IsTuple p1 xs) (t2:s.heap.IsTuple p2 ys)
  (n1:p1 ∉ zfp z u o i1 i2) (n2:p2 ∉ zfp z u o i1 i2) (ex:xs[n]? = some x) (ey:ys[n]? = some y)
  (k:∀ g:Heap,ZT g z u o i1 i2 p1 p2 (rawInt s.heap.objs.size) (n+1) (n+1)->IsPair g s.heap.objs.size x y->(∀ c q,c ∉ zfp z u o i1 i2->s.heap.get? c=some q->g.get? c=some q)->Q (some (.ref s.heap.objs.size)) { s with heap:=g }) :
  wpAny (model prog w) A (pyNext (.ref z)) Q E s:=by
 obtain⟨zu,zo,z1,z2,uo,u1,u2,o1,o2,i12⟩:=d.ne
 obtain⟨hz,hu,⟨a,b,ho⟩,h1,h2⟩:=Z
 have nz:∀ p,p ∉ zfp z u o i1 i2->p≠z/\p≠o/\p≠i1/\p≠i2:=fun p h=>by
  simp only[zfp,List.mem_cons,List.not_mem_nil,or_false,not_or]at h
  exact⟨h.1,h.2.2.1,h.2.2.2.1,h.2.2.2.2⟩
 obtain⟨az,ao,a1,a2⟩:=nz p1 n1
 obtain⟨bz,bo,b1,b2⟩:=nz p2 n2
 have ty:s.TypeIs (.ref z) "zip":=⟨_,hz,rfl⟩
 unfold pyNext
 refine wpAny_bind (wpAny_attempt (wpAny_callSpecial?_slot (name:=Str.ofString "__next__") ty F.slot_zip_next (wpAny_call_entry F.slot_zip_next ty F.entry_zip_next ?_ (F.args_zip_next_1 _))))
 show wpAny _ _ (field (.ref z) 2 >>= _) _ _ _; refine wpAny_bind (wpAny_field hz rfl (x:=.bool false) rfl ?_)
 show wpAny _ _ (field (.ref z) 3 >>= _) _ _ _; refine wpAny_bind (wpAny_field hz rfl (x:=.ref u) rfl (wpAny_bind (wpAny_seqItems hu rfl ?_)))
 show wpAny _ _ (Builtin.SmallTypes.ownedTupleIsFree (.ref z) >>= _) _ _ _; refine wpAny_bind ?_; unfold Builtin.SmallTypes.ownedTupleIsFree
 refine wpAny_bind (wpAny_field hz rfl (x:=.none) rfl (wpAny_pure ?_)); simp only[if_true]
 refine wpAny_bind (wpAny_rule (wpAny_bind (wpAny_field hz rfl (x:=.ref o) rfl (wpAny_bind (wpAny_setField_rec hz (by simp) fun g1 e1 b1'=>?_)))))
 replace e1:IsZip g1 z u o .ellipsis:=e1
 refine wpAny_bind ?_; simp only[List.zipIdx_cons,List.zipIdx_nil,List.forIn_cons,List.forIn_nil]
 -- the first
 refine wpAny_bind (wpAny_bind (wpAny_onRaise ?_)); show wpAny _ _ (Builtin.SmallTypes.nextOf (.ref i1) >>= _) _ _ _
 refine wpAny_bind (x79 (h1.extBut b1'.extBut (Ne.symm z1)) (t1.extBut b1'.extBut az) ex fun g2 e2 c2=>wpAny_pure ?_)
 have q2:IsPair g2 o a b:=c2.extBut _ _ o1 (b1'.extBut _ _ (Ne.symm zo) ho)
 refine wpAny_bind (wpAny_seqItems q2 rfl (wpAny_bind (y4b (g:=g2) q2 fun g3 e3 c3=>wpAny_bind (wpAny_letGo (wpAny_pure ?_)))))
 replace e3:IsPair g3 o x b:=e3
 -- the second
 refine wpAny_bind (wpAny_bind (wpAny_onRaise ?_)); show wpAny _ _ (Builtin.SmallTypes.nextOf (.ref i2) >>= _) _ _ _
 refine wpAny_bind (x79 (((h2.extBut b1'.extBut (Ne.symm z2)).extBut c2.extBut (Ne.symm i12)).extBut c3.extBut (Ne.symm o2)) (((t2.extBut b1'.extBut bz).extBut c2.extBut b1).extBut c3.extBut bo) ey fun g4 e4 c4=>wpAny_pure ?_)
 have q4:IsPair g4 o x b:=c4.extBut _ _ o2 e3
 refine wpAny_bind (wpAny_seqItems q4 rfl (wpAny_bind (y4b (g:=g4) q4 fun g5 e5 c5=>wpAny_bind (wpAny_letGo (wpAny_pure (wpAny_pure ?_))))))
 replace e5:IsPair g5 o x y:=e5
 refine wpAny_bind (wpAny_seqItems e5 rfl (wpAny_bind (wpAny_newTuple ?_)))
 have sz:g5.objs.size=s.heap.objs.size:=by rw[c5.1,c4.1,c3.1,c2.1,b1'.1]
 have z5:IsZip g5 z u o .ellipsis:=c5.extBut _ _ zo (c4.extBut _ _ z2 (c3.extBut _ _ zo (c2.extBut _ _ z1 e1)))
 have kp:∀ c q,c≠z->c≠o->c≠i1->c≠i2->s.heap.get? c=some q->g5.get? c=some q:=fun c q x1 x2 x3 x4 e=>c5.extBut _ _ x2 (c4.extBut _ _ x4 (c3.extBut _ _ x2 (c2.extBut _ _ x3 (b1'.extBut _ _ x1 e))))
 have w1:g5.IsTupleIter i1 p1 (n+1):=((e2.extBut c3.extBut (Ne.symm o1)).extBut c4.extBut i12).extBut c5.extBut (Ne.symm o1)
 have w2:g5.IsTupleIter i2 p2 (n+1):=e4.extBut c5.extBut (Ne.symm o2)
 have zl:z<g5.objs.size:=Heap.lt_size z5
 show wpAny _ _ (Builtin.SmallTypes.ownedTupleHandOut (.ref z) (.ref g5.objs.size) >>= _) _ _ _; refine wpAny_bind ?_; unfold Builtin.SmallTypes.ownedTupleHandOut
 have z6:IsZip (g5.push { cls:=.type "tuple",data:=.seq #[x,y] }) z u o .ellipsis:=Heap.get?_push_of_some _ z5
 refine wpAny_bind (wpAny_setField_rec z6 (by simp) fun g7 e7 c7=>?_)
 replace e7:IsZip g7 z u o (rawInt g5.objs.size):=e7
 refine wpAny_setField_rec e7 (by simp) fun g8 e8 c8=>?_
 replace e8:IsZip g8 z u o (rawInt g5.objs.size):=e8
 have up:∀ c q,c≠z->g5.get? c=some q->g8.get? c=some q:=fun c q h e=>c8.extBut _ _ h (c7.extBut _ _ h (Heap.get?_push_of_some _ e))
 have nw:IsPair g8 g5.objs.size x y:=c8.extBut _ _ (Nat.ne_of_gt zl) (c7.extBut _ _ (Nat.ne_of_gt zl) (Heap.get?_push_size _ rfl))
 rw[sz]at e8 nw
 refine wpAny_pure ⟨_,rfl,wpAny_pure ?_⟩
 show Q (some (.ref g5.objs.size)) _
 rw[sz]
 refine k g8 ⟨e8,up _ _ (Ne.symm zu) (kp _ _ (Ne.symm zu) uo u1 u2 hu),⟨x,y,up _ _ (Ne.symm zo) e5⟩,w1.at fun q e=>up _ q (Ne.symm z1) e,w2.at fun q e=>up _ q (Ne.symm z2) e⟩ nw fun c q h e=>?_
 obtain⟨y1,y2,y3,y4⟩:=nz c h
 exact up c q y1 (kp c q y1 y2 y3 y4 e)
theorem z55 {z u o i1 i2 p1 p2:Addr} {n:Nat} {xs ys:Array Value} {Q:Option Value->Shared->Prop} (hh:A.handled=none) (d:ZA z u o i1 i2) (Z:ZT s.heap z u o i1 i2 p1 p2 .none n n) (t1:s.heap.IsTuple p1 xs) (t2:s.heap.IsTuple p2 ys)
  (n1:p1 ∉ zfp z u o i1 i2) (n2:p2 ∉ zfp z u o i1 i2) (en:xs[n]? = none\/ys[n]? = none)
  (k:∀ g:Heap,(∀ c q,c ∉ zfp z u o i1 i2->s.heap.get? c=some q->g.get? c=some q)->Q none { s with heap:=g }) :
  wpAny (model prog w) A (pyNext (.ref z)) Q E s:=by
 obtain⟨zu,zo,z1,z2,uo,u1,u2,o1,o2,i12⟩:=d.ne
 obtain⟨hz,hu,⟨a,b,ho⟩,h1,h2⟩:=Z
 have nz:∀ p,p ∉ zfp z u o i1 i2->p≠z/\p≠o/\p≠i1/\p≠i2:=fun p h=>by
  simp only[zfp,List.mem_cons,List.not_mem_nil,or_false,not_or]at h
  exact⟨h.1,h.2.2.1,h.2.2.2.1,h.2.2.2.2⟩
 obtain⟨az,ao,a1,a2⟩:=nz p1 n1
 obtain⟨bz,bo,b1,b2⟩:=nz p2 n2
 have ty:s.TypeIs (.ref z) "zip":=⟨_,hz,rfl⟩
 unfold pyNext
 refine wpAny_bind (wpAny_attempt (wpAny_callSpecial?_slot (name:=Str.ofString "__next__") ty F.slot_zip_next (wpAny_call_entry F.slot_zip_next ty F.entry_zip_next ?_ (F.args_zip_next_1 _))))
 show wpAny _ _ (field (.ref z) 2 >>= _) _ _ _; refine wpAny_bind (wpAny_field hz rfl (x:=.bool false) rfl ?_)
 show wpAny _ _ (field (.ref z) 3 >>= _) _ _ _; refine wpAny_bind (wpAny_field hz rfl (x:=.ref u) rfl (wpAny_bind (wpAny_seqItems hu rfl ?_)))
 show wpAny _ _ (Builtin.SmallTypes.ownedTupleIsFree (.ref z) >>= _) _ _ _; refine wpAny_bind ?_; unfold Builtin.SmallTypes.ownedTupleIsFree
 refine wpAny_bind (wpAny_field hz rfl (x:=.none) rfl (wpAny_pure ?_)); simp only[if_true]
 refine wpAny_bind (wpAny_rule (wpAny_bind (wpAny_field hz rfl (x:=.ref o) rfl (wpAny_bind (wpAny_setField_rec hz (by simp) fun g1 e1 b1'=>?_)))))
 replace e1:IsZip g1 z u o .ellipsis:=e1
 refine wpAny_bind ?_; simp only[List.zipIdx_cons,List.zipIdx_nil,List.forIn_cons,List.forIn_nil]
 have away:∀ (g:Heap) x,IsZip g z u o .ellipsis->(∃ q,g.get? x=some q/\q.cls=.type "StopIteration")->x≠z:=fun g x e ⟨q,e',c'⟩ h=>by
  subst h; rw[e]at e'; cases e'; simp at c'
 refine wpAny_bind (wpAny_bind (wpAny_onRaise ?_)); show wpAny _ _ (Builtin.SmallTypes.nextOf (.ref i1) >>= _) _ _ _
 cases ex:xs[n]? with
 | none=>
  refine wpAny_bind (y1t hh (h1.extBut b1'.extBut (Ne.symm z1)) (t1.extBut b1'.extBut az) ex fun g2 x c2 hx=>?_)
  have e2:IsZip g2 z u o .ellipsis:=c2 _ _ z1 e1
  have xz:=away g2 x e2 hx
  obtain⟨q,hq,cq⟩:=hx
  refine wpAny_setField_rec e2 (by simp) fun g3 _ c3=>?_
  refine wpAny_bind (wpAny_isInstance (T:="StopIteration") (b:=true) ⟨q,c3.extBut _ _ xz hq,cq⟩ isSubtype_stop (wpAny_pure (k g3 fun c r h e=>?_)))
  obtain⟨y1,y2,y3,y4⟩:=nz c h
  exact c3.extBut _ _ y1 (c2 _ _ y3 (b1'.extBut _ _ y1 e))
 | some x=>
  have ey:ys[n]? = none:=by rcases en with h | h; rw[ex]at h; cases h; exact h
  refine wpAny_bind (x79 (h1.extBut b1'.extBut (Ne.symm z1)) (t1.extBut b1'.extBut az) ex fun g2 e2 c2=>wpAny_pure ?_)
  have q2:IsPair g2 o a b:=c2.extBut _ _ o1 (b1'.extBut _ _ (Ne.symm zo) ho)
  refine wpAny_bind (wpAny_seqItems q2 rfl (wpAny_bind (y4b (g:=g2) q2 fun g3 e3 c3=>wpAny_bind (wpAny_letGo (wpAny_pure ?_)))))
  refine wpAny_bind (wpAny_bind (wpAny_onRaise ?_)); show wpAny _ _ (Builtin.SmallTypes.nextOf (.ref i2) >>= _) _ _ _
  refine wpAny_bind (y1t hh (((h2.extBut b1'.extBut (Ne.symm z2)).extBut c2.extBut (Ne.symm i12)).extBut c3.extBut (Ne.symm o2)) (((t2.extBut b1'.extBut bz).extBut c2.extBut b1).extBut c3.extBut bo) ey fun g4 x' c4 hx=>?_)
  have e4:IsZip g4 z u o .ellipsis:=c4 _ _ z2 (c3.extBut _ _ zo (c2.extBut _ _ z1 e1))
  have xz:=away g4 x' e4 hx
  obtain⟨q,hq,cq⟩:=hx
  refine wpAny_setField_rec e4 (by simp) fun g5 _ c5=>?_
  refine wpAny_bind (wpAny_isInstance (T:="StopIteration") (b:=true) ⟨q,c5.extBut _ _ xz hq,cq⟩ isSubtype_stop (wpAny_pure (k g5 fun c r h e=>?_)))
  obtain⟨y1,y2,y3,y4⟩:=nz c h
  exact c5.extBut _ _ y1 (c4 _ _ y4 (c3.extBut _ _ y2 (c2.extBut _ _ y3 (b1'.extBut _ _ y1 e))))
theorem z4c {p1 p2:Addr} {xs ys:Array Value} {Q:Value->Shared->Prop} (t1:s.heap.IsTuple p1 xs) (t2:s.heap.IsTuple p2 ys)
  (k:∀ g:Heap,ZT g (s.heap.objs.size+4) (s.heap.objs.size+2) (s.heap.objs.size+3) s.heap.objs.size (s.heap.objs.size+1) p1 p2 .none 0 0->(∀ c q,s.heap.get? c=some q->g.get? c=some q)->Q (.ref (s.heap.objs.size+4)) { s with heap:=g }) :
  wpAny (model prog w) A (call (.type "zip") [.ref p1,.ref p2]) Q E s:=by
 let g1:=s.heap.push { cls:=.type "tuple_iterator",data:=.fields #[.ref p1,.int 0 0] }
 let g2:=g1.push { cls:=.type "tuple_iterator",data:=.fields #[.ref p2,.int 0 0] }
 let g3:=g2.push { cls:=.type "tuple",data:=.seq #[.ref s.heap.objs.size,.ref g1.objs.size] }
 let g4:=g3.push { cls:=.type "tuple",data:=.seq #[.none,.none] }
 let g5:=g4.push { cls:=.type "zip",data:=.fields #[.none,.bool false,.bool false,.ref g2.objs.size,.ref g3.objs.size] }
 have mt:Meets (Builtin.«zip.__new__» ⟨[.type "zip",.ref p1,.ref p2],[]⟩) (fun _ R s'=>s'=s/\R (.ok (.ret (.ref g4.objs.size))) { s with heap:=g5 }):=.of_wp fun prog w A R s' h=>by
  obtain⟨rfl,h⟩:=h
  have hsub:=sub_zip
  obtain⟨hp,gn,dr,tk,os⟩:=s'
  have q1:Heap.IsTuple (Shared.heap ⟨hp,gn,dr,tk,os⟩) p1 xs:=t1
  have q2:Heap.IsTuple (Shared.heap ⟨hp.push { cls:=.type "tuple_iterator",data:=.fields #[.ref p1,.int 0 0] },gn,dr,tk,os⟩) p2 ys:=t2.push _
  wp_walk using wpAny_pyIter_tuple q1,wpAny_pyIter_tuple q2
  exact⟨_,rfl,h⟩
 refine callType_new F.called_zip (by decide) (F.typeCall_zip_2 _ _) (F.newCall_zip_2 _ _) (fun obj=>F.args_object_init_3 obj _ _) F.entry_zip_new mt ⟨rfl,?_⟩
 have s1:g1.objs.size=s.heap.objs.size+1:=Heap.size_push ..
 have s2:g2.objs.size=s.heap.objs.size+2:=by rw[Heap.size_push,s1]
 have s3:g3.objs.size=s.heap.objs.size+3:=by rw[Heap.size_push,s2]
 have s4:g4.objs.size=s.heap.objs.size+4:=by rw[Heap.size_push,s3]
 have a5:g5.get? g4.objs.size=some { cls:=.type "zip",data:=.fields #[.none,.bool false,.bool false,.ref g2.objs.size,.ref g3.objs.size] }:=Heap.get?_push_size _ rfl
 have up4:∀ {c q},g3.get? c=some q->g5.get? c=some q:=fun e=>Heap.get?_push_of_some _ (Heap.get?_push_of_some _ e)
 have a4:g5.get? g3.objs.size=some { cls:=.type "tuple",data:=.seq #[.none,.none] }:=Heap.get?_push_of_some _ (Heap.get?_push_size _ rfl)
 have a3:g5.get? g2.objs.size=some { cls:=.type "tuple",data:=.seq #[.ref s.heap.objs.size,.ref g1.objs.size] }:=up4 (Heap.get?_push_size _ rfl)
 have a2:g5.get? g1.objs.size=some { cls:=.type "tuple_iterator",data:=.fields #[.ref p2,.int 0 0] }:=up4 (Heap.get?_push_of_some _ (Heap.get?_push_size _ rfl))
 have a1:g5.get? s.heap.objs.size=some { cls:=.type "tuple_iterator",data:=.fields #[.ref p1,.int 0 0] }:=up4 (Heap.get?_push_of_some _ (Heap.get?_push_of_some _ (Heap.get?_push_size _ rfl)))
 rw[s2,s3,s4]at a5
 rw[s3]at a4
 rw[s1,s2]at a3
 rw[s1]at a2
 show _/\_
 rw[s4]
 exact⟨⟨_,a5,rfl⟩,k g5 ⟨a5,a3,⟨_,_,a4⟩,⟨_,a1,rfl,rfl⟩,⟨_,a2,rfl,rfl⟩⟩ fun c q e=>up4 (Heap.get?_push_of_some _ (Heap.get?_push_of_some _ (Heap.get?_push_of_some _ e)))⟩
end
theorem y6b {X:Cx} {pins:List (Addr × Obj)} {σ:St} {H:Hp} {s:Shared} {h':Heap} {t':Nat} {ch:List Addr} (I:Inv X pins σ H s) (k:∀ b o,b ∉ ch->s.heap.get? b=some o->h'.get? b=some o) (hf:∀ b∈ch,z18 X pins H b) :
  Inv X pins σ H { s with heap:=h',toks:=t' }:=by
 have nit:∀ b u,H b=some u->b ∉ ch:=fun b u e z=>by rw[(hf b z).1]at e; cases e
 refine I.step (g':=s.gens) (d':=s.drawn) (ch:=ch) (fun b hb=>?_) (fun b o _ _ hc e _=>k b o hc e) (fun b o _ _ hc e _=>⟨o.slots,k b o hc e⟩) (fun _ _ _ _ n=>n)
  (fun b o hc e=>⟨o,k b o hc e⟩) (fun _ _ e=>e) (fun _ _ _ e=>e) (fun b ps e=>⟨#[],by rw[e]; simp⟩) (fun m hm=>?_) (fun b u e=>?_) I.bare
 ·obtain⟨f0,f1,f2,f3,f4,f5⟩:=hf b hb
  exact⟨f3,f1,f4,f5⟩
 ·obtain⟨o,es,ep,ho,r⟩:=hm
  exact⟨o,es,ep,k _ o (fun z=>(hf _ z).2.1 rfl) ho,r⟩
 ·refine(I.hok b u e).stay (fun c v hc q=>k c v ?_ q) (fun _ q=>q) fun _ _ q=>q
  rcases hc with z | z
  ·rw[z]; exact nit b u e
  ·exact nit c _ z
noncomputable def Itz (K:PySem.W.Frag) (p1 p2:Addr):It:=
 ⟨fun i H=>∃ xs ys x y,SqT K H p1 xs/\SqT K H p2 ys/\xs[i]? = some x/\ys[i]? = some y,
  fun i H v H'=>∃ T x y,v=.ref T/\H T=none/\(∀ xs,SqT K H p1 xs->xs[i]? = some x)/\(∀ ys,SqT K H p2 ys->ys[i]? = some y)/\H'=upd H T (.tup [x,y]),
  fun i H=>∃ xs ys,SqT K H p1 xs/\SqT K H p2 ys/\(xs.length<=i\/ys.length<=i)⟩
theorem z4x {P:Program} {w:World} {K:PySem.W.Frag} {elts:List Expr} {kt:Nat} {tp:Pos} (z u o i1 i2 p1 p2:Addr) (d:ZA z u o i1 i2) (n1:p1 ∉ zfp z u o i1 i2) (n2:p2 ∉ zfp z u o i1 i2) :
  Turn P w K (.Tuple elts kt tp) (Itz K p1 p2) (zfp z u o i1 i2) z (fun i h=>ZT h z u o i1 i2 p1 p2 .none i i) where
 mem:=by simp[zfp]
 obj:=fun i h st b hb=>by
  obtain⟨hz,hu,⟨a,c,ho⟩,⟨o1,e1,c1,d1⟩,⟨o2,e2,c2,d2⟩⟩:=st
  simp only[zfp,List.mem_cons,List.not_mem_nil,or_false]at hb
  rcases hb with rfl | rfl | rfl | rfl | rfl
  ·exact⟨_,hz,fun v e=>nomatch e⟩
  ·exact⟨_,hu,fun v e=>nomatch e⟩
  ·exact⟨_,ho,fun v e=>nomatch e⟩
  ·exact⟨_,e1,fun v e=>by rw[d1]at e; cases e⟩
  ·exact⟨_,e2,fun v e=>by rw[d2]at e; cases e⟩
 keep:=fun i h h' st k=>by
  obtain⟨hz,hu,⟨a,c,ho⟩,h1,h2⟩:=st
  exact⟨k z (by simp[zfp]) _ hz,k u (by simp[zfp]) _ hu,⟨a,c,k o (by simp[zfp]) _ ho⟩,h1.at fun q e=>k i1 (by simp[zfp]) q e,h2.at fun q e=>k i2 (by simp[zfp]) q e⟩
 item:=by
  intro X hP hw hK hc i pins s σ H E I hf st hg
  subst hP hw hK
  obtain⟨xs,ys,x,y,q1,q2,ex,ey⟩:=hg
  obtain⟨as,ra,ta,_⟩:=I.tuple q1
  obtain⟨bs,rb,tb,_⟩:=I.tuple q2
  obtain⟨ux,hx,rx⟩:=ra.get ex
  obtain⟨uy,hy,ry⟩:=rb.get ey
  refine z21 d st (show s.heap.IsTuple p1 as.toArray from ta) (show s.heap.IsTuple p2 bs.toArray from tb) n1 n2 (by simpa using hx) (by simpa using hy) fun g Z nw kp=>?_
  refine⟨_,rfl,wpAny_letOwnedTupleGo_zip (s:={ s with heap:=g }) Z.hz fun g' hz' sb=>?_⟩
  have fr:H s.heap.objs.size=none:=I.hok.fresh (Nat.le_refl _)
  have I1:Inv X pins σ (upd H s.heap.objs.size (.tup [x,y])) { s with heap:=s.heap.push { cls:=.type "tuple",data:=.seq #[ux,uy] } }:=
   I.laid (t':=s.toks) (fun b q e=>Heap.get?_push_of_some _ e) (Nat.le_refl _) (show x37 X.prog X.w _ _ _ (.tup _)from⟨(by show 2<=sizeLine; decide),[ux,uy],.cons rx (.cons ry .nil),x54.new _ _⟩)
  have lt:∀ b∈zfp z u o i1 i2,b<s.heap.objs.size:=fun b hb=>by
   obtain⟨hz,hu,⟨a,c,ho⟩,⟨o1,e1,_⟩,⟨o2,e2,_⟩⟩:=st
   simp only[zfp,List.mem_cons,List.not_mem_nil,or_false]at hb
   rcases hb with rfl | rfl | rfl | rfl | rfl
   ·exact Heap.lt_size hz
   ·exact Heap.lt_size hu
   ·exact Heap.lt_size ho
   ·exact Heap.lt_size e1
   ·exact Heap.lt_size e2
  have hn:∀ b∈zfp z u o i1 i2,upd H s.heap.objs.size (.tup [x,y]) b=none:=fun b hb=>by rw[x0q (Nat.ne_of_lt (lt b hb))]; exact(hf b hb).1
  have I2:Inv X pins σ (upd H s.heap.objs.size (.tup [x,y])) { s with heap:=g' }:=y6b (s:={ s with heap:=s.heap.push { cls:=.type "tuple",data:=.seq #[ux,uy] } }) (t':=s.toks) (ch:=zfp z u o i1 i2) I1 (fun b q nb e=>by
   have bz:b≠z:=fun h=>nb (by simp[zfp,h])
   rcases Heap.get?_push_cases e with⟨rfl,rfl⟩ | e'
   ·exact sb.extBut _ _ bz nw
   ·exact sb.extBut _ _ bz (kp b q nb e')) fun b hb=>by
     obtain⟨f0,f1,f2,f3,f4,f5⟩:=hf b hb
     exact⟨hn b hb,f1,f2,f3,f4,f5⟩
  refine⟨.ref s.heap.objs.size,_,I2,rfl,⟨s.heap.objs.size,x,y,rfl,fr,fun zs hz=>?_,fun zs hz=>?_,rfl⟩,?_,hn⟩
  ·rw[I.tuple_inj hz q1]; exact ex
  ·rw[I.tuple_inj hz q2]; exact ey
  ·obtain⟨_,hu,⟨a,c,ho⟩,h1,h2⟩:=Z
   obtain⟨zu,zo,z1,z2,_⟩:=d.ne
   exact⟨hz',sb.extBut _ _ (Ne.symm zu) hu,⟨a,c,sb.extBut _ _ (Ne.symm zo) ho⟩,h1.extBut sb.extBut (Ne.symm z1),h2.extBut sb.extBut (Ne.symm z2)⟩
 done:=by
  intro X hP hw hK hc i pins s σ H E I hf st hg
  subst hP hw hK
  obtain⟨xs,ys,q1,q2,hx⟩:=hg
  obtain⟨as,ra,ta,_⟩:=I.tuple q1
  obtain⟨bs,rb,tb,_⟩:=I.tuple q2
  have la:=ra.length
  have lb:=rb.length
  refine z55 (I.ok.hd hc) d st (show s.heap.IsTuple p1 as.toArray from ta) (show s.heap.IsTuple p2 bs.toArray from tb) n1 n2 (by rcases hx with h | h; exact .inl (by simp; omega); exact .inr (by simp; omega)) fun g kp=>⟨rfl,?_⟩
  exact y6b (t':=s.toks) (ch:=zfp z u o i1 i2) I (fun b q nb e=>kp b q nb e) hf
 self:=fun _ _ _ _ _ st h=>wpAny_pyIter_zip st.hz h
section
variable {X:Cx} {a b c e:Expr} {es elts:List Expr} {fa fb fc f:Den} {g:x2c} {pos p p1 p2 tp:Pos} {kt:Nat}
noncomputable def j6w (K:PySem.W.Frag) (ta:TA):TI:=fun σ H R=>ta σ H fun vs H1=>∃ p1 p2,vs=[.ref p1,.ref p2]/\(∃ xs,SqT K H1 p1 xs)/\(∃ ys,SqT K H1 p2 ys)/\R (Itz K p1 p2) H1
theorem j1s {ta:TA} (hg:Gl X "zip") (hm:X.mg "zip" = none) (ha:PA X [a,b] ta) (hs:starEach [a,b] X.env=[(false,eval a X.env),(false,eval b X.env)]:=by rfl) (hs2:starEach [b] X.env=[(false,eval b X.env)]:=by rfl) :
  PI X (.Tuple elts kt tp) (.Call (.Name "zip" p) [a,b] [] pos) (j6w X.K ta):=by
 intro pins s σ H R I h
 refine Call_ (y20 I hg hm boot_zip (PyProof.Rows.callWith_type1 (thn (ha pos pins s σ H _ I h) fun us s1 ⟨vs,H1,I1,r1,q1⟩=>?_) (by rw[hs,hs2]) (by rw[hs2]; rfl)))
 obtain⟨p1,p2,e,⟨xs,hx⟩,⟨ys,hy⟩,q⟩:=q1
 subst e
 cases r1 with
 | cons r rr=>
  cases rr with
  | cons r' rr=>
   cases rr
   cases r
   cases r'
   obtain⟨as,ra,ta',_⟩:=I1.tuple hx
   obtain⟨bs,rb,tb,_⟩:=I1.tuple hy
   have l1:p1<s1.heap.objs.size:=by obtain⟨_,e,_⟩:=ta'; exact Heap.lt_size e
   have l2:p2<s1.heap.objs.size:=by obtain⟨_,e,_⟩:=tb; exact Heap.lt_size e
   refine z4c (show s1.heap.IsTuple p1 as.toArray from ta') (show s1.heap.IsTuple p2 bs.toArray from tb) fun g Z kp=>?_
   have I2:Inv X pins σ H1 { s1 with heap:=g }:=I1.kept (t':=s1.toks) kp
   refine wpAny_pyIter_zip Z.hz ?_
   have dd:ZA (s1.heap.objs.size+4) (s1.heap.objs.size+2) (s1.heap.objs.size+3) s1.heap.objs.size (s1.heap.objs.size+1):=⟨by
    generalize s1.heap.objs.size=n
    unfold zfp
    simp only[List.nodup_cons,List.mem_cons,List.not_mem_nil,or_false,not_or,not_false_eq_true,List.nodup_nil,and_true]
    have ne:∀ {x y:Nat},x≠y->(x:Addr)≠(y:Addr):=fun h=>h
    refine⟨⟨ne ?_,ne ?_,ne ?_,ne ?_⟩,⟨ne ?_,ne ?_,ne ?_⟩,⟨ne ?_,ne ?_⟩,ne ?_⟩ <;> (intro h; have h':(_:Nat)=(_:Nat):=h; omega)⟩
   have far:∀ b∈zfp (s1.heap.objs.size+4) (s1.heap.objs.size+2) (s1.heap.objs.size+3) s1.heap.objs.size (s1.heap.objs.size+1),s1.heap.objs.size<=b:=fun b hb=>by
    simp only[zfp,List.mem_cons,List.not_mem_nil,or_false]at hb
    rcases hb with rfl | rfl | rfl | rfl | rfl <;> first | exact Nat.le_refl _ | exact Nat.le_add_right _ _
   refine⟨s1.heap.objs.size+4,zfp (s1.heap.objs.size+4) (s1.heap.objs.size+2) (s1.heap.objs.size+3) s1.heap.objs.size (s1.heap.objs.size+1),_,_,H1,rfl,I2,z4x _ _ _ _ _ p1 p2 dd (fun h=>absurd (far _ h) (Nat.not_le_of_lt l1)) (fun h=>absurd (far _ h) (Nat.not_le_of_lt l2)),Z,fun b hb=>?_,q⟩
   exact I1.fpOk (far b hb) (I1.hok.fresh (far b hb))
@[simp] noncomputable def z1e (g:x2c):y2s:=fun ρ=>match g ρ with
 | some ([.tup ds,.tup es],ρ1)=>if ds.length<=1000 then some ((ds.zip es).map fun x=>.tup [x.1,x.2],ρ1)else none
 | _=>none
theorem It.zip {K:PySem.W.Frag} {p1 p2:Addr} {vs us:List V} {ds es:List D} (l1:ds.length=vs.length) (l2:es.length=us.length):ItOk K (Itz K p1 p2) ((ds.zip es).map fun x=>.tup [x.1,x.2]) fun H w=>SqT K H p1 vs/\SqT K H p2 us/\Reps K H w .f 0 ds vs []/\Reps K H w .f 0 es us []:=by
 refine⟨fun i H w p hi=>?_,fun i H w x H' d p wl hd y=>?_,fun H w p=>⟨vs,us,p.1,p.2.1,?_⟩,fun H w H' w' p wl st=>⟨SqT.go wl st p.1,SqT.go wl st p.2.1,Reps.go wl st p.2.2.1 (fun _ z=>nomatch z),Reps.go wl st p.2.2.2 (fun _ z=>nomatch z)⟩⟩
 ·have hi':i<vs.length/\i<us.length:=by simp[List.length_zip]at hi; omega
  exact⟨vs,us,vs[i]'hi'.1,us[i]'hi'.2,p.1,p.2.1,by simp[hi'.1],by simp[hi'.2]⟩
 ·obtain⟨T,v,u,rfl,hT,hv,hu,rfl⟩:=y
  obtain⟨q1,q2,r1,r2⟩:=p
  rw[List.getElem?_map]at hd
  cases hz:(ds.zip es)[i]? with
  | none=>rw[hz]at hd; cases hd
  | some de=>
   rw[hz]at hd
   cases hd
   obtain⟨e1,e2⟩:=List.getElem?_zip_eq_some.mp hz
   obtain⟨v',hv',rv⟩:=r1.get e1
   obtain⟨u',hu',ru⟩:=r2.get e2
   have ev:v'=v:=by have:=hv vs q1; rw[hv']at this; exact Option.some.inj this
   have eu:u'=u:=by have:=hu us q2; rw[hu']at this; exact Option.some.inj this
   subst ev eu
   have mo:∀ a o,H a=some o->upd H T (.tup [v',u']) a=some o:=fun a o e=>by rw[x0q (x11 e hT)]; exact e
   have st:x7d H w (upd H T (.tup [v',u'])) w:=fun a x e n=>⟨sm (mo a x e),n⟩
   exact⟨⟨mo,fun t=>t.upd rfl (.inl hT)⟩,.tup x1n (.cons (F:=[]) (G:=[]) (Rep.go0 rv wl st) (.cons (F:=[]) (G:=[]) (Rep.go0 ru wl st) .nil (fun _ z=>nomatch z)) (fun _ z=>nomatch z)),SqT.go wl st q1,SqT.go wl st q2,r1.go0 wl st,r2.go0 wl st⟩
 ·simp[List.length_zip]; omega
theorem z8r (hm:X.mg "zip" = none) (ha:PDA X [a,b] g) (hg:Gl X "zip":=by rfl) (hs:starEach [a,b] X.env=[(false,eval a X.env),(false,eval b X.env)]:=by rfl) (hs2:starEach [b] X.env=[(false,eval b X.env)]:=by rfl) :
  PDI X (.Tuple elts kt tp) (.Call (.Name "zip" p) [a,b] [] pos) (z1e g):=PI.imp (j1s hg hm ha hs hs2) fun σ H R hh0=>by
 obtain⟨ρ,w,t,ds,ρ',gd,ee,k⟩:=hh0
 unfold z1e at ee
 split at ee
 ·rename_i d1 d2 ρ1 h1
  split at ee
  ·rename_i hl
   cases ee
   refine⟨ρ,w,t,_,_,gd,h1,fun vs H1 w1 g1 go1 r1=>?_⟩
   obtain⟨v,v',rfl,rv,rv'⟩:=two r1
   obtain⟨p1,as,rfl,q1,s1⟩:=rv.seqT
   obtain⟨p2,bs,rfl,q2,s2⟩:=rv'.seqT
   refine⟨p1,p2,rfl,⟨_,q1⟩,⟨_,q2⟩,k _ _ H1 w1 g1 go1 (It.zip s1.length s2.length) ⟨q1,q2,s1,s2⟩ (x3y ?_)⟩
   simp[List.length_zip]; omega
  ·cases ee
 ·cases ee
end
noncomputable abbrev y0s:=List D->Rho->Option Rho
noncomputable def j6u (K:PySem.W.Frag) (b:Nat) (pt:y0s):TGs:=fun vs σ H Q=>∃ ds ρ w t ρ',Good K ρ σ H w t/\Reps K H w .f 0 ds vs []/\pt ds ρ=some ρ'/\∀ σ' H' w',σ'.length=σ.length->(∀ i,i<b->σ'[i]? = σ[i]?)->Good K ρ' σ' H' w' t->Go H w H' w'->Q σ' H'
theorem PGs.imp {X:Cx} {tg:List Expr} {t t':TGs} (h:PGs X tg t) (i:∀ v σ H Q,t' v σ H Q->t v σ H Q):PGs X tg t':=fun pins s σ H v u Q I r q=>h pins s σ H v u Q I r (i v σ H Q q)
noncomputable abbrev j3f (X:Cx) (b:Nat) (tg:List Expr) (pt:y0s):Prop:=PGs X tg (j6u X.K b pt)
@[simp] noncomputable def x5s:y0s:=fun ds ρ=>match ds with
 | []=>some ρ
 | _=>none
@[simp] noncomputable def x10 (pt:x6q) (ps:y0s):y0s:=fun ds ρ=>match ds with
 | []=>none
 | d::r=>match pt d ρ with
  | some ρ1=>ps r ρ1
  | none=>none
@[simp] noncomputable def y3d (ps:y0s):x6q:=fun d ρ=>match d with
 | .tup ds=>ps ds ρ
 | _=>none
section
variable {X:Cx} {k b:Nat} {e:Expr} {es:List Expr} {pt:x6q} {ps:y0s} {pos:Pos}
theorem z3n:j3f X b [] x5s:=PGs.imp z7q fun v σ H Q hh0=>by
 obtain⟨ds,ρ,w,t,ρ',g,r,e,k⟩:=hh0
 unfold x5s at e
 split at e
 ·cases e
  generalize hF:([]:List Addr)=F at r
  cases r
  exact⟨rfl,k σ H w rfl (fun _ _=>rfl) g Go.refl⟩
 ·cases e
theorem z1f (h1:PDG X b e pt) (h2:j3f X b es ps) (hs:(assignEach (e::es) X.env).map (·.2)=assign e X.env::(assignEach es X.env).map (·.2):=by rfl):j3f X b (e::es) (x10 pt ps):=PGs.imp (z4z h1 h2 hs) fun v σ H Q hh0=>by
 obtain⟨ds,ρ,w,t,ρ',g,r,e,k⟩:=hh0
 unfold x10 at e
 split at e
 ·cases e
 ·rename_i d x2o
  split at e
  ·rename_i ρ1 h1
   generalize hF:([]:List Addr)=F at r
   cases r with
   | cons ra rb _=>
    have z1:=ra.zero
    have z2:=rb.zero
    subst z1 z2
    refine⟨_,_,rfl,d,ρ,w,t,ρ1,g,ra,h1,fun σ1 H1 w1 l1 s1 g1 go1=>⟨x2o,ρ1,w1,t,ρ',g1,rb.go0 g.wl go1.stab,e,fun σ2 H2 w2 l2 s2 g2 go2=>k σ2 H2 w2 (l2.trans l1) (fun i hi=>(s2 i hi).trans (s1 i hi)) g2 (go1.trans go2)⟩⟩
  ·cases e
theorem z6g {n:Nat} (hc:X.calm=true) (h:j3f X b es ps) (hl:∀ ds ρ ρ',ps ds ρ=some ρ'->ds.length=n) (hn:(assignEach es X.env).length=n:=by rfl) (hst:(assignEach es X.env).findIdx? (·.1)=none:=by rfl):PDG X b (.Tuple es k pos) (y3d ps):=PG.imp (j36 hc h hn hst) fun v σ H Q hh0=>by
 obtain⟨d,ρ,w,t,ρ',g,r,e,k⟩:=hh0
 unfold y3d at e
 split at e
 ·rename_i ds
  obtain⟨a,vs,rfl,hq,rs⟩:=r.seqT
  exact⟨a,vs,rfl,hq,by rw[<- rs.length]; exact hl _ _ _ e,ds,ρ,w,t,ρ',g,rs,e,k⟩
 ·cases e
theorem y71 {p q:x6q}:∀ ds ρ ρ',x10 p (x10 q x5s) ds ρ=some ρ'->ds.length=2:=fun ds ρ ρ' h=>by
 match ds with
 | []=>cases h
 | [_]=>unfold x10 at h; simp at h; split at h <;> cases h
 | [_,_]=>rfl
 | _::_::_::_=>
  exfalso
  unfold x10 at h
  simp at h
  split at h
  ·split at h <;> cases h
  ·cases h
end
theorem y5n:∀ {bs:List Bool} {us:List Value},x2z (bs.map V.bl) us->LSm.BoolsAre us bs
 | [],_,h=>by cases h; exact .nil
 | b::bs,_,h=>by
  cases h with
  | cons r rr=>
   cases r
   exact .cons b (y5n rr)
section
variable {X:Cx} {a b c e:Expr} {es:List Expr} {fa fb fc f:Den} {g:x2c} {pos p p1 p2:Pos}
theorem z2s (hc:X.calm=true):y0u X (.builtin "all") (fun xs H Q=>∃ (a:Addr) (bs:List Bool),xs=[.ref a]/\SqL X.K H a (bs.map V.bl)/\Q (.bl (bs.all id)) H):=by
 intro pins s σ H xs us Q I r h
 obtain⟨l,bs,rfl,hq,q⟩:=h
 obtain⟨u,rfl,ru⟩:=y3o r
 cases ru
 obtain⟨its,rv,pl,hz⟩:=I.list hq
 have hb:=y5n rv
 have hl:s.heap.IsList l its.toArray:=pl.isList
 have lt:l<s.heap.objs.size:=by obtain⟨_,e,_⟩:=hl; exact Heap.lt_size e
 refine call_all_walk (wpAny_pyIter_list hl ⟨s.heap.objs.size,[s.heap.objs.size,l],[s.heap.objs.size],its.toArray.size,_,_,fun i=>(bs[i]?).getD true,rfl,Walks.list (A:=X.A.in1) (I.ok.hd hc) _ l (Nat.ne_of_lt lt) its.toArray,
  ⟨⟨_,Heap.get?_push_size _ rfl,rfl,rfl⟩,hl.push _⟩,fun i v s' Q' E' hP hQ=>?_,fun h' tk hk=>?_⟩)
 ·obtain⟨b,e,rfl⟩:=hb.get i v (by simpa using hP)
  simp only[e,Option.getD_some]at hQ
  exact wpAny_truthy_bool hQ
 ·have e:((List.range its.toArray.size).all fun i=>(bs[i]?).getD true)=bs.all id:=by
   rw[List.size_toArray,hb.length]; exact LSm.range_all bs
  rw[e]
  exact⟨.bl (bs.all id),H,I.kept fun b o z=>hk b o (fun m=>by rw[List.mem_singleton.mp m]at z; exact Nat.lt_irrefl _ (Heap.lt_size z)) (Heap.get?_push_of_some _ z),rfl,q⟩
noncomputable def z5k:List D->Option (List Bool)
 | []=>some []
 | .bl b::r=>(z5k r).map (b :: ·)
 | _=>none
noncomputable def z48:List D->Option D
 | [.lst ds]=>(z5k ds).map fun bs=>.bl (bs.all id)
 | _=>none
theorem y5p {K:PySem.W.Frag} {H:Hp} {w:Wn} {o:Ow}:∀ {ds:List D} {vs:List V} {bs:List Bool},Reps K H w o 0 ds vs []->z5k ds=some bs->vs=bs.map V.bl
 | ds,vs,bs,r,e=>by
  generalize hF:([]:List Addr)=F at r
  cases r with
  | nil=>cases e; rfl
  | @cons _ d v ds' vs' F' G' r1 r2 _=>
   have h2:G'=[]:=r2.zero
   subst h2
   cases r1 with
   | bl b=>
    unfold z5k at e
    cases e':z5k ds' with
    | none=>rw[e']at e; cases e
    | some bs'=>
     rw[e']at e
     cases e
     rw[y5p r2 e']
     rfl
   | _=>cases e
theorem j0c (hc:X.calm=true) (hm:X.mg "all" = none) (ha:PDA X [a] g) (hg:Gl X "all":=by rfl) (he:starEach [a] X.env=(false,eval a X.env)::starEach [] X.env:=by rfl) (hpl:(backTo pos (starEach [] X.env)).any (·.1)=false:=by rfl):PD X (.Call (.Name "all" p) [a] [] pos) (eB z48 g):=
 PE.imp (x66 (z2s hc) hg hm PyProof.Rows.boot_all ha (by decide) (by decide) he hpl) (z1u fun ds d h=>by
  unfold z48 at h
  split at h
  ·rename_i ds0
   cases e:z5k ds0 with
   | none=>rw[e]at h; cases h
   | some bs=>
    rw[e]at h
    cases h
    refine⟨_,rfl,fun H w vs wl r Q hq=>?_⟩
    obtain⟨v,rfl,rv⟩:=one r
    obtain⟨p,ys,rfl,hs,rs⟩:=rv.seqL0
    rw[y5p rs e]at hs
    exact⟨p,bs,rfl,hs,hq⟩
  ·cases h)
theorem y8a {α:Type} (l:List α) (f:α->Bool):z5k (l.map fun i=>.bl (f i))=some (l.map f):=by
 induction l with
 | nil=>rfl
 | cons a l ih=>rw[List.map_cons,z5k,ih]; rfl
end
inductive IT where
 | int | bool | tuple | list | str
noncomputable def IT.nm:IT->String
 | .int=>"int"
 | .bool=>"bool"
 | .tuple=>"tuple"
 | .list=>"list"
 | .str=>"str"
noncomputable def isD:IT->D->Bool
 | .int,.int _=>true
 | .int,.bl _=>true
 | .bool,.bl _=>true
 | .tuple,.tup _=>true
 | .list,.lst _=>true
 | .str,.str _=>true
 | _,_=>false
noncomputable def tyD:D->String
 | .non=>"NoneType"
 | .bl _=>"bool"
 | .int _=>"int"
 | .str _=>"str"
 | .tup _=>"tuple"
 | .dic _ _=>"dict"
 | .exc _=>"object"
 | .ob _ _ _ _=>"function"
 | .lst _=>"list"
section
variable {X:Cx} {pins:List (Addr × Obj)} {σ:St} {H:Hp} {s:Shared}
theorem z9q {w:Wn} {o:Ow} {q:Nat} {F:List Addr} {d:D} {x:V} {u c:Value} {b:Bool} {A:Around} {E:Value->Shared->Prop} {Q:Value->Shared->Prop} (I:Inv X pins σ H s) (rx:x47 x u) (r:Rep X.K H w o q d x F)
  (e:PySem.W.kitOne X.K (.type (tyD d)) c=some b) (hx:∀ nm,d ≠ .exc nm) (h:∀ tk,Q (.bool b) { s with toks:=tk }):wpAny (model X.prog X.w) A (call (.builtin "isinstance") [u,c]) Q E s:=by
 cases r with
 | exc _ _ _=>exact absurd rfl (hx _)
 | ob h1 h2 x r=>
  cases rx
  obtain⟨e1,_⟩:=(show x37 X.prog X.w H s.heap _ (.frz _ _)from I.hok _ _ h1)
  exact PySem.W.kia_one z5h I.kIn ⟨_,e1,x.1⟩ e (fun z=>nomatch z) h
 | non=>exact x3x I rx .non e h
 | bl y=>exact x3x I rx (.bl y) e h
 | int i=>exact x3x I rx (.int i) e h
 | str y=>exact x3x I rx (.str y) e h
 | tup ha _=>exact x3x I rx (.tup ha) e h
 | dic ha _=>exact x3x I rx (.dK ha) e h
 | kl ha _=>
  obtain⟨ob,its,n,hk,hc,hd,_⟩:=ha
  cases rx
  exact PySem.W.kia_one PySem.W.kitx_list I.kIn ⟨ob,I.kIn _ _ hk,hc⟩ e (fun z=>nomatch z) h
 | shr ha _ _=>
  rcases ha with ha | ⟨ob,ha⟩
  ·exact x3x I rx (.lst ha) e h
  ·exact x3x I rx (.frz ha) e h
 | own ha _ _ _=>exact x3x I rx (.lst ha) e h
theorem z73 {K:PySem.W.Frag} (T:IT) (d:D) (hx:∀ nm,d ≠ .exc nm):PySem.W.kitOne K (.type (tyD d)) (.type T.nm)=some (isD T d):=by
 cases T <;> cases d <;> first | rfl | exact absurd rfl (hx _)
end
section
variable {X:Cx} {a b c e:Expr} {es:List Expr} {fa fb fc f:Den} {ga gb:x2b} {g:x2c} {pos p p1 p2 pT:Pos}
theorem z2u (T:IT):y0u X (.builtin "isinstance") (fun xs H Q=>∃ x w o q F d,xs=[x,.ty T.nm]/\Rep X.K H w o q d x F/\Q (.bl (isD T d)) H):=by
 intro pins s σ H xs us Q I r h
 obtain⟨x,w,o,q,F,d,rfl,rd,hq⟩:=h
 obtain⟨u,v,rfl,ru,rv⟩:=j1r r
 cases rv
 by_cases hx:∃ nm,d=.exc nm
 ·obtain⟨nm,rfl⟩:=hx
  cases rd with
  | exc ha xo _=>
   obtain⟨C,hc,k⟩:=xo
   cases ru
   obtain⟨e1,_⟩:=(show x37 X.prog X.w H s.heap _ (.frz _ _)from I.hok _ _ ha)
   have hT:isD T (.exc nm)=false:=by cases T <;> rfl
   rw[hT]at hq
   refine j0v (x:=_) I.kIn ⟨e1,hc⟩ k.xc (by cases T <;> kernel_rfl) (k.no _ (by cases T <;> simp[IT.nm])) ⟨.bl false,H,I.tok _,rfl,hq⟩
 ·exact z9q I ru rd (z73 T d fun nm z=>hx ⟨nm,z⟩) (fun nm z=>hx ⟨nm,z⟩) fun tk=>⟨.bl (isD T d),H,I.tok _,rfl,hq⟩
@[simp] noncomputable def z2i (T:IT) (fa:Den):Den:=fun ρ=>match fa ρ with
 | some (d,_,ρ1)=>some (.bl (isD T d),9,ρ1)
 | none=>none
theorem j37 (T:IT) {t:Str} (hm:X.mg "isinstance" = none) (hmT:X.mg t=none) (hbT:bootBuiltins t=some (.type T.nm)) (ha:PD X a fa) (hg:Gl X "isinstance":=by rfl) (hgT:Gl X t:=by rfl) (hnT:t ≠ "__name__":=by decide) (hdT:(t == ("__debug__":Str))=false:=by decide)
  (hs:starEach [a,.Name t pT] X.env=(false,eval a X.env)::starEach [.Name t pT] X.env:=by rfl) (hpl:(backTo pos (starEach [.Name t pT] X.env)).any (·.1)=false:=by rfl):PD X (.Call (.Name "isinstance" p) [a,.Name t pT] [] pos) (z2i T fa):=
 PE.imp (x66 (z2u T) hg hm PyProof.Rows.boot_isinstance (x4u ha (x4u (z7y (v:=.ty T.nm) hgT hmT hbT rfl hnT hdT) x7k x05) hs) (by decide) (by decide) hs hpl) fun σ H Q hh0=>by
 obtain⟨ρ,w,t,r',q,ρ',gd,ee,k⟩:=hh0
 unfold z2i at ee
 split at ee
 ·rename_i d q1 ρ1 h1
  cases ee
  refine⟨ρ,w,t,_,_,_,gd,h1,fun v H1 w1 F1 g1 go1 r1=>?_⟩
  exact⟨v,w1,_,_,F1,d,rfl,r1,k _ H1 (x2d t w1) [] g1.drop.up (go1.drop gd.wt) (.bl _)⟩
 ·cases ee
@[simp] noncomputable def eCh (g1 g2:D->D->Option D) (fa fb fc:Den):Den:=fun ρ=>match fa ρ with
 | some (x,_,ρ1)=>match fb ρ1 with
  | some (y,_,ρ2)=>match g1 x y with
   | some (.bl true)=>match fc ρ2 with
    | some (z,_,ρ3)=>match g2 y z with
     | some d=>some (d,9,ρ3)
     | none=>none
    | none=>none
   | some (.bl false)=>some (.bl false,9,ρ2)
   | _=>none
  | none=>none
 | none=>none
theorem j31 {op op':CmpOp} {g1 g2:Int->Int->Option D} {h1 h2:Int->Int->V} (ho:OpR X (compareOp op) (rI0 h1)) (ho':OpR X (compareOp op') (rI0 h2)) (e1:∀ i j d,g1 i j=some d->y4k d=some (h1 i j)) (e2':∀ i j d,g2 i j=some d->y4k d=some (h2 i j))
  (ha:PD X a fa) (hb:PD X b fb) (hc:PD X c fc) (hm:lastMarks [op,op'] [b,c]=false:=by with_unfolding_all rfl):PD X (.Compare a [op,op'] [b,c] pos) (eCh (gI g1) (gI g2) fa fb fc):=PE.imp (z3l ho ho' ha hb hc hm) fun σ H Q hh0=>by
 obtain⟨ρ,w,t,r',q,ρ',gd,ee,k⟩:=hh0
 unfold eCh at ee
 split at ee
 ·rename_i x q1 ρ1 a1
  split at ee
  ·rename_i y q2 ρ2 a2
   refine z81 gd a1 a2 fun u v H2 w2 F1 F2 g2' go2 r1 r2=>?_
   have gg:=g2'.drop (t':=t)
   split at ee
   ·rename_i hg
    obtain⟨i,j,rfl,rfl,hg'⟩:=y1l hg
    refine⟨i,j,x4c r1,x4c r2,true,by have:=e1 i j _ hg'; simpa [y4k]using this.symm,?_⟩
    rw[if_pos rfl]
    split at ee
    ·rename_i z q3 ρ3 a3
     refine⟨ρ2,x2d t w2,t,z,q3,ρ3,gg,a3,fun v3 H3 w3 F3 g3 go3 r3=>?_⟩
     split at ee
     ·rename_i d hd
      cases ee
      obtain⟨j',l,ej,rfl,hd'⟩:=y1l hd
      cases ej
      exact⟨j,l,x4c r2,x4c r3,z6e k gd g3 ((go2.drop gd.wt).trans go3) (y4g (e2' j l _ hd'))⟩
     ·cases ee
    ·cases ee
   ·rename_i hg
    obtain⟨i,j,rfl,rfl,hg'⟩:=y1l hg
    cases ee
    refine⟨i,j,x4c r1,x4c r2,false,by have:=e1 i j _ hg'; simpa [y4k]using this.symm,?_⟩
    rw[if_neg (by decide)]
    exact z6e k gd g2' go2 (.bl false)
   ·cases ee
  ·cases ee
 ·cases ee
theorem y6l (ha:PD X a fa) (hb:PD X b fb) (hc:PD X c fc) (hm:lastMarks [.LtE,.Lt] [b,c]=false:=by with_unfolding_all rfl):PD X (.Compare a [.LtE,.Lt] [b,c] pos) (eCh dLe dLt fa fb fc):=
 j31 j4r j08 (fun i j d h=>by cases h; rfl) (fun i j d h=>by cases h; rfl) ha hb hc hm
@[simp] noncomputable def z9o (fa:Den):Den:=fun ρ=>match fa ρ with
 | some (.int i,_,ρ1)=>some (.int (-i),9,ρ1)
 | _=>none
theorem j2x (ha:PD X a fa):PD X (.UnaryOp .USub a pos) (z9o fa):=PE.imp (j52 j1f ha) fun σ H Q hh0=>by
 obtain⟨ρ,w,t,r',q,ρ',gd,ee,k⟩:=hh0
 unfold z9o at ee
 split at ee
 ·rename_i i q1 ρ1 h1
  cases ee
  refine⟨ρ,w,t,_,_,_,gd,h1,fun v H1 w1 F1 g1 go1 r1=>?_⟩
  exact⟨i,x4c r1,k _ H1 (x2d t w1) [] g1.drop.up (go1.drop gd.wt) (.int _)⟩
 ·cases ee
section
variable {prog:Program} {w:World} {A:Around} {E:Value->Shared->Prop} {s:Shared}
theorem z3o (l b:Addr) (us vs:Array Value) (n m:Nat) (d1 d2:Option Addr) (s1 s2:Array (Option Value)) (h0:us.isEmpty=true) :
  Meets (Builtin.«tuple.__add__» ⟨[.ref l,.ref b],[]⟩) (fun _ R s=>s.heap.get? l=some { cls:=.type "tuple",dict:=d1,data:=.seq us n,slots:=s1 }/\s.heap.get? b=some { cls:=.type "tuple",dict:=d2,data:=.seq vs m,slots:=s2 }/\R (.ok (.ret (.ref b))) s):=
 .of_wp fun prog w A R s h=>by
  obtain⟨hp,g,d,tk,os⟩:=s
  obtain⟨hl,hb,h⟩:=h
  have f2:=AutoSeq1.sub_tuple_tuple
  wp_walk using wpAny_loadPart' hl,wpAny_loadPart' hb
  exact⟨_,rfl,h⟩
theorem z28 {t b:Addr} {ws:List Value} {Q:Value->Shared->Prop} (ht:IsTup s.heap t #[]) (hb:IsTup s.heap b ws.toArray) (h:Q (.ref b) s):wpAny (model prog w) A (binaryOp .Add (.ref t) (.ref b)) Q E s:=by
 obtain⟨⟨c1,d1,a1,s1⟩,e1,hc1,n1,ha1⟩:=id ht
 obtain⟨⟨c2,d2,a2,s2⟩,e2,hc2,n2,ha2⟩:=id hb
 simp only at hc1 ha1 hc2 ha2
 subst hc1 ha1 hc2 ha2
 exact concat_meets ⟨_,e1,rfl⟩ ⟨_,e2,rfl⟩ noFill_tuple_add seq_tuple_add PySem.F.slot_tuple_add PySem.F.entry_tuple_add (PySem.F.args_tuple_add_2 _ _) (z3o t b #[] ws.toArray n1 n2 d1 d2 s1 s2 rfl) ⟨e1,e2,h⟩
end
theorem z6w:OpR X (binaryOp .Add) (fun x y H Q=>∃ a b ys,x=.ref a/\y=.ref b/\SqT X.K H a []/\SqT X.K H b ys/\Q (.ref b) H):=by
 intro pins s σ H x y v u Q I rx ry h
 obtain⟨a,b,ys,rfl,rfl,ha,hb,q⟩:=h
 cases rx
 cases ry
 obtain⟨its,r1,p1,_⟩:=I.tuple ha
 obtain⟨its2,r2,p2,_⟩:=I.tuple hb
 cases r1
 exact z28 p1 p2 ⟨.ref b,H,I,rfl,q⟩
theorem OpR.or {f:Value->Value->Sem Value} {r r':R2} (h:OpR X f r) (h':OpR X f r'):OpR X f (fun x y H Q=>r x y H Q\/r' x y H Q):=fun pins s σ H x y v u Q I rx ry q=>q.elim (fun z=>h pins s σ H x y v u Q I rx ry z) fun z=>h' pins s σ H x y v u Q I rx ry z
@[simp] noncomputable def j3j (fa fb:Den):Den:=fun ρ=>match fa ρ with
 | some (.tup ds,_,ρ1)=>match fb ρ1 with
  | some (.tup es,_,ρ2)=>if ds.length+es.length<=1000 then some (.tup (ds++es),9,ρ2)else none
  | _=>none
 | _=>none
theorem j3p (ha:PD X a fa) (hb:PD X b fb):PD X (.BinOp a .Add b pos) (j3j fa fb):=PE.imp (y4m (OpR.or z6w z6j) ha hb) fun σ H Q hh0=>by
 obtain⟨ρ,w,t,r',q,ρ',gd,ee,k⟩:=hh0
 unfold j3j at ee
 split at ee
 ·rename_i ds q1 ρ1 h1
  split at ee
  ·rename_i es q2 ρ2 h2
   split at ee
   ·rename_i hl
    cases ee
    refine z81 gd h1 h2 fun u u' H2 w2 F1 F2 g2 go r1 r2=>?_
    have r10:=r1.drop (o:=.f) (Nat.le_refl t)
    have r20:=r2.drop (o:=.f) (Nat.le_succ t)
    have gg:=g2.drop (t':=t)
    have gog:=go.drop gd.wt
    obtain⟨p1,vs,rfl,q1',s1⟩:=r10.seqT
    obtain⟨p2,us,rfl,q2',s2⟩:=r20.seqT
    have l1:=s1.length
    have l2:=s2.length
    cases ds with
    | nil=>
     have:vs=[]:=List.length_eq_zero_iff.mp (by rw[<- l1]; rfl)
     subst this
     refine .inl ⟨p1,p2,us,rfl,rfl,q1',q2',k _ H2 (x2d t w2) [] gg.up gog ?_⟩
     exact(Rep.go gg.wl (fun a x e n=>⟨sm e,n⟩) r20 (fun _ z=>nomatch z):Rep X.K H2 (x2d t w2) (.t t) 0 _ _ []).nolist rfl |>.2 9
    | cons d ds=>
     refine .inr ⟨p1,p2,vs,us,rfl,rfl,q1',q2',(fun z=>by rw[z]at l1; cases l1),y0b (by rw[<- l1,<- l2]; exact hl),fun z=>?_,fun _ p hp=>?_⟩
     ·have:es=[]:=List.length_eq_zero_iff.mp (by rw[l2,z]; rfl)
      subst this
      rw[List.append_nil]at k
      exact k _ H2 (x2d t w2) [] gg.up gog ((Rep.go gg.wl (fun a x e n=>⟨sm e,n⟩) r10 (fun _ z=>nomatch z):Rep X.K H2 (x2d t w2) (.t t) 0 _ _ []).nolist rfl |>.2 9)
     ·obtain⟨a1,a2,a3⟩:=y2q gg hp (s2.app s1)
      exact k _ _ _ _ a1 (gog.trans a2) a3
   ·cases ee
  ·cases ee
 ·cases ee
noncomputable abbrev z65:=Rho->Option (Option Int × Rho)
noncomputable def tDO (K:PySem.W.Frag) (f:z65):TO:=fun σ H Q=>∃ ρ w t o ρ',Good K ρ σ H w t/\f ρ=some (o,ρ')/\∀ H' w',Good K ρ' σ H' w' t->Go H w H' w'->Q o H'
noncomputable abbrev PDO (X:Cx) (e:Option Expr) (f:z65):Prop:=PO X e (tDO X.K f)
@[simp] noncomputable def z3y:z65:=fun ρ=>some (none,ρ)
@[simp] noncomputable def z06 (f:Den):z65:=fun ρ=>match f ρ with
 | some (.int i,_,ρ1)=>some (some i,ρ1)
 | _=>none
theorem PO.imp {e:Option Expr} {t t':TO} (h:PO X e t) (i:∀ σ H Q,t' σ H Q->t σ H Q):PO X e t':=fun pins s σ H Q I q=>h pins s σ H Q I (i σ H Q q)
theorem z4t:PDO X none z3y:=PO.imp z8k fun σ H Q hh0=>by
 obtain⟨ρ,w,t,o,ρ',gd,ee,k⟩:=hh0
 cases ee
 exact k H w gd Go.refl
theorem z41 (h:PD X e f):PDO X (some e) (z06 f):=PO.imp (z7m h) fun σ H Q hh0=>by
 obtain⟨ρ,w,t,o,ρ',gd,ee,k⟩:=hh0
 unfold z06 at ee
 split at ee
 ·rename_i i q1 ρ1 h1
  cases ee
  exact⟨ρ,w,t,_,_,_,gd,h1,fun v H1 w1 F1 g1 go1 r1=>⟨i,x4c r1,k H1 (x2d t w1) g1.drop (go1.drop gd.wt)⟩⟩
 ·cases ee
section
variable {prog:Program} {w:World} {A:Around} {E:Value->Shared->Prop} {s:Shared}
theorem y9b {t sl:Addr} {us:Array Value} {vl vu:Value} {lo hi:Option Int} {Q:Value->Shared->Prop} (ht:IsTup s.heap t us) (hs:s.heap.IsSliceOf sl vl vu .none) (pl:IsPart vl lo) (pu:IsPart vu hi)
  (hw:HT.sIx us.size 0 lo=0/\HT.sIx us.size us.size hi=us.size) (h:Q (.ref t) s):wpAny (model prog w) A (getItem (.ref t) (.ref sl)) Q E s:=by
 obtain⟨os,hos,hcs,hds⟩:=id hs
 have ts:s.TypeIs (.ref sl) "slice":=⟨os,hos,hcs⟩
 unfold getItem
 try with_reducible refine wpAny_holding ?_
 first | refine wpAny_bind (wpAny_pure ?_) | skip
 refine wpAny_bind (wpAny_sequenceKey ht.typeIs (by decide) (wpAny_bind (wpAny_callSpecial?_slot (name:=Str.ofString "__getitem__") ht.typeIs PyProof.Rows.slot_tuple_getitem (wpAny_call_entry PyProof.Rows.slot_tuple_getitem ht.typeIs entry_tuple_getitem ?_ (args_tuple_getitem _ _)))))
 show wpAny _ _ (Builtin.Tuple.tupleItemsOf (.ref t) >>= _) _ _ s
 refine wpAny_bind (tupleItemsOf_ ht (wpAny_bind (wpAny_typeOf ts ?_)))
 rw[if_pos (by decide)]
 refine wpAny_bind (HT.y0n hs pl pu ?_)
 have yes:(((HT.sIx us.size 0 lo:Nat):Int) == 0 && (1:Int) == 1 && (HT.sIx us.size us.size hi-HT.sIx us.size 0 lo) == us.size)=true:=by rw[hw.1,hw.2]; simp
 show wpAny _ _ (if(((HT.sIx us.size 0 lo:Nat):Int) == 0 && (1:Int) == 1 && (HT.sIx us.size us.size hi-HT.sIx us.size 0 lo) == us.size)=true then _ else _) _ _ s
 rw[if_pos yes]
 refine wpAny_bind (m:=Builtin.Tuple.tupleIsExact _) ?_
 unfold Builtin.Tuple.tupleIsExact
 refine wpAny_bind (wpAny_typeOf ht.typeIs (wpAny_pure ?_))
 rw[if_pos (by decide)]
 exact wpAny_bind (wpAny_rule (wpAny_pure ⟨_,rfl,wpAny_pure h⟩))
end
noncomputable def j1w (xs:List D) (lo hi:Option Int):List D:=(xs.drop (HT.sIx xs.length 0 lo)).take (HT.sIx xs.length xs.length hi-HT.sIx xs.length 0 lo)
@[simp] noncomputable def eSl (fa:Den) (fl fh:z65):Den:=fun ρ=>match fa ρ with
 | some (.tup ds,_,ρ1)=>match fl ρ1 with
  | some (lo,ρ2)=>match fh ρ2 with
   | some (hi,ρ3)=>some (.tup (j1w ds lo hi),9,ρ3)
   | none=>none
  | none=>none
 | _=>none
theorem Reps.take0 {K:PySem.W.Frag} {H:Hp} {w:Wn}:∀ {ds:List D} {vs:List V} (i:Nat),Reps K H w .f 0 ds vs []->Reps K H w .f 0 (ds.take i) (vs.take i) []
 | _,_,0,_=>by rw[List.take_zero,List.take_zero]; exact .nil
 | ds,vs,i+1,r=>by
  generalize hF:([]:List Addr)=F at r
  cases r with
  | nil=>exact .nil
  | cons r s _=>
   have h2:=s.zero
   have h1:=r.zero
   subst h2
   subst h1
   exact .cons (F:=[]) (G:=[]) r (Reps.take0 i s) (fun _ z=>nomatch z)
theorem z2o:SlR X (fun x lo hi H Q=>∃ a xs,x=.ref a/\SqT X.K H a xs/\(HT.sIx xs.length 0 lo=0/\HT.sIx xs.length xs.length hi=xs.length)/\Q (.ref a) H):=by
 intro pins s σ H x v vl vu lo hi sl Q I rx hs pl pu h
 obtain⟨a,xs,rfl,hx,hw,q⟩:=h
 cases rx
 obtain⟨its,r,ht,hz⟩:=I.tuple hx
 have hlen:its.toArray.size=xs.length:=by rw[List.size_toArray]; exact r.length.symm
 exact⟨"tuple",_,PyProof.Rows.slot_tuple_getitem.lookup,ht.typeIs,y9b ht hs pl pu (by rw[hlen]; exact hw) ⟨.ref a,H,I,rfl,q⟩⟩
theorem j5h {lo hi:Option Expr} {fl fh:z65} (ha:PD X a fa) (hl:PDO X lo fl) (hh:PDO X hi fh):PD X (.Subscript a (.Slice lo hi none p2) pos) (eSl fa fl fh):=PE.imp (z34 (z2o.or j0q) ha hl hh) fun σ H Q hh0=>by
 obtain⟨ρ,w,t,r',q,ρ',gd,ee,k⟩:=hh0
 unfold eSl at ee
 split at ee
 ·rename_i ds q1 ρ1 h1
  split at ee
  ·rename_i lo ρ2 h2
   split at ee
   ·rename_i hi ρ3 h3
    cases ee
    refine⟨ρ,w,t,_,_,_,gd,h1,fun v H1 w1 F1 g1 go1 r1=>?_⟩
    have gg1:=g1.drop (t':=t)
    have r0:=r1.drop (o:=.f) (Nat.le_refl t)
    refine⟨ρ1,x2d t w1,t,_,_,gg1,h2,fun H2 w2 g2 go2=>⟨ρ2,w2,t,_,_,g2,h3,fun H3 w3 g3 go3=>?_⟩⟩
    have r3:=(r0.go0 gg1.wl go2.stab).go0 g2.wl go3.stab
    obtain⟨p1,vs,rfl,q1',s1⟩:=r3.seqT
    have l1:=s1.length
    by_cases hw:HT.sIx ds.length 0 lo=0/\HT.sIx ds.length ds.length hi=ds.length
    ·have ec:j1w ds lo hi=ds:=by unfold j1w; rw[hw.1,hw.2,List.drop_zero,Nat.sub_zero,List.take_length]
     rw[ec]at k
     refine .inl ⟨p1,vs,rfl,q1',by rw[<- l1]; exact hw,?_⟩
     exact k _ H3 w3 [] g3.up (((go1.drop gd.wt).trans go2).trans go3) ((Rep.go g3.wl (fun a x e n=>⟨sm e,n⟩) r3 (fun _ z=>nomatch z):Rep X.K H3 w3 (.t t) 0 _ _ []).nolist rfl |>.2 9)
    ·refine .inr ⟨p1,vs,rfl,q1',by rw[<- l1]; exact hw,fun p hp=>?_⟩
     have s4:Reps X.K H3 w3 .f 0 (j1w ds lo hi) (z62 vs lo hi) []:=by
      unfold j1w z62
      rw[<- l1]
      exact(s1.drop0 _).take0 _
     obtain⟨a1,a2,a3⟩:=y2q g3 hp s4
     exact k _ _ _ _ a1 ((((go1.drop gd.wt).trans go2).trans go3).trans a2) a3
   ·cases ee
  ·cases ee
 ·cases ee
end
section
variable {X:Cx} {k b n:Nat} {a c e tg:Expr} {es:List Expr} {pt:x6q} {ps:y0s} {pos:Pos} {fa fb f:Den}
theorem y3m {p q r:x6q}:∀ ds ρ ρ',x10 p (x10 q (x10 r x5s)) ds ρ=some ρ'->ds.length=3:=fun ds ρ ρ' h=>by
 match ds with
 | []=>cases h
 | [_]=>unfold x10 at h; simp at h; split at h <;> cases h
 | [_,_]=>unfold x10 at h; simp at h; split at h; (split at h <;> cases h); cases h
 | [_,_,_]=>rfl
 | _::_::_::_::_=>
  exfalso
  unfold x10 at h
  simp at h
  split at h
  ·split at h
   ·split at h <;> cases h
   ·cases h
  ·cases h
end
theorem y8t:fillsNumberSlot (.type "tuple") "mul" = pure false:=PySem.fillsNumberSlot_seq (id:="tuple.__mul__") (r:=some (.builtin "tuple.__rmul__")) F.slot_tuple_mul.lookup (by decide +kernel) F.slot_tuple_rmul.lookup (by decide +kernel)
theorem y9d:seqRepeat? (.type "tuple")=pure (some (.builtin "tuple.__mul__")):=by
 unfold seqRepeat?
 rw[PySem.seqSlot_of (T:="tuple") (name:="__mul__") (id:="tuple.__mul__") F.slot_tuple_mul.lookup (by decide +kernel),PySem.seqSlot_of (T:="tuple") (name:="__rmul__") (id:="tuple.__rmul__") F.slot_tuple_rmul.lookup (by decide +kernel)]; rfl
theorem y54 (a:Int) (t:Tok) (l:Addr) (us:Array Value) (n:Nat) (dd:Option Addr) (sl:Array (Option Value)) :
  Meets (Builtin.«int.__rmul__» ⟨[.int a t,.ref l],[]⟩) (fun _ R s=>s.heap.get? l=some { cls:=.type "tuple",dict:=dd,data:=.seq us n,slots:=sl }/\R (.ok (.ret Value.notImplemented)) s):=.of_wp fun prog w A R s h=>by
 obtain⟨hp,g,d,tk,os⟩:=s
 obtain⟨hl,h⟩:=h
 wp_walk
 exact⟨_,rfl,h⟩
theorem z31 (t:Tok) (l:Addr) (us:Array Value) (n:Nat) (dd:Option Addr) (sl:Array (Option Value)) :
  Meets (Builtin.«tuple.__mul__» ⟨[.ref l,.int 1 t],[]⟩) (fun _ R s=>s.heap.get? l=some { cls:=.type "tuple",dict:=dd,data:=.seq us n,slots:=sl }/\R (.ok (.ret (.ref l))) s):=.of_wp fun prog w A R s h=>by
 obtain⟨hp,g,d,tk,os⟩:=s
 obtain⟨hl,h⟩:=h
 have f1:=AutoSeq1.idx_int
 wp_walk using wpAny_loadPart' hl
 exact⟨_,rfl,h⟩
theorem z2y (k:Int) (t:Tok) (l:Addr) (us:Array Value) (n:Nat) (dd:Option Addr) (sl:Array (Option Value)) (h2:¬ (decide (k < -(2 ^ 63)) || decide (k ≥ 2 ^ 63))=true) (h3:¬ (us.isEmpty || k == 1)=true) (h4:¬ (decide (k<=0) || us.isEmpty)=true) (h5:¬ (us.size:Int)*k > (2 ^ 63-1) / 8) (h6:¬ Builtin.Tuple.tupleTooMany ((us.size:Int)*k)=true) (hsz:(List.foldl (· ++ ·) #[] (List.replicate k.toNat us)).size<=sizeLine) :
  Meets (Builtin.«tuple.__mul__» ⟨[.ref l,.int k t],[]⟩) (fun _ R s=>s.heap.get? l=some { cls:=.type "tuple",dict:=dd,data:=.seq us n,slots:=sl }/\R (.ok (.ret (.ref s.heap.objs.size))) { s with heap:=s.heap.push { cls:=.type "tuple",data:=.seq (List.foldl (· ++ ·) #[] (List.replicate k.toNat us)) } }):=.of_wp fun prog w A R s h=>by
 obtain⟨hp,g,d,tk,os⟩:=s
 obtain⟨hl,h⟩:=h
 have f1:=AutoSeq1.idx_int
 wp_walk using wpAny_loadPart' hl
 rw[if_neg h2]
 wp_walk using wpAny_loadPart' hl
 rw[if_neg h5]
 wp_walk using wpAny_loadPart' hl
 exact⟨_,rfl,h⟩
section
variable {X:Cx} {a b c e:Expr} {fa fb fc f:Den} {pos:Pos}
theorem z70:OpR X (binaryOp .Mult) (fun x y H Q=>∃ a k xs,x=.ref a/\y=.int k/\SqT X.K H a xs/\xs ≠ []/\1<=k/\xs.length*k.toNat<=1000/\(k=1->Q (.ref a) H)/\(k≠1->∀ p,H p=none->Q (.ref p) (upd H p (.tup (List.replicate k.toNat xs).flatten)))):=by
 intro pins s σ H x y v u Q I rx ry h
 obtain⟨l,k,xs,rfl,rfl,hq,hne,h1,hz,q1,q2⟩:=h
 cases rx
 obtain⟨t,rfl⟩:=ry
 obtain⟨its,r,pt,_⟩:=I.tuple hq
 obtain⟨⟨c1,d1,a1,s1⟩,e,hc1,n1,ha1⟩:=id pt
 simp only at hc1 ha1
 subst hc1 ha1
 have hl:=r.length
 have hpos:0<its.length:=by rw[<- hl]; exact List.length_pos_iff.mpr hne
 refine wpAny_binaryOp_repeat_ref (T:="tuple") (U:="int") (by decide) ⟨_,e,rfl⟩ (fun s'=>typeIs_int s' k t) y8t F.fills_int_mul F.slot_int_rmul y9d F.slot_int_index.lookup
  (call_meets F.slot_int_rmul (typeIs_int s k t) F.entry_int_rmul (F.args_int_rmul_2 _ _) (y54 k t l its.toArray n1 d1 s1) ⟨e,rfl,⟨_,e,rfl⟩,?_⟩)
 by_cases hk:k=1
 ·subst hk
  exact call_meets F.slot_tuple_mul ⟨_,e,rfl⟩ F.entry_tuple_mul (F.args_tuple_mul_2 _ _) (z31 t l its.toArray n1 d1 s1) ⟨e,⟨.ref l,H,I,rfl,q1 rfl⟩⟩
 ·have hm:its.length*k.toNat<=1000:=by rw[<- hl]; exact hz
  have hk':k.toNat<=1000:=by
   have:=Nat.le_mul_of_pos_left k.toNat hpos
   omega
  have f0:List.foldl (fun x1 x2=>x1++x2) #[] (List.replicate k.toNat its.toArray)=(List.replicate k.toNat its).flatten.toArray:=by
   have:=y24 its k.toNat []
   rw[List.nil_append]at this
   exact this
  have lf:(List.replicate k.toNat its).flatten.length<=1000:=by rw[y6y,Nat.mul_comm]; exact hm
  have em:((its.toArray.size:Nat):Int)*k=((its.length*k.toNat:Nat):Int):=by
   rw[List.size_toArray,Int.natCast_mul,Int.toNat_of_nonneg (by omega)]
  refine call_meets F.slot_tuple_mul ⟨_,e,rfl⟩ F.entry_tuple_mul (F.args_tuple_mul_2 _ _) (z2y k t l its.toArray n1 d1 s1 (by simp; omega) (by simp[hk]; exact List.ne_nil_of_length_pos hpos) (by simp; exact⟨by omega,List.ne_nil_of_length_pos hpos⟩) (by rw[em]; omega) (by
   unfold Builtin.Tuple.tupleTooMany
   rw[em]
   simp only[gt_iff_lt,decide_eq_true_eq,Int.not_lt]
   have:(1000:Nat)<=sizeLine:=by decide
   omega) (by rw[f0,List.size_toArray]; exact y0b lf)) ⟨e,?_⟩
  rw[f0]
  refine⟨.ref s.heap.objs.size,_,I.laid (t':=s.toks) (o:=.tup (List.replicate k.toNat xs).flatten) (fun b ob q=>Heap.get?_push_of_some _ q) (Nat.le_refl _) ?_,rfl,q2 hk _ (I.hok.fresh (Nat.le_refl _))⟩
  exact⟨y0b (by rw[y6y,Nat.mul_comm]; exact hz),_,r.rep k.toNat,x54.new _ _⟩
@[simp] noncomputable def y1c (fa fb:Den):Den:=fun ρ=>match fa ρ with
 | some (.tup ds,_,ρ1)=>match fb ρ1 with
  | some (.int n,_,ρ2)=>if ds.isEmpty=false/\1<=n/\ds.length*n.toNat<=1000 then some (.tup (List.replicate n.toNat ds).flatten,9,ρ2)else none
  | _=>none
 | _=>none
theorem z8z (ha:PD X a fa) (hb:PD X b fb):PD X (.BinOp a .Mult b pos) (y1c fa fb):=PE.imp (y4m z70 ha hb) fun σ H Q hh0=>by
 obtain⟨ρ,w,t,r',q,ρ',gd,ee,k⟩:=hh0
 unfold y1c at ee
 split at ee
 ·rename_i ds q1 ρ1 h1
  split at ee
  ·rename_i n q2 ρ2 h2
   split at ee
   ·rename_i hl
    cases ee
    obtain⟨hd,hn,hz⟩:=hl
    refine z81 gd h1 h2 fun u u' H2 w2 F1 F2 g2 go r1 r2=>?_
    have r10:=r1.drop (o:=.f) (Nat.le_refl t)
    have gg:=g2.drop (t':=t)
    have gog:=go.drop gd.wt
    obtain⟨p1,vs,rfl,q1',s1⟩:=r10.seqT
    have l1:=s1.length
    refine⟨p1,n,vs,rfl,x4c r2,q1',fun z=>?_,hn,by rw[<- l1]; exact hz,fun z=>?_,fun _ p hp=>?_⟩
    ·subst z
     have:ds=[]:=List.length_eq_zero_iff.mp l1
     subst this
     cases hd
    ·subst z
     have e:(List.replicate (Int.toNat 1) ds).flatten=ds:=by show(List.replicate 1 ds).flatten=ds; simp
     rw[e]at k
     exact k _ H2 (x2d t w2) [] gg.up gog ((Rep.go gg.wl (fun a x e n=>⟨sm e,n⟩) r10 (fun _ z=>nomatch z):Rep X.K H2 (x2d t w2) (.t t) 0 _ _ []).nolist rfl |>.2 9)
    ·obtain⟨a1,a2,a3⟩:=y2q gg hp (s1.times n.toNat)
     exact k _ _ _ _ a1 (gog.trans a2) a3
   ·cases ee
  ·cases ee
 ·cases ee
end
section
variable {X:Cx} {a b c e:Expr} {es:List Expr} {fa fb fc f:Den} {ga gb:x2b} {g:x2c} {pos p p1 p2 cpos apos:Pos}
@[simp] noncomputable def z5o (i:Nat) (f:Den):Den:=fun ρ=>if y65 ρ[i]? = true then match f ρ with
 | some (.lst es,1,ρ1)=>match ρ1[i]? with
  | some (some (.lst ds,1))=>if ds.length+es.length<=1000 then some (.non,9,ρ1.set i (some (.lst (ds++es),1)))else none
  | _=>none
 | _=>none
 else none
theorem z0j {i:Nat} {x:Str} (h:PE X (.Name x p1) (x9t i)) (ha:PD X e f)
  (hbase:attributeBase (.Name x p1) "extend" X.env (eval (.Name x p1) X.env)=eval (.Name x p1) X.env:=by rfl)
  (hfew:((backTo cpos (starEach [e] X.env)).all (fun x=>!x.1) && (backToKw cpos (keywordEach [] X.env)).all (fun x=>x.1.isSome)
    && decide ([e].length+([]:List Keyword).length+(if([]:List Keyword).isEmpty then 0 else 1)<30))=true:=by rfl)
  (hline:(apos.endLine == cpos.line)=true:=by rfl) (hs:starEach [e] X.env=(false,eval e X.env)::starEach [] X.env:=by rfl) (hplain:(backTo cpos (starEach [] X.env)).any (·.1)=false:=by rfl) :
  PD X (.Call (.Attribute (.Name x p1) "extend" apos) [e] [] cpos) (z5o i f):=
 PE.imp (z4m PySem.F.plainAttrs_list PySem.F.slot_list_extend PySem.F.type_list_extend z1r h (x4u ha x7k hs) hbase hfew hline hs hplain) fun σ H Q hh0=>by
 obtain⟨ρ,w,t,r',q,ρ',gd,ee,k⟩:=hh0
 unfold z5o at ee
 split at ee
 ·rename_i hl
  obtain⟨l,hσ,us,hq⟩:=gd.isL hl
  split at ee
  ·rename_i es' ρ1 h1
   split at ee
   ·rename_i ds e1
    split at ee
    ·rename_i hlen
     cases ee
     refine⟨_,hσ,.inl ⟨rfl,us,hq⟩,ρ,w,t,_,_,_,gd,h1,fun v H1 w1 F1 g1 go1 r1=>?_⟩
     obtain⟨l',ws,hσ',hH,rs,mk⟩:=g1.mut e1
     rw[hσ]at hσ'
     cases hσ'
     cases r1 with
     | own hb _ rz _=>
      have z0:=rz.zero
      subst z0
      have rz':Reps X.K H1 w1 .f 0 es' _ []:=rz.any g1.wl
      obtain⟨m1,m2⟩:=mk _ _ (rz'.app rs)
      refine⟨l,_,ws,_,rfl,rfl,hH,hb,y0b (by rw[<- rs.length,<- rz'.length]; exact hlen),?_⟩
      exact k .non _ w1 [] m1 (go1.trans m2) .non
    ·cases ee
   ·cases ee
  ·cases ee
 ·cases ee
end
section
variable {X:Cx} {a b c e:Expr} {es:List Expr} {fa fb fc f:Den} {ga gb gc:x2b} {g:x2c} {qa qb:y1y} {s:x19} {pos p p1 p2 cpos apos:Pos}
@[simp] noncomputable def y2v:x19:=fun _=>none
theorem z1d {st:Stmt}:PDS X st y2v:=PS.imp z2v fun D σ H hh0=>by obtain⟨ρ,w,o,g,ee,k⟩:=hh0; cases ee
noncomputable def x6j (c:x2b) (b:x19):Nat->Rho->Option Out
 | 0,_=>none
 | m+1,ρ=>match c ρ with
  | none=>none
  | some (t,ρ1)=>if t=true then match b ρ1 with
    | none=>none
    | some (.nx ρ2)=>x6j c b m ρ2
    | some (.ct ρ2)=>x6j c b m ρ2
    | some (.bk ρ2)=>some (.nx ρ2)
    | some (.rt d q)=>some (.rt d q)
   else some (.nx ρ1)
noncomputable def x9e (c:x2b) (b:x19):x19:=x6j c b 1000
theorem z1z {body:List Stmt} (hp:PassesOwn (model X.prog X.w) X.A X.env X.xe) (hc:PDT X c gc) (hb:y9p X body s):PDS X (.While c body [] pos) (x9e gc s):=
 PS.imp (z2r hp hc hb) fun D σ H hh0=>by
 obtain⟨ρ,w,o,g,ee,k⟩:=hh0
 refine⟨fun m σ' H'=>σ'.length=σ.length/\∃ ρ' w',Good X.K ρ' σ' H' w' 0/\x6j gc s m ρ'=some o/\y2g X.K D σ.length H' w' o,⟨1000,rfl,ρ,w,g,ee,k⟩,?_⟩
 rintro m σ' H' ⟨hσ,ρ',w',g',e',k'⟩
 cases m with
 | zero=>cases e'
 | succ m=>
  unfold x6j at e'
  split at e'
  ·cases e'
  ·rename_i t ρ1 h1
   refine⟨ρ',w',0,t,ρ1,g',h1,fun H1 w1 g1 go1=>?_⟩
   cases t with
   | true=>
    rw[if_pos rfl]at e' ⊢
    refine⟨fun σ2 H2=>σ2.length=σ.length/\∃ ρ2 w2,Good X.K ρ2 σ2 H2 w2 0/\x6j gc s m ρ2=some o/\y2g X.K D σ.length H2 w2 o,fun σ2 H2 n2=>⟨m,Nat.lt_succ_self m,n2⟩,?_⟩
    have nx:∀ {ρ5:Rho},x6j gc s m ρ5=some o->∀ σ5 H5 w5,σ5.length=σ'.length->Good X.K ρ5 σ5 H5 w5 0->Go H1 w1 H5 w5->σ5.length=σ.length/\∃ ρ2 w2,Good X.K ρ2 σ5 H5 w2 0/\x6j gc s m ρ2=some o/\y2g X.K D σ.length H5 w2 o:=fun {ρ5} e5 σ5 H5 w5 l5 g5 go5=>⟨by rw[l5,hσ],ρ5,w5,g5,e5,k'.trans (go1.trans go5)⟩
    cases h6:s ρ1 with
    | none=>rw[h6]at e'; cases e'
    | some o6=>
     rw[h6]at e'
     refine⟨ρ1,w1,o6,g1,h6,?_⟩
     cases o6 with
     | nx ρ5=>exact nx e'
     | ct ρ5=>exact nx e'
     | bk ρ5=>
      cases e'
      exact fun σ5 H5 w5 l5 g5 go5=>k' σ5 H5 w5 (by rw[l5,hσ]) g5 (go1.trans go5)
     | rt d q=>
      cases e'
      exact fun v H5 w5 F wl5 go5 r5=>k' v H5 w5 F wl5 (go1.trans go5) r5
   | false=>
    rw[if_neg (by decide)]at e' ⊢
    cases e'
    exact k' σ' H1 w1 hσ g1 go1
@[simp] noncomputable def y6q (n:Nat) (qi:y1y) (fe:Den):x19:=fun ρ=>match fe ρ with
 | some (d,_,ρ1)=>match qi ρ1,ρ1[n]? with
  | some i,some (some (.lst ds,1))=>match ixN ds.length i with
   | some m=>some (.nx (ρ1.set n (some (.lst (ds.set m d),1))))
   | none=>none
  | _,_=>none
 | none=>none
theorem z38 {n:Nat} {x:Str} (h:PE X (.Name x p1) (x9t n)) (ha:PQ X a qa) (he:PD X e f)
  (hasg:∀ v,assign (.Subscript (.Name x p1) a p) X.env v=(do
    let ov <- holding [v] (eval (.Name x p1) X.env)
    let iv <- holding [v,ov] (eval a X.env)
    standAt p
    holding [v,ov,iv] (setItem ov iv v)
    release [v,ov,iv] []):=by exact fun _=>rfl)
  (hs:swapsWithSole [.Subscript (.Name x p1) a p] e pos.line X.env=pure false:=by rfl) :
  PDS X (.Assign [.Subscript (.Name x p1) a p] e pos) (y6q n qa f):=by
 refine PS.imp (z63 he (z61 h ha y8r hasg) hs) fun D σ H ⟨ρ,w,o,gd,ee,k⟩=>?_
 unfold y6q at ee
 split at ee
 ·rename_i d q0 ρ1 h1
  split at ee
  ·rename_i i ds hi er
   split at ee
   ·rename_i m hm
    cases ee
    refine⟨ρ,w,0,d,q0,ρ1,gd,h1,fun v H1 w1 F1 g1 go1 r1=>?_⟩
    have rv:=r1.drop (o:=.f) (Nat.le_refl 0)
    have gg:=g1.drop (t':=0)
    obtain⟨l,vs,m1,m2,m3,mk⟩:=gg.mut er
    refine⟨_,m1,ρ1,x2d 0 w1,0,i,gg,hi,l,vs,i,m,rfl,rfl,m2,?_,?_⟩
    ·rw[<- m3.length]; exact hm
    ·obtain⟨n1,n2⟩:=mk _ _ (m3.set0 rv m)
     exact k _ _ _ rfl n1 ((go1.drop gd.wt).trans n2)
   ·cases ee
  ·cases ee
 ·cases ee
noncomputable def j4b (K:PySem.W.Frag):R2:=fun x y H Q=>∃ l b xs zs,x=.ref l/\y=.ref b/\SqL K H l xs/\SqL K H b zs/\xs.length+zs.length<=sizeLine/\∀ p,H p=none->Q (.ref p) (upd H p (.lst (xs++zs)))
theorem z78:OpR X (binaryOp .Add) (j4b X.K):=by
 intro pins s σ H x y v u Q I rx ry h
 obtain⟨l,b,xs,zs,rfl,rfl,hH,hB,hz,q⟩:=h
 cases rx
 cases ry
 obtain⟨its,r,pl,z⟩:=I.list hH
 obtain⟨its2,r2,pl2,z2⟩:=I.list hB
 obtain⟨⟨cls,dd,data,sl⟩,n,ho,hc,_,hd⟩:=pl
 obtain⟨⟨cls2,dd2,data2,sl2⟩,n2,ho2,hc2,_,hd2⟩:=pl2
 simp only at hc hd hc2 hd2
 subst hc hd hc2 hd2
 have l1:=r.length
 have l2:=r2.length
 refine concat_meets ⟨_,ho,rfl⟩ ⟨_,ho2,rfl⟩ noFill_list_add seq_list_add PySem.F.slot_list_add PySem.F.entry_list_add (PySem.F.args_list_add_2 _ _) (list_addW l b its.toArray its2.toArray n n2 dd dd2 sl sl2 (by rw[List.size_toArray,List.size_toArray,<- l1,<- l2]; exact hz)) ⟨ho,ho2,?_⟩
 have e:its.toArray++its2.toArray=(its++its2).toArray:=by simp
 rw[e]
 exact⟨.ref _,_,I.lnew (t':=s.toks) (r.append r2) (by rw[List.length_append]; omega),rfl,q _ I.fresh⟩
@[simp] noncomputable def y2i (fa fb:Den):Den:=fun ρ=>match fa ρ with
 | some (.lst ds,_,ρ1)=>match fb ρ1 with
  | some (.lst es,_,ρ2)=>if ds.length+es.length<=1000 then some (.lst (ds++es),1,ρ2)else none
  | _=>none
 | _=>none
theorem z8s (ha:PD X a fa) (hb:PD X b fb):PD X (.BinOp a .Add b pos) (y2i fa fb):=PE.imp (y4m z78 ha hb) fun σ H Q hh0=>by
 obtain⟨ρ,w,t,r',q,ρ',gd,ee,k⟩:=hh0
 unfold y2i at ee
 split at ee
 ·rename_i ds q1 ρ1 h1
  split at ee
  ·rename_i es q2 ρ2 h2
   split at ee
   ·rename_i hl
    cases ee
    refine z81 gd h1 h2 fun u u' H2 w2 F1 F2 g2 go r1 r2=>?_
    have r10:=r1.drop (o:=.f) (Nat.le_refl t)
    have r20:=r2.drop (o:=.f) (Nat.le_succ t)
    have gg:=g2.drop (t':=t)
    have gog:=go.drop gd.wt
    obtain⟨p1,vs,rfl,q1',s1⟩:=r10.seqL0
    obtain⟨p2,us,rfl,q2',s2⟩:=r20.seqL0
    refine⟨p1,p2,vs,us,rfl,rfl,q1',q2',y0b (by rw[<- s1.length,<- s2.length]; exact hl),fun p hp=>?_⟩
    obtain⟨a1,a2,a3⟩:=y3s gg hp (s2.app s1)
    exact k _ _ _ _ a1 (gog.trans a2) a3
   ·cases ee
  ·cases ee
 ·cases ee
end
section
variable {X:Cx} {a b c e:Expr} {es:List Expr} {fa fb fc f:Den} {ga gb gc:x2b} {g:x2c} {qa qb:y1y} {s:x19} {pos p p1 p2 p3 cpos apos:Pos}
@[simp] noncomputable def x8t (n:Nat) (c:Int):y1y:=fun ρ=>match ρ[n]? with
 | some (some (.tup es,_))=>match L2.atI es c with
  | some d=>match y0t d with
   | some m=>some (Int.ofNat m)
   | none=>none
  | none=>none
 | _=>none
theorem z50 {n j:Nat} {c:Int} {x:Str} (hm:X.mg "len" = none) (h:PE X (.Name x p1) (x9t n)) (hg:Gl X "len":=by rfl) (hs:x4n (.Constant (.int c) j p2):=by exact fun _ _=>rfl)
  (he:starEach [.Subscript (.Name x p1) (.Constant (.int c) j p2) p3] X.env=(false,eval (.Subscript (.Name x p1) (.Constant (.int c) j p2) p3) X.env)::starEach [] X.env:=by rfl) (hpl:(backTo pos (starEach [] X.env)).any (·.1)=false:=by rfl) :
  PQ X (.Call (.Name "len" p) [.Subscript (.Name x p1) (.Constant (.int c) j p2) p3] [] pos) (x8t n c):=
 PE.imp (x66 x6h hg hm PySem.boot_len (x4u (z1w y5o h z69 hs) x7k he) (by decide) (by decide) he hpl) fun σ H Q hh0=>by
 obtain⟨ρ,w,t,i,gd,ee,k⟩:=hh0
 unfold x8t at ee
 split at ee
 ·rename_i es q e0
  split at ee
  ·rename_i d hd
   split at ee
   ·rename_i m hm'
    cases ee
    obtain⟨v,F,h1,h2⟩:=gd.slot n _ _ e0
    obtain⟨p0,vs,rfl,hq,rs⟩:=h2.seqT
    obtain⟨u,hu,ru⟩:=rs.atI hd
    obtain⟨p',ys,rfl,hs',hl⟩:=ru.len hm'
    exact⟨_,h1,.inr (.inl ⟨p0,vs,c,_,rfl,rfl,hq,hu,p',ys,rfl,hs',by rw[hl]; exact k⟩)⟩
   ·cases ee
  ·cases ee
 ·cases ee
@[simp] noncomputable def y96 (k l:Str) (qa qb:y1y):Den:=fun ρ=>match qa ρ,qb ρ with
 | some i,some j=>some (.dic [k,l] [.int i,.int j],9,ρ)
 | _,_=>none
theorem j1a {K:PySem.W.Frag} {ρ:Rho} {σ:St} {t:Nat} {H1:Hp} {p:Addr} {ks:List Str} {vs:List V} {ds:List D} {w1:Wn} (g:Good K ρ σ H1 w1 t) (hp:H1 p=none) (r:Reps K H1 w1 .f 0 ds vs []) :
  Good K ρ σ (upd H1 p (.dK (kvL ks vs))) w1 (t+1)/\Go H1 w1 (upd H1 p (.dK (kvL ks vs))) w1/\Rep K (upd H1 p (.dK (kvL ks vs))) w1 (.t t) 9 (.dic ks ds) (.ref p) []:=by
 have ne:∀ a x,H1 a=some x->a≠p:=fun a x e=>x11 e hp
 have nw:∀ a o,w1 a=some o->a≠p:=fun a o e=>by obtain⟨vs,q⟩:=g.wl a o e; exact ne a _ q
 have st:x7d H1 w1 (upd H1 p (.dK (kvL ks vs))) w1:=fun a x e n=>⟨sm (by rw[x0q (ne a x e)]; exact e),n⟩
 refine⟨⟨⟨fun a o e=>?_,g.wl.tb.upd rfl (.inl hp)⟩,g.ws,fun a i e=>Nat.lt_succ_of_lt (g.wt a i e),g.len,fun i d q e=>?_⟩,⟨st,fun a o e _=>⟨x0q (nw a o e),e⟩⟩,?_⟩
 ·obtain⟨us,q⟩:=g.wl a o e
  exact⟨us,by rw[x0q (nw a o e)]; exact q⟩
 ·obtain⟨v,F,h1,h2⟩:=g.slot i d q e
  exact⟨v,F,h1,Rep.go g.wl st h2 fun a m=>⟨x0q (nw a _ (h2.owns a m)),h2.owns a m⟩⟩
 ·exact .dic x1n (Reps.go g.wl st r (fun _ z=>nomatch z))
theorem z91 {k l:Str} {j1 j2:Nat} (hkl:k≠l) (ha:PQ X a qa) (hb:PQ X b qb) :
  PD X (.Dict [some (.Constant (.str k) j1 p1),some (.Constant (.str l) j2 p2)] [a,b] pos) (y96 k l qa qb):=
 PE.imp (z84 (y83 z17 ha (y83 z17 hb z97)) rfl rfl (by simp) (by show 2<=15; decide)) fun σ H Q hh0=>by
 obtain⟨ρ,w,t,r',q,ρ',gd,ee,kk⟩:=hh0
 unfold y96 at ee
 split at ee
 ·rename_i i j hi hj
  cases ee
  intro p0 hp
  have ne:∀ a x,H a=some x->upd H p0 (.dK []) a=some x:=fun a x e=>by rw[x0q (x11 e hp)]; exact e
  obtain⟨g1,go1⟩:=gd.more ⟨ne,fun t=>t.upd rfl (.inl hp)⟩
  refine⟨ρ,w,t,i,g1,hi,ρ,w,t,j,g1,hj,x1n,[(.inr k,.int i),(.inr l,.int j)],rfl,by show 2<=15; decide,?_⟩
  have e:y1j [] [((.inr k:Key),V.int i),(.inr l,.int j)]=kvL [k,l] [.int i,.int j]:=by
   have hkl':¬ ((Sum.inr k:Key)=.inr l):=fun z=>hkl (Sum.inr.inj z)
   simp[y1j,z54,kvL,hkl']
  rw[e,z8a]
  obtain⟨a1,a2,a3⟩:=j1a (ks:=[k,l]) (ds:=[.int i,.int j]) (vs:=[.int i,.int j]) gd hp (.cons (F:=[]) (G:=[]) (.int i) (.cons (F:=[]) (G:=[]) (.int j) .nil (fun _ z=>nomatch z)) (fun _ z=>nomatch z))
  exact kk _ _ _ _ a1 a2 a3
 ·cases ee
noncomputable def y61:List Str->List D->Str->Option D
 | x::ks,d::ds,k=>if x=k then some d else y61 ks ds k
 | _,_,_=>none
@[simp] noncomputable def z42 (fo fe ff:Den):Den:=fun ρ=>match fo ρ with
 | some (.dic ks ds,_,ρ1)=>match fe ρ1 with
  | some (.str k,_,ρ2)=>match ff ρ2 with
   | some (z,_,ρ3)=>some ((y61 ks ds k).getD z,y36 ((y61 ks ds k).getD z),ρ3)
   | none=>none
  | _=>none
 | _=>none
theorem y8d {K:PySem.W.Frag} {H:Hp} {w:Wn} {o:Ow} (k:Str):∀ {ks:List Str} {ds:List D} {vs:List V},Reps K H w o 0 ds vs []->
  (∀ d,y61 ks ds k=some d->∃ v,y7p (kvL ks vs) (.inr k)=some v/\Rep K H w o 0 d v [])/\(y61 ks ds k=none->y7p (kvL ks vs) (.inr k)=none)
 | [],ds,vs,r=>by
  refine⟨fun d h=>?_,fun _=>rfl⟩
  unfold y61 at h
  cases h
 | x::ks,ds,vs,r=>by
  generalize hF:([]:List Addr)=F at r
  cases r with
  | nil=>exact⟨(fun d h=>by unfold y61 at h; cases h),fun _=>rfl⟩
  | @cons _ d' v' ds' vs' F' G' r s _=>
   have h1:F'=[]:=r.zero
   have h2:G'=[]:=s.zero
   subst h1 h2
   have ih:=y8d k (ks:=ks) s
   by_cases hx:x=k
   ·subst hx
    refine⟨fun d h=>?_,fun h=>?_⟩
    ·unfold y61 at h
     rw[if_pos rfl]at h
     cases h
     exact⟨v',y46 rfl,r⟩
    ·unfold y61 at h
     rw[if_pos rfl]at h
     cases h
   ·have hk:¬ ((Sum.inr x:Key)=.inr k):=fun z=>hx (Sum.inr.inj z)
    have e:y7p (kvL (x::ks) (v'::vs')) (.inr k)=y7p (kvL ks vs') (.inr k):=y3u hk
    rw[e]
    unfold y61
    rw[if_neg hx]
    exact ih
theorem z6i {k:Nat} (hr:Room k X.A) (ho:PD X a fa) (he:PD X b fb) (hf:PD X c fc)
  (hbase:attributeBase a "get" X.env (eval a X.env)=eval a X.env:=by rfl)
  (hfew:((backTo cpos (starEach [b,c] X.env)).all (fun x=>!x.1) && (backToKw cpos (keywordEach [] X.env)).all (fun x=>x.1.isSome)
    && decide (([b,c]:List Expr).length+([]:List Keyword).length+(if([]:List Keyword).isEmpty then 0 else 1)<30))=true:=by rfl)
  (hline:(apos.endLine == cpos.line)=true:=by rfl) (htr:backTo cpos (starEach [b,c] X.env)=[(false,eval b X.env),(false,eval c X.env)]:=by rfl) :
  PD X (.Call (.Attribute a "get" apos) [b,c] [] cpos) (z42 fa fb fc):=
 PE.imp (z5i (j5k hr) ho he hf ⟨hbase,hfew,hline,htr⟩) fun σ H Q hh0=>by
 obtain⟨ρ,w,t,r',q,ρ',gd,ee,kk⟩:=hh0
 unfold z42 at ee
 split at ee
 ·rename_i ks ds q1 ρ1 h1
  split at ee
  ·rename_i k0 q2 ρ2 h2
   split at ee
   ·rename_i z q3 ρ3 h3
    cases ee
    refine⟨ρ,w,t,_,_,_,gd,h1,fun x H1 w1 F1 g1 go1 r1=>?_⟩
    have r1':=r1
    cases r1' with
    | @dic _ a0 _ vs0 _ hH0 _=>
     refine⟨a0,rfl,.inl ⟨_,.inl hH0⟩,ρ1,w1,t+1,_,_,_,g1,h2,fun y H2 w2 F2 g2 go2 r2=>⟨ρ2,w2,t+2,_,_,_,g2,h3,fun zv H3 w3 F3 g3 go3 r3=>?_⟩⟩
     have hy:y=kV (.inr k0):=by cases r2; rfl
     subst hy
     have r13:=(r1.gone g1.wl (go2.trans go3)).drop (o:=.t t) (Nat.le_refl t)
     have rz:=r3.drop (o:=.t t) (t':=t) (by omega)
     have go:=(go1.trans go2).trans go3
     cases r13 with
     | @dic _ _ _ vs _ hH rs=>
      obtain⟨v1,v2⟩:=y8d (ks:=ks) k0 rs
      refine⟨_,j2h.k hH,?_⟩
      cases hg:y61 ks ds k0 with
      | none=>
       rw[v2 hg]
       rw[hg]at kk
       exact z6e kk gd g3 go rz.dep
      | some d=>
       obtain⟨v,ev,rv⟩:=v1 d hg
       rw[ev]
       rw[hg]at kk
       exact z6e kk gd g3 go rv.dep
   ·cases ee
  ·cases ee
 ·cases ee
theorem z8p {x2o:List Expr} {env:Env} {ks:List (Option Expr)} {vs:List Expr}:starEach (.Dict ks vs pos::x2o) env=(false,eval (.Dict ks vs pos) env)::starEach x2o env:=by simp only[starEach]
end
theorem j10 {prog:Program} {w:World} {A:Around} (hh:A.handled=none) (it p:Addr) (hne:p≠it) (items:Array Value) :
  Draws prog w A it [it,p] items.size (fun i v=>items[i]? = some v) (fun i h=>h.IsTupleIter it p i/\h.IsTuple p items) where
 live:=fun _ _ st=>by obtain⟨⟨o,ho,_⟩,_⟩:=st; exact⟨o,ho⟩
 frame:=fun _ _ _ st hk=>by
  obtain⟨a,⟨o,e,r⟩⟩:=st
  exact⟨a.at fun o e=>hk it (by simp) o e,⟨o,hk p (by simp) o e,r⟩⟩
 item:=fun i s Q E hi st hQ=>by
  refine x79 st.1 st.2 (v:=items[i]) (by simp[hi]) fun h' hit' hs'=>?_
  exact hQ _ h' s.toks (by simp[hi]) ⟨hit',st.2.extBut hs'.extBut hne⟩ hs'
 done:=fun s Q E st hE=>y1t hh st.1 st.2 (by simp) hE
section
variable {prog:Program} {w:World} {A:Around} {E:Value->Shared->Prop} {s:Shared}
theorem y9u {p:Addr} {xs:Array Value} {Q:Value->Shared->Prop} (t1:s.heap.IsTuple p xs)
  (k:∀ h',IsEnum h' (s.heap.objs.size+1) s.heap.objs.size 0 .none->h'.IsTupleIter s.heap.objs.size p 0->h'.objs.size=s.heap.objs.size+2->
    (∀ b o,s.heap.get? b=some o->h'.get? b=some o)->Q (.ref (s.heap.objs.size+1)) { s with heap:=h' }) :
  wpAny (model prog w) A (call (.type "enumerate") [.ref p]) Q E s:=by
 have mt:Meets (Builtin.«enumerate.__new__» ⟨[.type "enumerate",.ref p],[]⟩) (fun _ R s'=>s'=s /\
   R (.ok (.ret (.ref (s.heap.push { cls:=.type "tuple_iterator",data:=.fields #[.ref p,.int 0 0] }).objs.size)))
    { s with heap:=(s.heap.push { cls:=.type "tuple_iterator",data:=.fields #[.ref p,.int 0 0] }).push { cls:=.type "enumerate",data:=.fields #[.none,.bool false,.ref s.heap.objs.size,rawInt 0,.none,.none] } }):=.of_wp fun prog w A R s' h=>by
  obtain⟨rfl,h⟩:=h
  have hsub:=sub_enumerate
  obtain⟨hp,gn,dr,tk,os⟩:=s'
  have q1:Heap.IsTuple (Shared.heap ⟨hp,gn,dr,tk,os⟩) p xs:=t1
  wp_walk using wpAny_pyIter_tuple q1
  refine wpAny_stack_any fun st=>wpAny_pure ?_
  split
  ·rename_i c _ _ _ _ _
   cases (c == Value.type "enumerate")
   ·wp_walk using wpAny_pyIter_tuple q1
    exact⟨_,rfl,h⟩
   ·wp_walk using wpAny_pyIter_tuple q1
    exact⟨_,rfl,h⟩
  ·wp_walk using wpAny_pyIter_tuple q1
   exact⟨_,rfl,h⟩
 refine callType_new F.called_enumerate (by decide) (F.typeCall_enumerate_1 _) (F.newCall_enumerate_1 _) (fun obj=>F.args_object_init_2 obj _) F.entry_enumerate_new mt ⟨rfl,?_⟩
 have hz:(s.heap.push { cls:=.type "tuple_iterator",data:=.fields #[.ref p,.int 0 0] }).objs.size=s.heap.objs.size+1:=Heap.size_push ..
 show _/\_
 rw[hz]
 have he:IsEnum ((s.heap.push { cls:=.type "tuple_iterator",data:=.fields #[.ref p,.int 0 0] }).push
   { cls:=.type "enumerate",data:=.fields #[.none,.bool false,.ref s.heap.objs.size,rawInt 0,.none,.none] }) (s.heap.objs.size+1) s.heap.objs.size 0 .none:=by
  have:=Heap.get?_push_size (s.heap.push { cls:=.type "tuple_iterator",data:=.fields #[.ref p,.int 0 0] })
   (o:={ cls:=.type "enumerate",data:=.fields #[.none,.bool false,.ref s.heap.objs.size,rawInt 0,.none,.none] }) rfl
  rw[hz]at this; exact this
 exact⟨⟨_,he,rfl⟩,k _ he ⟨_,Heap.get?_push_of_some _ (Heap.get?_push_size _ rfl),rfl,rfl⟩ (by rw[Heap.size_push,hz]) fun b o x=>Heap.get?_push_of_some _ (Heap.get?_push_of_some _ x)⟩
end
structure Src (P:Program) (w:World) (K:PySem.W.Frag) (it p:Addr) (Sq:Hp->List V->Prop) (tn:Nat->Heap->Prop):Prop where
 keep:∀ i h h',tn i h->(∀ o,h.get? it=some o->h'.get? it=some o)->tn i h'
 obj:∀ i h,tn i h->∃ o vs,h.get? it=some o/\o.data=.fields vs
 draw:∀ (X:Cx),X.prog=P->X.w=w->X.K=K->X.calm=true->∀ (pins:List (Addr × Obj)) (s:Shared) (σ:St) (H:Hp) (xs:List V),Inv X pins σ H s->Sq H xs->∃ (us:List Value) (St:Nat->Heap->Prop),x2z xs us /\
  Draws P w X.A.in1 it [it,p] us.length (fun i v=>us[i]? = some v) St/\(∀ i,tn i s.heap->St i s.heap)/\(∀ i h,St i h->tn i h)/\∀ ys,Sq H ys->ys=xs
theorem z36 {P:Program} {w:World} {K:PySem.W.Frag} {it p:Addr} (hne:p≠it):Src P w K it p (fun H xs=>SqL K H p xs) (fun i h=>h.IsListIter it p i) where
 keep:=fun i h h' st k=>st.at k
 obj:=fun i h st=>by obtain⟨o,e,c,d⟩:=st; exact⟨o,_,e,d⟩
 draw:=fun X hP hw hK hc pins s σ H xs I hq=>by
  subst hP hw hK
  obtain⟨its,rv,pl,_⟩:=I.list hq
  have D:=Draws.list (prog:=X.prog) (w:=X.w) (A:=X.A.in1) (I.ok.hd hc) it p hne its.toArray
  rw[List.size_toArray]at D
  exact⟨its,(fun i h=>h.IsListIter it p i/\h.IsList p its.toArray),rv,(by simpa using D),fun i st=>⟨st,pl.isList⟩,fun i h st=>st.1,fun ys hy=>I.list_inj hy hq⟩
theorem z7f {P:Program} {w:World} {K:PySem.W.Frag} {it p:Addr} (hne:p≠it):Src P w K it p (fun H xs=>SqT K H p xs) (fun i h=>h.IsTupleIter it p i) where
 keep:=fun i h h' st k=>st.at k
 obj:=fun i h st=>by obtain⟨o,e,c,d⟩:=st; exact⟨o,_,e,d⟩
 draw:=fun X hP hw hK hc pins s σ H xs I hq=>by
  subst hP hw hK
  obtain⟨its,rv,pl,_⟩:=I.tuple hq
  have D:=j10 (prog:=X.prog) (w:=X.w) (A:=X.A.in1) (I.ok.hd hc) it p hne its.toArray
  rw[List.size_toArray]at D
  exact⟨its,(fun i h=>h.IsTupleIter it p i/\h.IsTuple p its.toArray),rv,(by simpa using D),fun i st=>⟨st,pl⟩,fun i h st=>st.1,fun ys hy=>I.tuple_inj hy hq⟩
noncomputable def Ite (Sq:Hp->List V->Prop):It:=
 ⟨fun i H=>∃ xs x,Sq H xs/\xs[i]? = some x,
  fun i H v H'=>∃ T x,v=.ref T/\H T=none/\(∀ xs,Sq H xs->xs[i]? = some x)/\H'=upd H T (.tup [.int (Int.ofNat i),x]),
  fun i H=>∃ xs,Sq H xs/\xs.length=i⟩
theorem z20 {P:Program} {w:World} {K:PySem.W.Frag} {elts:List Expr} {kt:Nat} {tp:Pos} {e it p:Addr} {Sq:Hp->List V->Prop} {tn:Nat->Heap->Prop} (S:Src P w K it p Sq tn) (hne:e≠it) (hp:e≠p) :
  Turn P w K (.Tuple elts kt tp) (Ite Sq) [e,it] e (fun i h=>(∃ old,IsEnum h e it i old)/\tn i h) where
 mem:=by simp
 obj:=fun i h st b hb=>by
  obtain⟨⟨old,he⟩,st⟩:=st
  simp only[List.mem_cons,List.not_mem_nil,or_false]at hb
  rcases hb with rfl | rfl
  ·exact⟨_,he,fun v e=>nomatch e⟩
  ·obtain⟨o,vs,e,d⟩:=S.obj i h st
   exact⟨o,e,fun v z=>by rw[d]at z; cases z⟩
 keep:=fun i h h' st k=>by
  obtain⟨⟨old,he⟩,st⟩:=st
  exact⟨⟨old,k e (by simp) _ he⟩,S.keep i h h' st fun o z=>k it (by simp) o z⟩
 item:=by
  intro X hP hw hK hc i pins s σ H E I hf st hg
  obtain⟨⟨old,he⟩,st⟩:=st
  obtain⟨xs,x,hq,hx⟩:=hg
  obtain⟨us,St,rv,D,s1,s2,inj⟩:=S.draw X hP hw hK hc pins s σ H xs I hq
  obtain⟨u,hu,ru⟩:=rv.get hx
  have hlt:i<us.length:=(List.getElem?_eq_some_iff.mp hu).1
  refine wpAny_pyNext_enum_itemD D he (s1 i st) hlt hne (by simp[hne,hp]) fun u' g tk hP' ho hs' hT hsz hk=>?_
  have eu:u'=u:=by rw[hu]at hP'; exact(Option.some.inj hP').symm
  subst eu
  refine⟨_,rfl,wpAny_letOwnedTupleGo_enum (s:={ s with heap:=g,toks:=tk+1 }) ho fun g' he' sb=>?_⟩
  have sb':Heap.SameBut e g g':=sb
  have fr:H s.heap.objs.size=none:=I.hok.fresh (Nat.le_refl _)
  have ri:x47 (.int (Int.ofNat i)) (.int i tk):=⟨tk,rfl⟩
  have I1:Inv X pins σ (upd H s.heap.objs.size (.tup [.int (Int.ofNat i),x])) { s with heap:=s.heap.push { cls:=.type "tuple",data:=.seq #[.int i tk,u'] } }:=
   I.laid (t':=s.toks) (fun b q e=>Heap.get?_push_of_some _ e) (Nat.le_refl _) (show x37 X.prog X.w _ _ _ (.tup _)from⟨(by show 2<=sizeLine; decide),[.int i tk,u'],.cons ri (.cons ru .nil),x54.new _ _⟩)
  have lt:∀ b ∈ [e,it],b<s.heap.objs.size:=fun b hb=>by
   simp only[List.mem_cons,List.not_mem_nil,or_false]at hb
   rcases hb with rfl | rfl
   ·exact Heap.lt_size he
   ·obtain⟨o,_,e,_⟩:=S.obj i _ st; exact Heap.lt_size e
  have hn:∀ b ∈ [e,it],upd H s.heap.objs.size (.tup [.int (Int.ofNat i),x]) b=none:=fun b hb=>by rw[x0q (Nat.ne_of_lt (lt b hb))]; exact(hf b hb).1
  have I2:Inv X pins σ (upd H s.heap.objs.size (.tup [.int (Int.ofNat i),x])) { s with heap:=g',toks:=tk+1 }:=y6b (s:={ s with heap:=s.heap.push { cls:=.type "tuple",data:=.seq #[.int i tk,u'] } }) (t':=tk+1) (ch:=[e,it]) I1 (fun b q nb z=>by
   have b1:b≠e:=fun h=>nb (by simp[h])
   have b2:b≠it:=fun h=>nb (by simp[h])
   rcases Heap.get?_push_cases z with⟨rfl,rfl⟩ | z'
   ·exact sb'.extBut _ _ b1 hT
   ·exact sb'.extBut _ _ b1 (hk b q b1 b2 z')) fun b hb=>by
     obtain⟨f0,f1,f2,f3,f4,f5⟩:=hf b hb
     exact⟨hn b hb,f1,f2,f3,f4,f5⟩
  refine⟨.ref s.heap.objs.size,_,I2,rfl,⟨s.heap.objs.size,x,rfl,fr,fun zs hz=>?_,rfl⟩,⟨⟨_,he'⟩,?_⟩,hn⟩
  ·rw[inj zs hz]; exact hx
  ·exact S.keep _ _ _ (s2 _ _ hs') fun o z=>sb'.extBut _ _ (Ne.symm hne) z
 done:=by
  intro X hP hw hK hc i pins s σ H E I hf st hg
  obtain⟨⟨old,he⟩,st⟩:=st
  obtain⟨xs,hq,hx⟩:=hg
  obtain⟨us,St,rv,D,s1,s2,inj⟩:=S.draw X hP hw hK hc pins s σ H xs I hq
  have hl:us.length=i:=by rw[<- rv.length]; exact hx
  subst hl
  refine wpAny_pyNext_enum_endD D he (s1 _ st) fun g kp=>⟨rfl,?_⟩
  obtain⟨f0,f1,f2,f3,f4,f5⟩:=hf it (by simp)
  exact I.turned (t':=s.toks) (fun b o hb z=>kp b o hb z) f0 f1 f3 f4 f5
 self:=fun _ _ _ _ _ st h=>by
  obtain⟨⟨old,he⟩,_⟩:=st
  exact wpAny_pyIter_enum he h
section
variable {X:Cx} {a b c e:Expr} {es elts:List Expr} {fa fb fc f:Den} {g:x2c} {pos p p1 p2 tp:Pos} {kt:Nat}
noncomputable def j72 (K:PySem.W.Frag) (ta:TA):TI:=fun σ H R=>ta σ H fun vs H1=>∃ p,vs=[.ref p]/\(((∃ xs,SqL K H1 p xs)/\R (Ite fun H xs=>SqL K H p xs) H1)\/((∃ xs,SqT K H1 p xs)/\R (Ite fun H xs=>SqT K H p xs) H1))
theorem z8w {ta:TA} (hg:Gl X "enumerate") (hm:X.mg "enumerate" = none) (ha:PA X [a] ta) (hs:starEach [a] X.env=[(false,eval a X.env)]:=by rfl) :
  PI X (.Tuple elts kt tp) (.Call (.Name "enumerate" p) [a] [] pos) (j72 X.K ta):=by
 intro pins s σ H R I h
 refine Call_ (y20 I hg hm boot_enumerate (PyProof.Rows.callWith_type1 (thn (ha pos pins s σ H _ I h) fun us s1 ⟨vs,H1,I1,r1,q1⟩=>?_) hs rfl))
 obtain⟨q,ee,hq⟩:=q1
 subst ee
 cases r1 with
 | cons r rr=>
  cases rr
  cases r
  have ne1:s1.heap.objs.size+1≠s1.heap.objs.size:=Nat.succ_ne_self _
  have fin:∀ {g:Heap} {Sq:Hp->List V->Prop} {tn:Nat->Heap->Prop},q<s1.heap.objs.size->Src X.prog X.w X.K s1.heap.objs.size q Sq tn->IsEnum g (s1.heap.objs.size+1) s1.heap.objs.size 0 .none->tn 0 g->(∀ b o,s1.heap.get? b=some o->g.get? b=some o)->R (Ite Sq) H1->
    wpAny (model X.prog X.w) X.A (pyIter (.ref (s1.heap.objs.size+1))) (PIE X pins σ (.Tuple elts kt tp) R) X.xe { s1 with heap:=g }:=fun {g Sq tn} lq S he ht kp hR=>by
   have ne2:s1.heap.objs.size+1≠q:=Nat.ne_of_gt (Nat.lt_succ_of_lt lq)
   refine wpAny_pyIter_enum he ⟨s1.heap.objs.size+1,[s1.heap.objs.size+1,s1.heap.objs.size],_,_,H1,rfl,I1.kept (t':=s1.toks) kp,z20 S ne1 ne2,⟨⟨_,he⟩,ht⟩,fun b hb=>?_,hR⟩
   have far:s1.heap.objs.size<=b:=by
    simp only[List.mem_cons,List.not_mem_nil,or_false]at hb
    rcases hb with rfl | rfl
    ·exact Nat.le_add_right _ _
    ·exact Nat.le_refl _
   exact I1.fpOk far (I1.hok.fresh far)
  rcases hq with⟨⟨xs,hx⟩,hR⟩ | ⟨⟨xs,hx⟩,hR⟩
  ·obtain⟨its,rv,pl,_⟩:=I1.list hx
   have lq:q<s1.heap.objs.size:=by obtain⟨_,e,_⟩:=pl.isList; exact Heap.lt_size e
   exact call_enumerate_list pl.isList fun g he hi _ kp=>fin lq (z36 (Nat.ne_of_lt lq)) he hi kp hR
  ·obtain⟨its,rv,pl,_⟩:=I1.tuple hx
   have lq:q<s1.heap.objs.size:=by obtain⟨_,e,_⟩:=pl; exact Heap.lt_size e
   exact y9u (show s1.heap.IsTuple q its.toArray from pl) fun g he hi _ kp=>fin lq (z7f (Nat.ne_of_lt lq)) he hi kp hR
noncomputable def y2n (ds:List D):List D:=ds.zipIdx.map fun x=>.tup [.int (Int.ofNat x.2),x.1]
theorem x8r (ds:List D):(y2n ds).length=ds.length:=by simp[y2n]
theorem y5l (ds:List D) (i:Nat):(y2n ds)[i]? = (ds[i]?).map fun d=>.tup [.int (Int.ofNat i),d]:=by
 simp only[y2n,List.getElem?_map,List.getElem?_zipIdx,Option.map_map]
 cases ds[i]? with
 | none=>rfl
 | some d=>simp
@[simp] noncomputable def y9e (g:x2c):y2s:=fun ρ=>match g ρ with
 | some ([.lst ds],ρ1)=>if ds.length<=1000 then some (y2n ds,ρ1)else none
 | some ([.tup ds],ρ1)=>if ds.length<=1000 then some (y2n ds,ρ1)else none
 | _=>none
theorem It.enum {K:PySem.W.Frag} {Sq:Hp->List V->Prop} {vs:List V} {ds:List D} {P:Hp->Wn->Prop} (hl:ds.length=vs.length) (sq:∀ H w,P H w->Sq H vs/\Reps K H w .f 0 ds vs []) (ps:∀ H w H' w',P H w->WL K w H->x7d H w H' w'->P H' w'):ItOk K (Ite Sq) (y2n ds) P:=by
 refine⟨fun i H w p hi=>⟨vs,vs[i]'(by rw[x8r]at hi; omega),(sq H w p).1,by simp⟩,fun i H w x H' d p wl hd y=>?_,fun H w p=>⟨vs,(sq H w p).1,by rw[x8r]; exact hl.symm⟩,ps⟩
 obtain⟨T,v,rfl,hT,hv,rfl⟩:=y
 obtain⟨q1,r1⟩:=sq H w p
 rw[y5l]at hd
 cases hz:ds[i]? with
 | none=>rw[hz]at hd; cases hd
 | some d0=>
  rw[hz]at hd
  cases hd
  obtain⟨v',hv',rv⟩:=r1.get hz
  have ev:v'=v:=by have:=hv vs q1; rw[hv']at this; exact Option.some.inj this
  subst ev
  have mo:∀ a o,H a=some o->upd H T (.tup [.int (Int.ofNat i),v']) a=some o:=fun a o e=>by rw[x0q (x11 e hT)]; exact e
  have st:x7d H w (upd H T (.tup [.int (Int.ofNat i),v'])) w:=fun a x e n=>⟨sm (mo a x e),n⟩
  exact⟨⟨mo,fun t=>t.upd rfl (.inl hT)⟩,.tup x1n (.cons (F:=[]) (G:=[]) (.int _) (.cons (F:=[]) (G:=[]) (Rep.go0 rv wl st) .nil (fun _ z=>nomatch z)) (fun _ z=>nomatch z)),ps _ _ _ _ p wl st⟩
theorem z5j (hm:X.mg "enumerate" = none) (ha:PDA X [a] g) (hg:Gl X "enumerate":=by rfl) (hs:starEach [a] X.env=[(false,eval a X.env)]:=by rfl) :
  PDI X (.Tuple elts kt tp) (.Call (.Name "enumerate" p) [a] [] pos) (y9e g):=PI.imp (z8w hg hm ha hs) fun σ H R hh0=>by
 obtain⟨ρ,w,t,ds,ρ',gd,ee,k⟩:=hh0
 unfold y9e at ee
 split at ee
 ·rename_i d1 ρ1 h1
  split at ee
  ·rename_i hl
   cases ee
   refine⟨ρ,w,t,_,_,gd,h1,fun vs H1 w1 g1 go1 r1=>?_⟩
   obtain⟨v,rfl,rv⟩:=one r1
   have hz:(y2n d1).length<sizeLine:=by rw[x8r]; exact x3y hl
   cases rv with
   | kl h r=>exact⟨_,rfl,.inl ⟨⟨_,h.sq⟩,k _ _ H1 w1 g1 go1 (It.enum (P:=fun H w=>(KL X.K _ _\/False)/\Reps X.K H w .f 0 d1 _ []) r.length (fun H w p=>⟨p.1.elim (fun z=>z.sq) fun z=>z.elim,p.2⟩) fun H w H' w' p wl st=>⟨p.1,Reps.go wl st p.2 (fun _ z=>nomatch z)⟩) ⟨.inl h,r⟩ hz⟩⟩
   | shr h n r=>exact⟨_,rfl,.inl ⟨⟨_,.inl h⟩,k _ _ H1 w1 g1 go1 (It.enum (P:=fun H w=>(Rd H _ (.lst _)/\w _=none)/\Reps X.K H w .f 0 d1 _ []) r.length (fun H w p=>⟨.inl p.1.1,p.2⟩) fun H w H' w' p wl st=>⟨RdL.go st p.1.2 p.1.1,Reps.go wl st p.2 (fun _ z=>nomatch z)⟩) ⟨⟨h,n⟩,r⟩ hz⟩⟩
  ·cases ee
 ·rename_i d1 ρ1 h1
  split at ee
  ·rename_i hl
   cases ee
   refine⟨ρ,w,t,_,_,gd,h1,fun vs H1 w1 g1 go1 r1=>?_⟩
   obtain⟨v,rfl,rv⟩:=one r1
   have hz:(y2n d1).length<sizeLine:=by rw[x8r]; exact x3y hl
   obtain⟨p1,as,rfl,q1,s1⟩:=rv.seqT
   exact⟨p1,rfl,.inr ⟨⟨_,q1⟩,k _ _ H1 w1 g1 go1 (It.enum (P:=fun H w=>SqT X.K H p1 as/\Reps X.K H w .f 0 d1 as []) s1.length (fun H w p=>p) fun H w H' w' p wl st=>⟨SqT.go wl st p.1,Reps.go wl st p.2 (fun _ z=>nomatch z)⟩) ⟨q1,s1⟩ hz⟩⟩
  ·cases ee
 ·cases ee
end
end L3
namespace L3
open PySem PySem.Spec PyProof.Rows PySem.W L2
structure Fly (P:Program) (w:World) (outer:List Env) (H:Hp) (s:Shared) (a C t:Addr) (B:Heap) (H':Hp) (s':Shared):Prop where
 os:s'.os=s.os
 bare:AllBare s'.gens
 un:Un (frs outer) [] H H' s.heap s'.heap
 hok:HOk P w H' s'.heap
 fl:Heap.FlyingW B outer a (.ref C) (.ref t) s'.heap
 old:∀ b o,s.heap.get? b=some o->H b=none->b ∉ frs outer->B.get? b=some o
 oldT:∀ b o,s.heap.get? b=some o->b ∉ frs outer->∃ o',B.get? b=some o'
 trk:∀ b u o,H' b=some u->s'.heap.get? b=some o->B.get? b=some o
 free:H' a=none
noncomputable abbrev j7h:=Rho->Option Str
end L3
namespace L3
open PySem PySem.Spec PyProof.Rows PySem.W L2
end L3
namespace L3
open PySem PySem.Spec PyProof.Rows PySem.W L2
theorem Good.grow {K:PySem.W.Frag} {ρ:Rho} {σ:St} {H H':Hp} {w:Wn} {t:Nat} (g:Good K ρ σ H w t) (h:∀ b o,H b=some o->Sm o (H' b)) (tb:TB K H'):Good K ρ σ H' w t/\Go H w H' w:=by
 have st:x7d H w H' w:=fun a x e n=>⟨h a x e,n⟩
 have kp:∀ a o,w a=some o->H' a=H a:=fun a o e=>by
  obtain⟨vs,q⟩:=g.wl a o e
  rw[q,(h a _ q).eq rfl]
 refine⟨⟨⟨fun a o e=>?_,tb⟩,g.ws,g.wt,g.len,fun i d q e=>?_⟩,st,fun a o e _=>⟨kp a o e,e⟩⟩
 ·obtain⟨vs,q⟩:=g.wl a o e
  exact⟨vs,(h a _ q).eq rfl⟩
 ·obtain⟨v,F,h1,h2⟩:=g.slot i d q e
  exact⟨v,F,h1,Rep.go g.wl st h2 fun a m=>⟨kp a _ (h2.owns a m),h2.owns a m⟩⟩
end L3
namespace L3
open PySem PySem.Spec PyProof.Rows PySem.W L2 PySem.SeqAt
end L3
namespace L3
open PySem PySem.Spec PyProof.Rows L2
end L3
namespace L3
open PySem PySem.Spec PyProof.Rows PySem.W L2
end L3
namespace L3
open PySem PySem.Spec PyProof.Rows PySem.W L2
noncomputable abbrev j7i:=Rho->Option (Str × Rho)
noncomputable def CE (Y:Cx) (pins:List (Addr × Obj)) (σ:St) (H:Hp) (w:Wn) (nm:Str) (ρ1:Rho) (ev:Value) (s':Shared):Prop:=
 ∃ s1 H1 w1 a C t B H',ev=.ref a/\Inv Y.nox pins σ H1 s1/\Good Y.K ρ1 σ H1 w1 0/\Go H w H1 w1/\Fly Y.prog Y.w Y.stack H1 s1 a C t B H' s'/\nsIn Y.K mainGlobals nm=some (some (.ref C))/\(∀ b o,H1 b=some o->Sm o (H' b))/\TB Y.K H'
end L3
namespace L3
open PySem PySem.Spec PyProof.Rows PySem.W L2
end L3
namespace L3
open PySem PySem.Spec PyProof.Rows PySem.W L2
end L3
namespace L3
open PySem PySem.Spec PyProof.Rows PySem.W L2
structure Lm (K:PySem.W.Frag) (mg:Str->Option Value) (base:Heap):Prop where
 bm:∃ bm o,mg "__builtins__" = some (.ref bm)/\bm≠builtinsNs/\base.get? bm=some o/\o.cls=.type "module" /\ o.dict=some builtinsNs/\o.data=.plain
 cd:∀ x∈y21,∀ c P,tabIn K x=some (c,P)->CodeHd base c P
end L3
namespace L3
open PySem PySem.Spec PyProof.Rows PySem.W L2
end L3
namespace L3
open PySem PySem.Spec PyProof.Rows L2
@[simp] noncomputable def y7l (i:Nat):Den:=fun ρ=>match ρ[i]? with
 | some (some (.lst ds,q))=>if q<=1 then some (.lst ds,1,ρ)else none
 | some (some (.tup ds,_))=>some (.lst ds,1,ρ)
 | _=>none
theorem Rep.seqV {K:PySem.W.Frag} {H:Hp} {w:Wn} {o:Ow} {q:Nat} {ds:List D} {v:V} {F:List Addr} (r:Rep K H w o q (.lst ds) v F) (hq:q<=1):∃ a vs,v=.ref a/\SqL K H a vs/\Reps K H w o 0 ds vs []:=by
 cases r with
 | kl h r=>exact⟨_,_,rfl,h.sq,r⟩
 | shr h n r=>exact⟨_,_,rfl,.inl h,r⟩
 | own h n r ne=>
  rename_i q' _ _ _
  obtain rfl:q'=0:=by omega
  have e:=r.zero
  subst e
  exact⟨_,_,rfl,SqL.of h,r⟩
section
variable {X:Cx} {pos p p1 p2:Pos}
theorem z4o {i:Nat} {x:Str} (hm:X.mg "list" = none) (hb:bootBuiltins "list" = some (.type "list")) (h:PE X (.Name x p1) (x9t i)) (hg:Gl X "list":=by rfl) (he:starEach [.Name x p1] X.env=(false,eval (.Name x p1) X.env)::starEach [] X.env:=by rfl) (hpl:(backTo pos (starEach [] X.env)).any (·.1)=false:=by rfl):PD X (.Call (.Name "list" p) [.Name x p1] [] pos) (y7l i):=
 PE.imp (x5l y0i hg hm hb (x4u h x7k he) (by decide) (by decide) he hpl) fun σ H Q hh0=>by
 obtain⟨ρ,w,t,r',q,ρ',gd,ee,k⟩:=hh0
 unfold y7l at ee
 split at ee
 ·rename_i ds q0 e0
  split at ee
  ·rename_i hq
   cases ee
   obtain⟨v,F,h1,h2⟩:=gd.slot i _ q0 e0
   obtain⟨p,ys,rfl,hs,rs⟩:=h2.seqV hq
   refine⟨_,h1,p,ys,rfl,.inl hs,fun l hl=>?_⟩
   obtain⟨a1,a2,a3⟩:=y3s gd hl (rs.any gd.wl)
   exact k _ _ _ _ a1 a2 a3
  ·cases ee
 ·rename_i ds q0 e0
  cases ee
  obtain⟨v,F,h1,h2⟩:=gd.slot i _ q0 e0
  obtain⟨p,ys,rfl,hs,rs⟩:=h2.seqT
  refine⟨_,h1,p,ys,rfl,.inr hs,fun l hl=>?_⟩
  obtain⟨a1,a2,a3⟩:=y3s gd hl (rs.any gd.wl)
  exact k _ _ _ _ a1 a2 a3
 ·cases ee
end
end L3
namespace L3
open PySem PySem.Spec PyProof.Rows PySem.W L2
end L3
namespace L3
open PySem PySem.Spec PyProof.Rows PySem.W L2
noncomputable abbrev met (ks:List Int):List Int:=firstMet (fun i=>ks.getD i 0) ks.length
theorem y07:∀ {ks:List Int} {us:List Value},x2z (ks.map V.int) us->IntsAre us ks
 | [],_,h=>by cases h; exact .nil
 | k::ks,_,h=>by
  cases h with
  | cons r rs=>
   obtain⟨t,rfl⟩:=r
   exact .cons k t (y07 rs)
noncomputable def bl (m:Nat):List Nat:=(List.range 5).filter fun i=>m.testBit i
noncomputable def bt (m:Nat) (led:Bool):SetTable:={ mask:=if(bl m).length<5 then 7 else 31,place:=(bl m).toArray,dummies:=#[],finger:=0,led:=led,moves:=if(bl m).length<5 then 0 else 1,plain:=true }
noncomputable def esL (m:Nat) (z:Nat->Tok):Array (Int × Value):=((bl m).map fun v:Nat=>(Int.ofNat v,Value.int (Int.ofNat v) (z v))).toArray
noncomputable def so (m:Nat) (z:Nat->Tok) (ep:Nat) (led:Bool):Obj:={ cls:=.type "set",dict:=none,data:=.set (esL m z) ep (bt m led) }
noncomputable def bor (m v:Nat):Nat:=m ||| 1 <<< v
theorem z1g:∀ m:Nat,m<32->∀ v:Nat,v<5->bor m v<32:=by decide +kernel
theorem z26:∀ m:Nat,m<32->∀ v:Nat,v<5->(v∈bl m ↔ m.testBit v=true):=by decide +kernel
theorem z5l (m:Nat) {v:Nat} (h:v∈bl m):v<5:=by
 unfold bl at h; rw[List.mem_filter]at h; exact List.mem_range.mp h.1
theorem j0e:∀ m:Nat,m<32->∀ v:Nat,v<5->m.testBit v=true->bor m v=m:=by decide +kernel
theorem y6j:∀ m:Nat,m<32->∀ led:Bool,(bt m led).fits (bl m).length=true:=by decide +kernel
theorem j4g:∀ m:Nat,m<32->∀ v:Nat,v<5->m.testBit v=false->∀ led:Bool,(bt m led).freeSlot (Int.ofNat v)=some (v,false):=by decide +kernel
theorem j5a:∀ m:Nat,m<32->∀ v:Nat,v<5->m.testBit v=false->∀ led:Bool,(bl m).take ((bt m led).put v).2++v::(bl m).drop ((bt m led).put v).2=bl (bor m v):=by decide +kernel
theorem j5t:∀ m:Nat,m<32->∀ v:Nat,v<5->m.testBit v=false->∀ led:Bool,((bt m led).put v).1.fits (bl (bor m v)).length=true:=by decide +kernel
theorem z98:∀ m:Nat,m<32->∀ v:Nat,v<5->m.testBit v=false->∀ led:Bool,((bt m led).put v).1.plain=true/\(bl (bor m v)).length<=5:=by decide +kernel
theorem j4s:∀ m:Nat,m<32->∀ v:Nat,v<5->m.testBit v=false->∀ led:Bool,((bt m led).put v).1.tooFull=false->((bt m led).put v).1=bt (bor m v) led:=by decide +kernel
noncomputable def rl (m v:Nat) (led:Bool):=((bt m led).put v).1.relaid ((bl (bor m v)).map Int.ofNat).toArray (SetTable.grown (bl (bor m v)).length)
noncomputable def j64 (m v:Nat) (led:Bool):Bool:=match rl m v led with
 | some (x,y)=>decide (x=bt (bor m v) led) && decide (y=Array.range (bl (bor m v)).length)
 | none=>false
theorem j4z:∀ m:Nat,m<32->∀ v:Nat,v<5->m.testBit v=false->∀ led:Bool,((bt m led).put v).1.tooFull=true->j64 m v led=true:=by decide +kernel
theorem j5c {m v:Nat} {led:Bool} (hm:m<32) (hv:v<5) (hb:m.testBit v=false) (hf:((bt m led).put v).1.tooFull=true):rl m v led=some (bt (bor m v) led,Array.range (bl (bor m v)).length):=by
 have a:=j4z m hm v hv hb led hf
 unfold j64 at a
 split at a
 ·rename_i x y h
  rw[Bool.and_eq_true,decide_eq_true_eq,decide_eq_true_eq]at a
  rw[h,a.1,a.2]
 ·cases a
theorem j4l:∀ n:Nat,n<9->coversAll (Array.range n) n=true:=by decide +kernel
theorem x38 (m:Nat) (z:Nat->Tok):(esL m z).size=(bl m).length:=by unfold esL; rw[List.size_toArray,List.length_map]
theorem x8c (m:Nat) (z:Nat->Tok):(esL m z).toList=(bl m).map fun v:Nat=>(Int.ofNat v,Value.int (Int.ofNat v) (z v)):=rfl
theorem z44 (m:Nat) (z:Nat->Tok):(esL m z).map (·.1)=((bl m).map Int.ofNat).toArray:=by
 apply Array.ext'
 rw[Array.toList_map,x8c,List.map_map]; rfl
theorem z85 {m v:Nat} {led:Bool} (hm:m<32) (hv:v<5) (hb:m.testBit v=false) (z:Nat->Tok) (t:Tok) :
  SetTable.insertAt (esL m z) ((bt m led).put v).2 (Int.ofNat v,Value.int (Int.ofNat v) t)=esL (bor m v) (fun k=>if k=v then t else z k):=by
 apply Array.ext'
 rw[SetTable.toList_insertAt,x8c,x8c,<- j5a m hm v hv hb led,List.map_append,List.map_cons,<- List.map_take,<- List.map_drop]
 have nm:v ∉ bl m:=fun h=>by rw[(z26 m hm v hv).mp h]at hb; cases hb
 have e:∀ l:List Nat,(∀ k∈l,k∈bl m)->l.map (fun k:Nat=>(Int.ofNat k,Value.int (Int.ofNat k) (z k)))=l.map (fun k:Nat=>(Int.ofNat k,Value.int (Int.ofNat k) ((fun k=>if k=v then t else z k) k))):=by
  intro l hl
  apply List.map_congr_left
  intro k hk
  have:k≠v:=fun h=>nm (h ▸ hl k hk)
  simp only[if_neg this]
 rw[e _ (fun k hk=>List.mem_of_mem_take hk),e _ (fun k hk=>List.mem_of_mem_drop hk)]
 simp only[if_true]
theorem j14 (prog:Program) (w:World):∀ v:Nat,v<5->(intKind prog w).hash (Int.ofNat v)=Int.ofNat v:=by
 show ∀ v:Nat,v<5->hashInt (Int.ofNat v)=Int.ofNat v
 decide +kernel
theorem j3i (prog:Program) (w:World) {m:Nat} (z:Nat->Tok):ElemsOf (intKind prog w) (esL m z).toList:=by
 intro e he
 rw[x8c]at he
 obtain⟨v,hv,rfl⟩:=List.mem_map.mp he
 exact⟨⟨Int.ofNat v,intKind_is _ _ _ _,(j14 prog w v (z5l m hv)).symm⟩,rfl⟩
section
variable {prog:Program} {w:World} {A:Around} {E:Value->Shared->Prop} {s:Shared}
theorem j6l {a:Addr} {m v ep:Nat} {z:Nat->Tok} {led:Bool} {t:Tok} {Q:Bool->Shared->Prop} (hm:m<32) (hv:v<5) (ho:s.heap.get? a=some (so m z ep led))
  (h:∀ h' z' ep' r,Heap.SameBut a s.heap h'->h'.get? a=some (so (bor m v) z' ep' led)->Q r { s with heap:=h' }) :
  wpAny (model prog w) A (setAddHashed a (.int (Int.ofNat v) t) ((intKind prog w).hash (Int.ofNat v))) Q E s:=by
 have hd:(so m z ep led).data=.set (esL m z) ep (bt m led):=rfl
 have hf:(bt m led).fits (esL m z).size=true:=by rw[x38]; exact y6j m hm led
 have hel:=j3i prog w (m:=m) z
 have hsz:(esL m z).size<scanBound:=by
  rw[x38]; unfold bl scanBound; exact Nat.lt_of_le_of_lt (List.length_filter_le _ _) (by simp)
 have hkey:(intKind prog w).is (Int.ofNat v) (.int (Int.ofNat v) t)=true:=intKind_is _ _ _ _
 unfold setAddHashed setAddHashedIn
 refine wpAny_holding (wpAny_bind (wpAny_setState_of ho hd hf ?_))
 dsimp only
 rw[byScan_of (knd:=intKind prog w) rfl hsz hel]
 simp only[↓reduceIte]
 unfold setAddByScan
 refine wpAny_bind ?_
 refine wpAny_bind (wpAny_rule ?_)
 refine wpAny_bind (wpAny_setScan_of hkey ho hd hf hel ?_)
 cases hr:List.findIdx? (fun e=>(intKind prog w).is (Int.ofNat v) e.2) (esL m z).toList with
 | some j=>
  dsimp only
  obtain⟨hj,hpj,_⟩:=List.findIdx?_eq_some_iff_getElem.mp hr
  have hmem:=List.getElem_mem hj
  obtain⟨u,hu,eu⟩:=List.mem_map.mp (show(esL m z).toList[j]∈(bl m).map _ from hmem)
  rw[<- eu]at hpj
  have huv:v=u:=by
   have:=(intKind prog w).inj _ _ _ hpj (intKind_is _ _ (Int.ofNat u) _)
   exact Int.ofNat.inj this
  subst huv
  have e:s={ s with heap:=s.heap }:=by cases s; rfl
  refine wpAny_pure (wpAny_pure ?_)
  rw[e]
  refine h s.heap z ep _ (Heap.SameBut.refl a s.heap) ?_
  rw[j0e m hm v hv ((z26 m hm v hv).mp hu)]
  exact ho
 | none=>
  dsimp only
  have hb:m.testBit v=false:=by
   cases hk:m.testBit v with
   | false=>rfl
   | true=>
    have:=List.findIdx?_eq_none_iff.mp hr (Int.ofNat v,Value.int (Int.ofNat v) (z v)) (List.mem_map.mpr ⟨v,(z26 m hm v hv).mpr hk,rfl⟩)
    rw[intKind_is]at this; cases this
  have hL:layNew (bt m led) (esL m z) ((intKind prog w).hash (Int.ofNat v)) (.int (Int.ofNat v) t)=(esL (bor m v) (fun k=>if k=v then t else z k),((bt m led).put v).1,false,false):=by
   unfold layNew
   rw[j14 prog w v hv,j4g m hm v hv hb led]
   dsimp only
   rw[z85 hm hv hb z t,x38]
   unfold SetTable.orStandIn
   rw[j5t m hm v hv hb led]
   rfl
  rw[hL]
  dsimp only
  refine wpAny_bind (show wpAny _ _ (pure ()) _ _ _ from wpAny_pure ?_)
  rw[(z98 m hm v hv hb led).1]
  simp only[↓reduceIte]
  rw[hashByValue_scannable 8 (x:=.int (Int.ofNat v) t) rfl]
  refine wpAny_bind (wpAny_pure ?_)
  simp only[plainKind,↓reduceIte]
  have hz1:(esL (bor m v) (fun k=>if k=v then t else z k)).size<=sizeLine:=by
   rw[x38]; exact Nat.le_trans (z98 m hm v hv hb led).2 (by rw[sizeLine_eq]; omega)
  refine wpAny_bind (wpAny_storeSet_of ho hd ?_ hz1)
  have hg1:(s.heap.update a (Obj.putSet (esL (bor m v) (fun k=>if k=v then t else z k)) ((bt m led).put v).1)).get? a=some { so m z ep led with data:=.set (esL (bor m v) (fun k=>if k=v then t else z k)) (ep+1) ((bt m led).put v).1 }:=by
   have:=Heap.get?_update_self (Obj.putSet (esL (bor m v) (fun k=>if k=v then t else z k)) ((bt m led).put v).1) ho (by rw[putSet_of _ _ hd]; rfl)
   rw[putSet_of _ _ hd]at this; exact this
  have hsb:=Heap.SameBut.update s.heap a (Obj.putSet (esL (bor m v) (fun k=>if k=v then t else z k)) ((bt m led).put v).1)
  cases hfu:((bt m led).put v).1.tooFull with
  | false=>
   rw[if_neg (by simp)]
   refine wpAny_pure (show wpAny _ _ (pure true) _ _ _ from wpAny_pure (h _ (fun k=>if k=v then t else z k) (ep+1) _ hsb ?_))
   rw[hg1,j4s m hm v hv hb led hfu]; rfl
  | true=>
   rw[if_pos (by simp)]
   have hR:relayAll ((bt m led).put v).1 (esL (bor m v) (fun k=>if k=v then t else z k)) (SetTable.grown (esL (bor m v) (fun k=>if k=v then t else z k)).size)=(esL (bor m v) (fun k=>if k=v then t else z k),bt (bor m v) led,false):=by
    unfold relayAll
    rw[z44,x38]
    rw[show((bt m led).put v).1.relaid ((bl (bor m v)).map Int.ofNat).toArray (SetTable.grown (bl (bor m v)).length)=some (bt (bor m v) led,Array.range (bl (bor m v)).length)from j5c hm hv hb hfu]
    dsimp only
    have e1:(Array.range (bl (bor m v)).length).filterMap (fun i=>(esL (bor m v) (fun k=>if k=v then t else z k))[i]?)=esL (bor m v) (fun k=>if k=v then t else z k):=by
     apply Array.ext'
     rw[Array.toList_filterMap,Array.toList_range,<- x38 (bor m v) (fun k=>if k=v then t else z k)]
     exact filterMap_getElem?_range _
    rw[e1,j4l _ (Nat.lt_of_le_of_lt (z98 m hm v hv hb led).2 (by decide)),x38,y6j _ (z1g m hm v hv) led]
    rfl
   rw[hR]
   dsimp only
   refine wpAny_bind (show wpAny _ _ (pure ()) _ _ _ from wpAny_pure ?_)
   refine wpAny_bind (wpAny_storeSet_of (s:={ s with heap:=_ }) hg1 rfl ?_ hz1)
   refine wpAny_pure (show wpAny _ _ (pure true) _ _ _ from wpAny_pure (h _ (fun k=>if k=v then t else z k) (ep+1+1) _ (hsb.trans (Heap.SameBut.update _ a _)) ?_))
   have:=Heap.get?_update_self (Obj.putSet (esL (bor m v) (fun k=>if k=v then t else z k)) (bt (bor m v) led)) hg1 (by rw[putSet_of _ _ rfl]; rfl)
   rw[putSet_of _ _ rfl]at this; exact this
end
noncomputable def mb (val:Nat->Nat):Nat->Nat
 | 0=>0
 | i+1=>bor (mb val i) (val i)
theorem z9h {val:Nat->Nat} {n:Nat} (hv:∀ i,i<n->val i<5):∀ i,i<=n->mb val i<32
 | 0,_=>by show 0<32; decide
 | i+1,h=>z1g _ (z9h hv i (by omega)) _ (hv i (by omega))
section
variable {prog:Program} {w:World} {A:Around} {R:Result->Shared->Prop} {I:Addr} {fp wr:List Addr} {G:Array GenState->Array GenState->Prop} {n:Nat} {P:Nat->Value->Prop} {St:Nat->Shared->Prop}
theorem j5s (W:WalksS prog w A.in1 I fp wr G n P St) (S:Addr) (hSf:S ∉ fp) (led:Bool)
  (val:Nat->Nat) (h5:∀ i,i<n->val i<5) (hval:∀ i v,P i v->∃ t,v=.int (Int.ofNat (val i)) t) :
  ∀ (k i:Nat) (s:Shared) (z:Nat->Tok) (ep:Nat),n-i=k->i<=n->St i s->s.heap.get? S=some (so (mb val i) z ep led)->
   (∀ s' z' ep',Moved (S::wr) G s s'->s'.heap.get? S=some (so (mb val n) z' ep' led)->R (.ok (.ret .none)) s')->
   codeAny (model prog w) A (.builtin "set.update.loop" ⟨[.ref S,.ref I],[]⟩) R s:=by
 have hSw:S ∉ wr:=fun h=>hSf (W.sub _ h)
 have hsub:∀ b∈wr,b∈S::wr:=fun b hb=>List.mem_cons_of_mem _ hb
 intro k
 induction k with
 | zero=>
  intro i s z ep hk hi hst hS hR
  have hin:i=n:=by omega
  subst hin
  refine codeAny_builtin PyProof.Rows.F.entry_set_update_loop ?_
  rw[Around.under_plainId PyProof.Rows.F.plain_set_update_loop _]
  show wpAny _ A.in1 (pyNext (.ref I) >>= _) _ _ s
  refine wpAny_bind (W.done s _ _ hst fun s' hm=>?_)
  show wpAny _ A.in1 (ret Value.none) _ _ s'
  exact wpAny_pure (hR s' z ep (hm.mono hsub) (hm.heap S _ hSw hS))
 | succ k ih=>
  intro i s z ep hk hi hst hS hR
  have hlt:i<n:=by omega
  refine codeAny_builtin PyProof.Rows.F.entry_set_update_loop ?_
  rw[Around.under_plainId PyProof.Rows.F.plain_set_update_loop _]
  show wpAny _ A.in1 (pyNext (.ref I) >>= _) _ _ s
  refine wpAny_bind (W.item i s _ _ hlt hst fun v s' hP hst' hm=>?_)
  obtain⟨t,rfl⟩:=hval i v hP
  show wpAny _ A.in1 (holding [Value.int (Int.ofNat (val i)) t] (setAdd S (.int (Int.ofNat (val i)) t)) >>= _) _ _ s'
  refine wpAny_bind (wpAny_holding ?_)
  unfold setAdd
  refine wpAny_holding ?_
  refine wpAny_bind ((intKind prog w).pyHash (k:=Int.ofNat (val i)) (intKind_is _ _ _ _) ?_)
  refine j6l (s:={ s' with toks:=s'.toks+1 }) (z9h h5 i hi) (h5 i hlt) (hm.heap S _ hSw hS) fun h' z' ep' r hsb hS2=>?_
  refine wpAny_pure ⟨plainId_quiet PyProof.Rows.F.plain_set_update_loop _,ih (i+1) _ z' ep' (by omega) hlt (W.frame _ s' _ _ hst' (Nat.le_succ _) fun b hb o e=>?_) hS2 fun s'' z'' ep'' hm'' hS''=>?_⟩
  ·rw[hsb.2 b (fun h:b=S=>hSf (by rw[<- h]; exact hb))]; exact e
  ·refine hR s'' z'' ep'' (Moved.trans W.gtrans ((hm.mono hsub).then_heap (Nat.le_succ _) fun b o hb e=>?_) hm'') hS''
   rw[hsb.2 b (fun h:b=S=>hb (by rw[h]; exact List.mem_cons_self))]; exact e
end
section
variable {prog:Program} {w:World} {A:Around} {E:Value->Shared->Prop} {s:Shared}
noncomputable abbrev byT (w:World):Bool:=w.params.followText "set-order"
theorem j02 (led:Bool):(so 0 (fun _=>0) 0 led)={ cls:=.type "set",dict:=none,data:=.set #[] 0 (.fresh 0 0 led) }:=by unfold so; congr 1
theorem j6j (a:Value) {Q₁:Value->Shared->Prop} (h:Q₁ (.ref s.heap.objs.size) { s with heap:=s.heap.push (so 0 (fun _=>0) 0 (!byT w)) }) :
  codeAny (model prog w) A (.call (.builtin "set.__new__") ⟨[.type "set",a],[]⟩) (wants Q₁ E) s:=by
 refine codeAny_of_tree ?_
 show wpAny _ A.in1 (do checkBuiltinCall "set.__new__" ⟨[.type "set",a],[]⟩; again (.builtin "set.__new__" ⟨[.type "set",a],[]⟩)) _ _ s
 refine wpAny_bind (wpAny_of_eq (PySem.F.newCall_set_1 a) (wpAny_pure ⟨plainId_quiet PySem.F.plain_set_new _,codeAny_builtin PySem.F.entry_set_new ?_⟩))
 rw[Around.under_plainId PySem.F.plain_set_new _]
 unfold Builtin.«set.__new__» Builtin.Frozenset.newClass
 have hsub:=sub_set_self
 obtain⟨hp,g,d,tk,os⟩:=s
 dsimp only
 wp_walk
 refine wpAny_askSetting (wpAny_pure ?_)
 dsimp only
 simp only[newObj]
 refine wpAny_bind (wpAny_alloc (wpAny_pure ?_))
 rw[j02]at h
 exact wpAny_pure h
set_option maxHeartbeats 3200000 in
theorem j77 {t:Addr} {us:List Value} {ks:List Nat} {Q:Value->Shared->Prop} (hA:A.handled=none) (ht:s.heap.IsList t us.toArray) (hk:IntsAre us (ks.map Int.ofNat)) (h5:∀ k∈ks,k<5)
  (q:∀ (h':Heap) (tk:Nat) z ep,h'.get? s.heap.objs.size=some (so (mb (fun i=>ks.getD i 0) ks.length) z ep (!byT w))->(∀ b o,b<s.heap.objs.size->s.heap.get? b=some o->h'.get? b=some o)->Q (.ref s.heap.objs.size) { s with heap:=h',toks:=tk }) :
  wpAny (model prog w) A (call (.type "set") [.ref t]) Q E s:=by
 have hlen:us.length=ks.length:=by rw[IntsAre.length hk,List.length_map]
 have c1:=PySem.F.called_set.made
 have c2:=PySem.F.called_set.sub
 obtain⟨cc,tl,c3⟩:=PySem.F.called_set.mro
 have c4:=PySem.F.called_set.notType
 have c5:=PySem.F.called_set.canCreate
 have c6:=PySem.F.typeCall_set_1 (.ref t)
 refine wpAny_call (codeAny_of_tree (show wpAny _ _ (callAny (.type "set") _) _ _ _ from wpAny_pure ⟨Code.quiet_builtin _ (by decide +kernel),codeAny_builtin PySem.F.entry_type_call ?_⟩))
 rw[Around.under_plain (weight_type_call_type "set" [.ref t] []) rfl]
 repeat (any_goals (first | assumption | wp_step))
 refine codeAny_mono (j6j (.ref t) (E:=E) (Q₁:=fun ob s1=>ob=.ref s.heap.objs.size/\s1={ s with heap:=s.heap.push (so 0 (fun _=>0) 0 (!byT w)) }) ⟨rfl,rfl⟩) fun r s1 hr=>?_
 cases r with
 | error e=>exact hr
 | ok fl=>
  cases fl with
  | ret ob=>
   obtain⟨rfl,rfl⟩:=hr
   have g0:(s.heap.push (so 0 (fun _=>0) 0 (!byT w))).get? s.heap.objs.size=some (so 0 (fun _=>0) 0 (!byT w)):=Heap.get?_push_size _ rfl
   have g1:Shared.TypeIs { s with heap:=s.heap.push (so 0 (fun _=>0) 0 (!byT w)) } (.ref s.heap.objs.size) "set":=⟨_,g0,rfl⟩
   have g2:=PySem.F.called_set.init.lookup
   have g3:=PySem.F.called_set.init.bind (.ref s.heap.objs.size)
   repeat (any_goals (first | assumption | wp_step))
   refine codeAny_mono (codeAny_call_builtin (R:=wants (fun r s2=>r=.none/\∃ h' tk z ep,s2={ s with heap:=h',toks:=tk }/\h'.get? s.heap.objs.size=some (so (mb (fun i=>ks.getD i 0) ks.length) z ep (!byT w))/\(∀ b o,b<s.heap.objs.size->s.heap.get? b=some o->h'.get? b=some o)) E)
    PySem.F.called_set.init.plain PySem.F.entry_set_init (check_set_init_1 g1 ?_)) fun r2 s2 hr2=>?_
   ·obtain⟨ol,hol,hcl,nl,hdl⟩:=ht
    obtain⟨oc,od,odt,osl⟩:=ol
    simp only at hcl hdl
    subst hcl hdl
    have hol':(s.heap.push (so 0 (fun _=>0) 0 (!byT w))).get? t=some _:=Heap.get?_push_of_some _ hol
    have n1:=PySem.F.sub_list_set
    have n2:=PySem.F.sub_list_frozenset
    have n3:(Value.type "list" == Value.type "dict")=false:=by decide
    have tt:(s.heap.push (so 0 (fun _=>0) 0 (!byT w))).IsList t us.toArray:=⟨_,hol',rfl,nl,rfl⟩
    unfold Builtin.«set.__init__» noKeywords Builtin.Frozenset.updateFrom
    generalize hPI:pyIter=PI
    wp_walk
    subst hPI
    refine wpAny_pyIter_list tt (wpAny_bind (wpAny_runValue ?_))
    have lt:=Heap.lt_size hol
    have e1:(s.heap.push (so 0 (fun _=>0) 0 (!byT w))).objs.size=s.heap.objs.size+1:=Heap.size_push ..
    have sz:us.toArray.size=ks.length:=by rw[List.size_toArray,hlen]
    have hval:∀ (i:Nat) (v:Value),us.toArray[i]? = some v->∃ z,v=.int (Int.ofNat ((fun i=>ks.getD i 0) i)) z:=fun i v hv=>by
     have hi:i<us.length:=by
      rcases Nat.lt_or_ge i us.length with h | h
      ·exact h
      ·rw[Array.getElem?_eq_none (by rw[List.size_toArray]; exact h)]at hv; cases hv
     obtain⟨z,e⟩:=IntsAre.int_at hk i v (by rw[<- hv]; simp)
     refine⟨z,?_⟩
     rw[e]
     congr 1
     simp only[List.getD_eq_getElem?_getD,List.getElem?_map]
     rw[List.getElem?_eq_getElem (hlen ▸ hi)]
     rfl
    have h5':∀ i,i<us.toArray.size->(fun i=>ks.getD i 0) i<5:=fun i hi=>by
     rw[sz]at hi
     simp only[List.getD_eq_getElem?_getD]
     rw[List.getElem?_eq_getElem hi]
     exact h5 _ (List.getElem_mem hi)
    refine j5s ((Walks.list (A:=A.in1.in1.in1) (by simp[hA]) _ t (by rw[e1]; exact Nat.ne_of_lt (Nat.lt_succ_of_lt lt)) us.toArray).toS) s.heap.objs.size (by rw[e1]; simp only[List.mem_cons,List.not_mem_nil,or_false,not_or]; exact⟨Nat.ne_of_lt (Nat.lt_succ_self _),Nat.ne_of_gt lt⟩) (!byT w) (fun i=>ks.getD i 0) h5' hval (us.toArray.size-0) 0 _ (fun _=>0) 0 (by omega) (Nat.zero_le _) ⟨⟨_,Heap.get?_push_size _ rfl,rfl,rfl⟩,tt.push _⟩ ?zz1 ?zz2
    case zz1=>exact Heap.get?_push_of_some _ g0
    case zz2=>
     intro s' z' ep' hm hS
     rw[sz]at hS
     obtain⟨h',g',d',tk',os'⟩:=s'
     cases (show g'=s.gens from hm.gens)
     cases (show d'=s.drawn from hm.drawn)
     cases (show os'=s.os from hm.os)
     refine wpAny_pure (show wpAny _ _ (ret Value.none) _ _ _ from wpAny_pure ⟨rfl,h',tk',z',ep',rfl,hS,fun c o hc e=>hm.heap c o ?_ (Heap.get?_push_of_some _ (Heap.get?_push_of_some _ e))⟩)
     rw[e1]
     simp only[List.mem_cons,List.not_mem_nil,or_false,not_or]
     exact⟨Nat.ne_of_lt hc,Nat.ne_of_lt (Nat.lt_succ_of_lt hc)⟩
   ·cases r2 with
    | error e=>exact hr2
    | ok fl2=>
     cases fl2 with
     | ret r=>
      obtain⟨rfl,h',tk,z,ep,rfl,hS,kp⟩:=hr2
      repeat (any_goals (first | assumption | wp_step))
      exact q _ _ _ _ hS kp
     | _=>exact hr2.elim
  | _=>exact hr.elim
end
theorem j04:∀ m:Nat,m<32->∀ i:Nat,i<6->i<=(bl m).length->SetTable.below (bl m).toArray (if i=0 then 0 else(bl m).getD (i-1) 0+1)=i:=by decide +kernel
theorem y85:∀ m:Nat,m<32->(bl m).length<=5:=by decide +kernel
theorem z1p {α:Type} (next:Nat->Nat):∀ (fuel k:Nat) (x40:List α) (out:Array α),x40.length=fuel->(pickOrder.go next fuel k x40 out).toList.Perm (out.toList++x40)
 | 0,k,x40,out,h=>by
  rw[List.eq_nil_of_length_eq_zero h,List.append_nil]; exact .rfl
 | fuel+1,k,x40,out,h=>by
  unfold pickOrder.go
  have hlt:next k % x40.length<x40.length:=Nat.mod_lt _ (by omega)
  rw[List.getElem?_eq_getElem hlt]
  dsimp only
  refine(z1p next fuel (k+1) _ _ (by rw[List.length_eraseIdx,if_pos hlt]; omega)).trans ?_
  rw[Array.toList_push,List.append_assoc]
  refine List.Perm.append_left _ ?_
  rw[List.eraseIdx_eq_take_drop_succ]
  have e:x40=x40.take (next k % x40.length)++x40[next k % x40.length]::x40.drop (next k % x40.length+1):=by
   rw[List.getElem_cons_drop]; exact(List.take_append_drop _ _).symm
  conv=>rhs; rw[e]
  show List.Perm (x40[next k % x40.length]::(x40.take (next k % x40.length)++x40.drop (next k % x40.length+1))) _
  exact List.perm_middle.symm
theorem z2e {α:Type} (next:Nat->Nat) (xs:Array α):(pickOrder next xs).toList.Perm xs.toList:=by
 unfold pickOrder
 exact z1p next _ 0 _ #[] (by simp)
theorem z3s:entryFor table "set.__iter__" = some Builtin.«frozenset.__iter__»:=
 entryFor_alias (id':="frozenset.__iter__") (by kernel_rfl) rfl (by decide +kernel) (by kernel_rfl)
theorem x9z:Slot "set_iterator" "__next__" "set_iterator.__next__" :=
 .of (owner:="set_iterator") (n:="__next__") (by rw[typeLookup_type,builtinLookup_eq_fast]; kernel_rfl) (by decide +kernel) (by decide +kernel) (by decide +kernel)
  (by first | exact .inl (by decide +kernel) | exact .inr (by decide +kernel)) (by rw[isSubtype_type]; kernel_rfl)
theorem y8l:entryFor table "set_iterator.__next__" = some Builtin.«set_iterator.__next__»:=entryFor_of_tree (by kernel_rfl)
theorem z29 (a:Value):argsOk "set_iterator.__next__" ⟨[a],[]⟩:=by unfold argsOk; kernel_rfl
theorem y7x:Slot "set_iterator" "__iter__" "set_iterator.__iter__" :=
 .of (owner:="set_iterator") (n:="__iter__") (by rw[typeLookup_type,builtinLookup_eq_fast]; kernel_rfl) (by decide +kernel) (by decide +kernel) (by decide +kernel)
  (by first | exact .inl (by decide +kernel) | exact .inr (by decide +kernel)) (by rw[isSubtype_type]; kernel_rfl)
theorem z57 (a:Value):argsOk "set_iterator.__iter__" ⟨[a],[]⟩:=by unfold argsOk; kernel_rfl
theorem z01:entryFor table "set_iterator.__iter__" = some Builtin.«dict_keyiterator.__iter__»:=
 entryFor_alias (id':="dict_keyiterator.__iter__") (by kernel_rfl) rfl (by decide +kernel) (by kernel_rfl)
noncomputable def io (a:Addr) (sl i n ep:Nat):Obj:={ cls:=.type "set_iterator",dict:=none,data:=.fields #[.int (Int.ofNat sl) 0,.int (Int.ofNat i) 0,.ref a,.int (Int.ofNat n) 0,.int (Int.ofNat ep) 0],slots:=#[] }
noncomputable def wk (w:World) (a:Addr) (m:Nat) (z:Nat->Tok) (ep:Nat):Array (Int × Value):=if byT w then pickOrder (w.params.setOrder a ep) (esL m z)else esL m z
noncomputable def sl8 (w:World) (m i:Nat):Nat:=if byT w then 0 else if i=0 then 0 else(bl m).getD (i-1) 0+1
theorem z1c (w:World) (a:Addr) (m:Nat) (z:Nat->Tok) (ep:Nat):(wk w a m z ep).toList.Perm (esL m z).toList:=by
 unfold wk
 split
 ·exact z2e _ _
 ·exact .rfl
theorem y4c (w:World) (a:Addr) (m:Nat) (z:Nat->Tok) (ep:Nat):(wk w a m z ep).size=(bl m).length:=by
 rw[<- Array.length_toList,(z1c w a m z ep).length_eq,Array.length_toList,x38]
section
variable {prog:Program} {w:World} {A:Around} {E:Value->Shared->Prop} {s:Shared} {a I:Addr} {m ep:Nat} {z:Nat->Tok}
theorem st8 {Q:(Array (Int × Value) × Nat × SetTable)->Shared->Prop} (hm:m<32) (ho:s.heap.get? a=some (so m z ep (!byT w))) (h:Q (esL m z,ep,bt m (!byT w)) s):wpAny (model prog w) A (setState a) Q E s:=
 wpAny_setState_of ho rfl (by rw[x38]; exact y6j m hm _) h
theorem z0e {Q:Bool->Shared->Prop} (h:Q (byT w) s):wpAny (model prog w) A setsByText Q E s:=by
 unfold setsByText
 exact wpAny_bind (wpAny_askSetting (wpAny_pure h))
theorem j4c {Q:Value->Shared->Prop} (hm:m<32) (ho:s.heap.get? a=some (so m z ep (!byT w)))
  (hQ:Q (.ref s.heap.objs.size) { s with heap:=s.heap.push (io a 0 0 (bl m).length ep) }):wpAny (model prog w) A (pyIter (.ref a)) Q E s:=by
 have hT:s.TypeIs (.ref a) "set":=⟨_,ho,rfl⟩
 refine wpAny_pyIter_slot hT PySem.F.slot_set_iter (wpAny_call_entry PySem.F.slot_set_iter hT z3s ?_ (PySem.F.args_set_iter_1 _))
 unfold Builtin.«frozenset.__iter__» Builtin.Frozenset.slot0 slotArgs
 simp only[List.isEmpty_nil,Bool.not_true,Bool.false_eq_true,↓reduceIte,bind_assoc,List.length_nil,bne_self_eq_false]
 unfold Builtin.Frozenset.addrOf Builtin.Frozenset.sizeOf
 refine wpAny_bind (wpAny_pure ?_)
 try dsimp only
 refine wpAny_bind (wpAny_pure ?_)
 have hse:∀ {R:Array (Int × Value)->Shared->Prop},R (esL m z) s->wpAny (model prog w) A.in1 (setEntries a) R E s:=fun h=>by
  unfold setEntries; exact wpAny_bind (st8 hm ho (wpAny_pure h))
 refine wpAny_bind (wpAny_bind (hse (wpAny_pure ?_)))
 have hdr:∀ {R:Bool->Shared->Prop},R false s->wpAny (model prog w) A.in1 (setDrawn a) R E s:=fun h=>by
  unfold setDrawn
  refine wpAny_bind (st8 hm ho (wpAny_bind (z0e (wpAny_pure ?_))))
  have e:(!byT w && (!(bt m (!byT w)).plain && decide ((esL m z).size > 1)))=false:=by cases byT w <;> rfl
  exact e ▸ h
 refine wpAny_bind (hdr ?_)
 simp only[Bool.false_eq_true,↓reduceIte]
 refine wpAny_bind (wpAny_pure ?_)
 have hep:∀ {R:Nat->Shared->Prop},R ep s->wpAny (model prog w) A.in1 (setEpoch a) R E s:=fun h=>by
  unfold setEpoch; exact wpAny_bind (st8 hm ho (wpAny_pure h))
 refine wpAny_bind (hep ?_)
 unfold newFields
 refine wpAny_bind (wpAny_newObj_type (wpAny_pure ⟨_,rfl,"set_iterator",_,⟨_,Heap.get?_push_size _ rfl,rfl⟩,x9z.lookup,?_⟩))
 rw[x38]
 exact hQ
theorem j2k {i:Nat} {R:Option (Value × Nat)->Shared->Prop} (hm:m<32) (hi:i<=(bl m).length) (ho:s.heap.get? a=some (so m z ep (!byT w)))
  (h:R (((wk w a m z ep)[i]?).map fun e=>(e.2,sl8 w m (i+1))) s):wpAny (model prog w) A (setNext a (sl8 w m i) i ep) R E s:=by
 unfold setNext
 refine wpAny_bind (st8 hm ho (wpAny_bind (z0e ?_)))
 dsimp only
 cases hb:byT w with
 | true=>
  rw[if_pos rfl]
  rw[if_neg (by simp)]
  refine wpAny_bind (m:=setWalk a) ?_
  unfold setWalk
  refine wpAny_bind (st8 hm ho (wpAny_bind (z0e ?_)))
  rw[hb,if_pos rfl]
  refine wpAny_bind (wpAny_askSetting (wpAny_pure (wpAny_pure ?_)))
  unfold wk sl8 at h
  rw[hb]at h
  simp only[↓reduceIte]at h
  unfold sl8
  rw[hb,if_pos rfl]
  exact h
 | false=>
  rw[if_neg (by simp)]
  refine(show wpAny _ _ (if((!(bt m (!false)).plain && decide ((esL m z).size > 1))=true)then _ else _) _ _ _ from ?_)
  rw[if_neg (show ¬ ((!(bt m (!false)).plain && decide ((esL m z).size > 1))=true)from by show ¬ ((!true && _)=true); simp)]
  refine wpAny_bind (show wpAny _ _ (if((!(bt m (!false)).led && !(esL m z).isEmpty)=true)then unsupported "set:maker-not-led" else pure ()) _ _ _ from ?_)
  rw[if_neg (show ¬ ((!(bt m (!false)).led && !(esL m z).isEmpty)=true)from by show ¬ ((!(!false) && _)=true); simp)]
  refine wpAny_pure ?_
  unfold wk sl8 at h
  rw[hb]at h
  simp only[Bool.false_eq_true,↓reduceIte,Nat.add_one_ne_zero,Nat.add_sub_cancel]at h
  unfold sl8
  rw[hb]
  simp only[Bool.false_eq_true,↓reduceIte]
  refine wpAny_pure ?_
  have hl:=y85 m hm
  have hbw:=j04 m hm i (by omega) hi
  rw[show(bt m (!false)).place=(bl m).toArray from rfl,hbw]
  rcases Nat.lt_or_ge i (bl m).length with hlt | hge
  ·have hs:i<(esL m z).size:=by rw[x38]; exact hlt
   have e1:(esL m z)[i]? = some (esL m z)[i]:=Array.getElem?_eq_getElem hs
   have e2:(bl m).toArray[i]? = some ((bl m).getD i 0):=by simp[List.getElem?_eq_getElem hlt]
   rw[e1]at h ⊢
   rw[e2]
   exact h
  ·have e1:(esL m z)[i]? = none:=Array.getElem?_eq_none (by rw[x38]; exact hge)
   rw[e1]at h ⊢
   exact h
theorem j4n (hh:A.handled=none) (hne:a≠I) (hm:m<32):Walks prog w A I [I,a] [I] (bl m).length (fun i v=>∃ e,(wk w a m z ep)[i]? = some e/\v=e.2)
  (fun i h=>h.get? I=some (io a (sl8 w m i) i (bl m).length ep)/\h.get? a=some (so m z ep (!byT w))) where
 sub:=fun b hb=>by simp at hb; simp[hb]
 frame:=fun _ _ _ st hk=>⟨hk I (by simp) _ st.1,hk a (by simp) _ st.2⟩
 self:=fun i s Q E st hQ=>by
  have hT:s.TypeIs (.ref I) "set_iterator":=⟨_,st.1,rfl⟩
  refine wpAny_pyIter_slot hT y7x (wpAny_call_entry y7x hT z01 ?_ (z57 _))
  show wpAny _ _ (ret (.ref I)) _ _ s
  exact wpAny_pure ⟨_,rfl,"set_iterator",_,hT,x9z.lookup,hQ⟩
 item:=fun i s Q E hi st hQ=>by
  have hT:s.TypeIs (.ref I) "set_iterator":=⟨_,st.1,rfl⟩
  unfold pyNext
  refine wpAny_bind (wpAny_attempt (wpAny_callSpecial?_slot (name:=Str.ofString "__next__") hT x9z (wpAny_call_entry x9z hT y8l ?_ (z29 _))))
  unfold Builtin.«set_iterator.__next__»
  refine wpAny_bind (wpAny_pure ?_)
  refine wpAny_bind (wpAny_fieldsOf st.1 rfl ?_)
  show wpAny _ _ (setEntries a >>= _) _ _ _
  have hse:∀ {R:Array (Int × Value)->Shared->Prop} {E:Value->Shared->Prop},R (esL m z) s->wpAny (model prog w) A.in1 (setEntries a) R E s:=fun h=>by
   unfold setEntries; exact wpAny_bind (st8 hm st.2 (wpAny_pure h))
  refine wpAny_bind (hse ?_)
  dsimp only
  rw[if_neg (by rw[x38]; simp)]
  show wpAny _ _ (setNext a (sl8 w m i) i ep >>= _) _ _ _
  refine wpAny_bind (j2k hm (Nat.le_of_lt hi) st.2 ?_)
  have ew:(wk w a m z ep)[i]? = some ((wk w a m z ep)[i]'(by rw[y4c]; exact hi)):=Array.getElem?_eq_getElem (by rw[y4c]; exact hi)
  rw[ew]
  show wpAny _ _ (setField (.ref I) 0 (rawInt (sl8 w m (i+1))) >>= _) _ _ _
  refine wpAny_bind (wpAny_setField_rec st.1 (by simp) fun h1 g1 b1=>?_)
  refine wpAny_bind (wpAny_setField_rec (s:={ s with heap:=h1 }) g1 (by simp) fun h2 g2 b2=>?_)
  refine wpAny_pure ⟨_,rfl,wpAny_pure (hQ _ h2 s.toks ⟨_,ew,rfl⟩ ⟨?_,?_⟩ fun b o hb e=>?_)⟩
  ·rw[g2]; simp[io,rawInt]
  ·have n1:=(b1.2 a hne); have n2:=(b2.2 a hne)
   rw[n2,n1]; exact st.2
  ·have hb':b≠I:=fun h=>hb (by simp[h])
   rw[b2.2 b hb',b1.2 b hb']; exact e
 done:=fun s Q E st hQ=>by
  have hT:s.TypeIs (.ref I) "set_iterator":=⟨_,st.1,rfl⟩
  unfold pyNext
  refine wpAny_bind (wpAny_attempt (wpAny_callSpecial?_slot (name:=Str.ofString "__next__") hT x9z (wpAny_call_entry x9z hT y8l ?_ (z29 _))))
  unfold Builtin.«set_iterator.__next__»
  refine wpAny_bind (wpAny_pure ?_)
  refine wpAny_bind (wpAny_fieldsOf st.1 rfl ?_)
  show wpAny _ _ (setEntries a >>= _) _ _ _
  have hse:∀ {R:Array (Int × Value)->Shared->Prop} {E:Value->Shared->Prop},R (esL m z) s->wpAny (model prog w) A.in1 (setEntries a) R E s:=fun h=>by
   unfold setEntries; exact wpAny_bind (st8 hm st.2 (wpAny_pure h))
  refine wpAny_bind (hse ?_)
  dsimp only
  rw[if_neg (by rw[x38]; simp)]
  show wpAny _ _ (setNext a (sl8 w m (bl m).length) (bl m).length ep >>= _) _ _ _
  refine wpAny_bind (j2k hm (Nat.le_refl _) st.2 ?_)
  have ew:(wk w a m z ep)[(bl m).length]? = none:=Array.getElem?_eq_none (by rw[y4c]; exact Nat.le_refl _)
  rw[ew]
  show wpAny _ _ (setField (.ref I) 2 .none >>= _) _ _ _
  refine wpAny_bind (wpAny_setField_rec st.1 (by simp) fun h1 g1 b1=>?_)
  show wpAny _ _ (newExc (.type "StopIteration") [] >>= _) _ _ _
  refine wpAny_bind ?_
  simp only[newExc,newTuple]
  refine wpAny_bind (wpAny_newObj_type ?_ (by size_fits))
  refine wpAny_bind (m:=firstArgMember _ _) (wpAny_of_eq (a:=Value.none) (by first | rfl | (simp only[firstArgMember]; rfl)) ?_)
  refine wpAny_newObj_type ?_ (by size_fits)
  simp only[raiseNew]
  refine wpAny_bind (wpAny_handled ?_)
  rw[show A.in1.handled=none from hh]
  refine wpAny_bind (wpAny_pure (wpAny_throw ?_))
  refine wpAny_bind (wpAny_isInstance (T:="StopIteration") (b:=true) ⟨_,Heap.get?_push_size _ rfl,rfl⟩ isSubtype_stop ?_)
  refine wpAny_pure (hQ _ s.toks fun b o hb e=>?_)
  have hb':b≠I:=fun h=>hb (by simp[h])
  exact Heap.get?_push_of_some _ (Heap.get?_push_of_some _ (by rw[b1.2 b hb']; exact e))
end
section
variable {prog:Program} {w:World} {A:Around} {E:Value->Shared->Prop} {s:Shared} {a I:Addr} {m ep:Nat} {z:Nat->Tok}
theorem j5m {Q:Bool->Shared->Prop} (hT:s.TypeIs (.ref a) "set") (h:Q false s):wpAny (model prog w) A (Builtin.List.listLengthHint (.ref a)) Q E s:=by
 unfold Builtin.List.listLengthHint
 refine wpAny_bind (wpAny_specialOf hT PySem.F.slot_set_len.lookup ?_)
 generalize hid:("set.__len__":String)=id0
 wp_delta
 rw[show splitId id0=some ("set","__len__")from by subst hid; decide +kernel]
 subst hid
 refine wpAny_bind (wpAny_isInstance (T:="set") (b:=true) hT (by rw[isSubtype_type]; kernel_rfl) ?_)
 refine wpAny_ite_split (fun hab=>absurd hab (by decide)) (fun _=>?_)
 refine wpAny_ite_split (fun _=>?_) (fun hab=>absurd (by decide +kernel) hab)
 refine wpAny_bind (wpAny_typeOf hT ?_)
 exact wpAny_pure h
theorem j7b (hm:m<32):KdlSrc prog w "set" a a (bl m).length (fun i v=>∃ e,(wk w a m z ep)[i]? = some e/\v=e.2) (fun h=>h.get? a=some (so m z ep (!byT w))) where
 type:=fun _ h=>⟨_,h,rfl⟩
 there:=fun _ h=>⟨Heap.lt_size h,Heap.lt_size h⟩
 keep:=fun _ _ h hk=>hk a (.inl rfl) _ h
 notList:=by decide
 notTuple:=by decide
 hint:=fun _ _ _ _ h hq=>j5m ⟨_,h,rfl⟩ hq
 iter:=fun A s hh h=>⟨io a 0 0 (bl m).length ep,_,(fun _ _ hq=>j4c hm h hq),j4n hh (Nat.ne_of_lt (Heap.lt_size h)) hm,⟨by rw[show sl8 w m 0=0 by unfold sl8; split <;> rfl]; exact Heap.get?_push_size _ rfl,Heap.get?_push_of_some _ h⟩⟩
theorem j4d {vs:List Value} (hl:vs.length=(bl m).length) (hv:∀ (j:Nat) (v:Value),vs[j]? = some v->∃ e,(wk w a m z ep)[j]? = some e/\v=e.2):∃ ns:List Int,IntsAre vs ns/\ns.Perm ((bl m).map Int.ofNat):=by
 have e:vs=(wk w a m z ep).toList.map (·.2):=by
  apply List.ext_getElem?
  intro j
  rw[List.getElem?_map]
  have et:(wk w a m z ep).toList[j]? = (wk w a m z ep)[j]?:=Array.getElem?_toList
  rw[et]
  rcases Nat.lt_or_ge j vs.length with h | h
  ·obtain⟨e,h1,h2⟩:=hv j _ (List.getElem?_eq_getElem h)
   rw[h1,List.getElem?_eq_getElem h,h2]; rfl
  ·rw[List.getElem?_eq_none h,Array.getElem?_eq_none (by rw[y4c]; omega)]; rfl
 have p:vs.Perm ((bl m).map fun v:Nat=>Value.int (Int.ofNat v) (z v)):=by
  rw[e]
  refine((z1c w a m z ep).map _).trans ?_
  rw[x8c,List.map_map]
  exact .rfl
 refine⟨vs.map numOf,intsAre_map vs fun v h=>?_,?_⟩
 ·obtain⟨k,_,rfl⟩:=List.mem_map.mp (p.mem_iff.mp h)
  exact⟨_,_,rfl⟩
 ·refine(p.map numOf).trans ?_
  rw[List.map_map]
  exact .rfl
theorem z16 (m:Nat):((bl m).map Int.ofNat).Pairwise (· <= ·):=by
 rw[List.pairwise_map]
 refine List.Pairwise.imp (R:=(· < ·)) (fun h=>Int.ofNat_le.mpr (Nat.le_of_lt h)) ?_
 unfold bl
 exact List.Pairwise.filter _ List.pairwise_lt_range
theorem z6l {Q:Value->Shared->Prop} (hh:A.handled=none) (hm:m<32) (ho:s.heap.get? a=some (so m z ep (!byT w)))
  (h:∀ (h1:Heap) (h':Heap) (tk:Nat) (us:List Value) (c:Nat),(∀ b o,s.heap.get? b=some o->h1.get? b=some o)->(∀ b o,s.heap.get? b=some o->h'.get? b=some o)->IntsAre us ((bl m).map Int.ofNat)->
    h'.get? h1.objs.size=some { cls:=.type "list",data:=.seq us.toArray c }->Q (.ref h1.objs.size) { s with heap:=h',toks:=tk }) :
  wpAny (model prog w) A (call (.builtin "sorted") [.ref a]) Q E s:=by
 refine Calls.call_function_entry kind_sorted plain_sorted entry_sorted (args_sorted1 _) ?_
 unfold Builtin.«sorted»
 refine wpAny_bind (m:=checkCount "sorted" 1 1 _) (wpAny_pure ?_)
 have hl5:=y85 m hm
 refine wpAny_bind (kdu_collect (A:=A.in1) (j7b hm) hh ho (kdl_size (by omega)) fun h' tk acc hk hacc=>?_)
 have hl:acc.toList.length=(bl m).length:=by rw[Array.length_toList]; exact hacc.1
 refine wpAny_bind (wpAny_newList ?_ (by rw[hl]; exact kdl_size (by omega)))
 obtain⟨ns,hI,hp⟩:=j4d (w:=w) (a:=a) (z:=z) (ep:=ep) hl (fun j v e=>hacc.2 j v (by rw[<- Array.getElem?_toList]; exact e))
 have hoL:(h'.push (seqObj "list" acc.toList.toArray 0)).get? h'.objs.size=some (seqObj "list" acc.toList.toArray 0):=Heap.get?_push_size _ rfl
 refine wpAny_bind (wpAny_holding (wpAny_call_entry slot_list_sort ⟨_,hoL,rfl⟩ entry_list_sort (list_sort_tree hoL hI (by omega) fun out ns' a1 a2 a3=>⟨_,rfl,?_⟩) (args_list_sort _)))
 refine wpAny_pure ⟨_,rfl,?_⟩
 have en:ns'=(bl m).map Int.ofNat:=lks_uniq (a2.trans hp) a3 (z16 m)
 subst en
 have lt:∀ b o,s.heap.get? b=some o->b≠h'.objs.size:=fun b o e=>Nat.ne_of_lt (Heap.lt_size (hk b o e))
 have keep:∀ (H:Heap) (f:Array Value->Array Value) (D:Addr),(∀ b o,s.heap.get? b=some o->b≠D)->(∀ b o,s.heap.get? b=some o->H.get? b=some o)->∀ b o,s.heap.get? b=some o->(H.update D (Obj.mapSeq f)).get? b=some o:=
  fun H f D hD hH b o e=>(Heap.get?_update_other _ _ (Ne.symm (hD b o e))).trans (hH b o e)
 unfold sortedHeap
 have g1:=get?_update_seq hoL (fun _=>(#[]:Array Value))
 have g2:=Heap.get?_push_of_some (seqObj "tuple" acc.toList.toArray 0) g1
 have g3:=Heap.get?_push_of_some (seqObj "list" #[] 0) g2
 have g4:=get?_update_seq g3 (fun _=>out)
 refine h h' _ _ out.toList _ hk ?_ a1 (by rw[Array.toArray_toList]; exact g4)
 ·refine keep _ _ _ lt fun b o e=>Heap.get?_push_of_some _ (Heap.get?_push_of_some _ ?_)
  exact keep _ _ _ lt (fun b o e=>Heap.get?_push_of_some _ (hk b o e)) b o e
end
section
variable {X:Cx} {pins:List (Addr × Obj)} {σ:St} {H:Hp} {s:Shared} {a:Addr} {h1 h':Heap} {o:HO} {t':Nat}
theorem z5x {P:Program} {w:World} {h:Heap} (x:HOk P w H h) (k:∀ b u,h.get? b=some u->h1.get? b=some u) (hp:h1.objs.size<=a):H a=none:=by
 cases q:H a with
 | none=>rfl
 | some u=>exact absurd (Nat.lt_of_lt_of_le ((x a u q).stay (h':=h1) (H':=H) (fun b u _ e=>k b u e) (fun _ e=>e) (fun _ _ e=>e)).lt hp) (Nat.lt_irrefl _)
theorem j5b (I:Inv X pins σ H s) (k1:∀ b u,s.heap.get? b=some u->h1.get? b=some u) (hp:h1.objs.size<=a) (k:∀ b u,s.heap.get? b=some u->h'.get? b=some u) (new:x37 X.prog X.w (upd H a o) h' a o) :
  Inv X pins σ (upd H a o) { s with heap:=h',toks:=t' }:=by
 have hn:=z5x I.hok k1 hp
 refine I.un ⟨fun b u q _ _ _=>k b u q,fun b u q _ _ _=>⟨u.slots,k b u q⟩,fun b u q n _=>?_,fun b u q _=>⟨u,k b u q⟩,fun b xs q=>by rw[x0q (x11 q hn)]; exact q,fun b u xs q=>by rw[x0q (x11 q hn)]; exact q,
  fun b ps q=>⟨#[],by rw[x0q (x11 q hn),q]; simp⟩⟩ fun b u e=>?_
 ·rw[x0q (Nat.ne_of_lt (Nat.lt_of_lt_of_le (Heap.lt_size (k1 b u q)) hp))]; exact n
 ·by_cases hb:b=a
  ·subst hb; rw[x1n]at e; cases e; exact new
  ·rw[x0q hb]at e
   exact(I.hok b u e).stay (fun c v _ q=>k c v q) (fun c q=>by rw[x0q (x11 q hn)]; exact q) fun c xs q=>by rw[x0q (x11 q hn)]; exact q
end
noncomputable def S8 (a:Addr) (m:Nat) (w:World):Heap->Prop:=fun h=>∃ z ep,h.get? a=some (so m z ep (!byT w))
noncomputable abbrev mOf (ks:List Nat):Nat:=mb (fun i=>ks.getD i 0) ks.length
theorem x73:∀ {ks:List Int} {us:List Value},IntsAre us ks->x2z (ks.map V.int) us
 | _,_,.nil=>.nil
 | _,_,.cons k t r=>.cons ⟨t,rfl⟩ (x73 r)
section
variable {X:Cx} {a:Expr} {fa:Den} {p p2 pos pos2:Pos}
theorem z0r (hc:X.calm=true):y0u X (.type "set") (fun xs H Q=>∃ t ks,xs=[.ref t]/\SqL X.K H t (ks.map fun k:Nat=>V.int (Int.ofNat k))/\(∀ k∈ks,k<5)/\∀ p,H p=none->Q (.ref p) (upd H p (.ext (S8 p (mOf ks) X.w)))):=by
 intro pins s σ H xs us Q I r hh
 obtain⟨t,ks,rfl,hq,hl,q⟩:=hh
 obtain⟨u,rfl,ru⟩:=y3o r
 cases ru
 obtain⟨its,rv,pl,_⟩:=I.list hq
 have rv':x2z ((ks.map Int.ofNat).map V.int) its:=by rw[List.map_map]; exact rv
 refine j77 (I.ok.hd hc) pl.isList (y07 rv') hl fun h' tk z ep hS kp=>?_
 refine⟨.ref s.heap.objs.size,_,I.laid (o:=.ext (S8 s.heap.objs.size (mOf ks) X.w)) (h':=h') (t':=tk) (fun b o e=>kp b o (Heap.lt_size e) e) (Nat.le_refl _) ⟨⟨z,ep,hS⟩,⟨_,hS⟩,fun h1 h2 ⟨z,ep,e⟩ k=>⟨z,ep,k _ e⟩⟩,rfl,q _ (I.hok.fresh (Nat.le_refl _))⟩
theorem y9k (hc:X.calm=true):y0u X (.builtin "sorted") (fun xs H Q=>∃ t m,xs=[.ref t]/\m<32/\H t=some (.ext (S8 t m X.w))/\∀ p,H p=none->Q (.ref p) (upd H p (.lst ((bl m).map fun k:Nat=>V.int (Int.ofNat k))))):=by
 intro pins s σ H xs us Q I r hh
 obtain⟨t,m,rfl,hm,hq,q⟩:=hh
 obtain⟨u,rfl,ru⟩:=y3o r
 cases ru
 obtain⟨⟨z,ep,ho⟩,_,_⟩:=I.hok _ _ hq
 refine z6l (I.ok.hd hc) hm ho fun h1 h' tk us c k1 kp hi hg=>?_
 have hv:=x73 hi
 rw[List.map_map]at hv
 exact⟨.ref h1.objs.size,_,j5b (o:=.lst ((bl m).map fun k:Nat=>V.int (Int.ofNat k))) I k1 (Nat.le_refl _) kp ⟨kdl_size (by rw[List.length_map]; have:=y85 m hm; omega),us,c,hv,hg⟩,rfl,q _ (z5x I.hok k1 (Nat.le_refl _))⟩
noncomputable def y93:List D->Option (List Nat)
 | []=>some []
 | .int (.ofNat i)::ds=>if i<5 then(y93 ds).map (i :: ·)else none
 | _=>none
theorem z4f:∀ {ds:List D} {ks:List Nat},y93 ds=some ks->ds=ks.map (fun k:Nat=>D.int (Int.ofNat k))/\∀ k∈ks,k<5:=by
 intro ds
 induction ds with
 | nil=>intro ks h; cases h; exact⟨rfl,fun _ h=>nomatch h⟩
 | cons d ds ih=>
  intro ks h
  unfold y93 at h
  split at h
  ·rename_i e; cases e
  ·rename_i i ds' e
   cases e
   split at h
   ·rename_i hi
    obtain⟨ks',e,rfl⟩:=Option.map_eq_some_iff.mp h
    obtain⟨e1,e2⟩:=ih e
    exact⟨by rw[e1]; rfl,fun k hk=>by
     rcases List.mem_cons.mp hk with q | q
     ·rw[q]; exact hi
     ·exact e2 k q⟩
   ·cases h
  ·cases h
noncomputable def x4d (fa:Den):Den:=fun ρ=>match fa ρ with
 | some (.lst ds,q,ρ1)=>if q<=1 then match y93 ds with
  | some ks=>some (.lst ((bl (mOf ks)).map fun k:Nat=>D.int (Int.ofNat k)),1,ρ1)
  | none=>none
  else none
 | _=>none
theorem j0u {K:PySem.W.Frag} {H:Hp} {w:Wn} {o:Ow}:∀ {ks:List Nat} {vs:List V} {F:List Addr},Reps K H w o 0 (ks.map fun k:Nat=>D.int (Int.ofNat k)) vs F->vs=ks.map fun k:Nat=>V.int (Int.ofNat k)
 | [],_,_,h=>by cases h; rfl
 | k::ks,_,_,h=>by
  cases h with
  | cons r rs _=>rw[x4c r,j0u rs]; rfl
theorem j63 {K:PySem.W.Frag} {H:Hp} {w:Wn} {o:Ow}:∀ ks:List Nat,Reps K H w o 0 (ks.map fun k:Nat=>D.int (Int.ofNat k)) (ks.map fun k:Nat=>V.int (Int.ofNat k)) []
 | []=>.nil
 | k::ks=>.cons (.int _) (j63 ks) (fun _ h=>nomatch h)
theorem y8s (hc:X.calm=true) (hm:X.mg "sorted" = none) (hmS:X.mg "set" = none) (ha:PD X a fa) (hb:bootBuiltins "set" = some (.type "set"):=by kernel_rfl) (hb2:bootBuiltins "sorted" = some (.builtin "sorted"):=by kernel_rfl) (hg:Gl X "sorted":=by rfl) (hgS:Gl X "set":=by rfl)
  (hs:starEach [a] X.env=(false,eval a X.env)::starEach [] X.env:=by rfl) (hpl:(backTo pos2 (starEach [] X.env)).any (·.1)=false:=by rfl)
  (hs2:starEach [.Call (.Name "set" p2) [a] [] pos2] X.env=(false,eval (.Call (.Name "set" p2) [a] [] pos2) X.env)::starEach [] X.env:=by rfl) (hpl2:(backTo pos (starEach [] X.env)).any (·.1)=false:=by rfl) :
  PD X (.Call (.Name "sorted" p) [.Call (.Name "set" p2) [a] [] pos2] [] pos) (x4d fa):=by
 refine PE.imp (x66 (y9k hc) hg hm hb2 (x4u (x5l (z0r hc) hgS hmS hb (x4u ha x7k hs) (by decide) (by decide) hs hpl) x7k hs2) (by decide) (by decide) hs2 hpl2) fun σ H Q hh0=>?_
 obtain⟨ρ,w,t,r',q,ρ',gd,ee,k⟩:=hh0
 unfold x4d at ee
 split at ee
 ·rename_i ds q1 ρ1 h1
  split at ee
  ·rename_i hq1
   split at ee
   ·rename_i ks h2
    cases ee
    obtain⟨e,h5⟩:=z4f h2
    subst e
    refine⟨ρ,w,t,_,_,_,gd,h1,fun v H1 w1 F1 g1 go1 r1=>?_⟩
    obtain⟨p1,vs,rfl,hsq,rs⟩:=r1.seqV hq1
    have ev:=j0u rs
    subst ev
    have hm32:mOf ks<32:=z9h (n:=ks.length) (fun i hi=>by
     simp only[List.getD_eq_getElem?_getD]
     rw[List.getElem?_eq_getElem hi]
     exact h5 _ (List.getElem_mem hi)) _ (Nat.le_refl _)
    refine⟨p1,ks,rfl,hsq,h5,fun p' hp'=>⟨p',_,rfl,hm32,x1n,fun l hl=>?_⟩⟩
    have gg:=g1.drop (t':=t)
    obtain⟨g2,go2⟩:=gg.grow (H':=upd H1 p' (.ext (S8 p' (mOf ks) X.w))) (fun b o q=>by
     unfold upd
     rw[if_neg (fun z=>by rw[z,hp']at q; cases q)]
     exact sm q) (gg.wl.tb.upd rfl (.inl hp'))
    obtain⟨a1,a2,a3⟩:=y3s g2 hl (j63 (bl (mOf ks)))
    exact k _ _ _ _ a1 (((go1.drop gd.wt).trans go2).trans a2) a3
   ·cases ee
  ·cases ee
 ·cases ee
end
end L3
namespace L3
open PySem PySem.Spec PyProof.Rows L2
end L3
namespace L3
open PySem PySem.Spec PyProof.Rows PySem.W L2
end L3
namespace L3
open PySem PySem.Spec PyProof.Rows L2
end L3
namespace L3
open PySem PySem.Spec PyProof.Rows L2
structure QE (X:Cx) (e:Expr) (t:TE):Prop where mk::o:PE X e t
structure QD (X:Cx) (e:Expr) (f:Den):Prop where mk::o:PD X e f
structure QDA (X:Cx) (e:List Expr) (f:x2c):Prop where mk::o:PDA X e f
structure QDT (X:Cx) (e:Expr) (f:x2b):Prop where mk::o:PDT X e f
structure QDW (X:Cx) (e:Expr) (f:x2b):Prop where mk::o:PDW X e f
structure QDS (X:Cx) (e:Stmt) (f:x19):Prop where mk::o:PDS X e f
structure QDSs (X:Cx) (e:List Stmt) (f:x19):Prop where mk::o:y9p X e f
structure QDI (X:Cx) (tg e:Expr) (f:y2s):Prop where mk::o:PDI X tg e f
structure QDG (X:Cx) (b:Nat) (e:Expr) (f:x6q):Prop where mk::o:PDG X b e f
structure QDGs (X:Cx) (b:Nat) (e:List Expr) (f:y0s):Prop where mk::o:j3f X b e f
structure QDO (X:Cx) (e:Option Expr) (f:z65):Prop where mk::o:PDO X e f
structure QDTs (X:Cx) (e:List Expr) (f:x2b):Prop where mk::o:j18 X e f
structure QQ (X:Cx) (e:Expr) (f:y1y):Prop where mk::o:PQ X e f
theorem qv {X:Cx} (i:Nat) {x:Str} {pos:Pos} (hN:X.N[i]? = some x:=by rfl) (hv:Vis X.env.scope x:=by first | exact Or.inl rfl | exact Or.inr (Or.inl rfl) | exact Or.inr (Or.inr rfl)) (hd:(x == ("__debug__":Str))=false:=by decide) (hcd:(x == ("__classdict__":Str))=false:=by decide):QE X (.Name x pos) (x9t i):=⟨pv i hN hv hd hcd⟩
theorem y9n {X:Cx} {e:Expr} {f:x2b} (h:QDW X e f):QDT X e f:=⟨PW.pt h.o⟩
section
variable {X:Cx} {a b c e:Expr} {fa fb fc f:Den} {pos:Pos}
theorem x09 {i j}:QD X (.Constant (.int i) j pos) (eC (.int i)):=⟨j3d ⟩
end
section
variable {X:Cx} {a b c e:Expr} {fa fb fc f:Den} {pos:Pos}
theorem y66 {i j}:QD X (.Constant (.bool i) j pos) (eC (.bl i)):=⟨j5l ⟩
end
section
variable {X:Cx} {a b c e:Expr} {fa fb fc f:Den} {pos:Pos}
theorem y7o {j}:QD X (.Constant .none j pos) (eC .non):=⟨j1n ⟩
end
section
variable {X:Cx} {a b c e:Expr} {fa fb fc f:Den} {pos:Pos}
theorem z0p {x j}:QD X (.Constant (.str x) j pos) (eC (.str x)):=⟨j3q ⟩
end
section
variable {X:Cx} {a b c e:Expr} {fa fb fc f:Den} {pos:Pos}
theorem x02 {i:Nat} {x:Str} (h:QE X (.Name x pos) (x9t i)):QD X (.Name x pos) (x04 i):=⟨j2m h.o⟩
end
section
variable {X:Cx} {a b c e:Expr} {fa fb fc f:Den} {pos:Pos}
theorem x1s (ha:QD X a fa) (hb:QD X b fb):QD X (.BinOp a .Add b pos) (e2 x2w fa fb):=⟨j2f ha.o hb.o⟩
end
section
variable {X:Cx} {a b c e:Expr} {fa fb fc f:Den} {pos:Pos}
theorem z5m (ha:QD X a fa) (hb:QD X b fb):QD X (.BinOp a .Sub b pos) (e2 z67 fa fb):=⟨j0p ha.o hb.o⟩
end
section
variable {X:Cx} {a b c e:Expr} {fa fb fc f:Den} {pos:Pos}
theorem x6b (ha:QD X a fa) (hb:QD X b fb):QD X (.BinOp a .Mult b pos) (e2 x95 fa fb):=⟨j0m ha.o hb.o⟩
end
section
variable {X:Cx} {a b c e:Expr} {fa fb fc f:Den} {pos:Pos}
theorem z1i (ha:QD X a fa) (hb:QD X b fb):QD X (.BinOp a .FloorDiv b pos) (e2 j05 fa fb):=⟨j3r ha.o hb.o⟩
end
section
variable {X:Cx} {a b c e:Expr} {fa fb fc f:Den} {pos:Pos}
theorem y35 (ha:QD X a fa) (hb:QD X b fb):QD X (.BinOp a .Mod b pos) (e2 z5s fa fb):=⟨j2r ha.o hb.o⟩
end
section
variable {X:Cx} {a b c e:Expr} {fa fb fc f:Den} {pos:Pos}
theorem x6c (ha:QD X a fa) (hb:QD X b fb) (hs:x4n b:=by exact fun _ _=>rfl):QD X (.Subscript a b pos) (eIx fa fb):=⟨j5v ha.o hb.o hs⟩
end
section
variable {X:Cx} {a b c e:Expr} {fa fb fc f:Den} {pos:Pos}
theorem x03:QDA X [] x0c:=⟨z96 ⟩
end
section
variable {X:Cx} {a b c e:Expr} {fa fb fc f:Den} {pos:Pos}
theorem x00 {es:List Expr} {g:x2c} (ha:QD X e f) (hr:QDA X es g) (hs:starEach (e::es) X.env=(false,eval e X.env)::starEach es X.env:=by rfl):QDA X (e::es) (x01 f g):=⟨z2w ha.o hr.o hs⟩
end
section
variable {X:Cx} {a b c e:Expr} {fa fb fc f:Den} {pos:Pos}
theorem x26 {es:List Expr} {g:x2c} (h:QDA X es g):QD X (.List es pos) (x4x g):=⟨j15 h.o⟩
end
section
variable {X:Cx} {a b c e:Expr} {fa fb fc f:Den} {pos:Pos}
theorem x3k {es:List Expr} {g:x2c} {x1} (h:QDA X es g):QD X (.Tuple es x1 pos) (x4e g):=⟨j0w h.o⟩
end
section
variable {X:Cx} {a b c e:Expr} {fa fb fc f:Den} {ga gb gc:x2b} {pos:Pos}
theorem x4t (ha:QD X a fa) (he:∀ whole,isTrue a X.env whole=(do let v <- whole; standAt a.pos; holding [v] (truthy v)):=by exact fun _=>rfl):QDT X a (x81 fa):=⟨z7x ha.o he⟩
end
section
variable {X:Cx} {a b c e:Expr} {fa fb fc f:Den} {ga gb gc:x2b} {pos:Pos}
theorem y5f (ha:QD X a fa) (hb:QD X b fb):QDT X (.Compare a [.Lt] [b] pos) (x2g (e2 dLt fa fb)):=⟨j06 ha.o hb.o⟩
end
section
variable {X:Cx} {a b c e:Expr} {fa fb fc f:Den} {ga gb gc:x2b} {pos:Pos}
theorem j1l (ha:QD X a fa) (hb:QD X b fb):QDT X (.Compare a [.Gt] [b] pos) (x2g (e2 dGt fa fb)):=⟨j1h ha.o hb.o⟩
end
section
variable {X:Cx} {a b c e:Expr} {fa fb fc f:Den} {ga gb gc:x2b} {pos:Pos}
theorem z9v (ha:QD X a fa) (hb:QD X b fb):QDT X (.Compare a [.GtE] [b] pos) (x2g (e2 dGe fa fb)):=⟨j21 ha.o hb.o⟩
end
section
variable {X:Cx} {a b c e:Expr} {fa fb fc f:Den} {ga gb gc:x2b} {pos:Pos}
theorem x6s (ha:QDT X a ga):QDT X (.UnaryOp .Not a pos) (x5e ga):=⟨z7b ha.o⟩
end
section
variable {X:Cx} {a b c e:Expr} {fa fb fc f:Den} {ga gb gc:x2b} {pos:Pos} {x2o:List Expr}
theorem y4a (ha:QDT X a ga):QDW X (.BoolOp .And [a] pos) ga:=⟨z58 ha.o⟩
end
section
variable {X:Cx} {a b c e:Expr} {fa fb fc f:Den} {ga gb gc:x2b} {pos:Pos} {x2o:List Expr}
theorem y7c (ha:QDT X a ga):QDW X (.BoolOp .Or [a] pos) ga:=⟨z7k ha.o⟩
end
section
variable {X:Cx} {a b c e:Expr} {fa fb fc f:Den} {ga gb gc:x2b} {pos:Pos} {x2o:List Expr}
theorem y62 (ha:QDT X a ga) (hb:QDW X (.BoolOp .And (b::x2o) pos) gb):QDW X (.BoolOp .And (a::b::x2o) pos) (x5o ga gb):=⟨z6h ha.o hb.o⟩
end
section
variable {X:Cx} {a b c e:Expr} {fa fb fc f:Den} {ga gb gc:x2b} {pos:Pos} {x2o:List Expr}
theorem y7r (ha:QDT X a ga) (hb:QDW X (.BoolOp .Or (b::x2o) pos) gb):QDW X (.BoolOp .Or (a::b::x2o) pos) (z0w ga gb):=⟨j0f ha.o hb.o⟩
end
section
variable {X:Cx} {a b c e:Expr} {fa fb fc f:Den} {ga gb gc:x2b} {pos:Pos} {x2o:List Expr}
theorem y44 (hc:QDT X c gc) (ha:QD X a fa) (hb:QD X b fb):QD X (.IfExp c a b pos) (eIf gc fa fb):=⟨z5e hc.o ha.o hb.o⟩
end
section
variable {X:Cx} {a b c e:Expr} {fa fb fc f:Den} {ga gb gc:x2b} {pos:Pos} {st:Stmt} {x2o sa sb:List Stmt} {s s':x19}
theorem x31:QDSs X [] x7e:=⟨z8y ⟩
end
section
variable {X:Cx} {a b c e:Expr} {fa fb fc f:Den} {ga gb gc:x2b} {pos:Pos} {st:Stmt} {x2o sa sb:List Stmt} {s s':x19}
theorem x06 (h1:QDS X st s) (h2:QDSs X x2o s'):QDSs X (st::x2o) (x0z s s'):=⟨z33 h1.o h2.o⟩
end
section
variable {X:Cx} {a b c e:Expr} {fa fb fc f:Den} {ga gb gc:x2b} {pos:Pos} {st:Stmt} {x2o sa sb:List Stmt} {s s':x19}
theorem x0a (h1:QDS X st s):QDSs X [st] s:=⟨z75 h1.o⟩
end
section
variable {X:Cx} {a b c e:Expr} {fa fb fc f:Den} {ga gb gc:x2b} {pos:Pos} {st:Stmt} {x2o sa sb:List Stmt} {s s':x19}
theorem x0n (h:QD X e f):QDS X (.Return (some e) pos) (x3h f):=⟨z8f h.o⟩
end
section
variable {X:Cx} {a b c e:Expr} {fa fb fc f:Den} {ga gb gc:x2b} {pos:Pos} {st:Stmt} {x2o sa sb:List Stmt} {s s':x19}
theorem x43 (hc:QDT X c gc) (ha:QDSs X sa s) (hb:QDSs X sb s'):QDS X (.If c sa sb pos) (sIf gc s s'):=⟨j0b hc.o ha.o hb.o⟩
end
section
variable {X:Cx} {a b c e:Expr} {fa fb fc f:Den} {ga gb gc:x2b} {pos:Pos} {st:Stmt} {x2o sa sb:List Stmt} {s s':x19}
theorem z15:QDS X (.Break pos) y7j:=⟨z1y ⟩
end
section
variable {X:Cx} {a b c e:Expr} {fa fb fc f:Den} {ga gb gc:x2b} {pos:Pos} {st:Stmt} {x2o sa sb:List Stmt} {s s':x19}
theorem x0k {i:Nat} {x:Str} {pos':Pos} (hN:X.N.Nodup) (hi:X.N[i]? = some x) (hx:Loc X.env.scope x) (he:QD X e f) (hs:swapsWith e (some (.Name x pos')) pos.line X.env=pure false:=by rfl) (hf:X.fn x=true\/X.env.scope.names.lookup x=some .local:=by first | exact .inl rfl | exact .inr rfl):QDS X (.Assign [.Name x pos'] e pos) (x1m i f):=⟨z72 hN hi hx he.o hs hf⟩
end
section
variable {X:Cx} {a b c e:Expr} {fa fb fc f:Den} {ga gb gc:x2b} {pos:Pos} {st:Stmt} {x2o sa sb:List Stmt} {s s':x19}
theorem x2f (he:QD X e f) (hs:swapsWith e none pos.line X.env=pure false:=by rfl):QDS X (.Expr e pos) (x2t f):=⟨z3a he.o hs⟩
end
section
variable {X:Cx} {tg a b c e:Expr} {fa fb fc f:Den} {ga gb gc:x2b} {pos p:Pos}
theorem x0x {g:x2c} (hm:X.mg "range" = none) (ha:QDA X [a] g) (hg:Gl X "range":=by rfl) (hs:starEach [a] X.env=[(false,eval a X.env)]:=by rfl):QDI X tg (.Call (.Name "range" p) [a] [] pos) (x14 g):=⟨y9h hm ha.o hg hs⟩
end
section
variable {X:Cx} {tg a b c e:Expr} {fa fb fc f:Den} {ga gb gc:x2b} {pos p:Pos}
theorem x3m (ha:QD X a fa):QDI X tg a (x5t fa):=⟨z8q ha.o⟩
end
section
theorem x0j {X:Cx} {b i:Nat} {x:Str} {pos:Pos} (hb:b<=i) (hN:X.N.Nodup) (hi:X.N[i]? = some x) (hx:Loc X.env.scope x) (hf:X.fn x=true\/X.env.scope.names.lookup x=some .local:=by first | exact .inl rfl | exact .inr rfl):QDG X b (.Name x pos) (x0l i):=⟨z4r hb hN hi hx hf⟩
end
section
theorem x2e {X:Cx} {tg iter:Expr} {body:List Stmt} {it:y2s} {pt:x6q} {s:x19} {pos:Pos} (hp:PassesOwn (model X.prog X.w) X.A X.env X.xe) (hc:X.calm=true) (hi:QDI X tg iter it) (hg:QDG X 0 tg pt) (hb:QDSs X body s) (hs:∀ x,foldedSetIterable iter X.env x=pure x:=by intro _; rfl):QDS X (.For tg iter body [] pos) (x7a it pt s):=⟨z7o hp hc hi.o hg.o hb.o hs⟩
end
section
variable {X:Cx} {k:Nat} {N':List Str} {scope:Scope} {elt tg iter:Expr} {ifs:List Expr} {pos:Pos} {it:y2s} {pt:x6q} {tt:x2b} {te:Den}
theorem x2v:QDTs X [] x2p:=⟨z4p ⟩
end
section
variable {X:Cx} {k:Nat} {N':List Str} {scope:Scope} {elt tg iter:Expr} {ifs:List Expr} {pos:Pos} {it:y2s} {pt:x6q} {tt:x2b} {te:Den}
theorem y0y {c:Expr} {g:x2b} (h:QDT X c g):QDTs X [c] g:=⟨z3k h.o⟩
end
section
variable {X:Cx} {k:Nat} {N':List Str} {scope:Scope} {elt tg iter:Expr} {ifs:List Expr} {pos:Pos} {it:y2s} {pt:x6q} {tt:x2b} {te:Den}
theorem x3s (deep:Bool) (hc:X.calm=true) (S:CompOk X k N' scope) (hi:QDI X tg iter it) (hg:∀ C s H fp,QDG (x28 X N' scope C s H fp) X.N.length tg pt) (ht:∀ C s H fp,QDTs (x28 X N' scope C s H fp) ifs tt) (he:∀ C s H fp,QD (x28 X N' scope C s H fp) elt te) (hs:∀ x,foldedSetIterable iter X.env x=pure x:=by intro _; rfl):QD X (.ListComp elt [⟨tg,iter,ifs,0⟩] scope pos) (x3f k it pt tt te deep):=⟨z80 deep hc S hi.o (fun C s H fp=>(hg C s H fp).o) (fun C s H fp=>(ht C s H fp).o) (fun C s H fp=>(he C s H fp).o) hs⟩
end
section
variable {X:Cx} {k:Nat} {N':List Str} {scope:Scope} {elt tg iter:Expr} {ifs:List Expr} {pos:Pos} {it:y2s} {pt:x6q} {tt:x2b} {te:Den}
theorem y14 {i:Nat} {y:Str} {py spos:Pos} (deep:Bool) (hN:X.N.Nodup) (hy:X.N[i]? = some y) (hx:Loc X.env.scope y) (hsw:swapsWith (.ListComp elt [⟨tg,iter,ifs,0⟩] scope pos) (some (.Name y py)) spos.line X.env=pure true) (hc:X.calm=true) (S:CompOk X k N' scope) (hi:QDI X tg iter it) (hg:∀ C s H fp,QDG (x28 X N' scope C s H fp) X.N.length tg pt) (ht:∀ C s H fp,QDTs (x28 X N' scope C s H fp) ifs tt) (he:∀ C s H fp,QD (x28 X N' scope C s H fp) elt te) (hs:∀ x,foldedSetIterable iter X.env x=pure x:=by intro _; rfl) (hf:X.fn y=true\/X.env.scope.names.lookup y=some .local:=by first | exact .inl rfl | exact .inr rfl | assumption):QDS X (.Assign [.Name y py] (.ListComp elt [⟨tg,iter,ifs,0⟩] scope pos) spos) (x1m i (x3f k it pt tt te deep)):=⟨z3e deep hN hy hx hsw hc S hi.o (fun C s H fp=>(hg C s H fp).o) (fun C s H fp=>(ht C s H fp).o) (fun C s H fp=>(he C s H fp).o) hs hf⟩
end
section
variable {X:Cx} {a b c e:Expr} {fa fb fc f:Den} {pos:Pos}
theorem z83 {k:Nat} (hr:Room k X.A) (ha:QD X a fa) (hb:QD X b fb):QD X (.Compare a [.Eq] [b] pos) (e2 dEq fa fb):=⟨j57 hr ha.o hb.o⟩
end
section
variable {X:Cx} {a b c e:Expr} {fa fb fc f:Den} {pos:Pos}
theorem x8p {k:Nat} (hr:Room k X.A) (ha:QD X a fa) (hb:QD X b fb):QDT X (.Compare a [.Eq] [b] pos) (x2g (e2 dEq fa fb)):=⟨j1m hr ha.o hb.o⟩
end
section
variable {X:Cx} {a b c e:Expr} {fa fb fc f:Den} {pos:Pos}
theorem x8v {k:Nat} (hr:Room k X.A) (ha:QD X a fa) (hb:QD X b fb):QDT X (.Compare a [.NotEq] [b] pos) (x2g (e2 dNe fa fb)):=⟨j2u hr ha.o hb.o⟩
end
section
variable {X:Cx} {a b c e:Expr} {fa fb fc f:Den} {pos:Pos}
theorem z5r {k:Nat} (hr:Room k X.A) (ha:QD X a fa) (hb:QD X b fb) (hm:behindInMarks .In b=false:=by with_unfolding_all rfl):QDT X (.Compare a [.In] [b] pos) (x2g (e2 dIn fa fb)):=⟨j33 hr ha.o hb.o hm⟩
end
section
variable {X:Cx} {a b c e:Expr} {es:List Expr} {fa fb fc f:Den} {g:x2c} {pos p p1 p2:Pos}
theorem z0y (hm:X.mg "len" = none) (ha:QDA X [a] g) (hg:Gl X "len":=by rfl) (he:starEach [a] X.env=(false,eval a X.env)::starEach [] X.env:=by rfl) (hpl:(backTo pos (starEach [] X.env)).any (·.1)=false:=by rfl):QD X (.Call (.Name "len" p) [a] [] pos) (eB z4k g):=⟨j0h hm ha.o hg he hpl⟩
end
section
variable {X:Cx} {a b c e:Expr} {es:List Expr} {fa fb fc f:Den} {g:x2c} {pos p p1 p2:Pos}
theorem x1b {i:Nat} {x:Str} (hm:X.mg "len" = none) (h:QE X (.Name x p1) (x9t i)) (hg:Gl X "len":=by rfl) (he:starEach [.Name x p1] X.env=(false,eval (.Name x p1) X.env)::starEach [] X.env:=by rfl) (hpl:(backTo pos (starEach [] X.env)).any (·.1)=false:=by rfl):QD X (.Call (.Name "len" p) [.Name x p1] [] pos) (x1c i):=⟨z77 hm h.o hg he hpl⟩
end
section
variable {X:Cx} {a b c e:Expr} {es:List Expr} {fa fb fc f:Den} {g:x2c} {pos p p1 p2:Pos}
theorem y9y (hc:X.calm=true) (hm:X.mg "max" = none) (hb:bootBuiltins "max" = some (.builtin "max")) (ha:QDA X (a::es) g) (hg:Gl X "max":=by rfl) (he:starEach (a::es) X.env=(false,eval a X.env)::starEach es X.env:=by rfl) (hpl:(backTo pos (starEach es X.env)).any (·.1)=false:=by rfl):QD X (.Call (.Name "max" p) (a::es) [] pos) (eB j2e g):=⟨z8x hc hm hb ha.o hg he hpl⟩
end
section
variable {X:Cx} {a b c e:Expr} {es:List Expr} {fa fb fc f:Den} {g:x2c} {pos p p1 p2:Pos}
theorem z0v (hm:X.mg "list" = none) (hb:bootBuiltins "list" = some (.type "list")) (ha:QDA X [a] g) (hg:Gl X "list":=by rfl) (he:starEach [a] X.env=(false,eval a X.env)::starEach [] X.env:=by rfl) (hpl:(backTo pos (starEach [] X.env)).any (·.1)=false:=by rfl):QD X (.Call (.Name "list" p) [a] [] pos) (x9m g):=⟨z1h hm hb ha.o hg he hpl⟩
end
section
variable {X:Cx} {a b c e:Expr} {es:List Expr} {fa fb fc f:Den} {g:x2c} {pos p p1 p2:Pos}
theorem x27 (hm:X.mg "tuple" = none) (hb:bootBuiltins "tuple" = some (.type "tuple")) (ha:QDA X [a] g) (hg:Gl X "tuple":=by rfl) (he:starEach [a] X.env=(false,eval a X.env)::starEach [] X.env:=by rfl) (hpl:(backTo pos (starEach [] X.env)).any (·.1)=false:=by rfl):QD X (.Call (.Name "tuple" p) [a] [] pos) (x2m g):=⟨z4y hm hb ha.o hg he hpl⟩
end
section
variable {X:Cx} {a:Expr} {g:x2c} {pos p p1 pos1:Pos}
theorem y7g (hc:X.calm=true) (hm:X.mg "list" = none) (hb:bootBuiltins "list" = some (.type "list")) (hmr:X.mg "range" = none) (ha:QDA X [a] g) (hg:Gl X "list":=by rfl) (hgr:Gl X "range":=by rfl) (hs:starEach [a] X.env=[(false,eval a X.env)]:=by rfl) (he:starEach [.Call (.Name "range" p1) [a] [] pos1] X.env=(false,eval (.Call (.Name "range" p1) [a] [] pos1) X.env)::starEach [] X.env:=by rfl) (hpl:(backTo pos (starEach [] X.env)).any (·.1)=false:=by rfl):QD X (.Call (.Name "list" p) [.Call (.Name "range" p1) [a] [] pos1] [] pos) (y0d g):=⟨z5b hc hm hb hmr ha.o hg hgr hs he hpl⟩
end
section
variable {X:Cx} {a:Expr} {g:x2c} {pos p p1 pos1:Pos}
theorem z6b (hc:X.calm=true) (hm:X.mg "tuple" = none) (hb:bootBuiltins "tuple" = some (.type "tuple")) (hmr:X.mg "range" = none) (ha:QDA X [a] g) (hg:Gl X "tuple":=by rfl) (hgr:Gl X "range":=by rfl) (hs:starEach [a] X.env=[(false,eval a X.env)]:=by rfl) (he:starEach [.Call (.Name "range" p1) [a] [] pos1] X.env=(false,eval (.Call (.Name "range" p1) [a] [] pos1) X.env)::starEach [] X.env:=by rfl) (hpl:(backTo pos (starEach [] X.env)).any (·.1)=false:=by rfl):QD X (.Call (.Name "tuple" p) [.Call (.Name "range" p1) [a] [] pos1] [] pos) (z7a g):=⟨z6t hc hm hb hmr ha.o hg hgr hs he hpl⟩
end
section
variable {X:Cx} {a b c e:Expr} {es:List Expr} {fa fb fc f:Den} {g:x2c} {pos p p1 p2 cpos apos:Pos}
theorem z5g {k:Nat} (hr:Room k X.A) (ho:QD X a fa) (ha:QDA X [e] g) (hbase:attributeBase a "index" X.env (eval a X.env)=eval a X.env:=by rfl) (hfew:((backTo cpos (starEach [e] X.env)).all (fun x=>!x.1) && (backToKw cpos (keywordEach [] X.env)).all (fun x=>x.1.isSome)
   && decide ([e].length+([]:List Keyword).length+(if([]:List Keyword).isEmpty then 0 else 1)<30))=true:=by rfl) (hline:(apos.endLine == cpos.line)=true:=by rfl) (hs:starEach [e] X.env=(false,eval e X.env)::starEach [] X.env:=by rfl) (hplain:(backTo cpos (starEach [] X.env)).any (·.1)=false:=by rfl):QD X (.Call (.Attribute a "index" apos) [e] [] cpos) (y87 fa g):=⟨z40 hr ho.o ha.o hbase hfew hline hs hplain⟩
end
section
variable {X:Cx} {a b c e:Expr} {es:List Expr} {fa fb fc f:Den} {g:x2c} {pos p p1 p2 cpos apos:Pos}
theorem x33 {i:Nat} {x:Str} (h:QE X (.Name x p1) (x9t i)) (ha:QDA X [e] g) (hbase:attributeBase (.Name x p1) "append" X.env (eval (.Name x p1) X.env)=eval (.Name x p1) X.env:=by rfl) (hfew:((backTo cpos (starEach [e] X.env)).all (fun x=>!x.1) && (backToKw cpos (keywordEach [] X.env)).all (fun x=>x.1.isSome)
   && decide ([e].length+([]:List Keyword).length+(if([]:List Keyword).isEmpty then 0 else 1)<30))=true:=by rfl) (hline:(apos.endLine == cpos.line)=true:=by rfl) (hs:starEach [e] X.env=(false,eval e X.env)::starEach [] X.env:=by rfl) (hplain:(backTo cpos (starEach [] X.env)).any (·.1)=false:=by rfl):QD X (.Call (.Attribute (.Name x p1) "append" apos) [e] [] cpos) (x93 i g):=⟨z25 h.o ha.o hbase hfew hline hs hplain⟩
end
section
variable {X:Cx} {a b c e:Expr} {es:List Expr} {fa fb fc f:Den} {g:x2c} {pos p p1 p2 cpos apos:Pos}
theorem j19 {i:Nat} {x:Str} (h:QE X (.Name x p1) (x9t i)) (ha:QDA X [e] g) (hbase:attributeBase (.Name x p1) "pop" X.env (eval (.Name x p1) X.env)=eval (.Name x p1) X.env:=by rfl) (hfew:((backTo cpos (starEach [e] X.env)).all (fun x=>!x.1) && (backToKw cpos (keywordEach [] X.env)).all (fun x=>x.1.isSome)
   && decide ([e].length+([]:List Keyword).length+(if([]:List Keyword).isEmpty then 0 else 1)<30))=true:=by rfl) (hline:(apos.endLine == cpos.line)=true:=by rfl) (hs:starEach [e] X.env=(false,eval e X.env)::starEach [] X.env:=by rfl) (hplain:(backTo cpos (starEach [] X.env)).any (·.1)=false:=by rfl):QD X (.Call (.Attribute (.Name x p1) "pop" apos) [e] [] cpos) (z9l i g):=⟨j0o h.o ha.o hbase hfew hline hs hplain⟩
end
section
variable {X:Cx} {a b c e:Expr} {es:List Expr} {fa fb fc f:Den} {g:x2c} {pos p p1 p2 cpos apos:Pos}
theorem x0u {n:Nat} {x:Str} (h:QE X (.Name x p1) (x9t n)) (hb:QD X b fb) (hs:x4n b:=by exact fun _ _=>rfl):QD X (.Subscript (.Name x p1) b pos) (x1i n fb):=⟨j26 h.o hb.o hs⟩
end
section
variable {X:Cx} {a b c e:Expr} {es:List Expr} {fa fb fc f:Den} {g:x2c} {pos p p1 p2 cpos apos:Pos}
theorem y43 (ha:QD X a fa) (hb:QD X b fb):QD X (.BinOp a .Mult b pos) (y15 fa fb):=⟨z7d ha.o hb.o⟩
end
section
variable {X:Cx} {a b c e:Expr} {es:List Expr} {fa fb fc f:Den} {qa qb:y1y} {g:x2c} {pos p p1 p2 cpos apos:Pos}
theorem y7v {n:Nat} {x:Str} (h:QE X (.Name x p1) (x9t n)):QQ X (.Name x p1) (y9q n):=⟨j0y h.o⟩
end
section
variable {X:Cx} {a b c e:Expr} {es:List Expr} {fa fb fc f:Den} {qa qb:y1y} {g:x2c} {pos p p1 p2 cpos apos:Pos}
theorem z9u {n:Nat} {x:Str} (h:QE X (.Name x p1) (x9t n)) (hb:QQ X b qb) (hs:x4n b:=by exact fun _ _=>rfl):QQ X (.Subscript (.Name x p1) b pos) (qIx n qb):=⟨j55 h.o hb.o hs⟩
end
section
variable {X:Cx} {a b c e:Expr} {es:List Expr} {fa fb fc f:Den} {qa qb:y1y} {g:x2c} {pos p p1 p2 cpos apos:Pos}
theorem z3z {n:Nat} {x:Str} (h:QE X (.Name x p1) (x9t n)) (ha:QQ X a qa) (hb:QQ X b qb) (he:QD X e f) (hi:x4n a:=by exact fun _ _=>rfl) (hasg:∀ v,assign (.Subscript (.Subscript (.Name x p1) a p2) b p) X.env v=(do
   let ov <- holding [v] (eval (.Subscript (.Name x p1) a p2) X.env)
   let iv <- holding [v,ov] (eval b X.env)
   standAt p
   holding [v,ov,iv] (setItem ov iv v)
   release [v,ov,iv] []):=by exact fun _=>rfl) (hs:swapsWithSole [.Subscript (.Subscript (.Name x p1) a p2) b p] e pos.line X.env=pure false:=by rfl):QDS X (.Assign [.Subscript (.Subscript (.Name x p1) a p2) b p] e pos) (y92 n qa qb f):=⟨z2q h.o ha.o hb.o he.o hi hasg hs⟩
end
section
variable {X:Cx} {a b c e:Expr} {es x2o:List Expr} {fa fb fc f:Den} {g:x2c} {pos p p1 p2 cpos apos:Pos}
theorem z2b {op} (h:QD X a fa):QD X (.BoolOp op [a] pos) fa:=⟨j0j h.o⟩
end
section
variable {X:Cx} {a b c e:Expr} {es x2o:List Expr} {fa fb fc f:Den} {g:x2c} {pos p p1 p2 cpos apos:Pos}
theorem z0i (ha:QD X a fa) (hb:QD X (.BoolOp .And (b::x2o) pos) fb):QD X (.BoolOp .And (a::b::x2o) pos) (z6s fa fb):=⟨j0s ha.o hb.o⟩
end
section
variable {X:Cx} {a b c e:Expr} {es x2o:List Expr} {fa fb fc f:Den} {g:x2c} {pos p p1 p2 cpos apos:Pos}
theorem j32 (ha:QD X a fa):QD X (.UnaryOp .Not a pos) (j46 fa):=⟨j3v ha.o⟩
end
section
variable {X:Cx} {a b c e:Expr} {es x2o:List Expr} {fa fb fc f:Den} {g:x2c} {pos p p1 p2 cpos apos:Pos}
theorem x08 {j k n:Nat} {x:Str} {F:List D->Option (D × Nat)} (C:Cal X.prog X.w X.K X.mg X.base k x n F) (hr:Room j X.A) (hk:k<=j) (ha:QDA X (e::es) g) (hg:Gl X x:=by rfl) (hdb:(x == ("__debug__":Str))=false:=by decide) (he:starEach (e::es) X.env=(false,eval e X.env)::starEach es X.env:=by rfl) (hpl:(backTo pos (starEach es X.env)).any (·.1)=false:=by rfl):QD X (.Call (.Name x p) (e::es) [] pos) (x0g F n g):=⟨z30 C hr hk ha.o hg hdb he hpl⟩
end
section
variable {X:Cx} {a b c e:Expr} {es elts:List Expr} {fa fb fc f:Den} {g:x2c} {pos p p1 p2 tp:Pos} {kt:Nat}
theorem z8i (hm:X.mg "zip" = none) (ha:QDA X [a,b] g) (hg:Gl X "zip":=by rfl) (hs:starEach [a,b] X.env=[(false,eval a X.env),(false,eval b X.env)]:=by rfl) (hs2:starEach [b] X.env=[(false,eval b X.env)]:=by rfl):QDI X (.Tuple elts kt tp) (.Call (.Name "zip" p) [a,b] [] pos) (z1e g):=⟨z8r hm ha.o hg hs hs2⟩
end
section
variable {X:Cx} {k b:Nat} {e:Expr} {es:List Expr} {pt:x6q} {ps:y0s} {pos:Pos}
theorem x5x:QDGs X b [] x5s:=⟨z3n ⟩
end
section
variable {X:Cx} {k b:Nat} {e:Expr} {es:List Expr} {pt:x6q} {ps:y0s} {pos:Pos}
theorem x1l (h1:QDG X b e pt) (h2:QDGs X b es ps) (hs:(assignEach (e::es) X.env).map (·.2)=assign e X.env::(assignEach es X.env).map (·.2):=by rfl):QDGs X b (e::es) (x10 pt ps):=⟨z1f h1.o h2.o hs⟩
end
section
variable {X:Cx} {k b:Nat} {e:Expr} {es:List Expr} {pt:x6q} {ps:y0s} {pos:Pos}
theorem x7x {n:Nat} (hc:X.calm=true) (h:QDGs X b es ps) (hl:∀ ds ρ ρ',ps ds ρ=some ρ'->ds.length=n) (hn:(assignEach es X.env).length=n:=by rfl) (hst:(assignEach es X.env).findIdx? (·.1)=none:=by rfl):QDG X b (.Tuple es k pos) (y3d ps):=⟨z6g hc h.o hl hn hst⟩
end
section
variable {X:Cx} {a b c e:Expr} {es:List Expr} {fa fb fc f:Den} {g:x2c} {pos p p1 p2:Pos}
theorem z6a (hc:X.calm=true) (hm:X.mg "all" = none) (ha:QDA X [a] g) (hg:Gl X "all":=by rfl) (he:starEach [a] X.env=(false,eval a X.env)::starEach [] X.env:=by rfl) (hpl:(backTo pos (starEach [] X.env)).any (·.1)=false:=by rfl):QD X (.Call (.Name "all" p) [a] [] pos) (eB z48 g):=⟨j0c hc hm ha.o hg he hpl⟩
end
section
variable {X:Cx} {a b c e:Expr} {es:List Expr} {fa fb fc f:Den} {ga gb:x2b} {g:x2c} {pos p p1 p2 pT:Pos}
theorem y4w (T:IT) {t:Str} (hm:X.mg "isinstance" = none) (hmT:X.mg t=none) (hbT:bootBuiltins t=some (.type T.nm)) (ha:QD X a fa) (hg:Gl X "isinstance":=by rfl) (hgT:Gl X t:=by rfl) (hnT:t ≠ "__name__":=by decide) (hdT:(t == ("__debug__":Str))=false:=by decide) (hs:starEach [a,.Name t pT] X.env=(false,eval a X.env)::starEach [.Name t pT] X.env:=by rfl) (hpl:(backTo pos (starEach [.Name t pT] X.env)).any (·.1)=false:=by rfl):QD X (.Call (.Name "isinstance" p) [a,.Name t pT] [] pos) (z2i T fa):=⟨j37 T hm hmT hbT ha.o hg hgT hnT hdT hs hpl⟩
end
section
variable {X:Cx} {a b c e:Expr} {es:List Expr} {fa fb fc f:Den} {ga gb:x2b} {g:x2c} {pos p p1 p2 pT:Pos}
theorem y69 (ha:QD X a fa) (hb:QD X b fb) (hc:QD X c fc) (hm:lastMarks [.LtE,.Lt] [b,c]=false:=by with_unfolding_all rfl):QD X (.Compare a [.LtE,.Lt] [b,c] pos) (eCh dLe dLt fa fb fc):=⟨y6l ha.o hb.o hc.o hm⟩
end
section
variable {X:Cx} {a b c e:Expr} {es:List Expr} {fa fb fc f:Den} {ga gb:x2b} {g:x2c} {pos p p1 p2 pT:Pos}
theorem j0n (ha:QD X a fa):QD X (.UnaryOp .USub a pos) (z9o fa):=⟨j2x ha.o⟩
end
section
variable {X:Cx} {a b c e:Expr} {es:List Expr} {fa fb fc f:Den} {ga gb:x2b} {g:x2c} {pos p p1 p2 pT:Pos}
theorem z5n (ha:QD X a fa) (hb:QD X b fb):QD X (.BinOp a .Add b pos) (j3j fa fb):=⟨j3p ha.o hb.o⟩
end
section
variable {X:Cx} {a b c e:Expr} {es:List Expr} {fa fb fc f:Den} {ga gb:x2b} {g:x2c} {pos p p1 p2 pT:Pos}
theorem y81:QDO X none z3y:=⟨z4t ⟩
end
section
variable {X:Cx} {a b c e:Expr} {es:List Expr} {fa fb fc f:Den} {ga gb:x2b} {g:x2c} {pos p p1 p2 pT:Pos}
theorem y7i (h:QD X e f):QDO X (some e) (z06 f):=⟨z41 h.o⟩
end
section
variable {X:Cx} {a b c e:Expr} {es:List Expr} {fa fb fc f:Den} {ga gb:x2b} {g:x2c} {pos p p1 p2 pT:Pos}
theorem j28 {lo hi:Option Expr} {fl fh:z65} (ha:QD X a fa) (hl:QDO X lo fl) (hh:QDO X hi fh):QD X (.Subscript a (.Slice lo hi none p2) pos) (eSl fa fl fh):=⟨j5h ha.o hl.o hh.o⟩
end
section
variable {X:Cx} {a b c e:Expr} {fa fb fc f:Den} {pos:Pos}
theorem z0t (ha:QD X a fa) (hb:QD X b fb):QD X (.BinOp a .Mult b pos) (y1c fa fb):=⟨z8z ha.o hb.o⟩
end
section
variable {X:Cx} {a b c e:Expr} {es:List Expr} {fa fb fc f:Den} {ga gb:x2b} {g:x2c} {pos p p1 p2 cpos apos:Pos}
theorem z1k {i:Nat} {x:Str} (h:QE X (.Name x p1) (x9t i)) (ha:QD X e f) (hbase:attributeBase (.Name x p1) "extend" X.env (eval (.Name x p1) X.env)=eval (.Name x p1) X.env:=by rfl) (hfew:((backTo cpos (starEach [e] X.env)).all (fun x=>!x.1) && (backToKw cpos (keywordEach [] X.env)).all (fun x=>x.1.isSome)
   && decide ([e].length+([]:List Keyword).length+(if([]:List Keyword).isEmpty then 0 else 1)<30))=true:=by rfl) (hline:(apos.endLine == cpos.line)=true:=by rfl) (hs:starEach [e] X.env=(false,eval e X.env)::starEach [] X.env:=by rfl) (hplain:(backTo cpos (starEach [] X.env)).any (·.1)=false:=by rfl):QD X (.Call (.Attribute (.Name x p1) "extend" apos) [e] [] cpos) (z5o i f):=⟨z0j h.o ha.o hbase hfew hline hs hplain⟩
end
section
variable {X:Cx} {a b c e:Expr} {es:List Expr} {fa fb fc f:Den} {ga gb gc:x2b} {g:x2c} {qa qb:y1y} {s:x19} {pos p p1 p2 cpos apos:Pos}
theorem y1a {st:Stmt}:QDS X st y2v:=⟨z1d ⟩
end
section
variable {X:Cx} {a b c e:Expr} {es:List Expr} {fa fb fc f:Den} {ga gb gc:x2b} {g:x2c} {qa qb:y1y} {s:x19} {pos p p1 p2 cpos apos:Pos}
theorem x6z {body:List Stmt} (hp:PassesOwn (model X.prog X.w) X.A X.env X.xe) (hc:QDT X c gc) (hb:QDSs X body s):QDS X (.While c body [] pos) (x9e gc s):=⟨z1z hp hc.o hb.o⟩
end
section
variable {X:Cx} {a b c e:Expr} {es:List Expr} {fa fb fc f:Den} {ga gb gc:x2b} {g:x2c} {qa qb:y1y} {s:x19} {pos p p1 p2 cpos apos:Pos}
theorem y8k {n:Nat} {x:Str} (h:QE X (.Name x p1) (x9t n)) (ha:QQ X a qa) (he:QD X e f) (hasg:∀ v,assign (.Subscript (.Name x p1) a p) X.env v=(do
   let ov <- holding [v] (eval (.Name x p1) X.env)
   let iv <- holding [v,ov] (eval a X.env)
   standAt p
   holding [v,ov,iv] (setItem ov iv v)
   release [v,ov,iv] []):=by exact fun _=>rfl) (hs:swapsWithSole [.Subscript (.Name x p1) a p] e pos.line X.env=pure false:=by rfl):QDS X (.Assign [.Subscript (.Name x p1) a p] e pos) (y6q n qa f):=⟨z38 h.o ha.o he.o hasg hs⟩
end
section
variable {X:Cx} {a b c e:Expr} {es:List Expr} {fa fb fc f:Den} {ga gb gc:x2b} {g:x2c} {qa qb:y1y} {s:x19} {pos p p1 p2 cpos apos:Pos}
theorem z0x (ha:QD X a fa) (hb:QD X b fb):QD X (.BinOp a .Add b pos) (y2i fa fb):=⟨z8s ha.o hb.o⟩
end
section
variable {X:Cx} {a b c e:Expr} {es:List Expr} {fa fb fc f:Den} {ga gb gc:x2b} {g:x2c} {qa qb:y1y} {s:x19} {pos p p1 p2 p3 cpos apos:Pos}
theorem y8n {n j:Nat} {c:Int} {x:Str} (hm:X.mg "len" = none) (h:QE X (.Name x p1) (x9t n)) (hg:Gl X "len":=by rfl) (hs:x4n (.Constant (.int c) j p2):=by exact fun _ _=>rfl) (he:starEach [.Subscript (.Name x p1) (.Constant (.int c) j p2) p3] X.env=(false,eval (.Subscript (.Name x p1) (.Constant (.int c) j p2) p3) X.env)::starEach [] X.env:=by rfl) (hpl:(backTo pos (starEach [] X.env)).any (·.1)=false:=by rfl):QQ X (.Call (.Name "len" p) [.Subscript (.Name x p1) (.Constant (.int c) j p2) p3] [] pos) (x8t n c):=⟨z50 hm h.o hg hs he hpl⟩
end
section
variable {X:Cx} {a b c e:Expr} {es:List Expr} {fa fb fc f:Den} {ga gb gc:x2b} {g:x2c} {qa qb:y1y} {s:x19} {pos p p1 p2 p3 cpos apos:Pos}
theorem z7s {k l:Str} {j1 j2:Nat} (hkl:k≠l) (ha:QQ X a qa) (hb:QQ X b qb):QD X (.Dict [some (.Constant (.str k) j1 p1),some (.Constant (.str l) j2 p2)] [a,b] pos) (y96 k l qa qb):=⟨z91 hkl ha.o hb.o⟩
end
section
variable {X:Cx} {a b c e:Expr} {es:List Expr} {fa fb fc f:Den} {ga gb gc:x2b} {g:x2c} {qa qb:y1y} {s:x19} {pos p p1 p2 p3 cpos apos:Pos}
theorem z8v {k:Nat} (hr:Room k X.A) (ho:QD X a fa) (he:QD X b fb) (hf:QD X c fc) (hbase:attributeBase a "get" X.env (eval a X.env)=eval a X.env:=by rfl) (hfew:((backTo cpos (starEach [b,c] X.env)).all (fun x=>!x.1) && (backToKw cpos (keywordEach [] X.env)).all (fun x=>x.1.isSome)
   && decide (([b,c]:List Expr).length+([]:List Keyword).length+(if([]:List Keyword).isEmpty then 0 else 1)<30))=true:=by rfl) (hline:(apos.endLine == cpos.line)=true:=by rfl) (htr:backTo cpos (starEach [b,c] X.env)=[(false,eval b X.env),(false,eval c X.env)]:=by rfl):QD X (.Call (.Attribute a "get" apos) [b,c] [] cpos) (z42 fa fb fc):=⟨z6i hr ho.o he.o hf.o hbase hfew hline htr⟩
end
section
variable {X:Cx} {a b c e:Expr} {es elts:List Expr} {fa fb fc f:Den} {g:x2c} {pos p p1 p2 tp:Pos} {kt:Nat}
theorem z52 (hm:X.mg "enumerate" = none) (ha:QDA X [a] g) (hg:Gl X "enumerate":=by rfl) (hs:starEach [a] X.env=[(false,eval a X.env)]:=by rfl):QDI X (.Tuple elts kt tp) (.Call (.Name "enumerate" p) [a] [] pos) (y9e g):=⟨z5j hm ha.o hg hs⟩
end
section
variable {X:Cx} {pos p p1 p2:Pos}
theorem z3v {i:Nat} {x:Str} (hm:X.mg "list" = none) (hb:bootBuiltins "list" = some (.type "list")) (h:QE X (.Name x p1) (x9t i)) (hg:Gl X "list":=by rfl) (he:starEach [.Name x p1] X.env=(false,eval (.Name x p1) X.env)::starEach [] X.env:=by rfl) (hpl:(backTo pos (starEach [] X.env)).any (·.1)=false:=by rfl):QD X (.Call (.Name "list" p) [.Name x p1] [] pos) (y7l i):=⟨z4o hm hb h.o hg he hpl⟩
end
section
variable {X:Cx} {a:Expr} {fa:Den} {p p2 pos pos2:Pos}
theorem y31 (hc:X.calm=true) (hm:X.mg "sorted" = none) (hmS:X.mg "set" = none) (ha:QD X a fa) (hb:bootBuiltins "set" = some (.type "set"):=by kernel_rfl) (hb2:bootBuiltins "sorted" = some (.builtin "sorted"):=by kernel_rfl) (hg:Gl X "sorted":=by rfl) (hgS:Gl X "set":=by rfl) (hs:starEach [a] X.env=(false,eval a X.env)::starEach [] X.env:=by rfl) (hpl:(backTo pos2 (starEach [] X.env)).any (·.1)=false:=by rfl) (hs2:starEach [.Call (.Name "set" p2) [a] [] pos2] X.env=(false,eval (.Call (.Name "set" p2) [a] [] pos2) X.env)::starEach [] X.env:=by rfl) (hpl2:(backTo pos (starEach [] X.env)).any (·.1)=false:=by rfl):QD X (.Call (.Name "sorted" p) [.Call (.Name "set" p2) [a] [] pos2] [] pos) (x4d fa):=⟨y8s hc hm hmS ha.o hb hb2 hg hgS hs hpl hs2 hpl2⟩
end
theorem Cal.mkQ {P:Program} {w:World} {K:PySem.W.Frag} {mg:Str->Option Value} {base:Heap} {k:Nat} {x:Str} {st:Stmt} {N ps:List Str} {body:x19} (a:At K mg x st ps) (S:FnScope N ps (x0b st))
  (h:∀ (f:Addr) (cdv:Value) (A:Around) (outer:List Env) (s:Shared) (H:Hp) (E:XK),Room k (A.deeper (envOfC x (x0b st) s.heap.objs.size f cdv))->QDSs (z1q CX0 P w K mg base N x (x0b st) f cdv A outer s H E).nox (x44 st) body) :
  Cal P w K mg base (k+1) x ps.length (fnD N.length body):=Cal.mk a S fun f cdv A outer s H E hr=>(h f cdv A outer s H E hr).o
theorem z7w {P:Program} {w:World} {K:PySem.W.Frag} {mg:Str->Option Value} {base:Heap} {k:Nat} {x:Str} {st:Stmt} {N ps:List Str} {body:x19} {f:Addr} {fd:FuncData} (F:Fun K x x st f fd) (S:FnScope N ps (x0b st))
  (h:∀ (f:Addr) (cdv:Value) (A:Around) (outer:List Env) (s:Shared) (H:Hp) (E:XK),Room k (A.deeper (envOfC x (x0b st) s.heap.objs.size f cdv))->QDSs (z1q CX0 P w K mg base N x (x0b st) f cdv A outer s H E).nox (x44 st) body) :
  FnOk P w K mg base CX0 (k+1) f fd ps (spD K ps.length (fnD N.length body)):=j1p F S fun f cdv A outer s H E hr=>(h f cdv A outer s H E hr).o
end L3
namespace L3
open PySem PySem.Spec PyProof.Rows PySem.W L2
end L3
namespace L3
open PySem PySem.Spec PyProof.Rows PySem.W L2
end L3
namespace L3
open PySem PySem.Spec PyProof.Rows PySem.W L2
theorem j41 {K:PySem.W.Frag} {x:Str} (a:nsIn K mainGlobals x=some none):tabIn K x=none:=by unfold tabIn; rw[a]
noncomputable def x6u (K:PySem.W.Frag) (b:Addr):Bool:=y21.any fun x=>match tabIn K x with
 | some (_,P)=>P == b
 | none=>false
theorem z2l {K:PySem.W.Frag} {b:Addr} (h:x6u K b=true):∃ x∈y21,∃ c,tabIn K x=some (c,b):=by
 obtain⟨x,hx,e⟩:=List.any_eq_true.mp h
 split at e
 ·rename_i c P hP
  rw[eq_of_beq e]at hP
  exact⟨x,hx,c,hP⟩
 ·cases e
theorem z43 {K:PySem.W.Frag} {x:Str} {c P:Addr} (hx:x∈y21) (e:tabIn K x=some (c,P)):x6u K P=true:=
 List.any_eq_true.mpr ⟨x,hx,by rw[e]; exact beq_self_eq_true P⟩
theorem y9v {P:Program} {w:World} {K:PySem.W.Frag} {mg mb:Str->Option Value} {CX:CXT} {k:Nat} {fa a:Addr} {fd:FuncData} {x:Str} {sp:Sp} {s₁:Shared} {vs:List Value} {ns:List Int}
  (KX:K.In s₁.heap) (hns:s₁.heap.Ns mainGlobals mg) (hb:s₁.heap.Ns builtinsNs mb) (hbb:∀ x:Str,x ≠ "__name__"->mb x=bootBuiltins x) (hlim:s₁.heap.NoLimit) (hg:s₁.gens = #[])
  (hbm:∃ bm o,mg "__builtins__" = some (.ref bm)/\bm≠builtinsNs/\s₁.heap.get? bm=some o/\o.cls=.type "module" /\ o.dict=some builtinsNs/\o.data=.plain)
  (hT:∀ x∈y21,∀ c Pt,tabIn K x=some (c,Pt)->CodeHd s₁.heap c Pt/\s₁.heap.get? Pt=some (tabObj #[])) (hnt:noTabs K=true)
  (ha:s₁.heap.get? a=some { cls:=.type "list",data:=.seq vs.toArray }) (hi:IntsAre vs ns) (hl:ns.length<=sizeLine) (hr:Room k callerA)
  (F:∀ base:Heap,K.In base->base.Ns mainGlobals mg->Lm K mg base->FnOk P w K mg base CX k fa fd [x] sp) (hbind:∀ (s:Shared) (u:Value),BindsTo s fd ⟨[u],[]⟩ [(x,u)])
  (hsp:∀ H:Hp,TB K H->SqL K H a (ns.map V.int)->sp [.ref a] H (fun v _=>v=.bl true) fun _ _ _=>False)
  (hCX:∀ H e s',CX [] H s₁ (fun _ _ _=>False) e s'->False) :
  codeAny (model P w) callerA (.call (.ref fa) ⟨[.ref a],[]⟩) (fun r s'=>r=.ok (.ret (.bool true))/\OldK s₁.heap s'.heap/\s'.os=s₁.os/\AllBare s'.gens) s₁:=by
 have rv:=x73 hi
 have lenV:=hi.length
 have tabO:∀ b,x6u K b=true->(∃ c,CodeHd s₁.heap c b)/\s₁.heap.get? b=some (tabObj #[]):=fun b h=>by
  obtain⟨x,hx,c,e⟩:=z2l h
  obtain⟨h1,h2⟩:=hT x hx c b e
  exact⟨⟨c,h1⟩,h2⟩
 have core:∀ H:Hp,(∀ b,H b=none\/(b=a/\∃ o xs,H b=some (.frz o (.lst xs)))\/(x6u K b=true/\H b=some (.tbl #[])))->(∀ b,x6u K b=true->H b=some (.tbl #[]))->SqL K H a (ns.map V.int)->HOk P w H s₁.heap->(∀ o xs,H a=some (.frz o (.lst xs))->K.lookup a=none)->
   codeAny (model P w) callerA (.call (.ref fa) ⟨[.ref a],[]⟩) (fun r s'=>r=.ok (.ret (.bool true))/\OldK s₁.heap s'.heap/\s'.os=s₁.os/\AllBare s'.gens) s₁:=by
  intro H hO hO2 hS hok hK
  have base_of:∀ {b:Addr} {o:Obj},s₁.heap.get? b=some o->H b=none->(z2g s₁.heap H).get? b=some o:=fun e n=>z56 e n
  have noA:∀ {b:Addr} {o:Obj},s₁.heap.get? b=some o->o.cls ≠ .type "list"->o.cls ≠ .none->H b=none:=fun {b o} e d1 d2=>by
   rcases hO b with z | ⟨z,_⟩ | ⟨z,_⟩
   ·exact z
   ·subst z; rw[ha]at e; cases e; exact absurd rfl d1
   ·rw[(tabO b z).2]at e; cases e; exact absurd rfl d2
  have noD:∀ {b:Addr} {o:Obj} {es:Array DictEntry} {ep:Nat},s₁.heap.get? b=some o->o.data=.dict es ep->H b=none:=fun {b o es ep} e d=>by
   rcases hO b with z | ⟨z,_⟩ | ⟨z,_⟩
   ·exact z
   ·subst z; rw[ha]at e; cases e; exact nomatch (show Data.seq vs.toArray _=Data.dict es ep from d)
   ·rw[(tabO b z).2]at e; cases e; exact nomatch (show Data.fields _=Data.dict es ep from d)
  have nsK:∀ {b:Addr} {m:Str->Option Value},s₁.heap.Ns b m->(z2g s₁.heap H).Ns b m:=fun {b m} hh=>by
   obtain⟨o,es,ep,e,d,r⟩:=hh
   exact⟨o,es,ep,base_of e (noD e d),d,r⟩
  have hKb:K.In (z2g s₁.heap H):=fun b o e=>base_of (KX b o e) (by
   rcases hO b with z | ⟨z,o',xs,z2⟩ | ⟨z,_⟩
   ·exact z
   ·subst z; rw[hK _ _ z2]at e; cases e
   ·have e2:=KX b o e
    rw[(tabO b z).2]at e2
    cases e2
    have h2:=List.all_eq_true.mp hnt (b,tabObj #[]) (mem_of_lookupK e)
    exact absurd (show false=true from h2) Bool.false_ne_true)
  have hM:Mod K mg (z2g s₁.heap H):=by
   obtain⟨mc,h1,h2⟩:=hlim
   exact⟨hKb,nsK hns,⟨mb,nsK hb,hbb⟩,⟨mc,nsK h1,h2⟩⟩
  have hL:Lm K mg (z2g s₁.heap H):=by
   refine⟨?_,fun x hx c Pt e=>?_⟩
   ·obtain⟨bm,o,h1,h2,h3,h4,h5⟩:=hbm
    exact⟨bm,o,h1,h2,base_of h3 (noA h3 (by rw[h4]; decide) (by rw[h4]; nofun)),h4,h5⟩
   ·obtain⟨o,v1,v2,v3,v4,v5,v6,v7,v8,e1,e2,r⟩:=(hT x hx c Pt e).1
    exact⟨o,v1,v2,v3,v4,v5,v6,v7,v8,base_of e1 (noA e1 (by rw[e2]; decide) (by rw[e2]; nofun)),e2,r⟩
  have tb:TB K H:=by
   refine⟨fun Q ps e=>?_,fun Q ps e pos cv hc=>?_,fun x hx c Pt e=>⟨_,hO2 Pt (z43 hx e)⟩⟩ <;> rcases hO Q with z | ⟨_,o',xs,z⟩ | ⟨_,z⟩ <;> rw[e]at z <;> cases z
   ·exact True.intro
   ·cases hc
  have e0:Env0 P w K mg (z2g s₁.heap H) callerA [] s₁ H:=⟨rfl,hM,fun b o e=>z8d e,Nat.le_of_eq (y9s _ _),trivial,fun b hb=>absurd (show b∈([]:List Addr)from hb) (by simp),hok,.of_eq hg⟩
  refine codeAny_mono ((F _ hKb (nsK hns) hL).run callerA [] s₁ H ⟨[.ref a],[]⟩ [.ref a] [.ref a] _ _ hr e0 (hbind s₁ (.ref a)) (.cons rfl .nil) (hsp H tb hS)) fun r s' h=>?_
  cases r with
  | error e=>exact(hCX H e s' h).elim
  | ok fl=>
   cases fl with
   | next=>exact False.elim h
   | brk=>exact False.elim h
   | cont=>exact False.elim h
   | ret u=>
    obtain⟨v,H',os,bare,un,hok',r',q⟩:=h
    have q':v=.bl true:=q
    subst q'
    obtain rfl:u=Value.bool true:=r'
    have kp:∀ b o,s₁.heap.get? b=some o->x6u K b=false->s'.heap.get? b=some o:=fun b o e nt=>by
     rcases hO b with z | ⟨_,ob,xs,z⟩ | ⟨z,_⟩
     ·exact un.keep b o e z (by intro z; exact absurd (show b∈([]:List Addr)from z) (by simp)) (by simp)
     ·have z2:=un.frzs b ob _ z
      obtain⟨e1,_⟩:=hok b _ z
      obtain⟨e2,_⟩:=hok' b _ z2
      rw[e]at e1; cases e1
      exact e2
     ·rw[z]at nt; cases nt
    have gr:∀ b,x6u K b=true->∃ ps,s'.heap.get? b=some (tabObj ps):=fun b t=>by
     obtain⟨more,z⟩:=un.tbls b _ (hO2 b t)
     exact⟨_,hok' b _ z⟩
    refine⟨rfl,⟨fun b o e=>?_,fun b o e=>?_⟩,os,bare⟩
    ·cases t:x6u K b with
     | false=>exact .inl (kp b o e t)
     | true=>
      obtain⟨⟨c,C⟩,e1⟩:=tabO b t
      obtain⟨ps,e2⟩:=gr b t
      rw[e]at e1; cases e1
      exact .inr (.inl ⟨(C.tab e).isCodeTable,rfl,#[],ps,rfl,by rw[Array.empty_append]; exact e2⟩)
    ·cases t:x6u K b with
     | false=>exact⟨o,kp b o e t⟩
     | true=>obtain⟨ps,e2⟩:=gr b t; exact⟨_,e2⟩
 have aT:x6u K a=false:=by
  cases t:x6u K a with
  | false=>rfl
  | true=>
   have:=(tabO a t).2
   rw[ha]at this; cases this
 cases hk:K.lookup a with
 | some o=>
  have e:=KX a o hk
  rw[ha]at e
  cases e
  refine core (fun b=>if x6u K b=true then some (.tbl #[])else none) (fun b=>?_) (fun b h=>if_pos h) (.inr ⟨_,vs.toArray,_,hk,rfl,rfl,rfl,by rw[List.size_toArray,lenV]; exact hl,by simpa using rv⟩) (fun b u z=>?_) fun o xs z=>?_
  ·by_cases hb:x6u K b=true
   ·exact .inr (.inr ⟨hb,if_pos hb⟩)
   ·exact .inl (if_neg hb)
  ·by_cases hb:x6u K b=true
   ·have z':=(if_pos hb).symm.trans z
    cases z'
    exact(tabO b hb).2
   ·have z':=(if_neg hb).symm.trans z
    cases z'
  ·have z':=(if_neg (by rw[aT]; decide)).symm.trans z
   cases z'
 | none=>
  refine core (fun b=>if b=a then some (.frz { cls:=.type "list",data:=.seq vs.toArray } (.lst (ns.map V.int)))else if x6u K b=true then some (.tbl #[])else none) (fun b=>?_) (fun b h=>?_) (.inl (.inr ⟨{ cls:=.type "list",data:=.seq vs.toArray },if_pos rfl⟩)) (fun b u z=>?_) fun _ _ _=>hk
  ·by_cases hb:b=a
   ·exact .inr (.inl ⟨hb,_,_,if_pos hb⟩)
   ·by_cases ht:x6u K b=true
    ·exact .inr (.inr ⟨ht,(if_neg hb).trans (if_pos ht)⟩)
    ·exact .inl ((if_neg hb).trans (if_neg ht))
  ·have hb:b≠a:=fun z=>by rw[z,aT]at h; cases h
   exact(if_neg hb).trans (if_pos h)
  ·by_cases hb:b=a
   ·have z':=(if_pos hb).symm.trans z
    cases z'
    subst hb
    exact⟨ha,by rw[List.length_map]; exact hl,vs,_,rv,ha⟩
   ·by_cases ht:x6u K b=true
    ·have z':=((if_neg hb).trans (if_pos ht)).symm.trans z
     cases z'
     exact(tabO b ht).2
    ·have z':=((if_neg hb).trans (if_neg ht)).symm.trans z
     cases z'
noncomputable def j40 (q:Program) (K:PySem.W.Frag):Prop:=∀ x∈y21,(∃ d,(recsOf q).find? (fun e=>e.name == x)=some d)\/tabIn K x=none
theorem j40.of {q:Program} {K:PySem.W.Frag} (h1:(∃ d,(recsOf q).find? (fun e=>e.name == ("turned":Str))=some d)\/tabIn K "turned" = none) (h2:(∃ d,(recsOf q).find? (fun e=>e.name == ("chain_ladder":Str))=some d)\/tabIn K "chain_ladder" = none)
  (h3:(∃ d,(recsOf q).find? (fun e=>e.name == ("flat_ladder":Str))=some d)\/tabIn K "flat_ladder" = none) (h4:(∃ d,(recsOf q).find? (fun e=>e.name == ("paired":Str))=some d)\/tabIn K "paired" = none):j40 q K:=fun x hx=>by
 rcases List.mem_cons.mp hx with rfl | hx
 ·exact h1
 rcases List.mem_cons.mp hx with rfl | hx
 ·exact h2
 rcases List.mem_cons.mp hx with rfl | hx
 ·exact h3
 rcases List.mem_cons.mp hx with rfl | hx
 ·exact h4
 cases hx
theorem z3q {l:PySem.W.OpenLaw} {n k:Nat} {q:Program} {loose:List Str} {XP:(Str->Option Value)->Heap->Prop} {YP:World->Heap->Prop} {d:DefRec} {K:Params->PySem.W.Frag} {CX:World->CXT} {sp:World->Sp} {x:Str}
  (hn:l.most=some n) (hn2:n<=sizeLine) (hdf:d.params.defaults=[]) (hr:Room k callerA)
  (hY:∀ (w:World) (h:Heap),YP w h->(K w.params).In h)
  (F:∀ (w:World) (mg:Str->Option Value) (fa:Addr) (h:Heap),(K w.params).In h->h.Ns mainGlobals mg->mg d.name=some (.ref fa)->j40 q (K w.params)/\noTabs (K w.params)=true /\
    ∃ fd:FuncData,(∀ (s:Shared) (u:Value),BindsTo s fd ⟨[u],[]⟩ [(x,u)]) /\
     ∀ base:Heap,(K w.params).In base->base.Ns mainGlobals mg->Lm (K w.params) mg base->FnOk l.prog w (K w.params) mg base (CX w) k fa fd [x] (sp w))
  (hsp:∀ (w:World) (H:Hp) (a:Addr) (ns:List Int),ns.length<=n->TB (K w.params) H->SqL (K w.params) H a (ns.map V.int)->sp w [.ref a] H (fun v _=>v=.bl true) fun _ _ _=>False)
  (hCX:∀ (w:World) (H:Hp) (s:Shared) (e:Value) (s':Shared),CX w [] H s (fun _ _ _=>False) e s'->False) :
  PySem.W.WalkO q loose XP YP l.row.toRowW d [] (fun f vs=>PySem.call f vs):=by
 refine Att.z9i hn hdf fun w s₀ s₁ mg mb fa o pm cd doc a vs ns G Y ho hd hcd hmg hobj hints hlen hg=>?_
 have KX:=hY w _ Y
 obtain⟨hrec,hnt,fd,hb,hF⟩:=F w mg fa _ KX G.T.g hmg
 have hbm:=G.T.bmain
 refine y9v KX G.T.g G.T.b G.T.builtins G.T.nolimit hg ?_ (fun x hx c Pt e=>?_) hnt hobj hints (Nat.le_trans hlen hn2) hr hF hb (fun H hO hS=>hsp w H a ns hlen hO hS) fun H e s'=>hCX w H s₁ e s'
 ·obtain⟨bm,ob,b1,b2,b3,b4,b5,b6⟩:=hbm
  exact⟨bm,ob,b1,b2,b3,b4,b5,b6⟩
 ·rcases hrec x hx with⟨dd,hd⟩ | z
  ·exact tab_of G.T KX hd e
  ·rw[z]at e; cases e
end L3
namespace L3
open PySem PySem.Spec PyProof.Rows L2
theorem x4y {k:Nat} {pt:x6q} {tt:x2b} {te:Den} {deep:Bool}:∀ (ds:List D) (S:Nat->Rho) (b:Nat->Bool) (v:Nat->D),
  (∀ i (h:i<ds.length),∃ ρ1 ρ2,pt ds[i] (S i++List.replicate k none)=some ρ1/\tt ρ1=some (b i,ρ2) /\
    (if b i=true then ∃ q ρ3,te ρ2=some (v i,q,ρ3)/\¬ (deep=true/\(v i).isL=true/\q≠1)/\ρ3.take (S i).length=S (i+1)else ρ2.take (S i).length=S (i+1)))->
  x6r k pt tt te deep ds (S 0)=some (((List.range ds.length).filter b).map v,S ds.length)
 | [],S,b,v,_=>rfl
 | d::ds,S,b,v,h=>by
  obtain⟨ρ1,ρ2,h1,h2,h3⟩:=h 0 (by simp)
  have ih:=x4y ds (fun i=>S (i+1)) (fun i=>b (i+1)) (fun i=>v (i+1)) (fun i hi=>h (i+1) (by simpa using hi))
  have er:((List.range (d::ds).length).filter b).map v=(if b 0=true then [v 0]else [])++((List.range ds.length).filter fun i=>b (i+1)).map fun i=>v (i+1):=by
   rw[List.length_cons,List.range_succ_eq_map,List.filter_cons,List.filter_map]
   split <;> simp[Function.comp_def]
  rw[er]
  unfold x6r
  rw[show pt d (S 0++List.replicate k none)=some ρ1 from h1]
  simp only[h2]
  split at h3
  ·rename_i hb
   obtain⟨q,ρ3,h4,h5,h6⟩:=h3
   simp only[hb,if_true,h4,if_neg h5,h6,ih]
   rfl
  ·rename_i hb
   simp only[hb,h3,ih]
   rfl
theorem x4f {pt:x6q} {body:x19}:∀ (ds:List D) (I:Nat->Rho->Prop) (ρ:Rho),(∀ i (h:i<ds.length) ρ,I i ρ->∃ ρ1 ρ2,pt ds[i] ρ=some ρ1/\(body ρ1=some (.nx ρ2)\/body ρ1=some (.ct ρ2))/\I (i+1) ρ2)->I 0 ρ->∃ ρ',y12 pt body ds ρ=some (.nx ρ')/\I ds.length ρ'
 | [],I,ρ,_,h0=>⟨ρ,rfl,h0⟩
 | d::ds,I,ρ,h,h0=>by
  obtain⟨ρ1,ρ2,h1,h2,h3⟩:=h 0 (by simp) ρ h0
  obtain⟨ρ',e,h4⟩:=x4f ds (fun i=>I (i+1)) ρ2 (fun i hi=>h (i+1) (by simpa using hi)) h3
  refine⟨ρ',?_,h4⟩
  unfold y12
  rw[show pt d ρ=some ρ1 from h1]
  rcases h2 with h2 | h2 <;> (simp only[h2]; exact e)
theorem x0e {f g:x19} {ρ ρ1:Rho} (h:f ρ=some (.nx ρ1)):x0z f g ρ=g ρ1:=by unfold x0z; rw[h]
theorem z8b {f g:x19} {ρ:Rho} {d:D} {q:Nat} (h:f ρ=some (.rt d q)):x0z f g ρ=some (.rt d q):=by unfold x0z; rw[h]
theorem x29 {n:Nat} {body:x19} {ds:List D} {d:D} {q:Nat} (h:body (x8h n ds)=some (.rt d q)):fnD n body ds=some (d,q):=by unfold fnD; rw[h]
theorem x24 {k:Nat} {it:y2s} {pt:x6q} {tt:x2b} {te:Den} {deep:Bool} {ρ ρ1 ρ2:Rho} {ds vs:List D} (hi:it ρ=some (ds,ρ1)) (hc:x6r k pt tt te deep ds ρ1=some (vs,ρ2)):x3f k it pt tt te deep ρ=some (.lst vs,if deep=true then 2 else 1,ρ2):=by unfold x3f; rw[hi]; simp only[hc]
theorem z7l {i:Nat} {f:Den} {ρ ρ1:Rho} {d:D} {q:Nat} (h:f ρ=some (d,q,ρ1)):x1m i f ρ=some (.nx (ρ1.set i (some (d,q)))):=by unfold x1m; rw[h]
theorem x1y {f:Den} {ρ ρ1:Rho} {d:D} {q:Nat} (h:f ρ=some (d,q,ρ1)):x3h f ρ=some (.rt d q):=by unfold x3h; rw[h]
theorem x3l {it:y2s} {pt:x6q} {body:x19} {ρ ρ1:Rho} {ds:List D} (h:it ρ=some (ds,ρ1)):x7a it pt body ρ=y12 pt body ds ρ1:=by unfold x7a; rw[h]
theorem j2j {g:x2b} {s s':x19} {ρ ρ1:Rho} (h:g ρ=some (true,ρ1)):sIf g s s' ρ=s ρ1:=by unfold sIf; rw[h]; rfl
theorem y3k {g:x2b} {s s':x19} {ρ ρ1:Rho} (h:g ρ=some (false,ρ1)):sIf g s s' ρ=s' ρ1:=by unfold sIf; rw[h]; rfl
theorem x17 {i:Nat} {f:Den} {ρ ρ1 ρ2:Rho} {d:D} {q:Nat} (h:f ρ=some (d,q,ρ1)) (e:ρ1.set i (some (d,q))=ρ2):x1m i f ρ=some (.nx ρ2):=by rw[z7l h,e]
theorem x0r {f:Den} {ρ ρ1:Rho} {d:D} {q:Nat} (h:f ρ=some (d,q,ρ1)):x01 f x0c ρ=some ([d],ρ1):=by unfold x01; rw[h]; rfl
theorem x0w {f:Den} {g:x2c} {ρ ρ1 ρ2:Rho} {d:D} {q:Nat} {ds:List D} (h:f ρ=some (d,q,ρ1)) (h':g ρ1=some (ds,ρ2)):x01 f g ρ=some (d::ds,ρ2):=by unfold x01; rw[h]; simp only[h']
theorem x1x {g:x2c} {ρ ρ1:Rho} {ds:List D} (h:g ρ=some ([.lst ds],ρ1)):x2m g ρ=some (.tup ds,9,ρ1):=by unfold x2m; rw[h]
theorem y56 {g:x2c} {ρ ρ1:Rho} {ds:List D} (h:x14 g ρ=some (ds,ρ1)):y0d g ρ=some (.lst ds,1,ρ1):=by unfold y0d; rw[h]
theorem x0o {F:List D->Option (D × Nat)} {n:Nat} {g:x2c} {ρ ρ1:Rho} {ds:List D} {d:D} {q:Nat} (h:g ρ=some (ds,ρ1)) (hl:ds.length=n) (hF:F ds=some (d,q)):x0g F n g ρ=some (d,q,ρ1):=by unfold x0g; rw[h]; simp only[hl,if_true,hF]
noncomputable def x0f (l:List Nat):List D:=l.map fun i=>.int (Int.ofNat i)
noncomputable def y8v (n:Nat) (f:Nat->Nat->Nat) (i:Nat):D:=.tup (x0f ((List.range n).map fun j=>f i j))
noncomputable def x0v (n:Nat) (f:Nat->Nat->Nat):D:=.tup ((List.range n).map fun i=>y8v n f i)
noncomputable def x8j (n:Nat) (f:Nat->Nat->Nat) (i:Nat):D:=.lst (x0f ((List.range n).map fun j=>f i j))
noncomputable def x46 (n:Nat) (f:Nat->Nat->Nat):D:=.lst ((List.range n).map fun i=>x8j n f i)
@[simp] theorem j48 {n:Nat} {f:Nat->Nat->Nat}:(x0v n f).isL=false:=rfl
@[simp] theorem j3y {n:Nat} {f:Nat->Nat->Nat} {i:Nat}:(y8v n f i).isL=false:=rfl
@[simp] theorem j49 {n:Nat} {f:Nat->Nat->Nat}:(x46 n f).isL=true:=rfl
@[simp] theorem j3z {n:Nat} {f:Nat->Nat->Nat} {i:Nat}:(x8j n f i).isL=true:=rfl
theorem x1o (l:List Nat):(x0f l).length=l.length:=by simp[x0f]
theorem y8g (l:List Nat) (i:Nat):(x0f l)[i]? = (l[i]?).map fun x=>.int (Int.ofNat x):=by simp[x0f]
theorem x9v {n i:Nat} (h:i<n):ixN n (Int.ofNat i)=some i:=by
 unfold ixN
 rw[if_pos (by exact Int.natCast_nonneg i),if_pos (by show(i:Int)<n; omega)]
 rfl
theorem y53 {α:Type} {xs:List α} {i:Nat} {x:α} (h:xs[i]? = some x):L2.atI xs (Int.ofNat i)=some x:=by
 unfold L2.atI
 rw[x9v (List.getElem?_eq_some_iff.mp h).1]
 exact h
theorem y6x {l:List Nat} {i x:Nat} (h:l[i]? = some x):L2.atI (x0f l) (Int.ofNat i)=some (.int (Int.ofNat x)):=y53 (by rw[y8g,h]; rfl)
theorem z5u {g:Nat->D} {n i:Nat} (h:i<n):L2.atI ((List.range n).map g) (Int.ofNat i)=some (g i):=y53 (by rw[List.getElem?_map,List.getElem?_range h]; rfl)
theorem x2x {g:Nat->Nat} {n i:Nat} (h:i<n):L2.atI (x0f ((List.range n).map g)) (Int.ofNat i)=some (.int (Int.ofNat (g i))):=y6x (by rw[List.getElem?_map,List.getElem?_range h]; rfl)
theorem x7t {n:Nat} {f:Nat->Nat->Nat} {i:Nat} (h:i<n):atD (x0v n f) (Int.ofNat i)=some (y8v n f i):=z5u h
theorem x9n {n:Nat} {f:Nat->Nat->Nat} {i j:Nat} (h:j<n):atD (y8v n f i) (Int.ofNat j)=some (.int (Int.ofNat (f i j))):=x2x h
theorem z7p {n:Nat} {f:Nat->Nat->Nat} {i:Nat} (h:i<n):atD (x46 n f) (Int.ofNat i)=some (x8j n f i):=z5u h
theorem z8o {n:Nat} {f:Nat->Nat->Nat} {i j:Nat} (h:j<n):atD (x8j n f i) (Int.ofNat j)=some (.int (Int.ofNat (f i j))):=x2x h
theorem x2u {n:Nat} {f:Nat->Nat->Nat}:y0t (x0v n f)=some n:=by simp[x0v,y0t]
theorem x8y {n:Nat} {f:Nat->Nat->Nat}:y0t (x46 n f)=some n:=by simp[x46,y0t]
theorem x77 {n:Nat} {f g:Nat->Nat->Nat} (h:∀ a b,a<n->b<n->f a b=g a b):x46 n f=x46 n g:=by
 unfold x46 x8j
 refine congrArg D.lst (List.map_congr_left fun a ha=>?_)
 refine congrArg (fun l=>D.lst (x0f l)) (List.map_congr_left fun b hb=>?_)
 exact h a b (List.mem_range.mp ha) (List.mem_range.mp hb)
theorem x8k {α:Type} {g:Nat->α} {n m:Nat} {x:α}:((List.range n).map g).set m x=(List.range n).map fun a=>if a=m then x else g a:=by
 apply List.ext_getElem?
 intro i
 by_cases hi:i<n
 ·by_cases h:m=i
  ·subst h
   rw[List.getElem?_set_self (by simpa using hi),List.getElem?_map,List.getElem?_range hi]
   simp
  ·rw[List.getElem?_set_ne h,List.getElem?_map,List.getElem?_map,List.getElem?_range hi]
   simp
   exact fun z=>absurd z.symm h
 ·rw[List.getElem?_eq_none (by simp; omega),List.getElem?_eq_none (by simp; omega)]
theorem x7b {g:Nat->Nat} {n:Nat}:x0f ((List.range n).map g)=(List.range n).map fun i=>.int (Int.ofNat (g i)):=by simp[x0f]
theorem z4b {n:Nat} {f:Nat->Nat->Nat} {a b v:Nat}:D.lst (((List.range n).map fun i=>x8j n f i).set a (.lst ((x0f ((List.range n).map fun j=>f a j)).set b (.int (Int.ofNat v)))))=x46 n fun i j=>if i=a/\j=b then v else f i j:=by
 unfold x46
 rw[x8k]
 refine congrArg D.lst (List.map_congr_left fun i hi=>?_)
 by_cases h:i=a
 ·subst h
  rw[if_pos rfl,x7b,x8k]
  unfold x8j
  rw[x7b]
  refine congrArg D.lst (List.map_congr_left fun j hj=>?_)
  by_cases hj:j=b <;> simp[hj]
 ·rw[if_neg h]
  unfold x8j
  simp[h]
theorem j51 (n:Nat):D.lst (List.replicate n [D.int 0]).flatten=x8j n (fun _ _=>0) 0:=by
 unfold x8j x0f
 congr 1
 simp[List.flatten_replicate_singleton,List.map_const']
theorem y8i:∀ ds:List D,x6v ds=ds.map toP
 | []=>rfl
 | d::ds=>by rw[x6v,y8i ds]; rfl
noncomputable def lay (d:D):Bool:=x91 d && (toP d).canLay0
theorem j35 {d:D} (h:lay d=true):x91 d=true:=(Bool.and_eq_true_iff.mp h).1
theorem j1v {d:D} (h:lay d=true):(toP d).canLay0=true:=(Bool.and_eq_true_iff.mp h).2
theorem y02:∀ {ds:List D},(∀ d∈ds,lay d=true)->y1v ds=true
 | [],_=>rfl
 | d::ds,h=>by
  show(x91 d && y1v ds)=true
  rw[j35 (h d List.mem_cons_self),y02 fun x m=>h x (List.mem_cons_of_mem _ m)]
  rfl
noncomputable def dep (d:D):Nat:=(toP d).depth
theorem z0b:∀ {ds:List D},(∀ d∈ds,lay d=true)->PyData.canLayAll0 (x6v ds)=true
 | [],_=>rfl
 | d::ds,h=>by
  rw[x6v,PyData.canLayAll0,z0b fun x m=>h x (List.mem_cons_of_mem _ m),Bool.and_true]
  exact j1v (h d List.mem_cons_self)
theorem z0g {k:Nat}:∀ {ds:List D},(∀ d∈ds,dep d<=k)->PyData.depthAll (x6v ds)<=k
 | [],_=>Nat.zero_le _
 | d::ds,h=>by
  rw[x6v,PyData.depthAll]
  exact Nat.max_le.mpr ⟨h d List.mem_cons_self,z0g fun x m=>h x (List.mem_cons_of_mem _ m)⟩
noncomputable def Sh (k:Nat) (d:D):Prop:=lay d=true/\dep d<=k
theorem Sh.int {k:Nat} (i:Int):Sh k (.int i):=⟨rfl,Nat.zero_le _⟩
theorem Sh.non {k:Nat}:Sh k .non:=⟨rfl,Nat.zero_le _⟩
theorem Sh.tup {k:Nat} {ds:List D} (h:∀ d∈ds,Sh k d):Sh (k+1) (.tup ds):=⟨Bool.and_eq_true_iff.mpr ⟨y02 fun d m=>(h d m).1,z0b fun d m=>(h d m).1⟩,Nat.succ_le_succ (z0g fun d m=>(h d m).2)⟩
theorem Sh.lst {k:Nat} {ds:List D} (h:∀ d∈ds,Sh k d):Sh (k+1) (.lst ds):=⟨Bool.and_eq_true_iff.mpr ⟨y02 fun d m=>(h d m).1,z0b fun d m=>(h d m).1⟩,Nat.succ_le_succ (z0g fun d m=>(h d m).2)⟩
theorem Sh.ok {k:Nat} {d:D} (h:Sh k d) (hk:k<=64:=by decide):okD d=true:=by
 show(x91 d && ((toP d).canLay0 && decide ((toP d).depth<=64)))=true
 rw[j35 h.1,j1v h.1,Bool.true_and,Bool.true_and]
 exact decide_eq_true (Nat.le_trans h.2 hk)
theorem z0a {l:List Nat} {d:D} (m:d∈x0f l):Sh 0 d:=by
 obtain⟨x,_,rfl⟩:=List.mem_map.mp m
 exact .int _
theorem z6x (l:List Nat):Sh 1 (.lst (x0f l)):=.lst fun _ m=>z0a m
theorem z9p (l:List Nat):Sh 1 (.tup (x0f l)):=.tup fun _ m=>z0a m
theorem z6o (n:Nat) (f:Nat->Nat->Nat):Sh 2 (x0v n f):=.tup fun d m=>by
 obtain⟨x,_,rfl⟩:=List.mem_map.mp m
 exact z9p _
theorem x7z:∀ l l':List Nat,PyData.eqvAll (x6v (x0f l)) (x6v (x0f l'))=decide (l=l')
 | [],[]=>rfl
 | [],_::_=>rfl
 | _::_,[]=>rfl
 | x::l,y::l'=>by
  show(((x:Int) == (y:Int)) && PyData.eqvAll (x6v (x0f l)) (x6v (x0f l')))=_
  rw[x7z l l']
  by_cases h:x=y
  ·subst h; simp
  ·have:((x:Int) == (y:Int))=false:=by simp; omega
   rw[this]
   simp[h]
theorem j11 (l l':List Nat):eqD (.lst (x0f l)) (.lst (x0f l'))=decide (l=l'):=x7z l l'
theorem z82 (l l':List Nat):eqD (.tup (x0f l)) (.tup (x0f l'))=decide (l=l'):=x7z l l'
theorem y6c (i j:Int):eqD (.int i) (.int j)=decide (i=j):=by
 show(i == j)=_
 rw[Bool.beq_eq_decide_eq]
theorem z0n (i j:Nat):eqD (.int (Int.ofNat i)) (.int (Int.ofNat j))=decide (i=j):=by
 rw[y6c]
 exact decide_eq_decide.mpr ⟨fun h=>Int.ofNat.inj h,fun h=>by rw[h]⟩
theorem j2d (l l':List Nat):dEq (.lst (x0f l)) (.lst (x0f l'))=some (.bl (decide (l=l'))):=by unfold dEq; rw[if_pos ⟨(z6x l).ok,(z6x l').ok⟩,j11]
theorem j5w (l l':List Nat):dNe (.lst (x0f l)) (.lst (x0f l'))=some (.bl (!decide (l=l'))):=by unfold dNe; rw[if_pos ⟨(z6x l).ok,(z6x l').ok⟩,j11]
theorem z08 (i j:Int):dEq (.int i) (.int j)=some (.bl (decide (i=j))):=by unfold dEq; rw[if_pos ⟨(Sh.int (k:=0) i).ok,(Sh.int (k:=0) j).ok⟩,y6c]
theorem z7v (i j:Int):dNe (.int i) (.int j)=some (.bl (!decide (i=j))):=by unfold dNe; rw[if_pos ⟨(Sh.int (k:=0) i).ok,(Sh.int (k:=0) j).ok⟩,y6c]
theorem y79 (i j:Nat):dEq (.int (Int.ofNat i)) (.int (Int.ofNat j))=some (.bl (decide (i=j))):=by unfold dEq; rw[if_pos ⟨(Sh.int (k:=0) _).ok,(Sh.int (k:=0) _).ok⟩,z0n]
theorem x8o {α:Type} {p:α->Bool}:∀ {l:List α} {j:Nat} {x:α},l[j]? = some x->p x=true->(∀ i y,i<j->l[i]? = some y->p y=false)->l.findIdx? p=some j
 | [],j,x,h,_,_=>by simp at h
 | a::l,0,x,h,hp,_=>by
  simp at h; subst h
  simp[List.findIdx?_cons,hp]
 | a::l,j+1,x,h,hp,hn=>by
  have h0:p a=false:=hn 0 a (Nat.succ_pos _) rfl
  have ih:=x8o (l:=l) (j:=j) (x:=x) (by simpa using h) hp fun i y hi hy=>hn (i+1) y (Nat.succ_lt_succ hi) (by simpa using hy)
  simp[List.findIdx?_cons,h0,ih]
structure Lad (n:Nat) (f:Nat->Nat->Nat):Prop where
 lo:0<n
 hi:n<=16
 cl:∀ i j,i<n->j<n->f i j<n
 idem:∀ i,i<n->f i i=i
 comm:∀ i j,i<n->j<n->f i j=f j i
 assoc:∀ i j k,i<n->j<n->k<n->f (f i j) k=f i (f j k)
 bot:∃ z,z<n/\∀ j,j<n->f z j=j
noncomputable def j5i (n:Nat) (f:Nat->Nat->Nat):Bool:=
 decide (0<n) && decide (n<=16) && ((List.range n).all fun i=>(List.range n).all fun j=>decide (f i j<n)) && ((List.range n).all fun i=>decide (f i i=i)) && ((List.range n).all fun i=>(List.range n).all fun j=>decide (f i j=f j i)) &&
 ((List.range n).all fun i=>(List.range n).all fun j=>(List.range n).all fun k=>decide (f (f i j) k=f i (f j k))) && ((List.range n).any fun z=>(List.range n).all fun j=>decide (f z j=j))
theorem z8h {n:Nat} {f:Nat->Nat->Nat} (h:j5i n f=true):Lad n f:=by
 unfold j5i at h
 simp only[Bool.and_eq_true,decide_eq_true_eq,List.all_eq_true,List.any_eq_true,List.mem_range]at h
 obtain⟨⟨⟨⟨⟨⟨h1,h2⟩,h3⟩,h4⟩,h5⟩,h6⟩,z,hz,h7⟩:=h
 exact⟨h1,h2,fun i j hi hj=>h3 i hi j hj,h4,fun i j hi hj=>h5 i hi j hj,fun i j k hi hj hk=>h6 i hi j hj k hk,z,hz,h7⟩
theorem Lad.ren {n:Nat} {f:Nat->Nat->Nat} (L:Lad n f) {π ι:Nat->Nat} (h1:∀ i,i<n->π i<n) (h2:∀ i,i<n->ι i<n) (h3:∀ i,i<n->ι (π i)=i) (h4:∀ i,i<n->π (ι i)=i):Lad n fun a b=>π (f (ι a) (ι b)):=by
 obtain⟨l1,l2,cl,idem,comm,assoc,z,hz,bot⟩:=L
 refine⟨l1,l2,fun i j hi hj=>h1 _ (cl _ _ (h2 i hi) (h2 j hj)),fun i hi=>?_,fun i j hi hj=>?_,fun i j k hi hj hk=>?_,π z,h1 z hz,fun j hj=>?_⟩
 ·show π (f (ι i) (ι i))=i
  rw[idem _ (h2 i hi),h4 i hi]
 ·show π (f (ι i) (ι j))=π (f (ι j) (ι i))
  rw[comm _ _ (h2 i hi) (h2 j hj)]
 ·show π (f (ι (π (f (ι i) (ι j)))) (ι k))=π (f (ι i) (ι (π (f (ι j) (ι k)))))
  rw[h3 _ (cl _ _ (h2 i hi) (h2 j hj)),h3 _ (cl _ _ (h2 j hj) (h2 k hk)),assoc _ _ _ (h2 i hi) (h2 j hj) (h2 k hk)]
 ·show π (f (ι (π z)) (ι j))=j
  rw[h3 z hz,bot _ (h2 j hj),h4 j hj]
noncomputable def x40 (p:Nat->Nat->Nat) (n:Nat):Nat->List Nat
 | 0=>List.range n
 | k+1=>(x40 p n k).eraseIdx (p k (x40 p n k).length)
noncomputable def drawn (p:Nat->Nat->Nat) (n k:Nat):Nat:=(x40 p n k).getD (p k (x40 p n k).length) 0
theorem y3h:∀ (l:List Nat) (j:Nat),(x0f l).eraseIdx j=x0f (l.eraseIdx j)
 | [],_=>rfl
 | _::_,0=>rfl
 | a::l,j+1=>congrArg (D.int (Int.ofNat a) :: ·) (y3h l j)
theorem x8a {p:Nat->Nat->Nat} {n:Nat} (hp:∀ k m,0<m->p k m<m):∀ k,k<=n->(x40 p n k).length=n-k
 | 0,_=>by simp[x40]
 | k+1,h=>by
  have ih:=x8a hp k (Nat.le_of_succ_le h)
  have:=hp k (n-k) (by omega)
  rw[x40,List.length_eraseIdx,ih,if_pos this]
  omega
theorem y2y:∀ {l:List Nat} {j:Nat} (h:j<l.length),(l[j]::l.eraseIdx j).Perm l
 | a::l,0,_=>List.Perm.refl _
 | a::l,j+1,h=>(List.Perm.swap a (l[j]'(by simpa using h)) (l.eraseIdx j)).trans (List.Perm.cons a (y2y (by simpa using h)))
theorem y5j {p:Nat->Nat->Nat} {n:Nat} (hp:∀ k m,0<m->p k m<m):∀ k,k<=n->(((List.range k).map (drawn p n))++x40 p n k).Perm (List.range n)
 | 0,_=>by simp[x40]
 | k+1,h=>by
  have ih:=y5j hp k (Nat.le_of_succ_le h)
  have hl:=x8a hp k (by omega:k<=n)
  have hj:p k (x40 p n k).length<(x40 p n k).length:=by rw[hl]; exact hp k _ (by omega)
  refine List.Perm.trans ?_ ih
  rw[List.range_succ,List.map_append,List.append_assoc]
  refine List.Perm.append_left _ ?_
  have e:drawn p n k=(x40 p n k)[p k (x40 p n k).length]:=by unfold drawn; rw[List.getD_eq_getElem?_getD,List.getElem?_eq_getElem hj]; rfl
  show(drawn p n k::(x40 p n (k+1))).Perm _
  rw[e,x40]
  exact y2y hj
theorem x78 {p:Nat->Nat->Nat} {n:Nat} (hp:∀ k m,0<m->p k m<m):((List.range n).map (drawn p n)).Perm (List.range n):=by
 have h:=y5j hp n (Nat.le_refl n)
 have hl:=x8a hp n (Nat.le_refl n)
 rw[Nat.sub_self]at hl
 rw[List.length_eq_zero_iff.mp hl,List.append_nil]at h
 exact h
theorem y8o {p:Nat->Nat->Nat} {n:Nat} (hp:∀ k m,0<m->p k m<m) {i:Nat} (h:i<n):drawn p n i<n:=by
 have m:drawn p n i∈(List.range n).map (drawn p n):=List.mem_map.mpr ⟨i,List.mem_range.mpr h,rfl⟩
 exact List.mem_range.mp ((x78 hp).mem_iff.mp m)
noncomputable def x3z (p:Nat->Nat->Nat) (n a:Nat):Nat:=((List.range n).map (drawn p n)).idxOf a
theorem y37 {p:Nat->Nat->Nat} {n:Nat} (hp:∀ k m,0<m->p k m<m) {a:Nat} (h:a<n):x3z p n a<n:=by
 have m:a∈(List.range n).map (drawn p n):=(x78 hp).mem_iff.mpr (List.mem_range.mpr h)
 have:=List.idxOf_lt_length_of_mem m
 rw[List.length_map,List.length_range]at this
 exact this
theorem x90 {p:Nat->Nat->Nat} {n:Nat} (hp:∀ k m,0<m->p k m<m) {a:Nat} (h:a<n):drawn p n (x3z p n a)=a:=by
 have m:a∈(List.range n).map (drawn p n):=(x78 hp).mem_iff.mpr (List.mem_range.mpr h)
 have:=List.getElem_idxOf (List.idxOf_lt_length_of_mem m)
 rw[List.getElem_map,List.getElem_range]at this
 exact this
theorem x8e {p:Nat->Nat->Nat} {n:Nat} (hp:∀ k m,0<m->p k m<m) {i:Nat} (h:i<n):x3z p n (drawn p n i)=i:=by
 have nd:((List.range n).map (drawn p n)).Nodup:=(x78 hp).nodup_iff.mpr List.nodup_range
 have hi:i<((List.range n).map (drawn p n)).length:=by simpa using h
 have:=nd.idxOf_getElem i hi
 rw[List.getElem_map,List.getElem_range]at this
 exact this
end L3
namespace L3
open PySem PySem.Spec PyProof.Rows L2
theorem z1s {i n:Nat} {tt:x2b} {te:Den} {ρ:Rho} {deep:Bool} (hi:ρ.length=i) (b:Nat->Bool) (v:Nat->D) (q:Nat->Nat) (ht:∀ j,j<n->tt (ρ++[some (.int (Int.ofNat j),9)])=some (b j,ρ++[some (.int (Int.ofNat j),9)]))
  (he:∀ j,j<n->b j=true->te (ρ++[some (.int (Int.ofNat j),9)])=some (v j,q j,ρ++[some (.int (Int.ofNat j),9)])) (hd:deep=true->∀ j,(v j).isL=true->q j=1:=by intro h; cases h) :
  x6r 1 (x0l i) tt te deep (x1a n) ρ=some (((List.range n).filter b).map v,ρ):=by
 have h:=x4y (k:=1) (pt:=x0l i) (tt:=tt) (te:=te) (deep:=deep) (x1a n) (fun _=>ρ) b v (fun j hj=>?_)
 ·rw[x15]at h
  exact h
 ·rw[x15]at hj
  refine⟨ρ++[some (.int (Int.ofNat j),9)],_,?_,ht j hj,?_⟩
  ·have:(x1a n)[j]'(by rw[x15]; exact hj)=.int (Int.ofNat j):=by simp[x1a]
   rw[this]
   unfold x0l
   rw[if_pos (by simp[hi])]
   subst hi
   simp[List.set_append]
  ·by_cases hb:b j=true
   ·rw[if_pos hb]
    exact⟨q j,_,he j hj hb,fun⟨h1,h2,h3⟩=>h3 (hd h1 j h2),by simp⟩
   ·rw[if_neg hb]
    simp
theorem y3a {z:Nat}:∀ n:Nat,(List.range n).filter (fun w=>decide (w=z))=if z<n then [z]else []
 | 0=>by simp
 | n+1=>by
  rw[List.range_succ,List.filter_append,y3a n]
  by_cases h:n=z
  ·subst h; simp
  ·have:¬ (n=z):=h
   by_cases h2:z<n
   ·rw[if_pos h2,if_pos (by omega)]; simp[h]
   ·rw[if_neg h2,if_neg (by omega)]; simp[h]
theorem y4x {n:Nat} {g:Nat->Nat}:(List.range n).map g=List.range n ↔ ∀ j,j<n->g j=j:=by
 constructor
 ·intro h j hj
  have:=congrArg (fun l=>l[j]?) h
  simpa [hj]using this
 ·intro h
  have e:=List.map_congr_left (l:=List.range n) (f:=g) (g:=id) fun a ha=>h a (List.mem_range.mp ha)
  rw[e,List.map_id]
namespace Lad
variable {n:Nat} {f:Nat->Nat->Nat} (L:Lad n f)
include L
theorem bot_uniq {z x:Nat} (hz:z<n) (bz:∀ j,j<n->f z j=j) (hx:x<n) (bx:∀ j,j<n->f x j=j):x=z:=by
 have h1:=bx z hz
 have h2:=bz x hx
 rw[L.comm x z hx hz]at h1
 omega
theorem fold_lt:∀ {l:List Nat} {a:Nat},a<n->(∀ x∈l,x<n)->l.foldl f a<n
 | [],a,ha,_=>ha
 | y::l,a,ha,h=>fold_lt (l:=l) (L.cl a y ha (h y List.mem_cons_self)) fun x m=>h x (List.mem_cons_of_mem _ m)
theorem z0q:∀ {l:List Nat} {a x:Nat},a<n->x<n->(∀ x∈l,x<n)->f x a=a->f x (l.foldl f a)=l.foldl f a
 | [],a,x,_,_,_,e=>e
 | y::l,a,x,ha,hx,h,e=>by
  have hy:=h y List.mem_cons_self
  refine z0q (l:=l) (L.cl a y ha hy) hx (fun x m=>h x (List.mem_cons_of_mem _ m)) ?_
  rw[<- L.assoc x a y hx ha hy,e]
theorem fold_mem:∀ {l:List Nat} {a x:Nat},a<n->(∀ x∈l,x<n)->x∈l->f x (l.foldl f a)=l.foldl f a
 | y::l,a,x,ha,h,m=>by
  have hy:=h y List.mem_cons_self
  have hl:∀ x∈l,x<n:=fun x m=>h x (List.mem_cons_of_mem _ m)
  rcases List.mem_cons.mp m with rfl | m
  ·refine z0q L (l:=l) (L.cl a x ha hy) hy hl ?_
   rw[L.comm a x ha hy,<- L.assoc x x a hy hy ha,L.idem x hy]
  ·exact fold_mem (l:=l) (L.cl a y ha hy) hl m
theorem fold_out {z:Nat} (hz:z<n) (bz:∀ j,j<n->f z j=j):∀ {l:List Nat} {a:Nat},a<n->(∀ x∈l,x<n)->l.foldl f a=f a (l.foldl f z)
 | [],a,ha,_=>by show a=f a z; rw[L.comm a z ha hz,bz a ha]
 | y::l,a,ha,h=>by
  have hy:=h y List.mem_cons_self
  have hl:∀ x∈l,x<n:=fun x m=>h x (List.mem_cons_of_mem _ m)
  show l.foldl f (f a y)=f a (l.foldl f (f z y))
  rw[bz y hy,fold_out hz bz (L.cl a y ha hy) hl,fold_out hz bz hy hl,L.assoc a y _ ha hy (L.fold_lt hz hl)]
end Lad
end L3
namespace L3
open PySem PySem.Spec PyProof.Rows L2
theorem range_all {n:Nat} {p:Nat->Bool}:(List.range n).all p=true ↔ ∀ i,i<n->p i=true:=by
 rw[List.all_eq_true]
 exact⟨fun h i hi=>h i (List.mem_range.mpr hi),fun h i hi=>h i (List.mem_range.mp hi)⟩
theorem z22 {l:List Nat} {i:Nat} (h:i<(x0f l).length):(x0f l)[i]=.int (Int.ofNat (l.getD i 0)):=by
 have h':i<l.length:=by rw[x1o]at h; exact h
 simp[x0f,h']
theorem y8p {l:List Nat} {i:Nat} (h:i<l.length):l.getD i 0∈l:=by
 rw[List.getD_eq_getElem?_getD,List.getElem?_eq_getElem h]
 exact List.getElem_mem h
theorem j5d {i:Nat} {te:Den} {ρ:Rho} {deep:Bool} (l:List Nat) (hi:ρ.length=i) (v:Nat->D) (q:Nat->Nat)
  (he:∀ x,x∈l->te (ρ++[some (.int (Int.ofNat x),9)])=some (v x,q x,ρ++[some (.int (Int.ofNat x),9)])) (hd:deep=true->∀ j,(v j).isL=true->q j=1:=by intro h; cases h) :
  x6r 1 (x0l i) x2p te deep (x0f l) ρ=some (l.map v,ρ):=by
 have h:=x4y (k:=1) (pt:=x0l i) (tt:=x2p) (te:=te) (deep:=deep) (x0f l) (fun _=>ρ) (fun _=>true) (fun j=>v (l.getD j 0)) (fun j hj=>?_)
 ·rw[x1o,show(List.range l.length).filter (fun _=>true)=List.range l.length by simp]at h
  rw[h]
  have e:(List.range l.length).map (fun j=>v (l.getD j 0))=l.map v:=by
   apply List.ext_getElem?
   intro k
   by_cases hk:k<l.length
   ·simp[hk]
   ·rw[List.getElem?_eq_none (by simp; omega),List.getElem?_eq_none (by simp; omega)]
  rw[e]
 ·have hj':j<l.length:=by rw[x1o]at hj; exact hj
  refine⟨ρ++[some (.int (Int.ofNat (l.getD j 0)),9)],_,?_,rfl,?_⟩
  ·rw[z22 hj]
   unfold x0l
   rw[if_pos (by simp[hi])]
   subst hi
   simp[List.set_append]
  ·rw[if_pos rfl]
   exact⟨q _,_,he _ (y8p hj'),fun⟨h1,h2,h3⟩=>h3 (hd h1 _ h2),by simp⟩
theorem x3c {g:D->D->Option D} {fa fb:Den} {ρ ρ1 ρ2:Rho} {x y d:D} {q q':Nat} (ha:fa ρ=some (x,q,ρ1)) (hb:fb ρ1=some (y,q',ρ2)) (hg:g x y=some d):e2 g fa fb ρ=some (d,9,ρ2):=by unfold e2; rw[ha]; simp only[hb,hg]
theorem x2s {f:Den} {ρ ρ1:Rho} {b:Bool} {q:Nat} (h:f ρ=some (.bl b,q,ρ1)):x2g f ρ=some (b,ρ1):=by unfold x2g; rw[h]
theorem x7w {i:Nat} {g:x2c} {ρ ρ1 ρ2:Rho} {ds:List D} {d:D} (hl:y65 ρ[i]? = true) (hg:g ρ=some ([d],ρ1)) (h1:ρ1[i]? = some (some (.lst ds,1))) (hn:ds.length<=1000) (e:ρ1.set i (some (.lst (ds++[d]),1))=ρ2):x2t (x93 i g) ρ=some (.nx ρ2):=by
 unfold x2t x93
 rw[if_pos hl,hg]
 simp only[h1,if_pos hn,e]
theorem j0i {b:List D->Option D} {g:x2c} {ρ ρ1:Rho} {ds:List D} {d:D} (h:g ρ=some (ds,ρ1)) (hd:b ds=some d):eB b g ρ=some (d,9,ρ1):=by unfold eB; rw[h]; simp only[hd]
noncomputable def x3j (n:Nat) (r:Nat->Nat):D:=.tup (x0f ((List.range n).map r))
@[simp] theorem j39 {n:Nat} {r:Nat->Nat}:(x3j n r).isL=false:=rfl
theorem y7n {n i:Nat} {r:Nat->Nat} (h:i<n):atD (x3j n r) (Int.ofNat i)=some (.int (Int.ofNat (r i))):=x2x h
theorem y78 (l l':List Nat):dNe (.tup (x0f l)) (.tup (x0f l'))=some (.bl (!decide (l=l'))):=by unfold dNe; rw[if_pos ⟨(z9p l).ok,(z9p l').ok⟩,z82]
theorem z19 (n:Nat) (a b:Nat->Nat):((x0f ((List.range n).map a)).zip (x0f ((List.range n).map b))).map (fun x=>D.tup [x.1,x.2])=(List.range n).map fun j=>.tup [.int (Int.ofNat (a j)),.int (Int.ofNat (b j))]:=by
 rw[x7b,x7b,List.zip_map',List.map_map]
 rfl
theorem j50 {i n:Nat} {tt:x2b} {te:Den} {ρ:Rho} {deep:Bool} (hi:ρ.length=i) (a b:Nat->Nat) (ok:Nat->Bool) (v:Nat->D) (q:Nat->Nat)
  (ht:∀ j,j<n->tt (ρ++[some (.int (Int.ofNat (a j)),9),some (.int (Int.ofNat (b j)),9)])=some (ok j,ρ++[some (.int (Int.ofNat (a j)),9),some (.int (Int.ofNat (b j)),9)]))
  (he:∀ j,j<n->ok j=true->te (ρ++[some (.int (Int.ofNat (a j)),9),some (.int (Int.ofNat (b j)),9)])=some (v j,q j,ρ++[some (.int (Int.ofNat (a j)),9),some (.int (Int.ofNat (b j)),9)]))
  (hd:deep=true->∀ j,(v j).isL=true->q j=1:=by intro h; cases h) :
  x6r 2 (y3d (x10 (x0l i) (x10 (x0l (i+1)) x5s))) tt te deep ((List.range n).map fun j=>.tup [.int (Int.ofNat (a j)),.int (Int.ofNat (b j))]) ρ=some (((List.range n).filter ok).map v,ρ):=by
 have h:=x4y (k:=2) (pt:=y3d (x10 (x0l i) (x10 (x0l (i+1)) x5s))) (tt:=tt) (te:=te) (deep:=deep) ((List.range n).map fun j=>.tup [.int (Int.ofNat (a j)),.int (Int.ofNat (b j))]) (fun _=>ρ) ok v (fun j hj=>?_)
 ·rw[List.length_map,List.length_range]at h
  exact h
 ·rw[List.length_map,List.length_range]at hj
  refine⟨ρ++[some (.int (Int.ofNat (a j)),9),some (.int (Int.ofNat (b j)),9)],_,?_,ht j hj,?_⟩
  ·subst hi
   simp[-Int.ofNat_eq_natCast,List.set_append]
  ·by_cases hb:ok j=true
   ·rw[if_pos hb]
    exact⟨q j,_,he j hj hb,fun⟨h1,h2,h3⟩=>h3 (hd h1 j h2),by simp⟩
   ·rw[if_neg hb]
    simp
namespace Lad
variable {n:Nat} {f:Nat->Nat->Nat} (L:Lad n f)
include L
theorem le_trans {x y z:Nat} (hx:x<n) (hy:y<n) (hz:z<n) (h1:f x y=y) (h2:f y z=z):f x z=z:=by
 rw[<- h2,<- L.assoc x y z hx hy hz,h1]
theorem le_anti {x y:Nat} (hx:x<n) (hy:y<n) (h1:f x y=y) (h2:f y x=x):x=y:=by
 rw[L.comm y x hy hx,h1]at h2; exact h2.symm
theorem le_l {x y:Nat} (hx:x<n) (hy:y<n):f x (f x y)=f x y:=by rw[<- L.assoc x x y hx hx hy,L.idem x hx]
theorem le_r {x y:Nat} (hx:x<n) (hy:y<n):f y (f x y)=f x y:=by rw[L.comm x y hx hy]; exact L.le_l hy hx
theorem lub {x y z:Nat} (hx:x<n) (hy:y<n) (hz:z<n) (h1:f x z=z) (h2:f y z=z):f (f x y) z=z:=by rw[L.assoc x y z hx hy hz,h2,h1]
theorem sup_least {z:Nat} (hz:z<n) (bz:∀ j,j<n->f z j=j) {b:Nat} (hb:b<n):∀ {l:List Nat},(∀ x∈l,x<n)->(∀ x∈l,f x b=b)->f (l.foldl f z) b=b
 | [],_,_=>bz b hb
 | y::l,h,k=>by
  have hy:=h y List.mem_cons_self
  have hl:∀ x∈l,x<n:=fun x m=>h x (List.mem_cons_of_mem _ m)
  have e:(y::l).foldl f z=f y (l.foldl f z):=by
   show l.foldl f (f z y)=_
   rw[bz y hy,L.fold_out hz bz hy hl]
  rw[e]
  exact L.lub hy (L.fold_lt hz hl) hb (k y List.mem_cons_self) (sup_least hz bz hb hl fun x m=>k x (List.mem_cons_of_mem _ m))
omit L
noncomputable def low (n:Nat) (f:Nat->Nat->Nat) (x:Nat):List Nat:=(List.range n).filter fun y=>decide (f y x=x)
theorem mem_low {x y:Nat}:y∈low n f x ↔ y<n/\f y x=x:=by simp[low]
noncomputable def lr (n:Nat) (f:Nat->Nat->Nat) (z:Nat) (r:Nat->Nat) (x:Nat):Nat:=((low n f x).map r).foldl f z
include L
variable {z:Nat} (hz:z<n) (bz:∀ j,j<n->f z j=j) {r s:Nat->Nat} (hr:∀ i,i<n->r i<n)
include hz bz hr
theorem lr_mem {x:Nat}:∀ y∈(low n f x).map r,y<n:=fun y m=>by
 obtain⟨k,hk,rfl⟩:=List.mem_map.mp m
 exact hr k (mem_low.mp hk).1
theorem lr_lt (x:Nat):lr n f z r x<n:=L.fold_lt hz (lr_mem L hz bz hr)
theorem lr_ub {x y:Nat} (hy:y<n) (h:f y x=x):f (r y) (lr n f z r x)=lr n f z r x:=L.fold_mem hz (lr_mem L hz bz hr) (List.mem_map.mpr ⟨y,mem_low.mpr ⟨hy,h⟩,rfl⟩)
theorem lr_least {x b:Nat} (hb:b<n) (h:∀ y,y<n->f y x=x->f (r y) b=b):f (lr n f z r x) b=b:=L.sup_least hz bz hb (lr_mem L hz bz hr) fun y m=>by
 obtain⟨k,hk,rfl⟩:=List.mem_map.mp m
 exact h k (mem_low.mp hk).1 (mem_low.mp hk).2
theorem lr_rises {x y:Nat} (hx:x<n) (hy:y<n) (h:f x y=y):f (lr n f z r x) (lr n f z r y)=lr n f z r y:=
 L.lr_least hz bz hr (L.lr_lt hz bz hr y) fun k hk e=>L.lr_ub hz bz hr hk (L.le_trans hk hx hy e h)
end Lad
end L3
namespace L3
open PySem PySem.Spec PyProof.Rows L2
theorem j75 {α:Type} {us:List α} (h:us.length=1):∃ a,us=[a]:=match us,h with | [a],_=>⟨a,rfl⟩
theorem j7d {α:Type} {us:List α} (h:us.length=2):∃ a b,us=[a,b]:=by
 cases us with
 | nil=>cases h
 | cons a us=>
  obtain⟨b,hh⟩:=j75 (Nat.succ.inj h)
  exact⟨a,b,by rw[hh]⟩
theorem j78 {α:Type} {us:List α} (h:us.length=3):∃ a b c,us=[a,b,c]:=by
 cases us with
 | nil=>cases h
 | cons a us=>
  obtain⟨b,c,hh⟩:=j7d (Nat.succ.inj h)
  exact⟨a,b,c,by rw[hh]⟩
theorem j7g {α:Type} {us:List α} (h:us.length=4):∃ a b c d,us=[a,b,c,d]:=by
 cases us with
 | nil=>cases h
 | cons a us=>
  obtain⟨b,c,d,hh⟩:=j78 (Nat.succ.inj h)
  exact⟨a,b,c,d,by rw[hh]⟩
theorem y4l {pt:x6q} {body:x19} {d:D} {ds:List D} {ρ ρ1 ρ2:Rho} (h1:pt d ρ=some ρ1) (h2:body ρ1=some (.nx ρ2)):y12 pt body (d::ds) ρ=y12 pt body ds ρ2:=by
 show(match pt d ρ with | none=>none | some ρ1=>_)=_
 simp only[h1,h2]
theorem x9f {α J σ:Type} {pt:x6q} {body:x19} (enc:α->D) (S:σ->J->Rho) (g:σ->α->σ) (I:σ->Prop):∀ (l:List α) (s:σ) (j:J),I s->
  (∀ x∈l,∀ s j,I s->I (g s x)/\∃ ρ1 j',pt (enc x) (S s j)=some ρ1/\body ρ1=some (.nx (S (g s x) j')))->∃ j',y12 pt body (l.map enc) (S s j)=some (.nx (S (l.foldl g s) j'))/\I (l.foldl g s)
 | [],s,j,i,_=>⟨j,rfl,i⟩
 | x::l,s,j,i,h=>by
  obtain⟨i1,ρ1,j1,h1,h2⟩:=h x List.mem_cons_self s j i
  obtain⟨j2,e,i2⟩:=x9f enc S g I l (g s x) j1 i1 fun y m=>h y (List.mem_cons_of_mem _ m)
  exact⟨j2,(y4l h1 h2).trans e,i2⟩
theorem y3f {c:x2b} {b:x19} {Q:Rho->Prop} (I:Nat->Rho->Prop)
  (h:∀ k ρ,I k ρ->(∃ ρ1,c ρ=some (false,ρ1)/\Q ρ1)\/(∃ ρ1 ρ2 k',c ρ=some (true,ρ1)/\b ρ1=some (.nx ρ2)/\k'<k/\I k' ρ2)):∀ m k ρ,k<m->I k ρ->∃ ρ',x6j c b m ρ=some (.nx ρ')/\Q ρ'
 | 0,k,_,hk,_=>absurd hk (Nat.not_lt_zero k)
 | m+1,k,ρ,hk,i=>by
  rcases h k ρ i with⟨ρ1,h1,h2⟩ | ⟨ρ1,ρ2,k',h1,h2,h3,h4⟩
  ·exact⟨ρ1,by unfold x6j; simp[h1],h2⟩
  ·obtain⟨ρ',e,q⟩:=y3f I h m k' ρ2 (by omega) h4
   refine⟨ρ',?_,q⟩
   unfold x6j
   simp[h1,h2,e]
theorem x4h {c:x2b} {b:x19} {Q:Rho->Prop} (I:Nat->Rho->Prop) {k:Nat} {ρ:Rho} (hk:k<1000) (i:I k ρ)
  (h:∀ k ρ,I k ρ->(∃ ρ1,c ρ=some (false,ρ1)/\Q ρ1)\/(∃ ρ1 ρ2 k',c ρ=some (true,ρ1)/\b ρ1=some (.nx ρ2)/\k'<k/\I k' ρ2)):∃ ρ',x9e c b ρ=some (.nx ρ')/\Q ρ':=y3f I h 1000 k ρ hk i
noncomputable def gv (v:List Nat) (i:Nat):Nat:=v.getD i 0
theorem y8b {v:List Nat} {i:Nat} (h:i<v.length):v[i]? = some (gv v i):=by unfold gv; simp[h]
theorem j23 {v:List Nat} {i:Nat} (h:i<v.length):gv v i∈v:=y8p h
theorem j59 {v:List Nat} {i:Nat} (h:i<v.length):atD (.lst (x0f v)) (Int.ofNat i)=some (.int (Int.ofNat (gv v i))):=y6x (y8b h)
theorem j5p {v:List Nat} {i:Nat} (h:i<v.length):atD (.tup (x0f v)) (Int.ofNat i)=some (.int (Int.ofNat (gv v i))):=y6x (y8b h)
theorem y86 (v:List Nat) (i x:Nat):(x0f v).set i (.int (Int.ofNat x))=x0f (v.set i x):=by simp[x0f,List.map_set]
theorem j16 {v:List Nat} {i:Nat} (h:i<v.length) (x j:Nat):gv (v.set i x) j=if j=i then x else gv v j:=by
 unfold gv
 rw[List.getD_eq_getElem?_getD,List.getD_eq_getElem?_getD]
 by_cases e:j=i
 ·subst e; rw[if_pos rfl,List.getElem?_set_self h]; rfl
 ·rw[if_neg e,List.getElem?_set_ne (fun z=>e z.symm)]
theorem z1t {u v:List Nat} (h:u.length=v.length) (k:∀ i,i<u.length->gv u i=gv v i):u=v:=by
 apply List.ext_getElem?
 intro i
 by_cases hi:i<u.length
 ·rw[y8b hi,y8b (by omega),k i hi]
 ·rw[List.getElem?_eq_none (by omega),List.getElem?_eq_none (by omega)]
theorem y7y {p i:Nat} (g:Nat->Nat) (h:i<p):gv ((List.range p).map g) i=g i:=by unfold gv; simp[h]
theorem j6f (v:List Nat):v=(List.range v.length).map (gv v):=z1t (by simp) fun i hi=>(y7y _ hi).symm
structure Vn (n p:Nat) (v:List Nat):Prop where
 len:v.length=p
 lt:∀ x∈v,x<n
theorem Vn.gv {n p:Nat} {v:List Nat} (h:Vn n p v) {i:Nat} (hi:i<p):gv v i<n:=h.lt _ (j23 (by rw[h.len]; exact hi))
theorem Vn.set {n p:Nat} {v:List Nat} (h:Vn n p v) {i x:Nat} (hx:x<n):Vn n p (v.set i x):=⟨by rw[List.length_set]; exact h.len,fun y hy=>by
 rcases List.mem_or_eq_of_mem_set hy with h' | h'
 ·exact h.lt y h'
 ·rw[h']; exact hx⟩
noncomputable def leV (f:Nat->Nat->Nat) (p:Nat) (u v:List Nat):Prop:=∀ i,i<p->f (gv u i) (gv v i)=gv v i
noncomputable abbrev ChS:=Nat × (List Nat->Nat)
noncomputable def doS (f:Nat->Nat->Nat) (v:List Nat) (s:ChS):List Nat:=v.set s.1 (f (gv v s.1) (s.2 v))
structure OkS (n p:Nat) (f:Nat->Nat->Nat) (s:ChS):Prop where
 pl:s.1<p
 lt:∀ v,Vn n p v->s.2 v<n
 mono:∀ u v,Vn n p u->Vn n p v->leV f p u v->f (s.2 u) (s.2 v)=s.2 v
noncomputable def ClS (f:Nat->Nat->Nat) (l:List ChS) (v:List Nat):Prop:=∀ s∈l,f (s.2 v) (gv v s.1)=gv v s.1
namespace Lad
variable {n:Nat} {f:Nat->Nat->Nat} (L:Lad n f) {p:Nat}
include L
theorem leV_refl {v:List Nat} (h:Vn n p v):leV f p v v:=fun i hi=>L.idem _ (h.gv hi)
theorem leV_trans {u v w:List Nat} (hu:Vn n p u) (hv:Vn n p v) (hw:Vn n p w) (a:leV f p u v) (b:leV f p v w):leV f p u w:=fun i hi=>L.le_trans (hu.gv hi) (hv.gv hi) (hw.gv hi) (a i hi) (b i hi)
theorem leV_anti {u v:List Nat} (hu:Vn n p u) (hv:Vn n p v) (a:leV f p u v) (b:leV f p v u):u=v:=
 z1t (hu.len.trans hv.len.symm) fun i hi=>by
  rw[hu.len]at hi
  exact L.le_anti (hu.gv hi) (hv.gv hi) (a i hi) (b i hi)
theorem doS_V {v:List Nat} {s:ChS} (hs:OkS n p f s) (h:Vn n p v):Vn n p (doS f v s):=h.set (L.cl _ _ (h.gv hs.pl) (hs.lt v h))
theorem doS_gv {v:List Nat} {s:ChS} (hs:OkS n p f s) (h:Vn n p v) (i:Nat):gv (doS f v s) i=if i=s.1 then f (gv v s.1) (s.2 v)else gv v i:=j16 (by rw[h.len]; exact hs.pl) _ _
theorem doS_up {v:List Nat} {s:ChS} (hs:OkS n p f s) (h:Vn n p v):leV f p v (doS f v s):=fun i hi=>by
 rw[L.doS_gv hs h]
 by_cases e:i=s.1
 ·subst e; rw[if_pos rfl]; exact L.le_l (h.gv hi) (hs.lt v h)
 ·rw[if_neg e]; exact L.idem _ (h.gv hi)
theorem doS_mono {u v:List Nat} {s:ChS} (hs:OkS n p f s) (hu:Vn n p u) (hv:Vn n p v) (a:leV f p u v):leV f p (doS f u s) (doS f v s):=fun i hi=>by
 rw[L.doS_gv hs hu,L.doS_gv hs hv]
 by_cases e:i=s.1
 ·subst e
  rw[if_pos rfl,if_pos rfl]
  have h1:=hu.gv hs.pl
  have h2:=hs.lt u hu
  have h3:=hv.gv hs.pl
  have h4:=hs.lt v hv
  exact L.lub h1 h2 (L.cl _ _ h3 h4) (L.le_trans h1 h3 (L.cl _ _ h3 h4) (a _ hs.pl) (L.le_l h3 h4)) (L.le_trans h2 h4 (L.cl _ _ h3 h4) (hs.mono u v hu hv a) (L.le_r h3 h4))
 ·rw[if_neg e,if_neg e]; exact a i hi
theorem doS_fix {v:List Nat} {s:ChS} (hs:OkS n p f s) (h:Vn n p v):doS f v s=v ↔ f (s.2 v) (gv v s.1)=gv v s.1:=by
 constructor
 ·intro e
  have:=congrArg (fun u=>gv u s.1) e
  rw[L.doS_gv hs h,if_pos rfl]at this
  rw[L.comm _ _ (hs.lt v h) (h.gv hs.pl)]
  exact this
 ·intro e
  refine z1t (by unfold doS; rw[List.length_set]) fun i hi=>?_
  rw[L.doS_gv hs h]
  by_cases e':i=s.1
  ·subst e'; rw[if_pos rfl,L.comm _ _ (h.gv hs.pl) (hs.lt v h)]; exact e
  ·rw[if_neg e']
theorem foldS_V:∀ {l:List ChS} {v:List Nat},(∀ s∈l,OkS n p f s)->Vn n p v->Vn n p (l.foldl (doS f) v)
 | [],v,_,h=>h
 | s::l,v,hs,h=>foldS_V (l:=l) (fun t m=>hs t (List.mem_cons_of_mem _ m)) (L.doS_V (hs s List.mem_cons_self) h)
theorem foldS_up:∀ {l:List ChS} {v:List Nat},(∀ s∈l,OkS n p f s)->Vn n p v->leV f p v (l.foldl (doS f) v)
 | [],v,_,h=>L.leV_refl h
 | s::l,v,hs,h=>by
  have h1:=L.doS_V (hs s List.mem_cons_self) h
  have hl:∀ t∈l,OkS n p f t:=fun t m=>hs t (List.mem_cons_of_mem _ m)
  exact L.leV_trans h h1 (L.foldS_V (l:=l) hl h1) (L.doS_up (hs s List.mem_cons_self) h) (foldS_up (l:=l) hl h1)
theorem foldS_below {a:List Nat} (ha:Vn n p a):∀ {l:List ChS} {v:List Nat},(∀ s∈l,OkS n p f s)->Vn n p v->ClS f l a->leV f p v a->leV f p (l.foldl (doS f) v) a
 | [],v,_,h,_,e=>e
 | s::l,v,hs,h,c,e=>by
  have s0:=hs s List.mem_cons_self
  have h1:=L.doS_V s0 h
  have hl:∀ t∈l,OkS n p f t:=fun t m=>hs t (List.mem_cons_of_mem _ m)
  refine foldS_below ha (l:=l) hl h1 (fun t m=>c t (List.mem_cons_of_mem _ m)) ?_
  have:=L.doS_mono s0 h ha e
  rw[(L.doS_fix s0 ha).mpr (c s List.mem_cons_self)]at this
  exact this
theorem foldS_fix:∀ {l:List ChS} {v:List Nat},(∀ s∈l,OkS n p f s)->Vn n p v->(l.foldl (doS f) v=v ↔ ClS f l v)
 | [],v,_,h=>⟨fun _ _ m=>(List.not_mem_nil m).elim,fun _=>rfl⟩
 | s::l,v,hs,h=>by
  have s0:=hs s List.mem_cons_self
  have h1:=L.doS_V s0 h
  have hl:∀ t∈l,OkS n p f t:=fun t m=>hs t (List.mem_cons_of_mem _ m)
  constructor
  ·intro e
   have e0:l.foldl (doS f) (doS f v s)=v:=e
   have up:=L.foldS_up hl h1
   rw[e0]at up
   have e1:doS f v s=v:=L.leV_anti h1 h up (L.doS_up s0 h)
   rw[e1]at e0
   have c:=(foldS_fix (l:=l) hl h).mp e0
   intro t m
   rcases List.mem_cons.mp m with rfl | m
   ·exact(L.doS_fix s0 h).mp e1
   ·exact c t m
  ·intro c
   show l.foldl (doS f) (doS f v s)=v
   rw[(L.doS_fix s0 h).mpr (c s List.mem_cons_self)]
   exact(foldS_fix (l:=l) hl h).mpr fun t m=>c t (List.mem_cons_of_mem _ m)
noncomputable def cnt (n:Nat) (f:Nat->Nat->Nat) (x:Nat):Nat:=((List.range n).filter fun y=>decide (f x y=y)).length
noncomputable def mu (n:Nat) (f:Nat->Nat->Nat) (v:List Nat):Nat:=(v.map (cnt n f)).sum
omit L in
theorem j17 (x:Nat):cnt n f x<=n:=by
 have:=List.length_filter_le (fun y=>decide (f x y=y)) (List.range n)
 rw[List.length_range]at this
 exact this
omit L in
theorem mu_le {v:List Nat} (h:Vn n p v):mu n f v<=p*n:=by
 have key:∀ l:List Nat,(l.map (cnt n f)).sum<=l.length*n:=by
  intro l
  induction l with
  | nil=>simp
  | cons x l ih=>
   have:=j17 (n:=n) (f:=f) x
   simp only[List.map_cons,List.sum_cons,List.length_cons,Nat.succ_mul]
   omega
 have:=key v
 rw[h.len]at this
 exact this
omit L in
theorem x9h {q r:Nat->Bool} {a:Nat}:∀ {l:List Nat},(∀ x∈l,r x=true->q x=true)->a∈l->q a=true->r a=false->(l.filter r).length<(l.filter q).length
 | y::l,h,ha,hq,hr=>by
  have hl:∀ x∈l,r x=true->q x=true:=fun x m=>h x (List.mem_cons_of_mem _ m)
  have le:∀ l:List Nat,(∀ x∈l,r x=true->q x=true)->(l.filter r).length<=(l.filter q).length:=by
   intro l
   induction l with
   | nil=>intro _; simp
   | cons z l ih=>
    intro h
    have i:=ih fun x m=>h x (List.mem_cons_of_mem _ m)
    by_cases hz:r z=true
    ·rw[List.filter_cons_of_pos hz,List.filter_cons_of_pos (h z List.mem_cons_self hz)]
     simp only[List.length_cons]; omega
    ·rw[List.filter_cons_of_neg hz]
     by_cases hz':q z=true
     ·rw[List.filter_cons_of_pos hz']; simp only[List.length_cons]; omega
     ·rw[List.filter_cons_of_neg hz']; exact i
  by_cases e:y=a
  ·subst e
   rw[List.filter_cons_of_neg (by rw[hr]; simp),List.filter_cons_of_pos hq]
   have:=le l hl
   simp only[List.length_cons]; omega
  ·have ha':a∈l:=by
    rcases List.mem_cons.mp ha with h' | h'
    ·exact absurd h'.symm e
    ·exact h'
   have i:=x9h (l:=l) hl ha' hq hr
   by_cases hz:r y=true
   ·rw[List.filter_cons_of_pos hz,List.filter_cons_of_pos (h y List.mem_cons_self hz)]
    simp only[List.length_cons]; omega
   ·rw[List.filter_cons_of_neg hz]
    by_cases hz':q y=true
    ·rw[List.filter_cons_of_pos hz']; simp only[List.length_cons]; omega
    ·rw[List.filter_cons_of_neg hz']; exact i
theorem cnt_lt {x y:Nat} (hx:x<n) (hy:y<n) (h:f x y=y) (ne:x≠y):cnt n f y<cnt n f x:=by
 refine x9h (a:=x) (fun k m hk=>?_) (List.mem_range.mpr hx) (decide_eq_true (L.idem x hx)) (decide_eq_false fun e=>ne (L.le_anti hx hy h e))
 exact decide_eq_true (L.le_trans hx hy (List.mem_range.mp m) h (of_decide_eq_true hk))
theorem mu_lt {u v:List Nat} (hu:Vn n p u) (hv:Vn n p v) (a:leV f p u v) (ne:u≠v):mu n f v<mu n f u:=by
 have key:∀ (u v:List Nat),u.length=v.length->(∀ x∈u,x<n)->(∀ x∈v,x<n)->(∀ i,i<u.length->f (gv u i) (gv v i)=gv v i)->((v.map (cnt n f)).sum<=(u.map (cnt n f)).sum)/\(u≠v->(v.map (cnt n f)).sum<(u.map (cnt n f)).sum):=by
  intro u
  induction u with
  | nil=>
   intro v hl _ _ _
   have:v=[]:=List.length_eq_zero_iff.mp hl.symm
   subst this
   exact⟨Nat.le_refl _,fun h=>absurd rfl h⟩
  | cons x u ih=>
   intro v hl h1 h2 h3
   cases v with
   | nil=>cases hl
   | cons y v=>
    have hl':u.length=v.length:=by simpa using hl
    obtain⟨i1,i2⟩:=ih v hl' (fun z m=>h1 z (List.mem_cons_of_mem _ m)) (fun z m=>h2 z (List.mem_cons_of_mem _ m)) (fun i hi=>h3 (i+1) (by simpa using hi))
    have e0:f x y=y:=h3 0 (by simp)
    have hx:=h1 x List.mem_cons_self
    have hy:=h2 y List.mem_cons_self
    simp only[List.map_cons,List.sum_cons]
    by_cases e:x=y
    ·subst e
     exact⟨by omega,fun h=>by have:=i2 (fun z=>h (by rw[z])); omega⟩
    ·have:=L.cnt_lt hx hy e0 e
     exact⟨by omega,fun _=>by omega⟩
 exact(key u v (hu.len.trans hv.len.symm) hu.lt hv.lt (fun i hi=>a i (by rw[<- hu.len]; exact hi))).2 ne
end Lad
end L3
namespace My
open PySem PySem.Spec PyProof.Rows L2 L3
noncomputable def top (i:Nat):Stmt:=PySem.Challenge.pw_ladderhall_k82_whole_by_depth.main.body.getD i (.Pass ⟨0,0,0,0⟩)
structure Bt (mg:Str->Option Value):Prop where
 m_all:mg "all" = none
 m_bool:mg "bool" = none
 m_enumerate:mg "enumerate" = none
 m_int:mg "int" = none
 m_isinstance:mg "isinstance" = none
 m_len:mg "len" = none
 m_list:mg "list" = none
 m_max:mg "max" = none
 m_range:mg "range" = none
 m_set:mg "set" = none
 m_sorted:mg "sorted" = none
 m_str:mg "str" = none
 m_tuple:mg "tuple" = none
 m_zip:mg "zip" = none
noncomputable section
variable {P:Program} {w:World} {K:PySem.W.Frag} {mg:Str->Option Value} {base:Heap}
noncomputable def y1p:x19:=x0z (sIf (x2g (e2 dLt (x04 1) (x1c 0))) (x3h (x1i 0 (x04 1))) (x7e))
 (x0z (sIf (x2g (e2 dEq (x04 0) (x4x (x0c)))) (x3h (eC (.int 0))) (x7e))
 (x3h (e2 x2w (e2 x95 (x1i 0 (e2 z5s (x04 1) (x1c 0))) (eC (.int 31))) (x04 1))))
noncomputable def x4o:List D->Option (D × Nat):=fnD 2 (y1p)
theorem y5m:FnScope ["_law_script","_law_k"] ["_law_script","_law_k"] (x0b (top 43)):=⟨rfl,rfl,rfl,by decide +kernel,rfl,by decide +kernel,by decide +kernel⟩
theorem y6g (B:Bt mg) (a:At K mg "_law_cell" (top 43) ["_law_script","_law_k"]):Cal P w K mg base 1 "_law_cell" 2 (x4o):=
 Cal.mkQ (k:=0) a y5m fun f cdv A outer s H E hr=>
  x06 (x43 (y5f (x02 (qv 1 rfl (Or.inl rfl))) (x1b B.m_len (qv 0 rfl (Or.inl rfl)))) (x0a (x0n (x0u (qv 0 rfl (Or.inl rfl)) (x02 (qv 1 rfl (Or.inl rfl)))))) (x31))
  (x06 (x43 (x8p hr (x02 (qv 0 rfl (Or.inl rfl))) (x26 (x03))) (x0a (x0n (x09))) (x31))
  (x0a (x0n (x1s (x6b (x0u (qv 0 rfl (Or.inl rfl)) (y35 (x02 (qv 1 rfl (Or.inl rfl))) (x1b B.m_len (qv 0 rfl (Or.inl rfl))))) (x09)) (x02 (qv 1 rfl (Or.inl rfl)))))))
noncomputable def y1m:x19:=x0z (x1m 3 (e2 z5s (e2 x95 (e2 x2w (x0g x4o 2 (x01 (x04 0) (x01 (x04 1) (x0c)))) (e2 x95 (eC (.int 6151)) (e2 x2w (x04 1) (eC (.int 1))))) (eC (.int 40692))) (eC (.int 2147483399))))
 (x3h (e2 z5s (e2 z5s (e2 x2w (e2 x95 (x04 3) (x04 3)) (e2 j05 (x04 3) (eC (.int 31)))) (eC (.int 2147483629))) (x04 2)))
noncomputable def x0d:List D->Option (D × Nat):=fnD 4 (y1m)
theorem y0h:FnScope ["_law_script","_law_k","_law_many","_law_drawn"] ["_law_script","_law_k","_law_many"] (x0b (top 44)):=⟨rfl,rfl,rfl,by decide +kernel,rfl,by decide +kernel,by decide +kernel⟩
theorem y6a (B:Bt mg) (c__law_cell:Cal P w K mg base 1 "_law_cell" 2 x4o) (a:At K mg "_law_pick" (top 44) ["_law_script","_law_k","_law_many"]):Cal P w K mg base 2 "_law_pick" 3 (x0d):=
 Cal.mkQ (k:=1) a y0h fun f cdv A outer s H E hr=>
  x06 (x0k (i:=3) y0h.nd rfl (Or.inl rfl) (y35 (x6b (x1s (x08 c__law_cell hr (by decide) (x00 (x02 (qv 0 rfl (Or.inl rfl))) (x00 (x02 (qv 1 rfl (Or.inl rfl))) (x03) x05) x05)) (x6b (x09) (x1s (x02 (qv 1 rfl (Or.inl rfl))) (x09)))) (x09)) (x09)))
  (x0a (x0n (y35 (y35 (x1s (x6b (x02 (qv 3 rfl (Or.inl rfl))) (x02 (qv 3 rfl (Or.inl rfl)))) (z1i (x02 (qv 3 rfl (Or.inl rfl))) (x09))) (x09)) (x02 (qv 2 rfl (Or.inl rfl))))))
noncomputable def y5b:x19:=x3h (x3f 1 (x14 (x01 (x04 0) (x0c))) (x0l 1) (x2p) (x3f 1 (x14 (x01 (x04 0) (x0c))) (x0l 2) (x2p) (eB j2e (x01 (x04 1) (x01 (x04 2) (x0c)))) false) false)
noncomputable def x12:List D->Option (D × Nat):=fnD 1 (y5b)
theorem y3l:FnScope ["_law_many"] ["_law_many"] (x0b (top 45)):=⟨rfl,rfl,rfl,by decide +kernel,rfl,by decide +kernel,by decide +kernel⟩
noncomputable abbrev x8g:List Str:=["_law_many","_law_one","_law_other"]
theorem y2e:(x8g).Nodup:=by decide +kernel
noncomputable abbrev x8b:List Str:=["_law_many","_law_one"]
theorem y25:(x8b).Nodup:=by decide +kernel
theorem y5a (B:Bt mg) (a:At K mg "_law_chain" (top 45) ["_law_many"]):Cal P w K mg base 1 "_law_chain" 1 (x12):=
 Cal.mkQ (k:=0) a y3l fun f cdv A outer s H E hr=>
  x0a (x0n (x3s (k:=1) (N':=x8b) false rfl ⟨rfl,by decide +kernel,rfl,rfl,rfl⟩ (x0x B.m_range (x00 (x02 (qv 0 rfl (Or.inr (Or.inl rfl)))) (x03) x05)) (fun _ _ _ _=>x0j (i:=1) (show 1<=1 by decide) y25 rfl (Or.inr rfl) (Or.inl rfl)) (fun _ _ _ _=>x2v) (fun _ _ _ _=>x3s (k:=1) (N':=x8g) false rfl ⟨rfl,by decide +kernel,rfl,rfl,rfl⟩ (x0x B.m_range (x00 (x02 (qv 0)) (x03) x05)) (fun _ _ _ _=>x0j (i:=2) (show 2<=2 by decide) y2e rfl (Or.inl rfl) (Or.inr rfl)) (fun _ _ _ _=>x2v) (fun _ _ _ _=>y9y rfl B.m_max PyProof.Rows.boot_max (x00 (x02 (qv 1)) (x00 (x02 (qv 2)) (x03) x05) x05)))))
noncomputable def y2k:x19:=x0z (x1m 2 (x1c 1))
 (x0z (x1m 3 (x4x (x0c)))
 (x0z (x7a (x14 (x01 (e2 x95 (x1c 0) (x04 2)) (x0c))) (x0l 4) (x0z (x1m 5 (x4x (x0c)))
 (x0z (x7a (x14 (x01 (e2 x95 (x1c 0) (x04 2)) (x0c))) (x0l 6) (x0z (x1m 7 (eIx (x1i 0 (e2 j05 (x04 4) (x04 2))) (e2 j05 (x04 6) (x04 2))))
 (x2t (x93 5 (x01 (e2 x2w (e2 x95 (x04 7) (x04 2)) (eIx (x1i 1 (e2 z5s (x04 4) (x04 2))) (e2 z5s (x04 6) (x04 2)))) (x0c))))))
 (x2t (x93 3 (x01 (x04 5) (x0c)))))))
 (x3h (x04 3))))
noncomputable def x1h:List D->Option (D × Nat):=fnD 8 (y2k)
theorem x22:FnScope ["_law_one","_law_other","_law_many","_law_made","_law_here","_law_row","_law_there","_law_first"] ["_law_one","_law_other"] (x0b (top 46)):=⟨rfl,rfl,rfl,by decide +kernel,rfl,by decide +kernel,by decide +kernel⟩
theorem y2m (B:Bt mg) (a:At K mg "_law_couples" (top 46) ["_law_one","_law_other"]):Cal P w K mg base 1 "_law_couples" 2 (x1h):=
 Cal.mkQ (k:=0) a x22 fun f cdv A outer s H E hr=>
  x06 (x0k (i:=2) x22.nd rfl (Or.inl rfl) (x1b B.m_len (qv 1 rfl (Or.inl rfl))))
  (x06 (x0k (i:=3) x22.nd rfl (Or.inl rfl) (x26 (x03)))
  (x06 (x2e PassesOwn.never rfl (x0x B.m_range (x00 (x6b (x1b B.m_len (qv 0 rfl (Or.inl rfl))) (x02 (qv 2 rfl (Or.inl rfl)))) (x03) x1g)) (x0j (i:=4) (show 0<=4 by decide) x22.nd rfl (Or.inl rfl)) (x06 (x0k (i:=5) x22.nd rfl (Or.inl rfl) (x26 (x03)))
  (x06 (x2e PassesOwn.never rfl (x0x B.m_range (x00 (x6b (x1b B.m_len (qv 0 rfl (Or.inl rfl))) (x02 (qv 2 rfl (Or.inl rfl)))) (x03) x1g)) (x0j (i:=6) (show 0<=6 by decide) x22.nd rfl (Or.inl rfl)) (x06 (x0k (i:=7) x22.nd rfl (Or.inl rfl) (x6c (x0u (qv 0 rfl (Or.inl rfl)) (z1i (x02 (qv 4 rfl (Or.inl rfl))) (x02 (qv 2 rfl (Or.inl rfl))))) (z1i (x02 (qv 6 rfl (Or.inl rfl))) (x02 (qv 2 rfl (Or.inl rfl))))))
  (x0a (x2f (x33 (qv 5 rfl (Or.inl rfl)) (x00 (x1s (x6b (x02 (qv 7 rfl (Or.inl rfl))) (x02 (qv 2 rfl (Or.inl rfl)))) (x6c (x0u (qv 1 rfl (Or.inl rfl)) (y35 (x02 (qv 4 rfl (Or.inl rfl))) (x02 (qv 2 rfl (Or.inl rfl))))) (y35 (x02 (qv 6 rfl (Or.inl rfl))) (x02 (qv 2 rfl (Or.inl rfl)))))) (x03) x1g))))))
  (x0a (x2f (x33 (qv 3 rfl (Or.inl rfl)) (x00 (x02 (qv 5 rfl (Or.inl rfl))) (x03) x05)))))))
  (x0a (x0n (x02 (qv 3 rfl (Or.inl rfl)))))))
noncomputable def x7u:x19:=x0z (x1m 1 (x4x (x0c)))
 (x0z (x7a (x14 (x01 (e2 x2w (x04 0) (eC (.int 2))) (x0c))) (x0l 2) (x0z (x1m 3 (x4x (x0c)))
 (x0z (x7a (x14 (x01 (e2 x2w (x04 0) (eC (.int 2))) (x0c))) (x0l 4) (x2t (x93 3 (x01 (eIf (z0w (x2g (e2 dIn (eC (.int 0)) (x4e (x01 (x04 2) (x01 (x04 4) (x0c)))))) (x2g (e2 dEq (x04 2) (x04 4)))) (eB j2e (x01 (x04 2) (x01 (x04 4) (x0c)))) (e2 x2w (x04 0) (eC (.int 1)))) (x0c)))))
 (x2t (x93 1 (x01 (x04 3) (x0c)))))))
 (x3h (x04 1)))
noncomputable def x0y:List D->Option (D × Nat):=fnD 5 (x7u)
theorem x1u:FnScope ["_law_many","_law_made","_law_one","_law_row","_law_other"] ["_law_many"] (x0b (top 47)):=⟨rfl,rfl,rfl,by decide +kernel,rfl,by decide +kernel,by decide +kernel⟩
theorem x7v (B:Bt mg) (a:At K mg "_law_side_by_side" (top 47) ["_law_many"]):Cal P w K mg base 1 "_law_side_by_side" 1 (x0y):=
 Cal.mkQ (k:=0) a x1u fun f cdv A outer s H E hr=>
  x06 (x0k (i:=1) x1u.nd rfl (Or.inl rfl) (x26 (x03)))
  (x06 (x2e PassesOwn.never rfl (x0x B.m_range (x00 (x1s (x02 (qv 0 rfl (Or.inl rfl))) (x09)) (x03) x1g)) (x0j (i:=2) (show 0<=2 by decide) x1u.nd rfl (Or.inl rfl)) (x06 (x0k (i:=3) x1u.nd rfl (Or.inl rfl) (x26 (x03)))
  (x06 (x2e PassesOwn.never rfl (x0x B.m_range (x00 (x1s (x02 (qv 0 rfl (Or.inl rfl))) (x09)) (x03) x1g)) (x0j (i:=4) (show 0<=4 by decide) x1u.nd rfl (Or.inl rfl)) (x0a (x2f (x33 (qv 3 rfl (Or.inl rfl)) (x00 (y44 (y9n (y7r (z5r hr (x09) (x3k (x00 (x02 (qv 2 rfl (Or.inl rfl))) (x00 (x02 (qv 4 rfl (Or.inl rfl))) (x03) x05) x05))) (y7c (x8p hr (x02 (qv 2 rfl (Or.inl rfl))) (x02 (qv 4 rfl (Or.inl rfl))))))) (y9y rfl B.m_max PyProof.Rows.boot_max (x00 (x02 (qv 2 rfl (Or.inl rfl))) (x00 (x02 (qv 4 rfl (Or.inl rfl))) (x03) x05) x05)) (x1s (x02 (qv 0 rfl (Or.inl rfl))) (x09))) (x03) y45)))))
  (x0a (x2f (x33 (qv 1 rfl (Or.inl rfl)) (x00 (x02 (qv 3 rfl (Or.inl rfl))) (x03) x05)))))))
  (x0a (x0n (x02 (qv 1 rfl (Or.inl rfl))))))
noncomputable def y1u:x19:=x0z (x1m 2 (x0g x0d 3 (x01 (x04 0) (x01 (x04 1) (x01 (eC (.int 9)) (x0c))))))
 (x0z (sIf (x2g (e2 dLt (x04 2) (eC (.int 3)))) (x3h (x0g x12 1 (x01 (e2 x2w (eC (.int 1)) (x0g x0d 3 (x01 (x04 0) (x01 (e2 x2w (x04 1) (eC (.int 1))) (x01 (eC (.int 5)) (x0c)))))) (x0c)))) (x7e))
 (x0z (sIf (x2g (e2 dLt (x04 2) (eC (.int 5)))) (x3h (x0g x1h 2 (x01 (x0g x12 1 (x01 (eC (.int 2)) (x0c))) (x01 (x0g x12 1 (x01 (eIx (x4x (x01 (eC (.int 2)) (x01 (eC (.int 3)) (x01 (eC (.int 4)) (x0c))))) (x0g x0d 3 (x01 (x04 0) (x01 (e2 x2w (x04 1) (eC (.int 1))) (x01 (eC (.int 3)) (x0c)))))) (x0c))) (x0c))))) (x7e))
 (x0z (sIf (x2g (e2 dLt (x04 2) (eC (.int 7)))) (x3h (x0g x0y 1 (x01 (x0g x0d 3 (x01 (x04 0) (x01 (e2 x2w (x04 1) (eC (.int 1))) (x01 (eC (.int 5)) (x0c))))) (x0c)))) (x7e))
 (x0z (sIf (x2g (e2 dEq (x04 2) (eC (.int 7)))) (x3h (x0g x1h 2 (x01 (x0g x12 1 (x01 (eC (.int 2)) (x0c))) (x01 (x0g x1h 2 (x01 (x0g x12 1 (x01 (eC (.int 2)) (x0c))) (x01 (x0g x12 1 (x01 (eC (.int 2)) (x0c))) (x0c)))) (x0c))))) (x7e))
 (x0z (x1m 3 (x4x (x01 (x4x (x01 (eC (.int 0)) (x01 (eC (.int 1)) (x01 (eC (.int 2)) (x01 (eC (.int 3)) (x01 (eC (.int 4)) (x0c))))))) (x01 (x4x (x01 (eC (.int 1)) (x01 (eC (.int 1)) (x01 (eC (.int 2)) (x01 (eC (.int 4)) (x01 (eC (.int 4)) (x0c))))))) (x01 (x4x (x01 (eC (.int 2)) (x01 (eC (.int 2)) (x01 (eC (.int 2)) (x01 (eC (.int 4)) (x01 (eC (.int 4)) (x0c))))))) (x01 (x4x (x01 (eC (.int 3)) (x01 (eC (.int 4)) (x01 (eC (.int 4)) (x01 (eC (.int 3)) (x01 (eC (.int 4)) (x0c))))))) (x01 (x4x (x01 (eC (.int 4)) (x01 (eC (.int 4)) (x01 (eC (.int 4)) (x01 (eC (.int 4)) (x01 (eC (.int 4)) (x0c))))))) (x0c))))))))
 (x3h (x04 3)))))))
noncomputable def x4k:List D->Option (D × Nat):=fnD 4 (y1u)
theorem x6o:FnScope ["_law_script","_law_at","_law_kind","_law_rows"] ["_law_script","_law_at"] (x0b (top 48)):=⟨rfl,rfl,rfl,by decide +kernel,rfl,by decide +kernel,by decide +kernel⟩
theorem y77 (B:Bt mg) (c__law_pick:Cal P w K mg base 2 "_law_pick" 3 x0d) (c__law_chain:Cal P w K mg base 1 "_law_chain" 1 x12) (c__law_couples:Cal P w K mg base 1 "_law_couples" 2 x1h) (c__law_side_by_side:Cal P w K mg base 1 "_law_side_by_side" 1 x0y) (a:At K mg "_law_base" (top 48) ["_law_script","_law_at"]):Cal P w K mg base 3 "_law_base" 2 (x4k):=
 Cal.mkQ (k:=2) a x6o fun f cdv A outer s H E hr=>
  x06 (x0k (i:=2) x6o.nd rfl (Or.inl rfl) (x08 c__law_pick hr (by decide) (x00 (x02 (qv 0 rfl (Or.inl rfl))) (x00 (x02 (qv 1 rfl (Or.inl rfl))) (x00 (x09) (x03) x07) x05) x05)))
  (x06 (x43 (y5f (x02 (qv 2 rfl (Or.inl rfl))) (x09)) (x0a (x0n (x08 c__law_chain hr (by decide) (x00 (x1s (x09) (x08 c__law_pick hr (by decide) (x00 (x02 (qv 0 rfl (Or.inl rfl))) (x00 (x1s (x02 (qv 1 rfl (Or.inl rfl))) (x09)) (x00 (x09) (x03) x07) x1g) x05))) (x03) x1g)))) (x31))
  (x06 (x43 (y5f (x02 (qv 2 rfl (Or.inl rfl))) (x09)) (x0a (x0n (x08 c__law_couples hr (by decide) (x00 (x08 c__law_chain hr (by decide) (x00 (x09) (x03) x07)) (x00 (x08 c__law_chain hr (by decide) (x00 (x6c (x26 (x00 (x09) (x00 (x09) (x00 (x09) (x03) x07) x07) x07)) (x08 c__law_pick hr (by decide) (x00 (x02 (qv 0 rfl (Or.inl rfl))) (x00 (x1s (x02 (qv 1 rfl (Or.inl rfl))) (x09)) (x00 (x09) (x03) x07) x1g) x05))) (x03) x0t)) (x03) x0s) x0s)))) (x31))
  (x06 (x43 (y5f (x02 (qv 2 rfl (Or.inl rfl))) (x09)) (x0a (x0n (x08 c__law_side_by_side hr (by decide) (x00 (x08 c__law_pick hr (by decide) (x00 (x02 (qv 0 rfl (Or.inl rfl))) (x00 (x1s (x02 (qv 1 rfl (Or.inl rfl))) (x09)) (x00 (x09) (x03) x07) x1g) x05)) (x03) x0s)))) (x31))
  (x06 (x43 (x8p hr (x02 (qv 2 rfl (Or.inl rfl))) (x09)) (x0a (x0n (x08 c__law_couples hr (by decide) (x00 (x08 c__law_chain hr (by decide) (x00 (x09) (x03) x07)) (x00 (x08 c__law_couples hr (by decide) (x00 (x08 c__law_chain hr (by decide) (x00 (x09) (x03) x07)) (x00 (x08 c__law_chain hr (by decide) (x00 (x09) (x03) x07)) (x03) x0s) x0s)) (x03) x0s) x0s)))) (x31))
  (x06 (x0k (i:=3) x6o.nd rfl (Or.inl rfl) (x26 (x00 (x26 (x00 (x09) (x00 (x09) (x00 (x09) (x00 (x09) (x00 (x09) (x03) x07) x07) x07) x07) x07)) (x00 (x26 (x00 (x09) (x00 (x09) (x00 (x09) (x00 (x09) (x00 (x09) (x03) x07) x07) x07) x07) x07)) (x00 (x26 (x00 (x09) (x00 (x09) (x00 (x09) (x00 (x09) (x00 (x09) (x03) x07) x07) x07) x07) x07)) (x00 (x26 (x00 (x09) (x00 (x09) (x00 (x09) (x00 (x09) (x00 (x09) (x03) x07) x07) x07) x07) x07)) (x00 (x26 (x00 (x09) (x00 (x09) (x00 (x09) (x00 (x09) (x00 (x09) (x03) x07) x07) x07) x07) x07)) (x03) y01) y01) y01) y01) y01)))
  (x0a (x0n (x02 (qv 3 rfl (Or.inl rfl))))))))))
noncomputable def x97:x19:=x0z (x1m 2 (x0g x4k 2 (x01 (x04 0) (x01 (x04 1) (x0c)))))
 (x0z (x1m 3 (y0d (x01 (x1c 2) (x0c))))
 (x0z (x1m 4 (x3f 1 (x14 (x01 (x1c 2) (x0c))) (x0l 8) (x2p) (z9l 3 (x01 (x0g x0d 3 (x01 (x04 0) (x01 (e2 x2w (e2 x2w (x04 1) (eC (.int 2))) (x04 8)) (x01 (x1c 3) (x0c))))) (x0c))) false))
 (x0z (x1m 5 (x3f 1 (x5t (x04 2)) (x0l 8) (x2p) (y15 (x4x (x01 (eC (.int 0)) (x0c))) (x1c 2)) true))
 (x0z (x7a (x14 (x01 (x1c 2) (x0c))) (x0l 6) (x7a (x14 (x01 (x1c 2) (x0c))) (x0l 7) (y92 5 (qIx 4 (y9q 6)) (qIx 4 (y9q 7)) (x1i 4 (eIx (x1i 2 (x04 6)) (x04 7))))))
 (x3h (x2m (x01 (x3f 1 (x5t (x04 5)) (x0l 8) (x2p) (x2m (x01 (x04 8) (x0c))) false) (x0c))))))))
noncomputable def x41:List D->Option (D × Nat):=fnD 8 (x97)
theorem x2a:FnScope ["_law_script","_law_at","_law_base_here","_law_left","_law_name","_law_made","_law_one","_law_other"] ["_law_script","_law_at"] (x0b (top 49)):=⟨rfl,rfl,rfl,by decide +kernel,rfl,by decide +kernel,by decide +kernel⟩
noncomputable abbrev x7l:List Str:=["_law_script","_law_at","_law_base_here","_law_left","_law_name","_law_made","_law_one","_law_other","_law_k"]
theorem y23:(x7l).Nodup:=by decide +kernel
noncomputable abbrev x5a:List Str:=["_law_script","_law_at","_law_base_here","_law_left","_law_name","_law_made","_law_one","_law_other","_law_row"]
theorem x6y:(x5a).Nodup:=by decide +kernel
theorem y4q (B:Bt mg) (c__law_base:Cal P w K mg base 3 "_law_base" 2 x4k) (c__law_pick:Cal P w K mg base 2 "_law_pick" 3 x0d) (a:At K mg "_law_ladder" (top 49) ["_law_script","_law_at"]):Cal P w K mg base 4 "_law_ladder" 2 (x41):=
 Cal.mkQ (k:=3) a x2a fun f cdv A outer s H E hr=>
  x06 (x0k (i:=2) x2a.nd rfl (Or.inr rfl) (x08 c__law_base hr (by decide) (x00 (x02 (qv 0 rfl (Or.inr (Or.inl rfl)))) (x00 (x02 (qv 1 rfl (Or.inr (Or.inl rfl)))) (x03) x05) x05)))
  (x06 (x0k (i:=3) x2a.nd rfl (Or.inr rfl) (y7g rfl B.m_list PyProof.Rows.boot_list B.m_range (x00 (x1b B.m_len (qv 2 rfl (Or.inr (Or.inl rfl)))) (x03) x0s)))
  (x06 (y14 (i:=4) (k:=1) (N':=x7l) false x2a.nd rfl (Or.inl rfl) rfl rfl ⟨rfl,by decide +kernel,rfl,rfl,rfl⟩ (x0x B.m_range (x00 (x1b B.m_len (qv 2 rfl (Or.inr (Or.inl rfl)))) (x03) x0s)) (fun _ _ _ _=>x0j (i:=8) (show 8<=8 by decide) y23 rfl (Or.inl rfl) (Or.inr rfl)) (fun _ _ _ _=>x2v) (fun _ _ _ _=>j19 (qv 3) (x00 (x08 c__law_pick hr (by decide) (x00 (x02 (qv 0)) (x00 (x1s (x1s (x02 (qv 1)) (x09)) (x02 (qv 8))) (x00 (x1b B.m_len (qv 3)) (x03) x0s) x1g) x05)) (x03) x0s)))
  (x06 (y14 (i:=5) (k:=1) (N':=x5a) true x2a.nd rfl (Or.inl rfl) rfl rfl ⟨rfl,by decide +kernel,rfl,rfl,rfl⟩ (x3m (x02 (qv 2 rfl (Or.inr (Or.inl rfl))))) (fun _ _ _ _=>x0j (i:=8) (show 8<=8 by decide) x6y rfl (Or.inl rfl) (Or.inr rfl)) (fun _ _ _ _=>x2v) (fun _ _ _ _=>y43 (x26 (x00 (x09) (x03) x07)) (x1b B.m_len (qv 2))))
  (x06 (x2e PassesOwn.never rfl (x0x B.m_range (x00 (x1b B.m_len (qv 2 rfl (Or.inr (Or.inl rfl)))) (x03) x0s)) (x0j (i:=6) (show 0<=6 by decide) x2a.nd rfl (Or.inl rfl)) (x0a (x2e PassesOwn.never rfl (x0x B.m_range (x00 (x1b B.m_len (qv 2 rfl (Or.inr (Or.inl rfl)))) (x03) x0s)) (x0j (i:=7) (show 0<=7 by decide) x2a.nd rfl (Or.inl rfl)) (x0a (z3z (qv 5 rfl (Or.inl rfl)) (z9u (qv 4 rfl (Or.inl rfl)) (y7v (qv 6 rfl (Or.inl rfl)))) (z9u (qv 4 rfl (Or.inl rfl)) (y7v (qv 7 rfl (Or.inl rfl)))) (x0u (qv 4 rfl (Or.inl rfl)) (x6c (x0u (qv 2 rfl (Or.inr (Or.inl rfl))) (x02 (qv 6 rfl (Or.inl rfl)))) (x02 (qv 7 rfl (Or.inl rfl))))))))))
  (x0a (x0n (x27 B.m_tuple PyProof.Rows.boot_tuple (x00 (x3s (k:=1) (N':=x5a) false rfl ⟨rfl,by decide +kernel,rfl,rfl,rfl⟩ (x3m (x02 (qv 5 rfl (Or.inl rfl)))) (fun _ _ _ _=>x0j (i:=8) (show 8<=8 by decide) x6y rfl (Or.inl rfl) (Or.inr rfl)) (fun _ _ _ _=>x2v) (fun _ _ _ _=>x27 B.m_tuple PyProof.Rows.boot_tuple (x00 (x02 (qv 8)) (x03) x05))) (x03) x39))))))))
noncomputable def y32:x19:=x3h (eIx (x3f 1 (x14 (x01 (x1c 0) (x0c))) (x0l 1) (x2g (e2 dEq (x9m (x01 (x1i 0 (x04 1)) (x0c))) (y0d (x01 (x1c 0) (x0c))))) (x04 1) false) (eC (.int 0)))
noncomputable def x1d:List D->Option (D × Nat):=fnD 1 (y32)
theorem y6d:FnScope ["_law_ladder_here"] ["_law_ladder_here"] (x0b (top 50)):=⟨rfl,rfl,rfl,by decide +kernel,rfl,by decide +kernel,by decide +kernel⟩
noncomputable abbrev y1i:List Str:=["_law_ladder_here","_law_worth"]
theorem y5v:(y1i).Nodup:=by decide +kernel
theorem y91 (B:Bt mg) (a:At K mg "_law_low" (top 50) ["_law_ladder_here"]):Cal P w K mg base 1 "_law_low" 1 (x1d):=
 Cal.mkQ (k:=0) a y6d fun f cdv A outer s H E hr=>
  x0a (x0n (x6c (x3s (k:=1) (N':=y1i) false rfl ⟨rfl,by decide +kernel,rfl,rfl,rfl⟩ (x0x B.m_range (x00 (x1b B.m_len (qv 0 rfl (Or.inr (Or.inl rfl)))) (x03) x0s)) (fun _ _ _ _=>x0j (i:=1) (show 1<=1 by decide) y5v rfl (Or.inl rfl) (Or.inr rfl)) (fun _ _ _ _=>y0y (x8p hr (z0v B.m_list PyProof.Rows.boot_list (x00 (x0u (qv 0) (x02 (qv 1))) (x03) x0t)) (y7g rfl B.m_list PyProof.Rows.boot_list B.m_range (x00 (x1b B.m_len (qv 0)) (x03) x0s)))) (fun _ _ _ _=>x02 (qv 1))) (x09)))
noncomputable def y1w:x19:=x0z (x1m 2 (x0g x1d 1 (x01 (x04 0) (x0c))))
 (x0z (x7a (x5t (x04 1)) (x0l 3) (x1m 2 (eIx (x1i 0 (x04 2)) (x04 3))))
 (x3h (x04 2)))
noncomputable def x3r:List D->Option (D × Nat):=fnD 4 (y1w)
theorem x58:FnScope ["_law_ladder_here","_law_worths","_law_here","_law_worth"] ["_law_ladder_here","_law_worths"] (x0b (top 51)):=⟨rfl,rfl,rfl,by decide +kernel,rfl,by decide +kernel,by decide +kernel⟩
theorem y7a (B:Bt mg) (c__law_low:Cal P w K mg base 1 "_law_low" 1 x1d) (a:At K mg "_law_join" (top 51) ["_law_ladder_here","_law_worths"]):Cal P w K mg base 2 "_law_join" 2 (x3r):=
 Cal.mkQ (k:=1) a x58 fun f cdv A outer s H E hr=>
  x06 (x0k (i:=2) x58.nd rfl (Or.inl rfl) (x08 c__law_low hr (by decide) (x00 (x02 (qv 0 rfl (Or.inl rfl))) (x03) x05)))
  (x06 (x2e PassesOwn.never rfl (x3m (x02 (qv 1 rfl (Or.inl rfl)))) (x0j (i:=3) (show 0<=3 by decide) x58.nd rfl (Or.inl rfl)) (x0a (x0k (i:=2) x58.nd rfl (Or.inl rfl) (x6c (x0u (qv 0 rfl (Or.inl rfl)) (x02 (qv 2 rfl (Or.inl rfl)))) (x02 (qv 3 rfl (Or.inl rfl)))))))
  (x0a (x0n (x02 (qv 2 rfl (Or.inl rfl))))))
noncomputable def y0l:x19:=x3h (x3f 1 (x14 (x01 (x1c 0) (x0c))) (x0l 2) (x2g (e2 dEq (eIx (x1i 0 (x04 2)) (x04 1)) (x04 1))) (x04 2) false)
noncomputable def x2r:List D->Option (D × Nat):=fnD 2 (y0l)
theorem y3j:FnScope ["_law_ladder_here","_law_worth"] ["_law_ladder_here","_law_worth"] (x0b (top 52)):=⟨rfl,rfl,rfl,by decide +kernel,rfl,by decide +kernel,by decide +kernel⟩
noncomputable abbrev x85:List Str:=["_law_ladder_here","_law_worth","_law_one"]
theorem y2b:(x85).Nodup:=by decide +kernel
theorem y4s (B:Bt mg) (a:At K mg "_law_under" (top 52) ["_law_ladder_here","_law_worth"]):Cal P w K mg base 1 "_law_under" 2 (x2r):=
 Cal.mkQ (k:=0) a y3j fun f cdv A outer s H E hr=>
  x0a (x0n (x3s (k:=1) (N':=x85) false rfl ⟨rfl,by decide +kernel,rfl,rfl,rfl⟩ (x0x B.m_range (x00 (x1b B.m_len (qv 0 rfl (Or.inr (Or.inl rfl)))) (x03) x0s)) (fun _ _ _ _=>x0j (i:=2) (show 2<=2 by decide) y2b rfl (Or.inl rfl) (Or.inr rfl)) (fun _ _ _ _=>y0y (x8p hr (x6c (x0u (qv 0) (x02 (qv 2))) (x02 (qv 1))) (x02 (qv 1)))) (fun _ _ _ _=>x02 (qv 2))))
noncomputable def y1r:x19:=x0z (x1m 3 (x0g x1d 1 (x01 (x04 2) (x0c))))
 (x0z (x1m 4 (x4x (x0c)))
 (x0z (x7a (x14 (x01 (x1c 2) (x0c))) (x0l 5) (x2t (x93 4 (x01 (eIx (x4x (x01 (x04 3) (x01 (x04 5) (x01 (x0g x0d 3 (x01 (x04 0) (x01 (e2 x2w (x04 1) (x04 5)) (x01 (x1c 2) (x0c))))) (x0c))))) (x0g x0d 3 (x01 (x04 0) (x01 (e2 x2w (e2 x2w (x04 1) (eC (.int 8))) (x04 5)) (x01 (eC (.int 3)) (x0c)))))) (x0c)))))
 (x0z (x1m 6 (x4x (x0c)))
 (x0z (x7a (x14 (x01 (x1c 2) (x0c))) (x0l 5) (x2t (x93 6 (x01 (x0g x3r 2 (x01 (x04 2) (x01 (x3f 1 (x5t (x0g x2r 2 (x01 (x04 2) (x01 (x04 5) (x0c))))) (x0l 7) (x2p) (x1i 4 (x04 7)) false) (x0c)))) (x0c)))))
 (x3h (x2m (x01 (x04 6) (x0c))))))))
noncomputable def x3b:List D->Option (D × Nat):=fnD 7 (y1r)
theorem x3t:FnScope ["_law_script","_law_at","_law_ladder_here","_law_low_here","_law_drawn","_law_worth","_law_made"] ["_law_script","_law_at","_law_ladder_here"] (x0b (top 53)):=⟨rfl,rfl,rfl,by decide +kernel,rfl,by decide +kernel,by decide +kernel⟩
noncomputable abbrev y0f:List Str:=["_law_script","_law_at","_law_ladder_here","_law_low_here","_law_drawn","_law_worth","_law_made","_law_one"]
theorem y42:(y0f).Nodup:=by decide +kernel
theorem y6f (B:Bt mg) (c__law_low:Cal P w K mg base 1 "_law_low" 1 x1d) (c__law_pick:Cal P w K mg base 2 "_law_pick" 3 x0d) (c__law_join:Cal P w K mg base 2 "_law_join" 2 x3r) (c__law_under:Cal P w K mg base 1 "_law_under" 2 x2r) (a:At K mg "_law_rule" (top 53) ["_law_script","_law_at","_law_ladder_here"]):Cal P w K mg base 3 "_law_rule" 3 (x3b):=
 Cal.mkQ (k:=2) a x3t fun f cdv A outer s H E hr=>
  x06 (x0k (i:=3) x3t.nd rfl (Or.inl rfl) (x08 c__law_low hr (by decide) (x00 (x02 (qv 2 rfl (Or.inl rfl))) (x03) x05)))
  (x06 (x0k (i:=4) x3t.nd rfl (Or.inr rfl) (x26 (x03)))
  (x06 (x2e PassesOwn.never rfl (x0x B.m_range (x00 (x1b B.m_len (qv 2 rfl (Or.inl rfl))) (x03) x0s)) (x0j (i:=5) (show 0<=5 by decide) x3t.nd rfl (Or.inl rfl)) (x0a (x2f (x33 (qv 4 rfl (Or.inr (Or.inl rfl))) (x00 (x6c (x26 (x00 (x02 (qv 3 rfl (Or.inl rfl))) (x00 (x02 (qv 5 rfl (Or.inl rfl))) (x00 (x08 c__law_pick hr (by decide) (x00 (x02 (qv 0 rfl (Or.inl rfl))) (x00 (x1s (x02 (qv 1 rfl (Or.inl rfl))) (x02 (qv 5 rfl (Or.inl rfl)))) (x00 (x1b B.m_len (qv 2 rfl (Or.inl rfl))) (x03) x0s) x1g) x05)) (x03) x0s) x05) x05)) (x08 c__law_pick hr (by decide) (x00 (x02 (qv 0 rfl (Or.inl rfl))) (x00 (x1s (x1s (x02 (qv 1 rfl (Or.inl rfl))) (x09)) (x02 (qv 5 rfl (Or.inl rfl)))) (x00 (x09) (x03) x07) x1g) x05))) (x03) x0t)))))
  (x06 (x0k (i:=6) x3t.nd rfl (Or.inl rfl) (x26 (x03)))
  (x06 (x2e PassesOwn.never rfl (x0x B.m_range (x00 (x1b B.m_len (qv 2 rfl (Or.inl rfl))) (x03) x0s)) (x0j (i:=5) (show 0<=5 by decide) x3t.nd rfl (Or.inl rfl)) (x0a (x2f (x33 (qv 6 rfl (Or.inl rfl)) (x00 (x08 c__law_join hr (by decide) (x00 (x02 (qv 2 rfl (Or.inl rfl))) (x00 (x3s (k:=1) (N':=y0f) false rfl ⟨rfl,by decide +kernel,rfl,rfl,rfl⟩ (x3m (x08 c__law_under hr (by decide) (x00 (x02 (qv 2 rfl (Or.inl rfl))) (x00 (x02 (qv 5 rfl (Or.inl rfl))) (x03) x05) x05))) (fun _ _ _ _=>x0j (i:=7) (show 7<=7 by decide) y42 rfl (Or.inl rfl) (Or.inr rfl)) (fun _ _ _ _=>x2v) (fun _ _ _ _=>x0u (qv 4) (x02 (qv 7)))) (x03) x39) x05)) (x03) x0s)))))
  (x0a (x0n (x27 B.m_tuple PyProof.Rows.boot_tuple (x00 (x02 (qv 6 rfl (Or.inl rfl))) (x03) x05))))))))
noncomputable abbrev x6x:x19:=x0z (x1m 6 (e2 x2w (eC (.int 1)) (x0g x0d 3 (x01 (x04 0) (x01 (e2 x2w (e2 x2w (x04 1) (eC (.int 1))) (x04 5)) (x01 (eC (.int 4)) (x0c)))))))
 (x0z (x1m 7 (x4x (x0c)))
 (x0z (x7a (x14 (x01 (x0g x0d 3 (x01 (x04 0) (x01 (e2 x2w (e2 x2w (x04 1) (eC (.int 4))) (x04 5)) (x01 (eC (.int 6)) (x0c))))) (x0c))) (x0l 8) (x0z (x1m 9 (e2 x2w (e2 x2w (e2 x2w (x04 1) (eC (.int 10))) (e2 x95 (eC (.int 120)) (x04 5))) (e2 x95 (eC (.int 23)) (x04 8))))
 (x0z (x1m 10 (x0g x3b 3 (x01 (x04 0) (x01 (e2 x2w (x04 9) (eC (.int 4))) (x01 (x04 2) (x0c))))))
 (x0z (sIf (x2g (e2 dEq (x0g x0d 3 (x01 (x04 0) (x01 (e2 x2w (x04 9) (eC (.int 2))) (x01 (eC (.int 3)) (x0c))))) (eC (.int 0)))) (x1m 10 (x0g x0d 3 (x01 (x04 0) (x01 (e2 x2w (x04 9) (eC (.int 3))) (x01 (x04 3) (x0c)))))) (x7e))
 (x2t (x93 7 (x01 (x4e (x01 (x0g x0d 3 (x01 (x04 0) (x01 (x04 9) (x01 (x04 6) (x0c))))) (x01 (x0g x0d 3 (x01 (x04 0) (x01 (e2 x2w (x04 9) (eC (.int 1))) (x01 (x04 6) (x0c))))) (x01 (x04 10) (x0c))))) (x0c))))))))
 (x2t (x93 4 (x01 (x4e (x01 (x04 6) (x01 (x2m (x01 (x04 7) (x0c))) (x0c)))) (x0c))))))
noncomputable abbrev x4p:x19:=x0z (x1m 9 (e2 x2w (e2 x2w (e2 x2w (x04 1) (eC (.int 10))) (e2 x95 (eC (.int 120)) (x04 5))) (e2 x95 (eC (.int 23)) (x04 8))))
 (x0z (x1m 10 (x0g x3b 3 (x01 (x04 0) (x01 (e2 x2w (x04 9) (eC (.int 4))) (x01 (x04 2) (x0c))))))
 (x0z (sIf (x2g (e2 dEq (x0g x0d 3 (x01 (x04 0) (x01 (e2 x2w (x04 9) (eC (.int 2))) (x01 (eC (.int 3)) (x0c))))) (eC (.int 0)))) (x1m 10 (x0g x0d 3 (x01 (x04 0) (x01 (e2 x2w (x04 9) (eC (.int 3))) (x01 (x04 3) (x0c)))))) (x7e))
 (x2t (x93 7 (x01 (x4e (x01 (x0g x0d 3 (x01 (x04 0) (x01 (x04 9) (x01 (x04 6) (x0c))))) (x01 (x0g x0d 3 (x01 (x04 0) (x01 (e2 x2w (x04 9) (eC (.int 1))) (x01 (x04 6) (x0c))))) (x01 (x04 10) (x0c))))) (x0c))))))
noncomputable def x7n:x19:=x0z (x1m 3 (e2 x2w (eC (.int 1)) (x0g x0d 3 (x01 (x04 0) (x01 (x04 1) (x01 (eC (.int 3)) (x0c)))))))
 (x0z (x1m 4 (x4x (x0c)))
 (x0z (x7a (x14 (x01 (x04 3) (x0c))) (x0l 5) (x0z (x1m 6 (e2 x2w (eC (.int 1)) (x0g x0d 3 (x01 (x04 0) (x01 (e2 x2w (e2 x2w (x04 1) (eC (.int 1))) (x04 5)) (x01 (eC (.int 4)) (x0c)))))))
 (x0z (x1m 7 (x4x (x0c)))
 (x0z (x7a (x14 (x01 (x0g x0d 3 (x01 (x04 0) (x01 (e2 x2w (e2 x2w (x04 1) (eC (.int 4))) (x04 5)) (x01 (eC (.int 6)) (x0c))))) (x0c))) (x0l 8) (x0z (x1m 9 (e2 x2w (e2 x2w (e2 x2w (x04 1) (eC (.int 10))) (e2 x95 (eC (.int 120)) (x04 5))) (e2 x95 (eC (.int 23)) (x04 8))))
 (x0z (x1m 10 (x0g x3b 3 (x01 (x04 0) (x01 (e2 x2w (x04 9) (eC (.int 4))) (x01 (x04 2) (x0c))))))
 (x0z (sIf (x2g (e2 dEq (x0g x0d 3 (x01 (x04 0) (x01 (e2 x2w (x04 9) (eC (.int 2))) (x01 (eC (.int 3)) (x0c))))) (eC (.int 0)))) (x1m 10 (x0g x0d 3 (x01 (x04 0) (x01 (e2 x2w (x04 9) (eC (.int 3))) (x01 (x04 3) (x0c)))))) (x7e))
 (x2t (x93 7 (x01 (x4e (x01 (x0g x0d 3 (x01 (x04 0) (x01 (x04 9) (x01 (x04 6) (x0c))))) (x01 (x0g x0d 3 (x01 (x04 0) (x01 (e2 x2w (x04 9) (eC (.int 1))) (x01 (x04 6) (x0c))))) (x01 (x04 10) (x0c))))) (x0c))))))))
 (x2t (x93 4 (x01 (x4e (x01 (x04 6) (x01 (x2m (x01 (x04 7) (x0c))) (x0c)))) (x0c))))))))
 (x3h (x2m (x01 (x04 4) (x0c))))))
noncomputable def x3p:List D->Option (D × Nat):=fnD 11 (x7n)
theorem x18:FnScope ["_law_script","_law_at","_law_ladder_here","_law_houses","_law_made","_law_j","_law_places","_law_ways","_law_k","_law_base_here","_law_rule_here"] ["_law_script","_law_at","_law_ladder_here"] (x0b (top 56)):=⟨rfl,rfl,rfl,by decide +kernel,rfl,by decide +kernel,by decide +kernel⟩
theorem y2c (B:Bt mg) (c__law_pick:Cal P w K mg base 2 "_law_pick" 3 x0d) (c__law_rule:Cal P w K mg base 3 "_law_rule" 3 x3b) (a:At K mg "_law_program" (top 56) ["_law_script","_law_at","_law_ladder_here"]):Cal P w K mg base 4 "_law_program" 3 (x3p):=
 Cal.mkQ (k:=3) a x18 fun f cdv A outer s H E hr=>
  x06 (x0k (i:=3) x18.nd rfl (Or.inl rfl) (x1s (x09) (x08 c__law_pick hr (by decide) (x00 (x02 (qv 0 rfl (Or.inl rfl))) (x00 (x02 (qv 1 rfl (Or.inl rfl))) (x00 (x09) (x03) x07) x05) x05))))
  (x06 (x0k (i:=4) x18.nd rfl (Or.inl rfl) (x26 (x03)))
  (x06 (x2e PassesOwn.never rfl (x0x B.m_range (x00 (x02 (qv 3 rfl (Or.inl rfl))) (x03) x05)) (x0j (i:=5) (show 0<=5 by decide) x18.nd rfl (Or.inl rfl)) (x06 (x0k (i:=6) x18.nd rfl (Or.inl rfl) (x1s (x09) (x08 c__law_pick hr (by decide) (x00 (x02 (qv 0 rfl (Or.inl rfl))) (x00 (x1s (x1s (x02 (qv 1 rfl (Or.inl rfl))) (x09)) (x02 (qv 5 rfl (Or.inl rfl)))) (x00 (x09) (x03) x07) x1g) x05))))
  (x06 (x0k (i:=7) x18.nd rfl (Or.inl rfl) (x26 (x03)))
  (x06 (x2e PassesOwn.never rfl (x0x B.m_range (x00 (x08 c__law_pick hr (by decide) (x00 (x02 (qv 0 rfl (Or.inl rfl))) (x00 (x1s (x1s (x02 (qv 1 rfl (Or.inl rfl))) (x09)) (x02 (qv 5 rfl (Or.inl rfl)))) (x00 (x09) (x03) x07) x1g) x05)) (x03) x0s)) (x0j (i:=8) (show 0<=8 by decide) x18.nd rfl (Or.inl rfl)) (x06 (x0k (i:=9) x18.nd rfl (Or.inl rfl) (x1s (x1s (x1s (x02 (qv 1 rfl (Or.inl rfl))) (x09)) (x6b (x09) (x02 (qv 5 rfl (Or.inl rfl))))) (x6b (x09) (x02 (qv 8 rfl (Or.inl rfl))))))
  (x06 (x0k (i:=10) x18.nd rfl (Or.inl rfl) (x08 c__law_rule hr (by decide) (x00 (x02 (qv 0 rfl (Or.inl rfl))) (x00 (x1s (x02 (qv 9 rfl (Or.inl rfl))) (x09)) (x00 (x02 (qv 2 rfl (Or.inl rfl))) (x03) x05) x1g) x05)))
  (x06 (x43 (x8p hr (x08 c__law_pick hr (by decide) (x00 (x02 (qv 0 rfl (Or.inl rfl))) (x00 (x1s (x02 (qv 9 rfl (Or.inl rfl))) (x09)) (x00 (x09) (x03) x07) x1g) x05)) (x09)) (x0a (x0k (i:=10) x18.nd rfl (Or.inl rfl) (x08 c__law_pick hr (by decide) (x00 (x02 (qv 0 rfl (Or.inl rfl))) (x00 (x1s (x02 (qv 9 rfl (Or.inl rfl))) (x09)) (x00 (x02 (qv 3 rfl (Or.inl rfl))) (x03) x05) x1g) x05)))) (x31))
  (x0a (x2f (x33 (qv 7 rfl (Or.inl rfl)) (x00 (x3k (x00 (x08 c__law_pick hr (by decide) (x00 (x02 (qv 0 rfl (Or.inl rfl))) (x00 (x02 (qv 9 rfl (Or.inl rfl))) (x00 (x02 (qv 6 rfl (Or.inl rfl))) (x03) x05) x05) x05)) (x00 (x08 c__law_pick hr (by decide) (x00 (x02 (qv 0 rfl (Or.inl rfl))) (x00 (x1s (x02 (qv 9 rfl (Or.inl rfl))) (x09)) (x00 (x02 (qv 6 rfl (Or.inl rfl))) (x03) x05) x1g) x05)) (x00 (x02 (qv 10 rfl (Or.inl rfl))) (x03) x05) x0s) x0s)) (x03) x56))))))))
  (x0a (x2f (x33 (qv 4 rfl (Or.inl rfl)) (x00 (x3k (x00 (x02 (qv 6 rfl (Or.inl rfl))) (x00 (x27 B.m_tuple PyProof.Rows.boot_tuple (x00 (x02 (qv 7 rfl (Or.inl rfl))) (x03) x05)) (x03) x0s) x05)) (x03) x56))))))))
  (x0a (x0n (x27 B.m_tuple PyProof.Rows.boot_tuple (x00 (x02 (qv 4 rfl (Or.inl rfl))) (x03) x05))))))
noncomputable def y8m:x19:=x3h (x2m (x01 (y15 (x4x (x01 (x04 1) (x0c))) (x1c 0)) (x0c)))
noncomputable def x4z:List D->Option (D × Nat):=fnD 2 (y8m)
theorem z05:FnScope ["ladder","worth"] ["ladder","worth"] (x0b (top 15)):=⟨rfl,rfl,rfl,by decide +kernel,rfl,by decide +kernel,by decide +kernel⟩
theorem z3r (B:Bt mg) (a:At K mg "steady" (top 15) ["ladder","worth"]):Cal P w K mg base 1 "steady" 2 (x4z):=
 Cal.mkQ (k:=0) a z05 fun f cdv A outer s H E hr=>
  x0a (x0n (x27 B.m_tuple PyProof.Rows.boot_tuple (x00 (y43 (x26 (x00 (x02 (qv 1 rfl (Or.inl rfl))) (x03) x05)) (x1b B.m_len (qv 0 rfl (Or.inl rfl)))) (x03) x1g)))
noncomputable def x7j:x19:=x3h (z7a (x01 (x04 0) (x0c)))
noncomputable def x3o:List D->Option (D × Nat):=fnD 1 (x7j)
theorem y19:FnScope ["many"] ["many"] (x0b (top 10)):=⟨rfl,rfl,rfl,by decide +kernel,rfl,by decide +kernel,by decide +kernel⟩
theorem y27 (B:Bt mg) (a:At K mg "row_of_least" (top 10) ["many"]):Cal P w K mg base 1 "row_of_least" 1 (x3o):=
 Cal.mkQ (k:=0) a y19 fun f cdv A outer s H E hr=>
  x0a (x0n (z6b rfl B.m_tuple PyProof.Rows.boot_tuple B.m_range (x00 (x02 (qv 0 rfl (Or.inl rfl))) (x03) x05)))
noncomputable def y2w:x19:=x3h (y87 (x04 0) (x01 (x0g x3o 1 (x01 (x1c 0) (x0c))) (x0c)))
noncomputable def x36:List D->Option (D × Nat):=fnD 1 (y2w)
theorem y6i:FnScope ["ladder"] ["ladder"] (x0b (top 11)):=⟨rfl,rfl,rfl,by decide +kernel,rfl,by decide +kernel,by decide +kernel⟩
theorem y8w (B:Bt mg) (c_row_of_least:Cal P w K mg base 1 "row_of_least" 1 x3o) (a:At K mg "least_of" (top 11) ["ladder"]):Cal P w K mg base 2 "least_of" 1 (x36):=
 Cal.mkQ (k:=1) a y6i fun f cdv A outer s H E hr=>
  x0a (x0n (z5g hr (x02 (qv 0 rfl (Or.inl rfl))) (x00 (x08 c_row_of_least hr (by decide) (x00 (x1b B.m_len (qv 0 rfl (Or.inl rfl))) (x03) x0s)) (x03) x0s)))
noncomputable def x8x:x19:=x3h (x2m (x01 (y15 (x4x (x01 (x0g x4z 2 (x01 (x04 0) (x01 (x0g x36 1 (x01 (x04 0) (x0c))) (x0c)))) (x0c))) (x1c 1)) (x0c)))
noncomputable def x3w:List D->Option (D × Nat):=fnD 2 (x8x)
theorem y2a:FnScope ["ladder","program"] ["ladder","program"] (x0b (top 37)):=⟨rfl,rfl,rfl,by decide +kernel,rfl,by decide +kernel,by decide +kernel⟩
theorem y41 (B:Bt mg) (c_steady:Cal P w K mg base 1 "steady" 2 x4z) (c_least_of:Cal P w K mg base 2 "least_of" 1 x36) (a:At K mg "least_rules" (top 37) ["ladder","program"]):Cal P w K mg base 3 "least_rules" 2 (x3w):=
 Cal.mkQ (k:=2) a y2a fun f cdv A outer s H E hr=>
  x0a (x0n (x27 B.m_tuple PyProof.Rows.boot_tuple (x00 (y43 (x26 (x00 (x08 c_steady hr (by decide) (x00 (x02 (qv 0 rfl (Or.inl rfl))) (x00 (x08 c_least_of hr (by decide) (x00 (x02 (qv 0 rfl (Or.inl rfl))) (x03) x05)) (x03) x0s) x05)) (x03) x0s)) (x1b B.m_len (qv 1 rfl (Or.inl rfl)))) (x03) x1g)))
noncomputable def y2o:x19:=x3h (z6s (z2i .int (x04 0)) (j46 (z2i .bool (x04 0))))
noncomputable def x1r:List D->Option (D × Nat):=fnD 1 (y2o)
theorem y7b:FnScope ["thing"] ["thing"] (x0b (top 6)):=⟨rfl,rfl,rfl,by decide +kernel,rfl,by decide +kernel,by decide +kernel⟩
theorem y8z (B:Bt mg) (a:At K mg "is_whole" (top 6) ["thing"]):Cal P w K mg base 1 "is_whole" 1 (x1r):=
 Cal.mkQ (k:=0) a y7b fun f cdv A outer s H E hr=>
  x0a (x0n (z0i (y4w .int B.m_isinstance B.m_int PyProof.Rows.boot_int (x02 (qv 0 rfl (Or.inl rfl)))) (z2b (j32 (y4w .bool B.m_isinstance B.m_bool PyProof.Rows.boot_bool (x02 (qv 0 rfl (Or.inl rfl))))))))
noncomputable def x7q:x19:=x3h (z6s (x0g x1r 1 (x01 (x04 0) (x0c))) (eCh dLe dLt (eC (.int 0)) (x04 0) (x04 1)))
noncomputable def x16:List D->Option (D × Nat):=fnD 2 (x7q)
theorem y22:FnScope ["thing","many"] ["thing","many"] (x0b (top 7)):=⟨rfl,rfl,rfl,by decide +kernel,rfl,by decide +kernel,by decide +kernel⟩
theorem y2j (B:Bt mg) (c_is_whole:Cal P w K mg base 1 "is_whole" 1 x1r) (a:At K mg "is_number_of" (top 7) ["thing","many"]):Cal P w K mg base 2 "is_number_of" 2 (x16):=
 Cal.mkQ (k:=1) a y22 fun f cdv A outer s H E hr=>
  x0a (x0n (z0i (x08 c_is_whole hr (by decide) (x00 (x02 (qv 0 rfl (Or.inl rfl))) (x03) x05)) (z2b (y69 (x09) (x02 (qv 0 rfl (Or.inl rfl))) (x02 (qv 1 rfl (Or.inl rfl)))))))
noncomputable def x5j:x19:=x0z (sIf (z0w (x5e (x81 (z2i .tuple (x04 0)))) (z0w (x2g (e2 dNe (x1c 0) (eC (.int 2)))) (x5e (x81 (z2i .str (x1i 0 (eC (.int 0)))))))) (x3h (eC (.bl false))) (x7e))
 (x3h (x0g x16 2 (x01 (x1i 0 (eC (.int 1))) (x01 (z42 (x04 1) (x1i 0 (eC (.int 0))) (eC (.int 0))) (x0c)))))
noncomputable def x2h:List D->Option (D × Nat):=fnD 2 (x5j)
theorem x89:FnScope ["thing","many_by_name"] ["thing","many_by_name"] (x0b (top 8)):=⟨rfl,rfl,rfl,by decide +kernel,rfl,by decide +kernel,by decide +kernel⟩
theorem x9j (B:Bt mg) (c_is_number_of:Cal P w K mg base 2 "is_number_of" 2 x16) (a:At K mg "is_named_number" (top 8) ["thing","many_by_name"]):Cal P w K mg base 3 "is_named_number" 2 (x2h):=
 Cal.mkQ (k:=2) a x89 fun f cdv A outer s H E hr=>
  x06 (x43 (y9n (y7r (x6s (x4t (y4w .tuple B.m_isinstance B.m_tuple PyProof.Rows.boot_tuple (x02 (qv 0 rfl (Or.inl rfl)))))) (y7r (x8v hr (x1b B.m_len (qv 0 rfl (Or.inl rfl))) (x09)) (y7c (x6s (x4t (y4w .str B.m_isinstance B.m_str PyProof.Rows.boot_str (x0u (qv 0 rfl (Or.inl rfl)) (x09))))))))) (x0a (x0n (y66))) (x31))
  (x0a (x0n (x08 c_is_number_of hr (by decide) (x00 (x0u (qv 0 rfl (Or.inl rfl)) (x09)) (x00 (z8v hr (x02 (qv 1 rfl (Or.inl rfl))) (x0u (qv 0 rfl (Or.inl rfl)) (x09)) (x09)) (x03) x0s) x0t))))
noncomputable def y5t:x19:=x3h (x0g x2h 2 (x01 (x04 1) (x01 (y96 "begin" "way" (x8t 0 2) (x8t 0 1)) (x0c))))
noncomputable def x4l:List D->Option (D × Nat):=fnD 2 (y5t)
theorem y9g:FnScope ["chart","thing"] ["chart","thing"] (x0b (top 26)):=⟨rfl,rfl,rfl,by decide +kernel,rfl,by decide +kernel,by decide +kernel⟩
theorem z0o (B:Bt mg) (c_is_named_number:Cal P w K mg base 3 "is_named_number" 2 x2h) (a:At K mg "is_step" (top 26) ["chart","thing"]):Cal P w K mg base 4 "is_step" 2 (x4l):=
 Cal.mkQ (k:=3) a y9g fun f cdv A outer s H E hr=>
  x0a (x0n (x08 c_is_named_number hr (by decide) (x00 (x02 (qv 1 rfl (Or.inl rfl))) (x00 (z7s (by decide) (y8n B.m_len (qv 0 rfl (Or.inl rfl))) (y8n B.m_len (qv 0 rfl (Or.inl rfl)))) (x03) z8p) x05)))
noncomputable def x6a:x19:=sIf (x5e (x81 (eB z48 (x01 (x3f 1 (x5t (x04 1)) (x0l 2) (x2p) (x0g x4l 2 (x01 (x04 0) (x01 (x04 2) (x0c)))) false) (x0c))))) (y2v) (x7e)
noncomputable def x32:List D->Option (D × Nat):=fnD 2 (x6a)
theorem x9w:FnScope ["chart","steps"] ["chart","steps"] (x0b (top 27)):=⟨rfl,rfl,rfl,by decide +kernel,rfl,by decide +kernel,by decide +kernel⟩
noncomputable abbrev x5v:List Str:=["chart","steps","step"]
theorem x9g:(x5v).Nodup:=by decide +kernel
theorem y0p (B:Bt mg) (c_is_step:Cal P w K mg base 4 "is_step" 2 x4l) (a:At K mg "refuse_no_step" (top 27) ["chart","steps"]):Cal P w K mg base 5 "refuse_no_step" 2 (x32):=
 Cal.mkQ (k:=4) a x9w fun f cdv A outer s H E hr=>
  x0a (x43 (x6s (x4t (z6a rfl B.m_all (x00 (x3s (k:=1) (N':=x5v) false rfl ⟨rfl,by decide +kernel,rfl,rfl,rfl⟩ (x3m (x02 (qv 1 rfl (Or.inl rfl)))) (fun _ _ _ _=>x0j (i:=2) (show 2<=2 by decide) x9g rfl (Or.inl rfl) (Or.inr rfl)) (fun _ _ _ _=>x2v) (fun _ _ _ _=>x08 c_is_step hr (by decide) (x00 (x02 (qv 0)) (x00 (x02 (qv 2)) (x03) x05) x05))) (x03) x39)))) (x0a (y1a)) (x31))
noncomputable def x5u:x19:=x0z (sIf (x2g (e2 dEq (x1i 2 (eC (.int 0))) (eC (.str "begin")))) (x3h (eIx (x1i 0 (eC (.int 2))) (x1i 2 (eC (.int 1))))) (x7e))
 (x0z (x1m 3 (eIx (x1i 0 (eC (.int 1))) (x1i 2 (eC (.int 1)))))
 (x3h (x4e (x01 (x1i 3 (eC (.int 1))) (x01 (eIx (x1i 3 (eC (.int 2))) (x1i 1 (x1i 3 (eC (.int 0))))) (x0c))))))
noncomputable def x2i:List D->Option (D × Nat):=fnD 4 (x5u)
theorem x50:FnScope ["chart","worths","step","way"] ["chart","worths","step"] (x0b (top 28)):=⟨rfl,rfl,rfl,by decide +kernel,rfl,by decide +kernel,by decide +kernel⟩
theorem x9s (B:Bt mg) (a:At K mg "place_and_worth" (top 28) ["chart","worths","step"]):Cal P w K mg base 1 "place_and_worth" 3 (x2i):=
 Cal.mkQ (k:=0) a x50 fun f cdv A outer s H E hr=>
  x06 (x43 (x8p hr (x0u (qv 2 rfl (Or.inl rfl)) (x09)) (z0p)) (x0a (x0n (x6c (x0u (qv 0 rfl (Or.inl rfl)) (x09)) (x0u (qv 2 rfl (Or.inl rfl)) (x09))))) (x31))
  (x06 (x0k (i:=3) x50.nd rfl (Or.inl rfl) (x6c (x0u (qv 0 rfl (Or.inl rfl)) (x09)) (x0u (qv 2 rfl (Or.inl rfl)) (x09))))
  (x0a (x0n (x3k (x00 (x0u (qv 3 rfl (Or.inl rfl)) (x09)) (x00 (x6c (x0u (qv 3 rfl (Or.inl rfl)) (x09)) (x0u (qv 1 rfl (Or.inl rfl)) (x0u (qv 3 rfl (Or.inl rfl)) (x09)))) (x03) x0t) x0t)))))
noncomputable def x6w:x19:=x0z (x1m 4 (x0g x2i 3 (x01 (x04 1) (x01 (x04 2) (x01 (x04 3) (x0c))))))
 (x0z (x1m 5 (x1i 4 (eC (.int 0))))
 (x0z (x1m 6 (eIx (x1i 0 (x1i 2 (x04 5))) (x1i 4 (eC (.int 1)))))
 (x3h (j3j (j3j (eSl (x04 2) (z3y) (z06 (x04 5))) (x4e (x01 (x04 6) (x0c)))) (eSl (x04 2) (z06 (e2 x2w (x04 5) (eC (.int 1)))) (z3y))))))
noncomputable def x20:List D->Option (D × Nat):=fnD 7 (x6w)
theorem x3q:FnScope ["ladder","chart","worths","step","coming","place","joined"] ["ladder","chart","worths","step"] (x0b (top 29)):=⟨rfl,rfl,rfl,by decide +kernel,rfl,by decide +kernel,by decide +kernel⟩
theorem y1s (B:Bt mg) (c_place_and_worth:Cal P w K mg base 1 "place_and_worth" 3 x2i) (a:At K mg "worths_behind" (top 29) ["ladder","chart","worths","step"]):Cal P w K mg base 2 "worths_behind" 4 (x20):=
 Cal.mkQ (k:=1) a x3q fun f cdv A outer s H E hr=>
  x06 (x0k (i:=4) x3q.nd rfl (Or.inl rfl) (x08 c_place_and_worth hr (by decide) (x00 (x02 (qv 1 rfl (Or.inl rfl))) (x00 (x02 (qv 2 rfl (Or.inl rfl))) (x00 (x02 (qv 3 rfl (Or.inl rfl))) (x03) x05) x05) x05)))
  (x06 (x0k (i:=5) x3q.nd rfl (Or.inl rfl) (x0u (qv 4 rfl (Or.inl rfl)) (x09)))
  (x06 (x0k (i:=6) x3q.nd rfl (Or.inl rfl) (x6c (x0u (qv 0 rfl (Or.inl rfl)) (x0u (qv 2 rfl (Or.inl rfl)) (x02 (qv 5 rfl (Or.inl rfl))))) (x0u (qv 4 rfl (Or.inl rfl)) (x09))))
  (x0a (x0n (z5n (z5n (j28 (x02 (qv 2 rfl (Or.inl rfl))) (y81) (y7i (x02 (qv 5 rfl (Or.inl rfl))))) (x3k (x00 (x02 (qv 6 rfl (Or.inl rfl))) (x03) x05))) (j28 (x02 (qv 2 rfl (Or.inl rfl))) (y7i (x1s (x02 (qv 5 rfl (Or.inl rfl))) (x09))) (y81)))))))
noncomputable abbrev y3q:x19:=x0z (x1m 5 (x04 3))
 (x7a (x5t (x04 2)) (x0l 6) (x0z (x1m 7 (x0g x20 4 (x01 (x04 0) (x01 (x04 1) (x01 (x04 3) (x01 (x04 6) (x0c)))))))
 (x0z (sIf (x2g (e2 dNe (x04 7) (x04 3))) (x2t (x93 4 (x01 (x04 6) (x0c)))) (x7e))
 (x1m 3 (x04 7)))))
noncomputable abbrev y0w:x19:=x0z (x1m 7 (x0g x20 4 (x01 (x04 0) (x01 (x04 1) (x01 (x04 3) (x01 (x04 6) (x0c)))))))
 (x0z (sIf (x2g (e2 dNe (x04 7) (x04 3))) (x2t (x93 4 (x01 (x04 6) (x0c)))) (x7e))
 (x1m 3 (x04 7)))
noncomputable def z03:x19:=x0z (x1m 4 (x4x (x0c)))
 (x0z (x1m 5 (eC .non))
 (x0z (x9e (x2g (e2 dNe (x04 3) (x04 5))) (x0z (x1m 5 (x04 3))
 (x7a (x5t (x04 2)) (x0l 6) (x0z (x1m 7 (x0g x20 4 (x01 (x04 0) (x01 (x04 1) (x01 (x04 3) (x01 (x04 6) (x0c)))))))
 (x0z (sIf (x2g (e2 dNe (x04 7) (x04 3))) (x2t (x93 4 (x01 (x04 6) (x0c)))) (x7e))
 (x1m 3 (x04 7)))))))
 (x3h (x4e (x01 (x04 3) (x01 (x04 4) (x0c)))))))
noncomputable def y18:List D->Option (D × Nat):=fnD 8 (z03)
theorem x62:FnScope ["ladder","chart","order","worths","raising","ahead","step","behind"] ["ladder","chart","order","worths"] (x0b (top 30)):=⟨rfl,rfl,rfl,by decide +kernel,rfl,by decide +kernel,by decide +kernel⟩
theorem z99 (B:Bt mg) (c_worths_behind:Cal P w K mg base 2 "worths_behind" 4 x20) (a:At K mg "risen" (top 30) ["ladder","chart","order","worths"]):Cal P w K mg base 3 "risen" 4 (y18):=
 Cal.mkQ (k:=2) a x62 fun f cdv A outer s H E hr=>
  x06 (x0k (i:=4) x62.nd rfl (Or.inl rfl) (x26 (x03)))
  (x06 (x0k (i:=5) x62.nd rfl (Or.inl rfl) (y7o))
  (x06 (x6z PassesOwn.never (x8v hr (x02 (qv 3 rfl (Or.inl rfl))) (x02 (qv 5 rfl (Or.inl rfl)))) (x06 (x0k (i:=5) x62.nd rfl (Or.inl rfl) (x02 (qv 3 rfl (Or.inl rfl))))
  (x0a (x2e PassesOwn.never rfl (x3m (x02 (qv 2 rfl (Or.inl rfl)))) (x0j (i:=6) (show 0<=6 by decide) x62.nd rfl (Or.inl rfl)) (x06 (x0k (i:=7) x62.nd rfl (Or.inl rfl) (x08 c_worths_behind hr (by decide) (x00 (x02 (qv 0 rfl (Or.inl rfl))) (x00 (x02 (qv 1 rfl (Or.inl rfl))) (x00 (x02 (qv 3 rfl (Or.inl rfl))) (x00 (x02 (qv 6 rfl (Or.inl rfl))) (x03) x05) x05) x05) x05)))
  (x06 (x43 (x8v hr (x02 (qv 7 rfl (Or.inl rfl))) (x02 (qv 3 rfl (Or.inl rfl)))) (x0a (x2f (x33 (qv 4 rfl (Or.inl rfl)) (x00 (x02 (qv 6 rfl (Or.inl rfl))) (x03) x05)))) (x31))
  (x0a (x0k (i:=3) x62.nd rfl (Or.inl rfl) (x02 (qv 7 rfl (Or.inl rfl)))))))))))
  (x0a (x0n (x3k (x00 (x02 (qv 3 rfl (Or.inl rfl))) (x00 (x02 (qv 4 rfl (Or.inl rfl))) (x03) x05) x05))))))
noncomputable def y7q:x19:=x3h (x2m (x01 (y15 (x4x (x01 (x0g x36 1 (x01 (x04 0) (x0c))) (x0c))) (x1i 1 (eC (.int 0)))) (x0c)))
noncomputable def x8u:List D->Option (D × Nat):=fnD 2 (y7q)
theorem z0s:FnScope ["ladder","chart"] ["ladder","chart"] (x0b (top 23)):=⟨rfl,rfl,rfl,by decide +kernel,rfl,by decide +kernel,by decide +kernel⟩
theorem z3m (B:Bt mg) (c_least_of:Cal P w K mg base 2 "least_of" 1 x36) (a:At K mg "lowest" (top 23) ["ladder","chart"]):Cal P w K mg base 3 "lowest" 2 (x8u):=
 Cal.mkQ (k:=2) a z0s fun f cdv A outer s H E hr=>
  x0a (x0n (x27 B.m_tuple PyProof.Rows.boot_tuple (x00 (y43 (x26 (x00 (x08 c_least_of hr (by decide) (x00 (x02 (qv 0 rfl (Or.inl rfl))) (x03) x05)) (x03) x0s)) (x0u (qv 1 rfl (Or.inl rfl)) (x09))) (x03) x1g)))
noncomputable def y3g:x19:=x0z (x2t (x0g x32 2 (x01 (x04 1) (x01 (x04 2) (x0c)))))
 (x0z (x1m 3 (x0g y18 4 (x01 (x04 0) (x01 (x04 1) (x01 (x04 2) (x01 (x0g x8u 2 (x01 (x04 0) (x01 (x04 1) (x0c)))) (x0c)))))))
 (x3h (x4e (x01 (x1i 3 (eC (.int 0))) (x01 (eB z4k (x01 (x1i 3 (eC (.int 1))) (x0c))) (x0c))))))
noncomputable def x5w:List D->Option (D × Nat):=fnD 4 (y3g)
theorem y16:FnScope ["ladder","chart","order","ended"] ["ladder","chart","order"] (x0b (top 31)):=⟨rfl,rfl,rfl,by decide +kernel,rfl,by decide +kernel,by decide +kernel⟩
theorem y8x (B:Bt mg) (c_refuse_no_step:Cal P w K mg base 5 "refuse_no_step" 2 x32) (c_risen:Cal P w K mg base 3 "risen" 4 y18) (c_lowest:Cal P w K mg base 3 "lowest" 2 x8u) (a:At K mg "least_by" (top 31) ["ladder","chart","order"]):Cal P w K mg base 6 "least_by" 3 (x5w):=
 Cal.mkQ (k:=5) a y16 fun f cdv A outer s H E hr=>
  x06 (x2f (x08 c_refuse_no_step hr (by decide) (x00 (x02 (qv 1 rfl (Or.inl rfl))) (x00 (x02 (qv 2 rfl (Or.inl rfl))) (x03) x05) x05)))
  (x06 (x0k (i:=3) y16.nd rfl (Or.inl rfl) (x08 c_risen hr (by decide) (x00 (x02 (qv 0 rfl (Or.inl rfl))) (x00 (x02 (qv 1 rfl (Or.inl rfl))) (x00 (x02 (qv 2 rfl (Or.inl rfl))) (x00 (x08 c_lowest hr (by decide) (x00 (x02 (qv 0 rfl (Or.inl rfl))) (x00 (x02 (qv 1 rfl (Or.inl rfl))) (x03) x05) x05)) (x03) x0s) x05) x05) x05)))
  (x0a (x0n (x3k (x00 (x0u (qv 3 rfl (Or.inl rfl)) (x09)) (x00 (z0y B.m_len (x00 (x0u (qv 3 rfl (Or.inl rfl)) (x09)) (x03) x0t)) (x03) x0s) x0t)))))
noncomputable def y1q:x19:=x0z (x1m 1 (x3f 1 (x14 (x01 (eB z4k (x01 (x1i 0 (eC (.int 2))) (x0c))) (x0c))) (x0l 2) (x2p) (x4e (x01 (eC (.str "begin")) (x01 (x04 2) (x0c)))) false))
 (x3h (y2i (x04 1) (x3f 1 (x14 (x01 (eB z4k (x01 (x1i 0 (eC (.int 1))) (x0c))) (x0c))) (x0l 2) (x2p) (x4e (x01 (eC (.str "way")) (x01 (x04 2) (x0c)))) false)))
noncomputable def x4q:List D->Option (D × Nat):=fnD 2 (y1q)
theorem y0a:FnScope ["chart","begins"] ["chart"] (x0b (top 25)):=⟨rfl,rfl,rfl,by decide +kernel,rfl,by decide +kernel,by decide +kernel⟩
noncomputable abbrev x6l:List Str:=["chart","begins","number"]
theorem x9a:(x6l).Nodup:=by decide +kernel
theorem y6v (B:Bt mg) (a:At K mg "all_steps" (top 25) ["chart"]):Cal P w K mg base 1 "all_steps" 1 (x4q):=
 Cal.mkQ (k:=0) a y0a fun f cdv A outer s H E hr=>
  x06 (y14 (i:=1) (k:=1) (N':=x6l) false y0a.nd rfl (Or.inl rfl) rfl rfl ⟨rfl,by decide +kernel,rfl,rfl,rfl⟩ (x0x B.m_range (x00 (z0y B.m_len (x00 (x0u (qv 0 rfl (Or.inl rfl)) (x09)) (x03) x0t)) (x03) x0s)) (fun _ _ _ _=>x0j (i:=2) (show 2<=2 by decide) x9a rfl (Or.inl rfl) (Or.inr rfl)) (fun _ _ _ _=>x2v) (fun _ _ _ _=>x3k (x00 (z0p) (x00 (x02 (qv 2)) (x03) x05) x07)))
  (x0a (x0n (z0x (x02 (qv 1 rfl (Or.inl rfl))) (x3s (k:=1) (N':=x6l) false rfl ⟨rfl,by decide +kernel,rfl,rfl,rfl⟩ (x0x B.m_range (x00 (z0y B.m_len (x00 (x0u (qv 0 rfl (Or.inl rfl)) (x09)) (x03) x0t)) (x03) x0s)) (fun _ _ _ _=>x0j (i:=2) (show 2<=2 by decide) x9a rfl (Or.inl rfl) (Or.inr rfl)) (fun _ _ _ _=>x2v) (fun _ _ _ _=>x3k (x00 (z0p) (x00 (x02 (qv 2)) (x03) x05) x07))))))
noncomputable def z0u:x19:=x3h (eIx (x0g x5w 3 (x01 (x04 0) (x01 (x04 1) (x01 (x0g x4q 1 (x01 (x04 1) (x0c))) (x0c))))) (eC (.int 0)))
noncomputable def x60:List D->Option (D × Nat):=fnD 2 (z0u)
theorem z51:FnScope ["ladder","chart"] ["ladder","chart"] (x0b (top 24)):=⟨rfl,rfl,rfl,by decide +kernel,rfl,by decide +kernel,by decide +kernel⟩
theorem z6p (B:Bt mg) (c_least_by:Cal P w K mg base 6 "least_by" 3 x5w) (c_all_steps:Cal P w K mg base 1 "all_steps" 1 x4q) (a:At K mg "least" (top 24) ["ladder","chart"]):Cal P w K mg base 7 "least" 2 (x60):=
 Cal.mkQ (k:=6) a z51 fun f cdv A outer s H E hr=>
  x0a (x0n (x6c (x08 c_least_by hr (by decide) (x00 (x02 (qv 0 rfl (Or.inl rfl))) (x00 (x02 (qv 1 rfl (Or.inl rfl))) (x00 (x08 c_all_steps hr (by decide) (x00 (x02 (qv 1 rfl (Or.inl rfl))) (x03) x05)) (x03) x0s) x05) x05)) (x09)))
noncomputable def x7p:x19:=x0z (x1m 3 (x3f 3 (x5t (x1i 0 (eC (.int 1)))) (y3d (x10 (x0l 4) (x10 (x0l 5) (x10 (x0l 6) (x5s))))) (x2p) (x4e (x01 (x04 4) (x01 (x04 5) (x01 (eIf (x81 (x0g x1r 1 (x01 (x04 6) (x0c)))) (x1i 1 (x04 6)) (x04 6)) (x0c))))) false))
 (x3h (x4e (x01 (x1i 0 (eC (.int 0))) (x01 (x2m (x01 (x04 3) (x0c))) (x01 (x4e (x01 (x4e (x01 (eC (.int 0)) (x01 (x04 2) (x0c)))) (x0c))) (x0c))))))
noncomputable def x35:List D->Option (D × Nat):=fnD 4 (x7p)
theorem x6n:FnScope ["house","rules","worth","ways"] ["house","rules","worth"] (x0b (top 34)):=⟨rfl,rfl,rfl,by decide +kernel,rfl,by decide +kernel,by decide +kernel⟩
noncomputable abbrev x72:List Str:=["house","rules","worth","ways","start","goal","led"]
theorem x4b:(x72).Nodup:=by decide +kernel
theorem y29 (B:Bt mg) (c_is_whole:Cal P w K mg base 1 "is_whole" 1 x1r) (a:At K mg "called_chart" (top 34) ["house","rules","worth"]):Cal P w K mg base 2 "called_chart" 3 (x35):=
 Cal.mkQ (k:=1) a x6n fun f cdv A outer s H E hr=>
  x06 (y14 (i:=3) (k:=3) (N':=x72) false x6n.nd rfl (Or.inl rfl) rfl rfl ⟨rfl,by decide +kernel,rfl,rfl,rfl⟩ (x3m (x0u (qv 0 rfl (Or.inl rfl)) (x09))) (fun _ _ _ _=>x7x (n:=3) rfl (x1l (x0j (i:=4) (show 4<=4 by decide) x4b rfl (Or.inl rfl) (Or.inr rfl)) (x1l (x0j (i:=5) (show 4<=5 by decide) x4b rfl (Or.inl rfl) (Or.inr rfl)) (x1l (x0j (i:=6) (show 4<=6 by decide) x4b rfl (Or.inl rfl) (Or.inr rfl)) (x5x)))) y3m) (fun _ _ _ _=>x2v) (fun _ _ _ _=>x3k (x00 (x02 (qv 4)) (x00 (x02 (qv 5)) (x00 (y44 (x4t (x08 c_is_whole hr (by decide) (x00 (x02 (qv 6)) (x03) x05))) (x0u (qv 1) (x02 (qv 6))) (x02 (qv 6))) (x03) y45) x05) x05)))
  (x0a (x0n (x3k (x00 (x0u (qv 0 rfl (Or.inl rfl)) (x09)) (x00 (x27 B.m_tuple PyProof.Rows.boot_tuple (x00 (x02 (qv 3 rfl (Or.inl rfl))) (x03) x05)) (x00 (x3k (x00 (x3k (x00 (x09) (x00 (x02 (qv 2 rfl (Or.inl rfl))) (x03) x05) x07)) (x03) x56)) (x03) x56) x0s) x0t))))
noncomputable def y0g:x19:=x3h (x2m (x01 (x3f 1 (x14 (x01 (x1c 0) (x0c))) (x0l 3) (x2p) (eIx (x0g x60 2 (x01 (x04 0) (x01 (x0g x35 3 (x01 (x04 1) (x01 (x04 2) (x01 (x04 3) (x0c))))) (x0c)))) (z9o (eC (.int 1)))) false) (x0c)))
noncomputable def x3u:List D->Option (D × Nat):=fnD 3 (y0g)
theorem y3r:FnScope ["ladder","house","rules"] ["ladder","house","rules"] (x0b (top 35)):=⟨rfl,rfl,rfl,by decide +kernel,rfl,by decide +kernel,by decide +kernel⟩
noncomputable abbrev x9d:List Str:=["ladder","house","rules","worth"]
theorem y2h:(x9d).Nodup:=by decide +kernel
theorem y5s (B:Bt mg) (c_least:Cal P w K mg base 7 "least" 2 x60) (c_called_chart:Cal P w K mg base 2 "called_chart" 3 x35) (a:At K mg "house_rule" (top 35) ["ladder","house","rules"]):Cal P w K mg base 8 "house_rule" 3 (x3u):=
 Cal.mkQ (k:=7) a y3r fun f cdv A outer s H E hr=>
  x0a (x0n (x27 B.m_tuple PyProof.Rows.boot_tuple (x00 (x3s (k:=1) (N':=x9d) false rfl ⟨rfl,by decide +kernel,rfl,rfl,rfl⟩ (x0x B.m_range (x00 (x1b B.m_len (qv 0 rfl (Or.inr (Or.inl rfl)))) (x03) x0s)) (fun _ _ _ _=>x0j (i:=3) (show 3<=3 by decide) y2h rfl (Or.inl rfl) (Or.inr rfl)) (fun _ _ _ _=>x2v) (fun _ _ _ _=>x6c (x08 c_least hr (by decide) (x00 (x02 (qv 0)) (x00 (x08 c_called_chart hr (by decide) (x00 (x02 (qv 1)) (x00 (x02 (qv 2)) (x00 (x02 (qv 3)) (x03) x05) x05) x05)) (x03) x0s) x05)) (j0n (x09)))) (x03) x39)))
noncomputable def x5g:x19:=x3h (x2m (x01 (x3f 1 (x5t (x04 1)) (x0l 3) (x2p) (x0g x3u 3 (x01 (x04 0) (x01 (x04 3) (x01 (x04 2) (x0c))))) false) (x0c)))
noncomputable def x1w:List D->Option (D × Nat):=fnD 3 (x5g)
theorem x9b:FnScope ["ladder","program","rules"] ["ladder","program","rules"] (x0b (top 36)):=⟨rfl,rfl,rfl,by decide +kernel,rfl,by decide +kernel,by decide +kernel⟩
noncomputable abbrev x55:List Str:=["ladder","program","rules","house"]
theorem x7y:(x55).Nodup:=by decide +kernel
theorem x9u (B:Bt mg) (c_house_rule:Cal P w K mg base 8 "house_rule" 3 x3u) (a:At K mg "one_call_deeper" (top 36) ["ladder","program","rules"]):Cal P w K mg base 9 "one_call_deeper" 3 (x1w):=
 Cal.mkQ (k:=8) a x9b fun f cdv A outer s H E hr=>
  x0a (x0n (x27 B.m_tuple PyProof.Rows.boot_tuple (x00 (x3s (k:=1) (N':=x55) false rfl ⟨rfl,by decide +kernel,rfl,rfl,rfl⟩ (x3m (x02 (qv 1 rfl (Or.inl rfl)))) (fun _ _ _ _=>x0j (i:=3) (show 3<=3 by decide) x7y rfl (Or.inl rfl) (Or.inr rfl)) (fun _ _ _ _=>x2v) (fun _ _ _ _=>x08 c_house_rule hr (by decide) (x00 (x02 (qv 0)) (x00 (x02 (qv 3)) (x00 (x02 (qv 2)) (x03) x05) x05) x05))) (x03) x39)))
noncomputable abbrev x2n:x19:=x0z (x1m 4 (x04 3))
 (x0z (x1m 3 (x0g x1w 3 (x01 (x04 0) (x01 (x04 1) (x01 (x04 4) (x0c))))))
 (x1m 5 (e2 z67 (x04 5) (eC (.int 1)))))
noncomputable def x5b:x19:=x0z (x1m 3 (x0g x3w 2 (x01 (x04 0) (x01 (x04 1) (x0c)))))
 (x0z (x1m 4 (eC .non))
 (x0z (x1m 5 (x04 2))
 (x0z (x9e (x5o (x2g (e2 dGe (x04 5) (eC (.int 0)))) (x2g (e2 dNe (x04 3) (x04 4)))) (x0z (x1m 4 (x04 3))
 (x0z (x1m 3 (x0g x1w 3 (x01 (x04 0) (x01 (x04 1) (x01 (x04 4) (x0c))))))
 (x1m 5 (e2 z67 (x04 5) (eC (.int 1)))))))
 (x3h (x04 3)))))
noncomputable def x13:List D->Option (D × Nat):=fnD 6 (x5b)
theorem x1z:FnScope ["ladder","program","deep","rules","ahead","left"] ["ladder","program","deep"] (x0b (top 39)):=⟨rfl,rfl,rfl,by decide +kernel,rfl,by decide +kernel,by decide +kernel⟩
theorem y2l (B:Bt mg) (c_least_rules:Cal P w K mg base 3 "least_rules" 2 x3w) (c_one_call_deeper:Cal P w K mg base 9 "one_call_deeper" 3 x1w) (a:At K mg "summaries_by" (top 39) ["ladder","program","deep"]):Cal P w K mg base 10 "summaries_by" 3 (x13):=
 Cal.mkQ (k:=9) a x1z fun f cdv A outer s H E hr=>
  x06 (x0k (i:=3) x1z.nd rfl (Or.inl rfl) (x08 c_least_rules hr (by decide) (x00 (x02 (qv 0 rfl (Or.inl rfl))) (x00 (x02 (qv 1 rfl (Or.inl rfl))) (x03) x05) x05)))
  (x06 (x0k (i:=4) x1z.nd rfl (Or.inl rfl) (y7o))
  (x06 (x0k (i:=5) x1z.nd rfl (Or.inl rfl) (x02 (qv 2 rfl (Or.inl rfl))))
  (x06 (x6z PassesOwn.never (y9n (y62 (z9v (x02 (qv 5 rfl (Or.inl rfl))) (x09)) (y4a (x8v hr (x02 (qv 3 rfl (Or.inl rfl))) (x02 (qv 4 rfl (Or.inl rfl))))))) (x06 (x0k (i:=4) x1z.nd rfl (Or.inl rfl) (x02 (qv 3 rfl (Or.inl rfl))))
  (x06 (x0k (i:=3) x1z.nd rfl (Or.inl rfl) (x08 c_one_call_deeper hr (by decide) (x00 (x02 (qv 0 rfl (Or.inl rfl))) (x00 (x02 (qv 1 rfl (Or.inl rfl))) (x00 (x02 (qv 4 rfl (Or.inl rfl))) (x03) x05) x05) x05)))
  (x0a (x0k (i:=5) x1z.nd rfl (Or.inl rfl) (z5m (x02 (qv 5 rfl (Or.inl rfl))) (x09)))))))
  (x0a (x0n (x02 (qv 3 rfl (Or.inl rfl))))))))
noncomputable def y1g:x19:=x3h (x0g x13 3 (x01 (x04 0) (x01 (x04 1) (x01 (e2 x95 (e2 x95 (x1c 1) (x1c 0)) (x1c 0)) (x0c)))))
noncomputable def x4r:List D->Option (D × Nat):=fnD 2 (y1g)
theorem y59:FnScope ["ladder","program"] ["ladder","program"] (x0b (top 38)):=⟨rfl,rfl,rfl,by decide +kernel,rfl,by decide +kernel,by decide +kernel⟩
theorem y63 (B:Bt mg) (c_summaries_by:Cal P w K mg base 10 "summaries_by" 3 x13) (a:At K mg "summaries" (top 38) ["ladder","program"]):Cal P w K mg base 11 "summaries" 2 (x4r):=
 Cal.mkQ (k:=10) a y59 fun f cdv A outer s H E hr=>
  x0a (x0n (x08 c_summaries_by hr (by decide) (x00 (x02 (qv 0 rfl (Or.inl rfl))) (x00 (x02 (qv 1 rfl (Or.inl rfl))) (x00 (x6b (x6b (x1b B.m_len (qv 1 rfl (Or.inl rfl))) (x1b B.m_len (qv 0 rfl (Or.inl rfl)))) (x1b B.m_len (qv 0 rfl (Or.inl rfl)))) (x03) x1g) x05) x05)))
noncomputable abbrev x4v:x19:=x2t (x93 3 (x01 (x4e (x01 (x04 4) (x01 (x04 5) (x01 (eIf (x81 (z2i .int (x04 6))) (x1i 1 (x04 6)) (x04 6)) (x0c))))) (x0c)))
noncomputable def x57:x19:=x0z (x1m 3 (x4x (x0c)))
 (x0z (x7a (x5t (x1i 0 (eC (.int 1)))) (y3d (x10 (x0l 4) (x10 (x0l 5) (x10 (x0l 6) (x5s))))) (x2t (x93 3 (x01 (x4e (x01 (x04 4) (x01 (x04 5) (x01 (eIf (x81 (z2i .int (x04 6))) (x1i 1 (x04 6)) (x04 6)) (x0c))))) (x0c)))))
 (x3h (x4e (x01 (x1i 0 (eC (.int 0))) (x01 (x2m (x01 (x04 3) (x0c))) (x01 (x4e (x01 (x4e (x01 (eC (.int 0)) (x01 (x04 2) (x0c)))) (x0c))) (x0c)))))))
noncomputable def x1j:List D->Option (D × Nat):=fnD 7 (x57)
theorem x21:FnScope ["_law_house","_law_rules","_law_worth","_law_ways","_law_start","_law_goal","_law_rule_here"] ["_law_house","_law_rules","_law_worth"] (x0b (top 60)):=⟨rfl,rfl,rfl,by decide +kernel,rfl,by decide +kernel,by decide +kernel⟩
theorem x8s (B:Bt mg) (a:At K mg "_law_house_chart" (top 60) ["_law_house","_law_rules","_law_worth"]):Cal P w K mg base 1 "_law_house_chart" 3 (x1j):=
 Cal.mkQ (k:=0) a x21 fun f cdv A outer s H E hr=>
  x06 (x0k (i:=3) x21.nd rfl (Or.inl rfl) (x26 (x03)))
  (x06 (x2e PassesOwn.never rfl (x3m (x0u (qv 0 rfl (Or.inl rfl)) (x09))) (x7x (n:=3) rfl (x1l (x0j (i:=4) (show 0<=4 by decide) x21.nd rfl (Or.inl rfl)) (x1l (x0j (i:=5) (show 0<=5 by decide) x21.nd rfl (Or.inl rfl)) (x1l (x0j (i:=6) (show 0<=6 by decide) x21.nd rfl (Or.inl rfl)) (x5x)))) y3m) (x0a (x2f (x33 (qv 3 rfl (Or.inl rfl)) (x00 (x3k (x00 (x02 (qv 4 rfl (Or.inl rfl))) (x00 (x02 (qv 5 rfl (Or.inl rfl))) (x00 (y44 (x4t (y4w .int B.m_isinstance B.m_int PyProof.Rows.boot_int (x02 (qv 6 rfl (Or.inl rfl))))) (x0u (qv 1 rfl (Or.inl rfl)) (x02 (qv 6 rfl (Or.inl rfl)))) (x02 (qv 6 rfl (Or.inl rfl)))) (x03) y45) x05) x05)) (x03) x56)))))
  (x0a (x0n (x3k (x00 (x0u (qv 0 rfl (Or.inl rfl)) (x09)) (x00 (x27 B.m_tuple PyProof.Rows.boot_tuple (x00 (x02 (qv 3 rfl (Or.inl rfl))) (x03) x05)) (x00 (x3k (x00 (x3k (x00 (x09) (x00 (x02 (qv 2 rfl (Or.inl rfl))) (x03) x05) x07)) (x03) x56)) (x03) x56) x0s) x0t)))))
noncomputable abbrev x7o:x19:=y6q 2 (y9q 3) (eIx (x1i 0 (x1i 2 (x04 3))) (x04 4))
noncomputable abbrev x7r:x19:=x0z (x1m 8 (x1i 7 (x1i 2 (x04 5))))
 (y6q 2 (y9q 6) (eIx (x1i 0 (x1i 2 (x04 6))) (x04 8)))
noncomputable def x8m:x19:=x0z (x1m 2 (y7l 2))
 (x0z (x7a (x5t (x1i 1 (eC (.int 2)))) (y3d (x10 (x0l 3) (x10 (x0l 4) (x5s)))) (y6q 2 (y9q 3) (eIx (x1i 0 (x1i 2 (x04 3))) (x04 4))))
 (x0z (x7a (x5t (x1i 1 (eC (.int 1)))) (y3d (x10 (x0l 5) (x10 (x0l 6) (x10 (x0l 7) (x5s))))) (x0z (x1m 8 (x1i 7 (x1i 2 (x04 5))))
 (y6q 2 (y9q 6) (eIx (x1i 0 (x1i 2 (x04 6))) (x04 8)))))
 (x3h (x2m (x01 (x04 2) (x0c))))))
noncomputable def x2y:List D->Option (D × Nat):=fnD 9 (x8m)
theorem x1v:FnScope ["_law_ladder_here","_law_chart","_law_worths","_law_place","_law_worth","_law_start","_law_goal","_law_rule_here","_law_comes"] ["_law_ladder_here","_law_chart","_law_worths"] (x0b (top 57)):=⟨rfl,rfl,rfl,by decide +kernel,rfl,by decide +kernel,by decide +kernel⟩
theorem y3w (B:Bt mg) (a:At K mg "_law_raised" (top 57) ["_law_ladder_here","_law_chart","_law_worths"]):Cal P w K mg base 1 "_law_raised" 3 (x2y):=
 Cal.mkQ (k:=0) a x1v fun f cdv A outer s H E hr=>
  x06 (x0k (i:=2) x1v.nd rfl (Or.inl rfl) (z3v B.m_list PyProof.Rows.boot_list (qv 2 rfl (Or.inl rfl))))
  (x06 (x2e PassesOwn.never rfl (x3m (x0u (qv 1 rfl (Or.inl rfl)) (x09))) (x7x (n:=2) rfl (x1l (x0j (i:=3) (show 0<=3 by decide) x1v.nd rfl (Or.inl rfl)) (x1l (x0j (i:=4) (show 0<=4 by decide) x1v.nd rfl (Or.inl rfl)) (x5x))) y71) (x0a (y8k (qv 2 rfl (Or.inl rfl)) (y7v (qv 3 rfl (Or.inl rfl))) (x6c (x0u (qv 0 rfl (Or.inl rfl)) (x0u (qv 2 rfl (Or.inl rfl)) (x02 (qv 3 rfl (Or.inl rfl))))) (x02 (qv 4 rfl (Or.inl rfl)))))))
  (x06 (x2e PassesOwn.never rfl (x3m (x0u (qv 1 rfl (Or.inl rfl)) (x09))) (x7x (n:=3) rfl (x1l (x0j (i:=5) (show 0<=5 by decide) x1v.nd rfl (Or.inl rfl)) (x1l (x0j (i:=6) (show 0<=6 by decide) x1v.nd rfl (Or.inl rfl)) (x1l (x0j (i:=7) (show 0<=7 by decide) x1v.nd rfl (Or.inl rfl)) (x5x)))) y3m) (x06 (x0k (i:=8) x1v.nd rfl (Or.inl rfl) (x0u (qv 7 rfl (Or.inl rfl)) (x0u (qv 2 rfl (Or.inl rfl)) (x02 (qv 5 rfl (Or.inl rfl))))))
  (x0a (y8k (qv 2 rfl (Or.inl rfl)) (y7v (qv 6 rfl (Or.inl rfl))) (x6c (x0u (qv 0 rfl (Or.inl rfl)) (x0u (qv 2 rfl (Or.inl rfl)) (x02 (qv 6 rfl (Or.inl rfl))))) (x02 (qv 8 rfl (Or.inl rfl))))))))
  (x0a (x0n (x27 B.m_tuple PyProof.Rows.boot_tuple (x00 (x02 (qv 2 rfl (Or.inl rfl))) (x03) x05))))))
noncomputable abbrev x7i:x19:=x0z (x1m 2 (x04 3))
 (x1m 3 (x0g x2y 3 (x01 (x04 0) (x01 (x04 1) (x01 (x04 2) (x0c))))))
noncomputable def x87:x19:=x0z (x1m 3 (x0g x2y 3 (x01 (x04 0) (x01 (x04 1) (x01 (x04 2) (x0c))))))
 (x0z (x9e (x2g (e2 dNe (x04 3) (x04 2))) (x0z (x1m 2 (x04 3))
 (x1m 3 (x0g x2y 3 (x01 (x04 0) (x01 (x04 1) (x01 (x04 2) (x0c))))))))
 (x3h (x04 2)))
noncomputable def x25:List D->Option (D × Nat):=fnD 4 (x87)
theorem x4a:FnScope ["_law_ladder_here","_law_chart","_law_worths","_law_more"] ["_law_ladder_here","_law_chart","_law_worths"] (x0b (top 58)):=⟨rfl,rfl,rfl,by decide +kernel,rfl,by decide +kernel,by decide +kernel⟩
theorem y4f (B:Bt mg) (c__law_raised:Cal P w K mg base 1 "_law_raised" 3 x2y) (a:At K mg "_law_lowest" (top 58) ["_law_ladder_here","_law_chart","_law_worths"]):Cal P w K mg base 2 "_law_lowest" 3 (x25):=
 Cal.mkQ (k:=1) a x4a fun f cdv A outer s H E hr=>
  x06 (x0k (i:=3) x4a.nd rfl (Or.inl rfl) (x08 c__law_raised hr (by decide) (x00 (x02 (qv 0 rfl (Or.inl rfl))) (x00 (x02 (qv 1 rfl (Or.inl rfl))) (x00 (x02 (qv 2 rfl (Or.inl rfl))) (x03) x05) x05) x05)))
  (x06 (x6z PassesOwn.never (x8v hr (x02 (qv 3 rfl (Or.inl rfl))) (x02 (qv 2 rfl (Or.inl rfl)))) (x06 (x0k (i:=2) x4a.nd rfl (Or.inl rfl) (x02 (qv 3 rfl (Or.inl rfl))))
  (x0a (x0k (i:=3) x4a.nd rfl (Or.inl rfl) (x08 c__law_raised hr (by decide) (x00 (x02 (qv 0 rfl (Or.inl rfl))) (x00 (x02 (qv 1 rfl (Or.inl rfl))) (x00 (x02 (qv 2 rfl (Or.inl rfl))) (x03) x05) x05) x05))))))
  (x0a (x0n (x02 (qv 2 rfl (Or.inl rfl))))))
noncomputable abbrev x51:x19:=x0z (x1m 5 (x4x (x0c)))
 (x0z (x7a (x14 (x01 (x1c 0) (x0c))) (x0l 6) (x0z (x1m 7 (x0g x1j 3 (x01 (x04 4) (x01 (x04 2) (x01 (x04 6) (x0c))))))
 (x2t (x93 5 (x01 (eIx (x0g x25 3 (x01 (x04 0) (x01 (x04 7) (x01 (y1c (x4e (x01 (x0g x1d 1 (x01 (x04 0) (x0c))) (x0c))) (x1i 4 (eC (.int 0)))) (x0c))))) (e2 z67 (x1i 4 (eC (.int 0))) (eC (.int 1)))) (x0c))))))
 (x2t (x93 3 (x01 (x2m (x01 (x04 5) (x0c))) (x0c)))))
noncomputable abbrev x52:x19:=x0z (x1m 7 (x0g x1j 3 (x01 (x04 4) (x01 (x04 2) (x01 (x04 6) (x0c))))))
 (x2t (x93 5 (x01 (eIx (x0g x25 3 (x01 (x04 0) (x01 (x04 7) (x01 (y1c (x4e (x01 (x0g x1d 1 (x01 (x04 0) (x0c))) (x0c))) (x1i 4 (eC (.int 0)))) (x0c))))) (e2 z67 (x1i 4 (eC (.int 0))) (eC (.int 1)))) (x0c))))
noncomputable def x5p:x19:=x0z (x1m 3 (x4x (x0c)))
 (x0z (x7a (x5t (x04 1)) (x0l 4) (x0z (x1m 5 (x4x (x0c)))
 (x0z (x7a (x14 (x01 (x1c 0) (x0c))) (x0l 6) (x0z (x1m 7 (x0g x1j 3 (x01 (x04 4) (x01 (x04 2) (x01 (x04 6) (x0c))))))
 (x2t (x93 5 (x01 (eIx (x0g x25 3 (x01 (x04 0) (x01 (x04 7) (x01 (y1c (x4e (x01 (x0g x1d 1 (x01 (x04 0) (x0c))) (x0c))) (x1i 4 (eC (.int 0)))) (x0c))))) (e2 z67 (x1i 4 (eC (.int 0))) (eC (.int 1)))) (x0c))))))
 (x2t (x93 3 (x01 (x2m (x01 (x04 5) (x0c))) (x0c)))))))
 (x3h (x2m (x01 (x04 3) (x0c)))))
noncomputable def x1e:List D->Option (D × Nat):=fnD 8 (x5p)
theorem x1t:FnScope ["_law_ladder_here","_law_program_here","_law_rules","_law_made","_law_house","_law_row","_law_worth","_law_chart"] ["_law_ladder_here","_law_program_here","_law_rules"] (x0b (top 61)):=⟨rfl,rfl,rfl,by decide +kernel,rfl,by decide +kernel,by decide +kernel⟩
theorem y04 (B:Bt mg) (c__law_house_chart:Cal P w K mg base 1 "_law_house_chart" 3 x1j) (c__law_lowest:Cal P w K mg base 2 "_law_lowest" 3 x25) (c__law_low:Cal P w K mg base 1 "_law_low" 1 x1d) (a:At K mg "_law_next_rules" (top 61) ["_law_ladder_here","_law_program_here","_law_rules"]):Cal P w K mg base 3 "_law_next_rules" 3 (x1e):=
 Cal.mkQ (k:=2) a x1t fun f cdv A outer s H E hr=>
  x06 (x0k (i:=3) x1t.nd rfl (Or.inl rfl) (x26 (x03)))
  (x06 (x2e PassesOwn.never rfl (x3m (x02 (qv 1 rfl (Or.inl rfl)))) (x0j (i:=4) (show 0<=4 by decide) x1t.nd rfl (Or.inl rfl)) (x06 (x0k (i:=5) x1t.nd rfl (Or.inl rfl) (x26 (x03)))
  (x06 (x2e PassesOwn.never rfl (x0x B.m_range (x00 (x1b B.m_len (qv 0 rfl (Or.inl rfl))) (x03) x0s)) (x0j (i:=6) (show 0<=6 by decide) x1t.nd rfl (Or.inl rfl)) (x06 (x0k (i:=7) x1t.nd rfl (Or.inl rfl) (x08 c__law_house_chart hr (by decide) (x00 (x02 (qv 4 rfl (Or.inl rfl))) (x00 (x02 (qv 2 rfl (Or.inl rfl))) (x00 (x02 (qv 6 rfl (Or.inl rfl))) (x03) x05) x05) x05)))
  (x0a (x2f (x33 (qv 5 rfl (Or.inl rfl)) (x00 (x6c (x08 c__law_lowest hr (by decide) (x00 (x02 (qv 0 rfl (Or.inl rfl))) (x00 (x02 (qv 7 rfl (Or.inl rfl))) (x00 (z0t (x3k (x00 (x08 c__law_low hr (by decide) (x00 (x02 (qv 0 rfl (Or.inl rfl))) (x03) x05)) (x03) x0s)) (x0u (qv 4 rfl (Or.inl rfl)) (x09))) (x03) x1g) x05) x05)) (z5m (x0u (qv 4 rfl (Or.inl rfl)) (x09)) (x09))) (x03) x0t))))))
  (x0a (x2f (x33 (qv 3 rfl (Or.inl rfl)) (x00 (x27 B.m_tuple PyProof.Rows.boot_tuple (x00 (x02 (qv 5 rfl (Or.inl rfl))) (x03) x05)) (x03) x0s)))))))
  (x0a (x0n (x27 B.m_tuple PyProof.Rows.boot_tuple (x00 (x02 (qv 3 rfl (Or.inl rfl))) (x03) x05)))))
noncomputable def y2r:x19:=x3h (e2 dEq (eIx (x1i 0 (x04 1)) (x04 2)) (x04 2))
noncomputable def x4j:List D->Option (D × Nat):=fnD 3 (y2r)
theorem y74:FnScope ["ladder","one","other"] ["ladder","one","other"] (x0b (top 12)):=⟨rfl,rfl,rfl,by decide +kernel,rfl,by decide +kernel,by decide +kernel⟩
theorem y90 (B:Bt mg) (a:At K mg "is_below" (top 12) ["ladder","one","other"]):Cal P w K mg base 1 "is_below" 3 (x4j):=
 Cal.mkQ (k:=0) a y74 fun f cdv A outer s H E hr=>
  x0a (x0n (z83 hr (x6c (x0u (qv 0 rfl (Or.inl rfl)) (x02 (qv 1 rfl (Or.inl rfl)))) (x02 (qv 2 rfl (Or.inl rfl)))) (x02 (qv 2 rfl (Or.inl rfl)))))
noncomputable def y0c:x19:=x3h (eB z48 (x01 (x3f 2 (z1e (x01 (x04 1) (x01 (x04 2) (x0c)))) (y3d (x10 (x0l 3) (x10 (x0l 4) (x5s)))) (x2p) (x0g x4j 3 (x01 (x04 0) (x01 (x04 3) (x01 (x04 4) (x0c))))) false) (x0c)))
noncomputable def x1q:List D->Option (D × Nat):=fnD 3 (y0c)
theorem y48:FnScope ["ladder","one","other"] ["ladder","one","other"] (x0b (top 14)):=⟨rfl,rfl,rfl,by decide +kernel,rfl,by decide +kernel,by decide +kernel⟩
noncomputable abbrev x88:List Str:=["ladder","one","other","x","y"]
theorem x7m:(x88).Nodup:=by decide +kernel
theorem y55 (B:Bt mg) (c_is_below:Cal P w K mg base 1 "is_below" 3 x4j) (a:At K mg "is_no_more" (top 14) ["ladder","one","other"]):Cal P w K mg base 2 "is_no_more" 3 (x1q):=
 Cal.mkQ (k:=1) a y48 fun f cdv A outer s H E hr=>
  x0a (x0n (z6a rfl B.m_all (x00 (x3s (k:=2) (N':=x88) false rfl ⟨rfl,by decide +kernel,rfl,rfl,rfl⟩ (z8i B.m_zip (x00 (x02 (qv 1 rfl (Or.inl rfl))) (x00 (x02 (qv 2 rfl (Or.inl rfl))) (x03) x05) x05)) (fun _ _ _ _=>x7x (n:=2) rfl (x1l (x0j (i:=3) (show 3<=3 by decide) x7m rfl (Or.inl rfl) (Or.inr rfl)) (x1l (x0j (i:=4) (show 3<=4 by decide) x7m rfl (Or.inl rfl) (Or.inr rfl)) (x5x))) y71) (fun _ _ _ _=>x2v) (fun _ _ _ _=>x08 c_is_below hr (by decide) (x00 (x02 (qv 0)) (x00 (x02 (qv 3)) (x00 (x02 (qv 4)) (x03) x05) x05) x05))) (x03) x39)))
noncomputable def x5q:x19:=sIf (x5e (x81 (x0g x16 2 (x01 (x04 1) (x01 (x1c 0) (x0c)))))) (y2v) (x7e)
noncomputable def x2l:List D->Option (D × Nat):=fnD 2 (x5q)
theorem x8d:FnScope ["program","number"] ["program","number"] (x0b (top 33)):=⟨rfl,rfl,rfl,by decide +kernel,rfl,by decide +kernel,by decide +kernel⟩
theorem x9x (B:Bt mg) (c_is_number_of:Cal P w K mg base 2 "is_number_of" 2 x16) (a:At K mg "refuse_no_house" (top 33) ["program","number"]):Cal P w K mg base 3 "refuse_no_house" 2 (x2l):=
 Cal.mkQ (k:=2) a x8d fun f cdv A outer s H E hr=>
  x0a (x43 (x6s (x4t (x08 c_is_number_of hr (by decide) (x00 (x02 (qv 1 rfl (Or.inl rfl))) (x00 (x1b B.m_len (qv 0 rfl (Or.inl rfl))) (x03) x0s) x05)))) (x0a (y1a)) (x31))
noncomputable def x69:x19:=x0z (x1m 1 (x4x (x0c)))
 (x0z (x7a (y9e (x01 (x04 0) (x0c))) (y3d (x10 (x0l 2) (x10 (x0l 3) (x5s)))) (x2t (z5o 1 (x3f 1 (x5t (x1i 3 (eC (.int 1)))) (x0l 4) (x81 (x0g x1r 1 (x01 (x1i 4 (eC (.int 2))) (x0c)))) (x4e (x01 (x04 2) (x01 (x1i 4 (eC (.int 2))) (x01 (eC .non) (x0c))))) false))))
 (x3h (x4e (x01 (x1c 0) (x01 (x2m (x01 (x04 1) (x0c))) (x01 (x4e (x0c)) (x0c)))))))
noncomputable def x34:List D->Option (D × Nat):=fnD 4 (x69)
theorem x3g:FnScope ["program","calls","number","house"] ["program"] (x0b (top 41)):=⟨rfl,rfl,rfl,by decide +kernel,rfl,by decide +kernel,by decide +kernel⟩
noncomputable abbrev x5k:List Str:=["program","calls","number","house","way"]
theorem x92:(x5k).Nodup:=by decide +kernel
theorem y0o (B:Bt mg) (c_is_whole:Cal P w K mg base 1 "is_whole" 1 x1r) (a:At K mg "chart_of_calls" (top 41) ["program"]):Cal P w K mg base 2 "chart_of_calls" 1 (x34):=
 Cal.mkQ (k:=1) a x3g fun f cdv A outer s H E hr=>
  x06 (x0k (i:=1) x3g.nd rfl (Or.inl rfl) (x26 (x03)))
  (x06 (x2e PassesOwn.never rfl (z52 B.m_enumerate (x00 (x02 (qv 0 rfl (Or.inl rfl))) (x03) x05)) (x7x (n:=2) rfl (x1l (x0j (i:=2) (show 0<=2 by decide) x3g.nd rfl (Or.inr rfl)) (x1l (x0j (i:=3) (show 0<=3 by decide) x3g.nd rfl (Or.inl rfl)) (x5x))) y71) (x0a (x2f (z1k (qv 1 rfl (Or.inl rfl)) (x3s (k:=1) (N':=x5k) false rfl ⟨rfl,by decide +kernel,rfl,rfl,rfl⟩ (x3m (x0u (qv 3 rfl (Or.inl rfl)) (x09))) (fun _ _ _ _=>x0j (i:=4) (show 4<=4 by decide) x92 rfl (Or.inl rfl) (Or.inr rfl)) (fun _ _ _ _=>y0y (x4t (x08 c_is_whole hr (by decide) (x00 (x0u (qv 4) (x09)) (x03) x0t)))) (fun _ _ _ _=>x3k (x00 (x02 (qv 2)) (x00 (x0u (qv 4) (x09)) (x00 (y7o) (x03) x07) x0t) x05)))))))
  (x0a (x0n (x3k (x00 (x1b B.m_len (qv 0 rfl (Or.inl rfl))) (x00 (x27 B.m_tuple PyProof.Rows.boot_tuple (x00 (x02 (qv 1 rfl (Or.inl rfl))) (x03) x05)) (x00 (x3k (x03)) (x03) x56) x0s) x0s)))))
noncomputable def y0j:x19:=x3h (x3f 3 (x5t (x1i 0 (eC (.int 1)))) (y3d (x10 (x0l 2) (x10 (x0l 3) (x10 (x0l 4) (x5s))))) (x2g (e2 dIn (x04 2) (x04 1))) (x04 3) false)
noncomputable def x1p:List D->Option (D × Nat):=fnD 2 (y0j)
theorem y4d:FnScope ["chart","places"] ["chart","places"] (x0b (top 20)):=⟨rfl,rfl,rfl,by decide +kernel,rfl,by decide +kernel,by decide +kernel⟩
noncomputable abbrev x8z:List Str:=["chart","places","start","goal","rule"]
theorem x59:(x8z).Nodup:=by decide +kernel
theorem y4u (B:Bt mg) (a:At K mg "goals_from" (top 20) ["chart","places"]):Cal P w K mg base 1 "goals_from" 2 (x1p):=
 Cal.mkQ (k:=0) a y4d fun f cdv A outer s H E hr=>
  x0a (x0n (x3s (k:=3) (N':=x8z) false rfl ⟨rfl,by decide +kernel,rfl,rfl,rfl⟩ (x3m (x0u (qv 0 rfl (Or.inl rfl)) (x09))) (fun _ _ _ _=>x7x (n:=3) rfl (x1l (x0j (i:=2) (show 2<=2 by decide) x59 rfl (Or.inl rfl) (Or.inr rfl)) (x1l (x0j (i:=3) (show 2<=3 by decide) x59 rfl (Or.inl rfl) (Or.inr rfl)) (x1l (x0j (i:=4) (show 2<=4 by decide) x59 rfl (Or.inl rfl) (Or.inr rfl)) (x5x)))) y3m) (fun _ _ _ _=>y0y (z5r hr (x02 (qv 2)) (x02 (qv 1)))) (fun _ _ _ _=>x02 (qv 3))))
noncomputable def x8q:x19:=x0z (x1m 2 (x04 1))
 (x0z (x1m 3 (eC .non))
 (x0z (x9e (x2g (e2 dNe (x04 2) (x04 3))) (x0z (x1m 3 (x04 2))
 (x1m 2 (x4d (y2i (x04 3) (x0g x1p 2 (x01 (x04 0) (x01 (x04 3) (x0c)))))))))
 (x3h (x04 2))))
noncomputable def x42:List D->Option (D × Nat):=fnD 4 (x8q)
theorem x3n:FnScope ["chart","places","reached","ahead"] ["chart","places"] (x0b (top 21)):=⟨rfl,rfl,rfl,by decide +kernel,rfl,by decide +kernel,by decide +kernel⟩
theorem y3t (B:Bt mg) (c_goals_from:Cal P w K mg base 1 "goals_from" 2 x1p) (a:At K mg "all_reached" (top 21) ["chart","places"]):Cal P w K mg base 2 "all_reached" 2 (x42):=
 Cal.mkQ (k:=1) a x3n fun f cdv A outer s H E hr=>
  x06 (x0k (i:=2) x3n.nd rfl (Or.inl rfl) (x02 (qv 1 rfl (Or.inl rfl))))
  (x06 (x0k (i:=3) x3n.nd rfl (Or.inl rfl) (y7o))
  (x06 (x6z PassesOwn.never (x8v hr (x02 (qv 2 rfl (Or.inl rfl))) (x02 (qv 3 rfl (Or.inl rfl)))) (x06 (x0k (i:=3) x3n.nd rfl (Or.inl rfl) (x02 (qv 2 rfl (Or.inl rfl))))
  (x0a (x0k (i:=2) x3n.nd rfl (Or.inl rfl) (y31 rfl B.m_sorted B.m_set (z0x (x02 (qv 3 rfl (Or.inl rfl))) (x08 c_goals_from hr (by decide) (x00 (x02 (qv 0 rfl (Or.inl rfl))) (x00 (x02 (qv 3 rfl (Or.inl rfl))) (x03) x05) x05))))))))
  (x0a (x0n (x02 (qv 2 rfl (Or.inl rfl)))))))
noncomputable def x5m:x19:=sIf (x5e (x81 (x0g x16 2 (x01 (x04 1) (x01 (x04 0) (x0c)))))) (y2v) (x7e)
noncomputable def x2j:List D->Option (D × Nat):=fnD 2 (x5m)
theorem x8l:FnScope ["places","place"] ["places","place"] (x0b (top 17)):=⟨rfl,rfl,rfl,by decide +kernel,rfl,by decide +kernel,by decide +kernel⟩
theorem x9y (B:Bt mg) (c_is_number_of:Cal P w K mg base 2 "is_number_of" 2 x16) (a:At K mg "refuse_no_place" (top 17) ["places","place"]):Cal P w K mg base 3 "refuse_no_place" 2 (x2j):=
 Cal.mkQ (k:=2) a x8l fun f cdv A outer s H E hr=>
  x0a (x43 (x6s (x4t (x08 c_is_number_of hr (by decide) (x00 (x02 (qv 1 rfl (Or.inl rfl))) (x00 (x02 (qv 0 rfl (Or.inl rfl))) (x03) x05) x05)))) (x0a (y1a)) (x31))
noncomputable def y2z:x19:=x0z (x2t (x0g x2j 2 (x01 (x1i 0 (eC (.int 0))) (x01 (x04 1) (x0c)))))
 (x3h (x4d (x0g x1p 2 (x01 (x04 0) (x01 (x4x (x01 (x04 1) (x0c))) (x0c))))))
noncomputable def x5h:List D->Option (D × Nat):=fnD 2 (y2z)
theorem y75:FnScope ["chart","place"] ["chart","place"] (x0b (top 19)):=⟨rfl,rfl,rfl,by decide +kernel,rfl,by decide +kernel,by decide +kernel⟩
theorem y9f (B:Bt mg) (c_refuse_no_place:Cal P w K mg base 3 "refuse_no_place" 2 x2j) (c_goals_from:Cal P w K mg base 1 "goals_from" 2 x1p) (a:At K mg "goals_of" (top 19) ["chart","place"]):Cal P w K mg base 4 "goals_of" 2 (x5h):=
 Cal.mkQ (k:=3) a y75 fun f cdv A outer s H E hr=>
  x06 (x2f (x08 c_refuse_no_place hr (by decide) (x00 (x0u (qv 0 rfl (Or.inl rfl)) (x09)) (x00 (x02 (qv 1 rfl (Or.inl rfl))) (x03) x05) x0t)))
  (x0a (x0n (y31 rfl B.m_sorted B.m_set (x08 c_goals_from hr (by decide) (x00 (x02 (qv 0 rfl (Or.inl rfl))) (x00 (x26 (x00 (x02 (qv 1 rfl (Or.inl rfl))) (x03) x05)) (x03) y01) x05)))))
noncomputable def y1o:x19:=x0z (x2t (x0g x2l 2 (x01 (x04 0) (x01 (x04 1) (x0c)))))
 (x0z (x1m 2 (x0g x34 1 (x01 (x04 0) (x0c))))
 (x3h (x0g x42 2 (x01 (x04 2) (x01 (x0g x5h 2 (x01 (x04 2) (x01 (x04 1) (x0c)))) (x0c))))))
noncomputable def x3d:List D->Option (D × Nat):=fnD 3 (y1o)
theorem y05:FnScope ["program","number","chart"] ["program","number"] (x0b (top 40)):=⟨rfl,rfl,rfl,by decide +kernel,rfl,by decide +kernel,by decide +kernel⟩
theorem y6k (B:Bt mg) (c_refuse_no_house:Cal P w K mg base 3 "refuse_no_house" 2 x2l) (c_chart_of_calls:Cal P w K mg base 2 "chart_of_calls" 1 x34) (c_all_reached:Cal P w K mg base 2 "all_reached" 2 x42) (c_goals_of:Cal P w K mg base 4 "goals_of" 2 x5h) (a:At K mg "called_by" (top 40) ["program","number"]):Cal P w K mg base 5 "called_by" 2 (x3d):=
 Cal.mkQ (k:=4) a y05 fun f cdv A outer s H E hr=>
  x06 (x2f (x08 c_refuse_no_house hr (by decide) (x00 (x02 (qv 0 rfl (Or.inl rfl))) (x00 (x02 (qv 1 rfl (Or.inl rfl))) (x03) x05) x05)))
  (x06 (x0k (i:=2) y05.nd rfl (Or.inl rfl) (x08 c_chart_of_calls hr (by decide) (x00 (x02 (qv 0 rfl (Or.inl rfl))) (x03) x05)))
  (x0a (x0n (x08 c_all_reached hr (by decide) (x00 (x02 (qv 2 rfl (Or.inl rfl))) (x00 (x08 c_goals_of hr (by decide) (x00 (x02 (qv 2 rfl (Or.inl rfl))) (x00 (x02 (qv 1 rfl (Or.inl rfl))) (x03) x05) x05)) (x03) x0s) x05)))))
noncomputable abbrev x71:x19:=x0z (x1m 6 (x0g x1e 3 (x01 (x04 1) (x01 (x04 2) (x01 (x04 4) (x0c))))))
 (x0z (x1m 7 (x0g x13 3 (x01 (x04 1) (x01 (x04 2) (x01 (x04 5) (x0c))))))
 (x0z (sIf (x2g (e2 dNe (x04 7) (x04 6))) (x3h (eC (.bl false))) (x7e))
 (x0z (x7a (x14 (x01 (x1c 2) (x0c))) (x0l 8) (x0z (sIf (z0w (x5e (x81 (x0g x1q 3 (x01 (x04 1) (x01 (x1i 4 (x04 8)) (x01 (x1i 7 (x04 8)) (x0c))))))) (x5e (x81 (x0g x1q 3 (x01 (x04 1) (x01 (x1i 7 (x04 8)) (x01 (x1i 3 (x04 8)) (x0c)))))))) (x3h (eC (.bl false))) (x7e))
 (sIf (x5o (x2g (e2 dEq (x0g x3d 2 (x01 (x04 2) (x01 (x04 8) (x0c)))) (x4x (x0c)))) (x2g (e2 dNe (x1i 7 (x04 8)) (x1i 3 (x04 8))))) (x3h (eC (.bl false))) (x7e))))
 (x1m 4 (x04 6)))))
noncomputable abbrev x6i:x19:=x0z (sIf (z0w (x5e (x81 (x0g x1q 3 (x01 (x04 1) (x01 (x1i 4 (x04 8)) (x01 (x1i 7 (x04 8)) (x0c))))))) (x5e (x81 (x0g x1q 3 (x01 (x04 1) (x01 (x1i 7 (x04 8)) (x01 (x1i 3 (x04 8)) (x0c)))))))) (x3h (eC (.bl false))) (x7e))
 (sIf (x5o (x2g (e2 dEq (x0g x3d 2 (x01 (x04 2) (x01 (x04 8) (x0c)))) (x4x (x0c)))) (x2g (e2 dNe (x1i 7 (x04 8)) (x1i 3 (x04 8))))) (x3h (eC (.bl false))) (x7e))
noncomputable abbrev x6m:x19:=x0z (x1m 4 (x0g x1e 3 (x01 (x04 1) (x01 (x04 2) (x01 (x04 4) (x0c))))))
 (x1m 5 (e2 x2w (x04 5) (eC (.int 1))))
noncomputable def y1b:x19:=x0z (x1m 1 (x0g x41 2 (x01 (x04 0) (x01 (eC (.int 0)) (x0c)))))
 (x0z (sIf (x2g (e2 dGt (x1c 1) (eC (.int 4)))) (x3h (eC (.bl true))) (x7e))
 (x0z (x1m 2 (x0g x3p 3 (x01 (x04 0) (x01 (eC (.int 20)) (x01 (x04 1) (x0c))))))
 (x0z (x1m 3 (x0g x4r 2 (x01 (x04 1) (x01 (x04 2) (x0c)))))
 (x0z (x1m 4 (x2m (x01 (x3f 1 (x5t (x04 2)) (x0l 9) (x2p) (y1c (x4e (x01 (x0g x1d 1 (x01 (x04 1) (x0c))) (x0c))) (x1c 1)) false) (x0c))))
 (x0z (x7a (x14 (x01 (eC (.int 3)) (x0c))) (x0l 5) (x0z (x1m 6 (x0g x1e 3 (x01 (x04 1) (x01 (x04 2) (x01 (x04 4) (x0c))))))
 (x0z (x1m 7 (x0g x13 3 (x01 (x04 1) (x01 (x04 2) (x01 (x04 5) (x0c))))))
 (x0z (sIf (x2g (e2 dNe (x04 7) (x04 6))) (x3h (eC (.bl false))) (x7e))
 (x0z (x7a (x14 (x01 (x1c 2) (x0c))) (x0l 8) (x0z (sIf (z0w (x5e (x81 (x0g x1q 3 (x01 (x04 1) (x01 (x1i 4 (x04 8)) (x01 (x1i 7 (x04 8)) (x0c))))))) (x5e (x81 (x0g x1q 3 (x01 (x04 1) (x01 (x1i 7 (x04 8)) (x01 (x1i 3 (x04 8)) (x0c)))))))) (x3h (eC (.bl false))) (x7e))
 (sIf (x5o (x2g (e2 dEq (x0g x3d 2 (x01 (x04 2) (x01 (x04 8) (x0c)))) (x4x (x0c)))) (x2g (e2 dNe (x1i 7 (x04 8)) (x1i 3 (x04 8))))) (x3h (eC (.bl false))) (x7e))))
 (x1m 4 (x04 6)))))))
 (x0z (x1m 5 (eC (.int 0)))
 (x0z (x9e (x5o (x2g (e2 dNe (x04 4) (x04 3))) (x2g (e2 dLt (x04 5) (eC (.int 200))))) (x0z (x1m 4 (x0g x1e 3 (x01 (x04 1) (x01 (x04 2) (x01 (x04 4) (x0c))))))
 (x1m 5 (e2 x2w (x04 5) (eC (.int 1))))))
 (x3h (z6s (e2 dEq (x04 4) (x04 3)) (e2 dEq (x0g x13 3 (x01 (x04 1) (x01 (x04 2) (x01 (e2 x2w (eC (.int 3)) (x04 5)) (x0c))))) (x04 3)))))))))))
noncomputable def x3e:List D->Option (D × Nat):=fnD 9 (y1b)
theorem x1f:FnScope ["_law_script","_law_ladder_here","_law_program_here","_law_whole","_law_rules","_law_deep","_law_more","_law_told","_law_k"] ["_law_script"] (x0b (top 62)):=⟨rfl,rfl,rfl,by decide +kernel,rfl,by decide +kernel,by decide +kernel⟩
noncomputable abbrev y0e:List Str:=["_law_script","_law_ladder_here","_law_program_here","_law_whole","_law_rules","_law_deep","_law_more","_law_told","_law_k","_law_house"]
theorem y47:(y0e).Nodup:=by decide +kernel
theorem y73 (B:Bt mg) (c__law_ladder:Cal P w K mg base 4 "_law_ladder" 2 x41) (c__law_program:Cal P w K mg base 4 "_law_program" 3 x3p) (c_summaries:Cal P w K mg base 11 "summaries" 2 x4r) (c__law_low:Cal P w K mg base 1 "_law_low" 1 x1d) (c__law_next_rules:Cal P w K mg base 3 "_law_next_rules" 3 x1e) (c_summaries_by:Cal P w K mg base 10 "summaries_by" 3 x13) (c_is_no_more:Cal P w K mg base 2 "is_no_more" 3 x1q) (c_called_by:Cal P w K mg base 5 "called_by" 2 x3d) (a:At K mg "_law_once" (top 62) ["_law_script"]):Cal P w K mg base 12 "_law_once" 1 (x3e):=
 Cal.mkQ (k:=11) a x1f fun f cdv A outer s H E hr=>
  x06 (x0k (i:=1) x1f.nd rfl (Or.inr rfl) (x08 c__law_ladder hr (by decide) (x00 (x02 (qv 0 rfl (Or.inl rfl))) (x00 (x09) (x03) x07) x05)))
  (x06 (x43 (j1l (x1b B.m_len (qv 1 rfl (Or.inr (Or.inl rfl)))) (x09)) (x0a (x0n (y66))) (x31))
  (x06 (x0k (i:=2) x1f.nd rfl (Or.inl rfl) (x08 c__law_program hr (by decide) (x00 (x02 (qv 0 rfl (Or.inl rfl))) (x00 (x09) (x00 (x02 (qv 1 rfl (Or.inr (Or.inl rfl)))) (x03) x05) x07) x05)))
  (x06 (x0k (i:=3) x1f.nd rfl (Or.inl rfl) (x08 c_summaries hr (by decide) (x00 (x02 (qv 1 rfl (Or.inr (Or.inl rfl)))) (x00 (x02 (qv 2 rfl (Or.inl rfl))) (x03) x05) x05)))
  (x06 (x0k (i:=4) x1f.nd rfl (Or.inl rfl) (x27 B.m_tuple PyProof.Rows.boot_tuple (x00 (x3s (k:=1) (N':=y0e) false rfl ⟨rfl,by decide +kernel,rfl,rfl,rfl⟩ (x3m (x02 (qv 2 rfl (Or.inl rfl)))) (fun _ _ _ _=>x0j (i:=9) (show 9<=9 by decide) y47 rfl (Or.inl rfl) (Or.inr rfl)) (fun _ _ _ _=>x2v) (fun _ _ _ _=>z0t (x3k (x00 (x08 c__law_low hr (by decide) (x00 (x02 (qv 1)) (x03) x05)) (x03) x0s)) (x1b B.m_len (qv 1)))) (x03) x39)))
  (x06 (x2e PassesOwn.never rfl (x0x B.m_range (x00 (x09) (x03) x07)) (x0j (i:=5) (show 0<=5 by decide) x1f.nd rfl (Or.inl rfl)) (x06 (x0k (i:=6) x1f.nd rfl (Or.inl rfl) (x08 c__law_next_rules hr (by decide) (x00 (x02 (qv 1 rfl (Or.inr (Or.inl rfl)))) (x00 (x02 (qv 2 rfl (Or.inl rfl))) (x00 (x02 (qv 4 rfl (Or.inl rfl))) (x03) x05) x05) x05)))
  (x06 (x0k (i:=7) x1f.nd rfl (Or.inl rfl) (x08 c_summaries_by hr (by decide) (x00 (x02 (qv 1 rfl (Or.inr (Or.inl rfl)))) (x00 (x02 (qv 2 rfl (Or.inl rfl))) (x00 (x02 (qv 5 rfl (Or.inl rfl))) (x03) x05) x05) x05)))
  (x06 (x43 (x8v hr (x02 (qv 7 rfl (Or.inl rfl))) (x02 (qv 6 rfl (Or.inl rfl)))) (x0a (x0n (y66))) (x31))
  (x06 (x2e PassesOwn.never rfl (x0x B.m_range (x00 (x1b B.m_len (qv 2 rfl (Or.inl rfl))) (x03) x0s)) (x0j (i:=8) (show 0<=8 by decide) x1f.nd rfl (Or.inl rfl)) (x06 (x43 (y9n (y7r (x6s (x4t (x08 c_is_no_more hr (by decide) (x00 (x02 (qv 1 rfl (Or.inr (Or.inl rfl)))) (x00 (x0u (qv 4 rfl (Or.inl rfl)) (x02 (qv 8 rfl (Or.inl rfl)))) (x00 (x0u (qv 7 rfl (Or.inl rfl)) (x02 (qv 8 rfl (Or.inl rfl)))) (x03) x0t) x0t) x05)))) (y7c (x6s (x4t (x08 c_is_no_more hr (by decide) (x00 (x02 (qv 1 rfl (Or.inr (Or.inl rfl)))) (x00 (x0u (qv 7 rfl (Or.inl rfl)) (x02 (qv 8 rfl (Or.inl rfl)))) (x00 (x0u (qv 3 rfl (Or.inl rfl)) (x02 (qv 8 rfl (Or.inl rfl)))) (x03) x0t) x0t) x05))))))) (x0a (x0n (y66))) (x31))
  (x0a (x43 (y9n (y62 (x8p hr (x08 c_called_by hr (by decide) (x00 (x02 (qv 2 rfl (Or.inl rfl))) (x00 (x02 (qv 8 rfl (Or.inl rfl))) (x03) x05) x05)) (x26 (x03))) (y4a (x8v hr (x0u (qv 7 rfl (Or.inl rfl)) (x02 (qv 8 rfl (Or.inl rfl)))) (x0u (qv 3 rfl (Or.inl rfl)) (x02 (qv 8 rfl (Or.inl rfl)))))))) (x0a (x0n (y66))) (x31)))))
  (x0a (x0k (i:=4) x1f.nd rfl (Or.inl rfl) (x02 (qv 6 rfl (Or.inl rfl))))))))))
  (x06 (x0k (i:=5) x1f.nd rfl (Or.inl rfl) (x09))
  (x06 (x6z PassesOwn.never (y9n (y62 (x8v hr (x02 (qv 4 rfl (Or.inl rfl))) (x02 (qv 3 rfl (Or.inl rfl)))) (y4a (y5f (x02 (qv 5 rfl (Or.inl rfl))) (x09))))) (x06 (x0k (i:=4) x1f.nd rfl (Or.inl rfl) (x08 c__law_next_rules hr (by decide) (x00 (x02 (qv 1 rfl (Or.inr (Or.inl rfl)))) (x00 (x02 (qv 2 rfl (Or.inl rfl))) (x00 (x02 (qv 4 rfl (Or.inl rfl))) (x03) x05) x05) x05)))
  (x0a (x0k (i:=5) x1f.nd rfl (Or.inl rfl) (x1s (x02 (qv 5 rfl (Or.inl rfl))) (x09))))))
  (x0a (x0n (z0i (z83 hr (x02 (qv 4 rfl (Or.inl rfl))) (x02 (qv 3 rfl (Or.inl rfl)))) (z2b (z83 hr (x08 c_summaries_by hr (by decide) (x00 (x02 (qv 1 rfl (Or.inr (Or.inl rfl)))) (x00 (x02 (qv 2 rfl (Or.inl rfl))) (x00 (x1s (x09) (x02 (qv 5 rfl (Or.inl rfl)))) (x03) x1g) x05) x05)) (x02 (qv 3 rfl (Or.inl rfl)))))))))))))))
noncomputable abbrev y7w:x19:=x0z (sIf (x5e (x81 (x0g x3e 1 (x01 (x3f 1 (x5t (x04 0)) (x0l 2) (x2p) (e2 x2w (x04 2) (e2 x95 (eC (.int 7919)) (x04 1))) false) (x0c))))) (x3h (eC (.bl false))) (x7e))
 (sIf (x2g (e2 dEq (x04 0) (x4x (x0c)))) (y7j) (x7e))
noncomputable def j29:x19:=x0z (x7a (x14 (x01 (eC (.int 5)) (x0c))) (x0l 1) (x0z (sIf (x5e (x81 (x0g x3e 1 (x01 (x3f 1 (x5t (x04 0)) (x0l 2) (x2p) (e2 x2w (x04 2) (e2 x95 (eC (.int 7919)) (x04 1))) false) (x0c))))) (x3h (eC (.bl false))) (x7e))
 (sIf (x2g (e2 dEq (x04 0) (x4x (x0c)))) (y7j) (x7e))))
 (x3h (eC (.bl true)))
noncomputable def y9a:List D->Option (D × Nat):=fnD 2 (j29)
theorem z64:FnScope ["_law_script","_law_turn"] ["_law_script"] (x0b (top 63)):=⟨rfl,rfl,rfl,by decide +kernel,rfl,by decide +kernel,by decide +kernel⟩
noncomputable abbrev z5v:List Str:=["_law_script","_law_turn","_law_cell_here"]
theorem z93:(z5v).Nodup:=by decide +kernel
theorem z8l (B:Bt mg) (c__law_once:Cal P w K mg base 12 "_law_once" 1 x3e) {f:Addr} {fd:FuncData} (F:Fun K "law" "law" (top 63) f fd):FnOk P w K mg base CX0 13 f fd ["_law_script"] (spD K 1 y9a):=
 z7w (k:=12) F z64 fun f cdv A outer s H E hr=>
  x06 (x2e PassesOwn.never rfl (x0x B.m_range (x00 (x09) (x03) x07)) (x0j (i:=1) (show 0<=1 by decide) z64.nd rfl (Or.inr rfl)) (x06 (x43 (x6s (x4t (x08 c__law_once hr (by decide) (x00 (x3s (k:=1) (N':=z5v) false rfl ⟨rfl,by decide +kernel,rfl,rfl,rfl⟩ (x3m (x02 (qv 0 rfl (Or.inl rfl)))) (fun _ _ _ _=>x0j (i:=2) (show 2<=2 by decide) z93 rfl (Or.inl rfl) (Or.inr rfl)) (fun _ _ _ _=>x2v) (fun _ _ _ _=>x1s (x02 (qv 2)) (x6b (x09) (x02 (qv 1))))) (x03) x39)))) (x0a (x0n (y66))) (x31))
  (x0a (x43 (x8p hr (x02 (qv 0 rfl (Or.inl rfl))) (x26 (x03))) (x0a (z15)) (x31)))))
  (x0a (x0n (y66)))
end
noncomputable abbrev scr (ns:List Int):D:=.lst (ns.map D.int)
noncomputable def z59 (ns:List Int) (k:Int):Int:=if k<ns.length then ns.getD k.toNat 0 else if ns=[]then 0 else ns.getD (k % ns.length).toNat 0*31+k
theorem z5q {ns:List Int} {k:Int} (h0:0<=k) (h:k<ns.length):L2.atI (ns.map D.int) k=some (.int (ns.getD k.toNat 0)):=by
 obtain⟨m,rfl⟩:∃ m:Nat,k=Int.ofNat m:=⟨k.toNat,by show k=(k.toNat:Int); omega⟩
 have hk:m<ns.length:=by have:(m:Int)<ns.length:=h; omega
 apply y53
 rw[List.getElem?_map,List.getElem?_eq_getElem hk]
 simp[hk]
theorem j3m (ns:List Int):Sh 1 (scr ns):=.lst fun d m=>by
 obtain⟨x,_,rfl⟩:=List.mem_map.mp m
 exact .int _
theorem z02 (ns:List Int):dEq (scr ns) (.lst [])=some (.bl (decide (ns=[]))):=by
 unfold dEq
 rw[if_pos ⟨(j3m ns).ok,(z6x []).ok⟩]
 cases ns <;> rfl
theorem z6n (ns:List Int) (k:Int) (h0:0<=k):x4o [scr ns,.int k]=some (.int (z59 ns k),9):=by
 unfold x4o y1p z59
 by_cases h:k<ns.length
 ·simp[h,z5q h0 h,y0t,atD]
 ·by_cases hn:ns=[]
  ·subst hn
   have h':¬ k<0:=by omega
   simp[h',y0t,z02]
  ·have hp:(0:Int)<ns.length:=by have:=List.length_pos_iff.mpr hn; omega
   have h1:=Int.emod_nonneg k (Int.ne_of_gt hp)
   have h2:=Int.emod_lt_of_pos k hp
   have h3:=z5q h1 h2
   have hp':=List.length_pos_iff.mpr hn
   simp[h,y0t,atD,z02,hn,hp',h3]
noncomputable def y06 (ns:List Int) (k:Int):Int:=(z59 ns k+6151*(k+1))*40692 % 2147483399
noncomputable def y0r (ns:List Int) (k m:Int):Int:=(y06 ns k*y06 ns k+y06 ns k / 31) % 2147483629 % m
theorem x82 (ns:List Int) (k m:Int) (h0:0<=k) (hm:0<m):x0d [scr ns,.int k,.int m]=some (.int (y0r ns k m),9):=by
 have d0:0<=y06 ns k:=Int.emod_nonneg _ (by decide)
 have d1:y06 ns k<2147483399:=Int.emod_lt_of_pos _ (by decide)
 have g1:-18446744073709551616<y06 ns k:=by omega
 have g2:y06 ns k<18446744073709551616:=by omega
 have hd:(z59 ns k+6151*(k+1))*40692 % 2147483399=y06 ns k:=rfl
 unfold x0d y1m y0r
 simp[z6n ns k h0,hm,hd,g1,g2]
theorem x6g (ns:List Int) (k:Int) {m:Int} (hm:0<m):0<=y0r ns k m:=Int.emod_nonneg _ (Int.ne_of_gt hm)
theorem x80 (ns:List Int) (k:Int) {m:Int} (hm:0<m):y0r ns k m<m:=Int.emod_lt_of_pos _ hm
noncomputable def tf (rows:List (List Nat)) (i j:Nat):Nat:=(rows.getD i []).getD j 0
noncomputable def x3v (rows:List (List Nat)):D:=x46 rows.length (tf rows)
noncomputable def ch (n:Nat):List (List Nat):=(List.range n).map fun i=>(List.range n).map fun j=>max i j
noncomputable def cp (a b:List (List Nat)):List (List Nat):=(List.range (a.length*b.length)).map fun i=>(List.range (a.length*b.length)).map fun j=>tf a (i / b.length) (j / b.length)*b.length+tf b (i % b.length) (j % b.length)
noncomputable def sb (n:Nat):List (List Nat):=(List.range (n+2)).map fun i=>(List.range (n+2)).map fun j=>if i=0\/j=0\/i=j then max i j else n+1
noncomputable def n5:List (List Nat):=[[0,1,2,3,4],[1,1,2,4,4],[2,2,2,4,4],[3,4,4,3,4],[4,4,4,4,4]]
noncomputable def y51:List (List (List Nat)):=[ch 1,ch 2,ch 3,ch 4,ch 5,cp (ch 2) (ch 2),cp (ch 2) (ch 3),cp (ch 2) (ch 4),sb 0,sb 1,sb 2,sb 3,sb 4,cp (ch 2) (cp (ch 2) (ch 2)),n5]
theorem ch1:x12 [.int 1]=some (x3v (ch 1),1):=by rfl
theorem ch2:x12 [.int 2]=some (x3v (ch 2),1):=by rfl
theorem ch3:x12 [.int 3]=some (x3v (ch 3),1):=by rfl
theorem ch4:x12 [.int 4]=some (x3v (ch 4),1):=by rfl
theorem ch5:x12 [.int 5]=some (x3v (ch 5),1):=by rfl
theorem sb0:x0y [.int 0]=some (x3v (sb 0),0):=by rfl
theorem sb1:x0y [.int 1]=some (x3v (sb 1),0):=by rfl
theorem sb2:x0y [.int 2]=some (x3v (sb 2),0):=by rfl
theorem sb3:x0y [.int 3]=some (x3v (sb 3),0):=by rfl
theorem sb4:x0y [.int 4]=some (x3v (sb 4),0):=by rfl
theorem j68:x1h [x3v (ch 2),x3v (ch 2)]=some (x3v (cp (ch 2) (ch 2)),0):=by rfl
theorem j79:x1h [x3v (ch 2),x3v (ch 3)]=some (x3v (cp (ch 2) (ch 3)),0):=by rfl
theorem j74:x1h [x3v (ch 2),x3v (ch 4)]=some (x3v (cp (ch 2) (ch 4)),0):=by rfl
theorem j5u:x1h [x3v (ch 2),x3v (cp (ch 2) (ch 2))]=some (x3v (cp (ch 2) (cp (ch 2) (ch 2))),0):=by rfl
theorem z7g (ns:List Int) (t:Int) (h0:0<=t):∃ rows∈y51,∃ q,x4k [scr ns,.int t]=some (x3v rows,q):=by
 have k0:=x6g ns t (m:=9) (by decide)
 have k1:=x80 ns t (m:=9) (by decide)
 have p0:=x6g ns (t+1) (m:=5) (by decide)
 have p1:=x80 ns (t+1) (m:=5) (by decide)
 have r0:=x6g ns (t+1) (m:=3) (by decide)
 have r1:=x80 ns (t+1) (m:=3) (by decide)
 have e9:=x82 ns t 9 h0 (by decide)
 have e5:=x82 ns (t+1) 5 (by omega) (by decide)
 have e3:=x82 ns (t+1) 3 (by omega) (by decide)
 have mem:∀ i:Nat,i<15->y51.getD i []∈y51:=fun i hi=>by
  rw[List.getD_eq_getElem?_getD,List.getElem?_eq_getElem (show i<y51.length from hi)]
  exact List.getElem_mem _
 have hc:∀ p:Int,0<=p->p<5->∃ rows∈y51,x12 [.int (1+p)]=some (x3v rows,1):=fun p a b=>by
  have:p=0\/p=1\/p=2\/p=3\/p=4:=by omega
  rcases this with rfl | rfl | rfl | rfl | rfl
  ·exact⟨_,mem 0 (by decide),ch1⟩
  ·exact⟨_,mem 1 (by decide),ch2⟩
  ·exact⟨_,mem 2 (by decide),ch3⟩
  ·exact⟨_,mem 3 (by decide),ch4⟩
  ·exact⟨_,mem 4 (by decide),ch5⟩
 have hs:∀ p:Int,0<=p->p<5->∃ rows∈y51,x0y [.int p]=some (x3v rows,0):=fun p a b=>by
  have:p=0\/p=1\/p=2\/p=3\/p=4:=by omega
  rcases this with rfl | rfl | rfl | rfl | rfl
  ·exact⟨_,mem 8 (by decide),sb0⟩
  ·exact⟨_,mem 9 (by decide),sb1⟩
  ·exact⟨_,mem 10 (by decide),sb2⟩
  ·exact⟨_,mem 11 (by decide),sb3⟩
  ·exact⟨_,mem 12 (by decide),sb4⟩
 have hp:∀ r:Int,0<=r->r<3->∃ x rows1 rows,atD (.lst [.int 2,.int 3,.int 4]) r=some (.int x)/\x12 [.int x]=some (x3v rows1,1)/\rows∈y51/\x1h [x3v (ch 2),x3v rows1]=some (x3v rows,0):=fun r a b=>by
  have:r=0\/r=1\/r=2:=by omega
  rcases this with rfl | rfl | rfl
  ·exact⟨2,_,_,rfl,ch2,mem 5 (by decide),j68⟩
  ·exact⟨3,_,_,rfl,ch3,mem 6 (by decide),j79⟩
  ·exact⟨4,_,_,rfl,ch4,mem 7 (by decide),j74⟩
 unfold x4k y1u
 generalize y0r ns t 9=k at *
 generalize y0r ns (t+1) 5=p at *
 generalize y0r ns (t+1) 3=r at *
 by_cases h3:k<3
 ·obtain⟨rows,hm,e⟩:=hc p p0 p1
  exact⟨rows,hm,1,by simp[e9,e5,h3,e]⟩
 by_cases h5:k<5
 ·obtain⟨x,rows1,rows,ea,e1,hm,e2'⟩:=hp r r0 r1
  exact⟨rows,hm,0,by simp[e9,e3,h3,h5,ch2,ea,e1,e2']⟩
 by_cases h7:k<7
 ·obtain⟨rows,hm,e⟩:=hs p p0 p1
  exact⟨rows,hm,0,by simp[e9,e5,h3,h5,h7,e]⟩
 have:k=7\/k=8:=by omega
 rcases this with rfl | rfl
 ·exact⟨_,mem 13 (by decide),0,by simp[e9,z08,ch2,j68]; exact j5u⟩
 ·refine⟨_,mem 14 (by decide),0,?_⟩
  simp[e9,z08]
  rfl
theorem z3h:∀ rows∈y51,j5i rows.length (tf rows)=true:=by decide +kernel
noncomputable def pk (ns:List Int) (t:Int) (k m:Nat):Nat:=(y0r ns (t+2+Int.ofNat k) (Int.ofNat m)).toNat
theorem z8j (ns:List Int) (t:Int) (k m:Nat) (h:0<m):pk ns t k m<m:=by
 have h1:=x6g ns (t+2+Int.ofNat k) (m:=Int.ofNat m) (by show(0:Int)<m; omega)
 have h2:=x80 ns (t+2+Int.ofNat k) (m:=Int.ofNat m) (by show(0:Int)<m; omega)
 have h3:(Int.ofNat m)=(m:Int):=rfl
 unfold pk
 omega
theorem j5n (ns:List Int) (t:Int) (k m:Nat) (h:0<m):y0r ns (t+2+Int.ofNat k) (Int.ofNat m)=Int.ofNat (pk ns t k m):=by
 have h1:=x6g ns (t+2+Int.ofNat k) (m:=Int.ofNat m) (by show(0:Int)<m; omega)
 unfold pk
 show _=((y0r ns (t+2+Int.ofNat k) (Int.ofNat m)).toNat:Int)
 omega
section
variable (ns:List Int) (t:Int) (n:Nat) (B:Nat->Nat->Nat) (q:Nat)
theorem z3t (h0:0<=t) (hn:n<=16):x6r 1 (x0l 8) x2p (z9l 3 (x01 (x0g x0d 3 (x01 (x04 0) (x01 (e2 x2w (e2 x2w (x04 1) (eC (.int 2))) (x04 8)) (x01 (x1c 3) (x0c))))) (x0c))) false (x1a n)
  [some (scr ns,0),some (.int t,9),some (x46 n B,q),some (.lst (x1a n),1),none,none,none,none] =
  some (x0f ((List.range n).map (drawn (pk ns t) n)),[some (scr ns,0),some (.int t,9),some (x46 n B,q),some (.lst [],1),none,none,none,none]):=by
 have hp:=z8j ns t
 have h:=x4y (k:=1) (pt:=x0l 8) (tt:=x2p) (te:=z9l 3 (x01 (x0g x0d 3 (x01 (x04 0) (x01 (e2 x2w (e2 x2w (x04 1) (eC (.int 2))) (x04 8)) (x01 (x1c 3) (x0c))))) (x0c))) (deep:=false) (x1a n)
  (fun k=>[some (scr ns,0),some (.int t,9),some (x46 n B,q),some (.lst (x0f (x40 (pk ns t) n k)),1),none,none,none,none]) (fun _=>true) (fun k=>.int (Int.ofNat (drawn (pk ns t) n k))) (fun k hk=>?_)
 ·rw[x15]at h
  have hl:x40 (pk ns t) n n=[]:=List.length_eq_zero_iff.mp (by rw[x8a hp n (Nat.le_refl n)]; omega)
  rw[hl]at h
  have e1:(List.range n).filter (fun _=>true)=List.range n:=by simp
  rw[e1]at h
  simp only[x0f,List.map_map,Function.comp_def]
  exact h
 ·rw[x15]at hk
  have hl:=x8a hp k (Nat.le_of_lt hk)
  have hlp:0<(x40 (pk ns t) n k).length:=by rw[hl]; omega
  have e:=j5n ns t k _ hlp
  have hj:=z8j ns t k _ hlp
  have hpk:=x82 ns (t+2+Int.ofNat k) (Int.ofNat (x40 (pk ns t) n k).length) (by show 0<=t+2+(k:Int); omega) (by show(0:Int)<((x40 (pk ns t) n k).length:Int); omega)
  have hs:seqIndex? (Int.ofNat (pk ns t k (x40 (pk ns t) n k).length)) (x0f (x40 (pk ns t) n k)).length=some (pk ns t k (x40 (pk ns t) n k).length):=(y6e (x9v (by rw[x1o]; exact hj))).1
  have hg:(x0f (x40 (pk ns t) n k))[pk ns t k (x40 (pk ns t) n k).length]? = some (.int (Int.ofNat (drawn (pk ns t) n k))):=by
   rw[y8g]
   unfold drawn
   rw[List.getD_eq_getElem?_getD,List.getElem?_eq_getElem hj]
   rfl
  have hb:pk ns t k (x40 (pk ns t) n k).length<=16:=by omega
  have he:(x0f (x40 (pk ns t) n k)).eraseIdx (pk ns t k (x40 (pk ns t) n k).length)=x0f (x40 (pk ns t) n (k+1)):=by rw[x40,y3h]
  refine⟨[some (scr ns,0),some (.int t,9),some (x46 n B,q),some (.lst (x0f (x40 (pk ns t) n k)),1),none,none,none,none,some (.int (Int.ofNat k),9)],_,by simp[x1a],rfl,?_⟩
  rw[if_pos rfl]
  refine⟨9,[some (scr ns,0),some (.int t,9),some (x46 n B,q),some (.lst (x0f (x40 (pk ns t) n (k+1))),1),none,none,none,none,some (.int (Int.ofNat k),9)],?_,by simp,by simp⟩
  have b1:(-1000:Int)<=Int.ofNat (pk ns t k (x40 (pk ns t) n k).length):=by show(-1000:Int)<=(pk ns t k (x40 (pk ns t) n k).length:Int); omega
  have b2:Int.ofNat (pk ns t k (x40 (pk ns t) n k).length)<=1000:=by show(pk ns t k (x40 (pk ns t) n k).length:Int)<=1000; omega
  have hl':y0t (.lst (x0f (x40 (pk ns t) n k)))=some (x40 (pk ns t) n k).length:=by simp[y0t,x1o]
  rw[e]at hpk
  simp[-Int.ofNat_eq_natCast,hl',hpk,hs,hg,he,b1,b2]
theorem z6u (hn:n<=16) (x:Option (D × Nat)):x6r 1 (x0l 8) x2p (y15 (x4x (x01 (eC (.int 0)) (x0c))) (x1c 2)) true ((List.range n).map fun i=>x8j n B i)
  [some (scr ns,0),some (.int t,9),some (x46 n B,0),some (.lst [],1),x,none,none,none] =
  some ((List.range n).map fun i=>x8j n (fun _ _=>0) i,[some (scr ns,0),some (.int t,9),some (x46 n B,0),some (.lst [],1),x,none,none,none]):=by
 have h:=x4y (k:=1) (pt:=x0l 8) (tt:=x2p) (te:=y15 (x4x (x01 (eC (.int 0)) (x0c))) (x1c 2)) (deep:=true) ((List.range n).map fun i=>x8j n B i)
  (fun _=>[some (scr ns,0),some (.int t,9),some (x46 n B,0),some (.lst [],1),x,none,none,none]) (fun _=>true) (fun i=>x8j n (fun _ _=>0) i) (fun k hk=>?_)
 ·rw[List.length_map,List.length_range,show(List.range n).filter (fun _=>true)=List.range n by simp]at h
  exact h
 ·refine⟨[some (scr ns,0),some (.int t,9),some (x46 n B,0),some (.lst [],1),x,none,none,none,some (x8j n B k,0)],_,by simp[x8j],rfl,?_⟩
  rw[if_pos rfl]
  refine⟨1,[some (scr ns,0),some (.int t,9),some (x46 n B,0),some (.lst [],1),x,none,none,none,some (x8j n B k,0)],?_,by simp,by simp⟩
  have z:x8j n (fun _ _=>0) k=D.lst (List.replicate n [D.int 0]).flatten:=(j51 n).symm
  have b1:(-1000:Int)<=n:=by omega
  have b2:(n:Int)<=1000:=by omega
  have b3:n<=1000:=by omega
  rw[z]
  simp[x8y,b1,b2,b3]
noncomputable def gst (π ι:Nat->Nat) (i j a b:Nat):Nat:=if ι a<i\/(ι a=i/\ι b<j)then π (B (ι a) (ι b))else 0
noncomputable abbrev y72:x19:=y92 5 (qIx 4 (y9q 6)) (qIx 4 (y9q 7)) (x1i 4 (eIx (x1i 2 (x04 6)) (x04 7)))
section
variable {n B} {π ι:Nat->Nat} (cl:∀ i j,i<n->j<n->B i j<n) (h1:∀ i,i<n->π i<n) (h2:∀ i,i<n->ι i<n) (h3:∀ i,i<n->ι (π i)=i) (h4:∀ i,i<n->π (ι i)=i)
include cl h1 h2 h3 h4
theorem y9x {f:Nat->Nat->Nat} {i j:Nat} (hi:i<n) (hj:j<n) {y:Option (D × Nat)} :
  y72 [some (scr ns,0),some (.int t,9),some (x46 n B,0),some (.lst [],1),some (.lst (x0f ((List.range n).map π)),1),some (x46 n f,2),some (.int (Int.ofNat i),9),some (.int (Int.ofNat j),9)] =
  some (.nx [some (scr ns,0),some (.int t,9),some (x46 n B,0),some (.lst [],1),some (.lst (x0f ((List.range n).map π)),1),some (x46 n (fun a b=>if a=π i/\b=π j then π (B i j)else f a b),2),some (.int (Int.ofNat i),9),some (.int (Int.ofNat j),9)]):=by
 have a1:=z7p (f:=B) hi
 have a2:=z8o (f:=B) (i:=i) hj
 have a3:atD (.lst (x0f ((List.range n).map π))) (Int.ofNat (B i j))=some (.int (Int.ofNat (π (B i j)))):=x2x (cl i j hi hj)
 have a4:atD (.lst (x0f ((List.range n).map π))) (Int.ofNat i)=some (.int (Int.ofNat (π i))):=x2x hi
 have a5:atD (.lst (x0f ((List.range n).map π))) (Int.ofNat j)=some (.int (Int.ofNat (π j))):=x2x hj
 have a6:ixN ((List.range n).map fun a=>x8j n f a).length (Int.ofNat (π i))=some (π i):=x9v (by simpa using h1 i hi)
 have a7:((List.range n).map fun a=>x8j n f a)[π i]? = some (.lst (x0f ((List.range n).map fun b=>f (π i) b))):=by rw[List.getElem?_map,List.getElem?_range (h1 i hi)]; rfl
 have a8:ixN (x0f ((List.range n).map fun b=>f (π i) b)).length (Int.ofNat (π j))=some (π j):=x9v (by simpa [x1o]using h1 j hj)
 have a9:=z4b (n:=n) (f:=f) (a:=π i) (b:=π j) (v:=π (B i j))
 rw[<- a9]
 show y72 [some (scr ns,0),some (.int t,9),some (x46 n B,0),some (.lst [],1),some (.lst (x0f ((List.range n).map π)),1),some (.lst ((List.range n).map fun a=>x8j n f a),2),some (.int (Int.ofNat i),9),some (.int (Int.ofNat j),9)]=_
 unfold y72
 simp only[y92,x1i,eIx,x04,qIx,y9q,List.getElem?_cons_succ,List.getElem?_cons_zero,D.isL,if_true,a1,a2,a3,a4,a5,a6,a7,a8,ne_eq,not_true_eq_false,false_and,and_false,if_false,Bool.false_eq_true,reduceCtorEq,Nat.not_lt_zero,Nat.lt_irrefl,y36,List.set_cons_succ,List.set_cons_zero]
noncomputable abbrev y8f (f:Nat->Nat->Nat) (x y:Option (D × Nat)):Rho:=[some (scr ns,0),some (.int t,9),some (x46 n B,0),some (.lst [],1),some (.lst (x0f ((List.range n).map π)),1),some (x46 n f,2),x,y]
omit cl h1 h2 h3 h4
theorem x5i {i:Nat} (h:i<(x1a n).length):(x1a n)[i]=.int (Int.ofNat i):=by simp[x1a]
include cl h1 h2 h3 h4
theorem z47 {i j:Nat} (hi:i<n) (hj:j<n):x46 n (fun a b=>if a=π i/\b=π j then π (B i j)else gst B π ι i j a b)=x46 n (gst B π ι i (j+1)):=by
 refine x77 fun a b ha hb=>?_
 unfold gst
 by_cases h:a=π i/\b=π j
 ·obtain⟨rfl,rfl⟩:=h
  rw[if_pos ⟨rfl,rfl⟩,h3 i hi,h3 j hj,if_pos (.inr ⟨rfl,Nat.lt_succ_self _⟩)]
 ·rw[if_neg h]
  have:¬ (ι a=i/\ι b=j):=fun⟨e1,e2⟩=>h ⟨by rw[<- e1,h4 a ha],by rw[<- e2,h4 b hb]⟩
  by_cases c:ι a<i\/ι a=i/\ι b<j
  ·rw[if_pos c,if_pos (by omega)]
  ·rw[if_neg c,if_neg (by omega)]
theorem z94 {i:Nat}:x46 n (gst B π ι i n)=x46 n (gst B π ι (i+1) 0):=by
 refine x77 fun a b ha hb=>?_
 have:=h2 b hb
 unfold gst
 by_cases c:ι a<i\/ι a=i/\ι b<n
 ·rw[if_pos c,if_pos (by omega)]
 ·rw[if_neg c,if_neg (by omega)]
theorem z35 (hn:n<=16) {i:Nat} (hi:i<n) (y:Option (D × Nat)):∃ y',y12 (x0l 7) y72 (x1a n) (y8f ns t (n:=n) (B:=B) (π:=π) (gst B π ι i 0) (some (.int (Int.ofNat i),9)) y) =
  some (.nx (y8f ns t (n:=n) (B:=B) (π:=π) (gst B π ι (i+1) 0) (some (.int (Int.ofNat i),9)) y')):=by
 obtain⟨ρ',e,y',rfl⟩:=x4f (pt:=x0l 7) (body:=y72) (x1a n) (fun j ρ=>∃ y,ρ=y8f ns t (n:=n) (B:=B) (π:=π) (gst B π ι i j) (some (.int (Int.ofNat i),9)) y) (y8f ns t (n:=n) (B:=B) (π:=π) (gst B π ι i 0) (some (.int (Int.ofNat i),9)) y) (fun j hj ρ hh0=>by
  obtain⟨y,hy⟩:=hh0
  subst hy
  rw[x15]at hj
  refine⟨y8f ns t (n:=n) (B:=B) (π:=π) (gst B π ι i j) (some (.int (Int.ofNat i),9)) (some (.int (Int.ofNat j),9)),_,by rw[x5i]; simp,.inl (y9x ns t cl h1 h2 h3 h4 hi hj (y:=none)),?_⟩
  rw[z47 cl h1 h2 h3 h4 hi hj]
  exact⟨_,rfl⟩) ⟨y,rfl⟩
 refine⟨y',?_⟩
 rw[e,x15]
 show some (Out.nx [_,_,_,_,_,some (x46 n (gst B π ι i n),2),_,_])=_
 rw[z94 cl h1 h2 h3 h4]
theorem z3b (hn:n<=16) (x y:Option (D × Nat)):∃ x' y',y12 (x0l 6) (x7a (x14 (x01 (x1c 2) x0c)) (x0l 7) y72) (x1a n) (y8f ns t (n:=n) (B:=B) (π:=π) (fun _ _=>0) x y) =
  some (.nx (y8f ns t (n:=n) (B:=B) (π:=π) (fun a b=>π (B (ι a) (ι b))) x' y')):=by
 have z:x46 n (fun _ _=>0)=x46 n (gst B π ι 0 0):=x77 fun a b _ _=>by unfold gst; rw[if_neg (by omega)]
 have z':x46 n (gst B π ι n 0)=x46 n (fun a b=>π (B (ι a) (ι b))):=x77 fun a b ha _=>by unfold gst; rw[if_pos (.inl (h2 a ha))]
 obtain⟨ρ',e,x',y',rfl⟩:=x4f (pt:=x0l 6) (body:=x7a (x14 (x01 (x1c 2) x0c)) (x0l 7) y72) (x1a n) (fun i ρ=>∃ x y,ρ=y8f ns t (n:=n) (B:=B) (π:=π) (gst B π ι i 0) x y) (y8f ns t (n:=n) (B:=B) (π:=π) (gst B π ι 0 0) x y) (fun i hi ρ hh0=>by
  obtain⟨x,y,hy⟩:=hh0
  subst hy
  rw[x15]at hi
  obtain⟨y',hy'⟩:=z35 ns t cl h1 h2 h3 h4 hn hi y
  refine⟨y8f ns t (n:=n) (B:=B) (π:=π) (gst B π ι i 0) (some (.int (Int.ofNat i),9)) y,_,by rw[x5i]; simp,.inl (show _=some (Out.nx (y8f ns t (n:=n) (B:=B) (π:=π) (gst B π ι (i+1) 0) (some (.int (Int.ofNat i),9)) y'))from ?_),⟨_,_,rfl⟩⟩
  have b1:(-1000:Int)<=Int.ofNat n:=by show(-1000:Int)<=n; omega
  have b2:Int.ofNat n<=1000:=by show(n:Int)<=1000; omega
  have e:x14 (x01 (x1c 2) x0c) (y8f ns t (n:=n) (B:=B) (π:=π) (gst B π ι i 0) (some (.int (Int.ofNat i),9)) y)=some (x1a n,y8f ns t (n:=n) (B:=B) (π:=π) (gst B π ι i 0) (some (.int (Int.ofNat i),9)) y):=by
   simp[-Int.ofNat_eq_natCast,x8y,b1,b2]
   rfl
  unfold x7a
  rw[e]
  exact hy') ⟨x,y,rfl⟩
 refine⟨x',y',?_⟩
 show y12 _ _ _ [_,_,_,_,_,some (x46 n (fun _ _=>0),2),_,_]=some (.nx [_,_,_,_,_,some (x46 n (fun a b=>π (B (ι a) (ι b))),2),_,_])
 rw[z,<- z']
 rw[x15]at e
 exact e
end
end
theorem z3i {n:Nat} {f:Nat->Nat->Nat} {a b c d e:Option (D × Nat)} {x y:Option (D × Nat)}:x6r 1 (x0l 8) x2p (x2m (x01 (x04 8) x0c)) false ((List.range n).map fun i=>x8j n f i) [a,b,c,d,e,some (x46 n f,0),x,y] =
  some ((List.range n).map fun i=>y8v n f i,[a,b,c,d,e,some (x46 n f,0),x,y]):=by
 have h:=x4y (k:=1) (pt:=x0l 8) (tt:=x2p) (te:=x2m (x01 (x04 8) x0c)) (deep:=false) ((List.range n).map fun i=>x8j n f i)
  (fun _=>[a,b,c,d,e,some (x46 n f,0),x,y]) (fun _=>true) (fun i=>y8v n f i) (fun k hk=>?_)
 ·rw[List.length_map,List.length_range,show(List.range n).filter (fun _=>true)=List.range n by simp]at h
  exact h
 ·refine⟨[a,b,c,d,e,some (x46 n f,0),x,y,some (x8j n f k,0)],_,by simp[x8j],rfl,?_⟩
  rw[if_pos rfl]
  exact⟨9,[a,b,c,d,e,some (x46 n f,0),x,y,some (x8j n f k,0)],by simp[x8j,y8v],by simp,by simp⟩
theorem x4s {n:Nat} (hn:n<=1000) {i:Nat} {ρ:Rho} {d:D} {q:Nat} (h:ρ[i]? = some (some (d,q))) (hl:y0t d=some n):x14 (x01 (x1c i) x0c) ρ=some (x1a n,ρ):=by
 have b1:(-1000:Int)<=Int.ofNat n:=by show(-1000:Int)<=n; omega
 have b2:Int.ofNat n<=1000:=by show(n:Int)<=1000; omega
 simp only[x14,x01,x1c,x0c,h,hl]
 rw[if_pos ⟨b1,b2⟩]
 rfl
theorem j0a (ns:List Int) (t:Int) (h0:0<=t):∃ n f,Lad n f/\x41 [scr ns,.int t]=some (x0v n f,9):=by
 obtain⟨rows,hm,q,hb⟩:=z7g ns t h0
 have L:=z8h (z3h rows hm)
 unfold x3v at hb
 revert hb L
 generalize rows.length=n
 generalize tf rows=B
 intro hb L
 have hp:=z8j ns t
 have hn:n<=1000:=Nat.le_trans L.hi (by decide)
 refine⟨n,fun a b=>drawn (pk ns t) n (B (x3z (pk ns t) n a) (x3z (pk ns t) n b)),L.ren (fun i hi=>y8o hp hi) (fun i hi=>y37 hp hi) (fun i hi=>x8e hp hi) (fun i hi=>x90 hp hi),?_⟩
 unfold x41 x97
 refine x29 ?_
 have s0:x8h 8 [scr ns,.int t]=[some (scr ns,0),some (.int t,9),none,none,none,none,none,none]:=rfl
 rw[s0]
 refine(x0e (ρ1:=[some (scr ns,0),some (.int t,9),some (x46 n B,q),none,none,none,none,none]) ?_).trans ?_
 ·simp[hb]
 refine(x0e (ρ1:=[some (scr ns,0),some (.int t,9),some (x46 n B,q),some (.lst (x1a n),1),none,none,none,none]) ?_).trans ?_
 ·exact x17 (y56 (x4s hn rfl x8y)) rfl
 refine(x0e (ρ1:=[some (scr ns,0),some (.int t,9),some (x46 n B,q),some (.lst [],1),some (.lst (x0f ((List.range n).map (drawn (pk ns t) n))),1),none,none,none]) ?_).trans ?_
 ·exact x17 (x24 (x4s hn rfl x8y) (z3t ns t n B q h0 L.hi)) rfl
 refine(x0e (ρ1:=[some (scr ns,0),some (.int t,9),some (x46 n B,0),some (.lst [],1),some (.lst (x0f ((List.range n).map (drawn (pk ns t) n))),1),some (x46 n (fun _ _=>0),2),none,none]) ?_).trans ?_
 ·have e:x5t (x04 2) [some (scr ns,0),some (.int t,9),some (x46 n B,q),some (.lst [],1),some (.lst (x0f ((List.range n).map (drawn (pk ns t) n))),1),none,none,none]=some ((List.range n).map fun i=>x8j n B i,[some (scr ns,0),some (.int t,9),some (x46 n B,0),some (.lst [],1),some (.lst (x0f ((List.range n).map (drawn (pk ns t) n))),1),none,none,none]):=by
   by_cases hq:q=0
   ·subst hq; simp[x46,hn]
   ·simp[x46,hn,hq]
  exact x17 (x24 e (z6u ns t n B L.hi _)) rfl
 obtain⟨x',y',hf⟩:=z3b ns t (n:=n) (B:=B) (π:=drawn (pk ns t) n) (ι:=x3z (pk ns t) n) L.cl (fun i hi=>y8o hp hi) (fun i hi=>y37 hp hi) (fun i hi=>x8e hp hi) (fun i hi=>x90 hp hi) L.hi none none
 refine(x0e ((x3l (x4s hn rfl x8y)).trans hf)).trans ?_
 refine x1y (ρ1:=[some (scr ns,0),some (.int t,9),some (x46 n B,0),some (.lst [],1),some (.lst (x0f ((List.range n).map (drawn (pk ns t) n))),1),some (x46 n (fun a b=>drawn (pk ns t) n (B (x3z (pk ns t) n a) (x3z (pk ns t) n b))),0),x',y']) ?_
 have e:x5t (x04 5) (y8f ns t (n:=n) (B:=B) (π:=drawn (pk ns t) n) (fun a b=>drawn (pk ns t) n (B (x3z (pk ns t) n a) (x3z (pk ns t) n b))) x' y')=some ((List.range n).map fun i=>x8j n (fun a b=>drawn (pk ns t) n (B (x3z (pk ns t) n a) (x3z (pk ns t) n b))) i,[some (scr ns,0),some (.int t,9),some (x46 n B,0),some (.lst [],1),some (.lst (x0f ((List.range n).map (drawn (pk ns t) n))),1),some (x46 n (fun a b=>drawn (pk ns t) n (B (x3z (pk ns t) n a) (x3z (pk ns t) n b))),0),x',y']):=by
  simp[x46,hn]
 have e2:=x24 (k:=1) (pt:=x0l 8) (tt:=x2p) (te:=x2m (x01 (x04 8) x0c)) (deep:=false) e z3i
 exact x1x (x0r e2)
section
variable {n:Nat} {f:Nat->Nat->Nat}
theorem y6t {x w:Nat} (hx:x<n) (hw:w<n):x4j [x0v n f,.int (Int.ofNat x),.int (Int.ofNat w)]=some (.bl (decide (f x w=w)),9):=by
 unfold x4j y2r
 simp[-Int.ofNat_eq_natCast,x7t hx,x9n hw,y79]
end
section
variable {n:Nat} {f:Nat->Nat->Nat}
theorem z4q (hn:n<=1000) {w:Nat} (hw:w<n):x2r [x0v n f,.int (Int.ofNat w)]=some (.lst (x0f ((List.range n).filter fun x=>decide (f x w=w))),1):=by
 unfold x2r y0l
 refine x29 (x1y (x24 (deep:=false) (ρ2:=[some (x0v n f,9),some (.int (Int.ofNat w),9)]) (x4s hn rfl x2u) ?_))
 refine z1s (i:=2) (ρ:=[some (x0v n f,9),some (.int (Int.ofNat w),9)]) (deep:=false) rfl (fun x=>decide (f x w=w)) (fun x=>.int (Int.ofNat x)) (fun _=>9) (fun j hj=>?_) (fun j hj _=>?_)
 ·simp[-Int.ofNat_eq_natCast,x7t hj,x9n hw,y79]
 ·simp[-Int.ofNat_eq_natCast]
variable (L:Lad n f) {z:Nat} (hz:z<n) (bz:∀ j,j<n->f z j=j)
include L hz bz
theorem j1b {w:Nat} (hw:w<n):decide ((List.range n).map (fun j=>f w j)=List.range n)=decide (w=z):=by
 rw[decide_eq_decide,y4x]
 exact⟨fun h=>L.bot_uniq hz bz hw h,fun h=>by subst h; exact bz⟩
theorem y8j (hn:n<=1000):x1d [x0v n f]=some (.int (Int.ofNat z),9):=by
 unfold x1d y32
 refine x29 (x1y (ρ1:=[some (x0v n f,9)]) ?_)
 have hc:x3f 1 (x14 (x01 (x1c 0) (x0c))) (x0l 1) (x2g (e2 dEq (x9m (x01 (x1i 0 (x04 1)) (x0c))) (y0d (x01 (x1c 0) (x0c))))) (x04 1) false (x8h 1 [x0v n f])=some (.lst (x0f [z]),1,[some (x0v n f,9)]):=by
  refine(x24 (deep:=false) (ρ2:=[some (x0v n f,9)]) (x4s hn rfl x2u) (z1s rfl (fun x=>decide (x=z)) (fun x=>.int (Int.ofNat x)) (fun _=>9) (fun j hj=>?_) (fun j hj _=>?_))).trans ?_
  ·have e1:x9m (x01 (x1i 0 (x04 1)) x0c) ([some (x0v n f,9)]++[some (.int (Int.ofNat j),9)])=some (.lst (x0f ((List.range n).map fun k=>f j k)),1,[some (x0v n f,9),some (.int (Int.ofNat j),9)]):=by
    simp[-Int.ofNat_eq_natCast,x7t hj,y8v]
   have e2':y0d (x01 (x1c 0) x0c) [some (x0v n f,9),some (.int (Int.ofNat j),9)]=some (.lst (x0f (List.range n)),1,[some (x0v n f,9),some (.int (Int.ofNat j),9)]):=y56 (x4s hn rfl x2u)
   unfold x2g e2
   rw[e1]
   simp only[e2',j2d,j1b L hz bz hj]
   rfl
  ·simp[-Int.ofNat_eq_natCast]
  ·rw[y3a,if_pos hz]
   rfl
 unfold eIx
 rw[hc]
 simp[-Int.ofNat_eq_natCast,atD,x0f,L2.atI,ixN]
theorem z76 (hn:n<=1000) {l:List Nat} (hl:l.length<=1000) (hm:∀ x∈l,x<n):x3r [x0v n f,.lst (x0f l)]=some (.int (Int.ofNat (l.foldl f z)),9):=by
 unfold x3r y1w
 refine x29 ?_
 refine(x0e (ρ1:=[some (x0v n f,9),some (.lst (x0f l),0),some (.int (Int.ofNat z),9),none]) ?_).trans ?_
 ·simp[-Int.ofNat_eq_natCast,y8j L hz bz hn]
 obtain⟨ρ',e,y,rfl⟩:=x4f (pt:=x0l 3) (body:=x1m 2 (eIx (x1i 0 (x04 2)) (x04 3))) (x0f l) (fun i ρ=>∃ y,ρ=[some (x0v n f,9),some (.lst (x0f l),0),some (.int (Int.ofNat ((l.take i).foldl f z)),9),y]) [some (x0v n f,9),some (.lst (x0f l),0),some (.int (Int.ofNat z),9),none] (fun i hi ρ hh0=>by
  obtain⟨y,hy⟩:=hh0
  subst hy
  have hi':i<l.length:=by rw[x1o]at hi; exact hi
  have hg:(x0f l)[i]=.int (Int.ofNat l[i]):=by simp[x0f]
  have hx:l[i]<n:=hm _ (List.getElem_mem hi')
  have ha:(l.take i).foldl f z<n:=L.fold_lt hz fun x m=>hm x (List.mem_of_mem_take m)
  refine⟨[some (x0v n f,9),some (.lst (x0f l),0),some (.int (Int.ofNat ((l.take i).foldl f z)),9),some (.int (Int.ofNat l[i]),9)],[some (x0v n f,9),some (.lst (x0f l),0),some (.int (Int.ofNat ((l.take (i+1)).foldl f z)),9),some (.int (Int.ofNat l[i]),9)],?_,.inl ?_,⟨_,rfl⟩⟩
  ·rw[hg]; simp
  ·rw[List.take_succ_eq_append_getElem hi',List.foldl_append]
   simp[-Int.ofNat_eq_natCast,x7t ha,x9n hx]) ⟨none,rfl⟩
 rw[x1o,List.take_length]at e
 refine(x0e ((x3l (ds:=x0f l) (ρ1:=[some (x0v n f,9),some (.lst (x0f l),0),some (.int (Int.ofNat z),9),none]) ?_).trans e)).trans ?_
 ·simp[x1o,hl]
 ·simp[-Int.ofNat_eq_natCast]
end
section
variable {n:Nat} {f:Nat->Nat->Nat}
variable (L:Lad n f) {z:Nat} (hz:z<n) (bz:∀ j,j<n->f z j=j)
include L hz bz
theorem y7m (hn:n<=1000):x36 [x0v n f]=some (.int (Int.ofNat z),9):=by
 have b1:(-1000:Int)<=Int.ofNat n:=by show(-1000:Int)<=n; omega
 have b2:Int.ofNat n<=1000:=by show(n:Int)<=1000; omega
 have hr:x3o [.int (Int.ofNat n)]=some (.tup (x0f (List.range n)),9):=by
  unfold x3o x7j
  simp[-Int.ofNat_eq_natCast,b1,b2]
  rfl
 have hi:j45 (.tup (x0f (List.range n))) ((List.range n).map fun i=>y8v n f i)=some z:=by
  unfold j45
  rw[y8i,List.map_map]
  have ev:∀ i,i<n->PyData.eqv (toP (y8v n f i)) (toP (.tup (x0f (List.range n))))=decide (i=z):=fun i hi=>(z82 _ _).trans (j1b L hz bz hi)
  refine x8o (x:=toP (y8v n f z)) ?_ ?_ ?_
  ·rw[List.getElem?_map,List.getElem?_range hz]; rfl
  ·rw[ev z hz]; simp
  ·intro i y hi hy
   have hi':i<n:=Nat.lt_trans hi hz
   rw[List.getElem?_map,List.getElem?_range hi']at hy
   cases hy
   refine(ev i hi').trans ?_
   simp; omega
 have h1:okD (.tup ((List.range n).map fun i=>y8v n f i))=true:=(z6o n f).ok
 have h2:okD (.tup (x0f (List.range n)))=true:=(z9p _).ok
 have hl:y0t (.tup ((List.range n).map fun i=>y8v n f i))=some n:=x2u (f:=f)
 unfold x36 y2w x0v
 simp[-Int.ofNat_eq_natCast,hr,hl,h1,h2,hi]
end
end My
namespace My
open PySem PySem.Spec PyProof.Rows L2 L3
end My
namespace My
open PySem PySem.Spec PyProof.Rows L2 L3
section
variable {n:Nat} {f:Nat->Nat->Nat}
theorem y4i (hn:n<=1000) {r s:Nat->Nat} (hr:∀ i,i<n->r i<n) (hs:∀ i,i<n->s i<n):x1q [x0v n f,x3j n r,x3j n s]=some (.bl ((List.range n).all fun i=>decide (f (r i) (s i)=s i)),9):=by
 unfold x1q y0c
 refine x29 (x1y (ρ1:=[some (x0v n f,9),some (x3j n r,9),some (x3j n s,9)]) ?_)
 have hz:z1e (x01 (x04 1) (x01 (x04 2) (x0c))) [some (x0v n f,9),some (x3j n r,9),some (x3j n s,9)]=some ((List.range n).map fun j=>.tup [.int (Int.ofNat (r j)),.int (Int.ofNat (s j))],[some (x0v n f,9),some (x3j n r,9),some (x3j n s,9)]):=by
  have:=z19 n r s
  simp[-Int.ofNat_eq_natCast,x3j,x1o,hn,this]
 have hc:=x24 (k:=2) (tt:=x2p) (te:=x0g x4j 3 (x01 (x04 0) (x01 (x04 3) (x01 (x04 4) (x0c))))) (deep:=false) hz (j50 (i:=3) rfl r s (fun _=>true) (fun j=>.bl (decide (f (r j) (s j)=s j))) (fun _=>9) (fun j hj=>rfl) (fun j hj _=>by
  simp[-Int.ofNat_eq_natCast,y6t (f:=f) (hr j hj) (hs j hj)]))
 rw[show(List.range n).filter (fun _=>true)=List.range n by simp]at hc
 refine j0i (x0r hc) ?_
 simp only[z48,y8a,Option.map_some]
 simp[List.all_map,Function.comp_def]
end
section
variable {n:Nat} {f:Nat->Nat->Nat}
variable (L:Lad n f) {z:Nat} (hz:z<n) (bz:∀ j,j<n->f z j=j)
include L hz bz
theorem y67 (ns:List Int) (t:Int) (h0:0<=t):∃ d:Nat->Nat,(∀ i,i<n->d i<n)/\x3b [scr ns,.int t,x0v n f]=some (x3j n (Lad.lr n f z d),9):=by
 have hn:n<=1000:=Nat.le_trans L.hi (by decide)
 have hnp:(0:Int)<Int.ofNat n:=by show(0:Int)<(n:Int); omega
 -- what is drawn for a worth
 have dr:∀ i,∃ v,v<n/\(i<n->∀ ρ:Rho,ρ[0]? = some (some (scr ns,0))->ρ[1]? = some (some (.int t,9))->ρ[2]? = some (some (x0v n f,9))->ρ[3]? = some (some (.int (Int.ofNat z),9))->ρ[5]? = some (some (.int (Int.ofNat i),9))->
   eIx (x4x (x01 (x04 3) (x01 (x04 5) (x01 (x0g x0d 3 (x01 (x04 0) (x01 (e2 x2w (x04 1) (x04 5)) (x01 (x1c 2) (x0c))))) (x0c))))) (x0g x0d 3 (x01 (x04 0) (x01 (e2 x2w (e2 x2w (x04 1) (eC (.int 8))) (x04 5)) (x01 (eC (.int 3)) (x0c))))) ρ=some (.int (Int.ofNat v),9,ρ)):=fun i=>by
  have e1:=x82 ns (t+Int.ofNat i) (Int.ofNat n) (by show 0<=t+(i:Int); omega) hnp
  have e2':=x82 ns (t+8+Int.ofNat i) 3 (by show 0<=t+8+(i:Int); omega) (by decide)
  have l1:=x6g ns (t+Int.ofNat i) hnp
  have l2:=x80 ns (t+Int.ofNat i) hnp
  have k1:=x6g ns (t+8+Int.ofNat i) (m:=3) (by decide)
  have k2:=x80 ns (t+8+Int.ofNat i) (m:=3) (by decide)
  generalize y0r ns (t+Int.ofNat i) (Int.ofNat n)=a at *
  generalize y0r ns (t+8+Int.ofNat i) 3=b at *
  obtain⟨a',rfl⟩:∃ a':Nat,a=Int.ofNat a':=⟨a.toNat,by show a=(a.toNat:Int); omega⟩
  have ha':a'<n:=by have:(a':Int)<(n:Int):=l2; omega
  by_cases hi:i<n
  ·have hb:b=0\/b=1\/b=2:=by omega
   rcases hb with rfl | rfl | rfl
   ·refine⟨z,hz,fun _ ρ h0 h1 h2 h3 h5=>?_⟩
    simp[-Int.ofNat_eq_natCast,h0,h1,h2,h3,h5,x2u,e1,e2',atD,L2.atI,ixN]
   ·refine⟨i,hi,fun _ ρ h0 h1 h2 h3 h5=>?_⟩
    simp[-Int.ofNat_eq_natCast,h0,h1,h2,h3,h5,x2u,e1,e2',atD,L2.atI,ixN]
   ·refine⟨a',ha',fun _ ρ h0 h1 h2 h3 h5=>?_⟩
    simp[-Int.ofNat_eq_natCast,h0,h1,h2,h3,h5,x2u,e1,e2',atD,L2.atI,ixN]
  ·exact⟨z,hz,fun h=>absurd h hi⟩
 obtain⟨d,hd⟩:∃ d:Nat->Nat,∀ i,d i<n/\(i<n->∀ ρ:Rho,ρ[0]? = some (some (scr ns,0))->ρ[1]? = some (some (.int t,9))->ρ[2]? = some (some (x0v n f,9))->ρ[3]? = some (some (.int (Int.ofNat z),9))->ρ[5]? = some (some (.int (Int.ofNat i),9))->
   eIx (x4x (x01 (x04 3) (x01 (x04 5) (x01 (x0g x0d 3 (x01 (x04 0) (x01 (e2 x2w (x04 1) (x04 5)) (x01 (x1c 2) (x0c))))) (x0c))))) (x0g x0d 3 (x01 (x04 0) (x01 (e2 x2w (e2 x2w (x04 1) (eC (.int 8))) (x04 5)) (x01 (eC (.int 3)) (x0c))))) ρ=some (.int (Int.ofNat (d i)),9,ρ)):=
  ⟨fun i=>(dr i).choose,fun i=>(dr i).choose_spec⟩
 refine⟨d,fun i _=>(hd i).1,?_⟩
 unfold x3b y1r
 refine x29 ?_
 have hs:x8h 7 [scr ns,.int t,x0v n f]=[some (scr ns,0),some (.int t,9),some (x0v n f,9),none,none,none,none]:=rfl
 rw[hs]
 refine(x0e (ρ1:=[some (scr ns,0),some (.int t,9),some (x0v n f,9),some (.int (Int.ofNat z),9),none,none,none]) ?_).trans ?_
 ·simp[-Int.ofNat_eq_natCast,y8j L hz bz hn]
 refine(x0e (ρ1:=[some (scr ns,0),some (.int t,9),some (x0v n f,9),some (.int (Int.ofNat z),9),some (.lst [],1),none,none]) ?_).trans ?_
 ·simp
 obtain⟨ρ',e,y,rfl⟩:=x4f (pt:=x0l 5) (body:=x2t (x93 4 (x01 (eIx (x4x (x01 (x04 3) (x01 (x04 5) (x01 (x0g x0d 3 (x01 (x04 0) (x01 (e2 x2w (x04 1) (x04 5)) (x01 (x1c 2) (x0c))))) (x0c))))) (x0g x0d 3 (x01 (x04 0) (x01 (e2 x2w (e2 x2w (x04 1) (eC (.int 8))) (x04 5)) (x01 (eC (.int 3)) (x0c)))))) (x0c)))) (x1a n)
  (fun i ρ=>∃ y,ρ=[some (scr ns,0),some (.int t,9),some (x0v n f,9),some (.int (Int.ofNat z),9),some (.lst (x0f ((List.range i).map d)),1),y,none])
  [some (scr ns,0),some (.int t,9),some (x0v n f,9),some (.int (Int.ofNat z),9),some (.lst [],1),none,none] (fun i hi ρ hh0=>by
   obtain⟨y,hy⟩:=hh0
   subst hy
   have hi':i<n:=by rw[x15]at hi; exact hi
   have hdi:=(hd i).2 hi' [some (scr ns,0),some (.int t,9),some (x0v n f,9),some (.int (Int.ofNat z),9),some (.lst (x0f ((List.range i).map d)),1),some (.int (Int.ofNat i),9),none] rfl rfl rfl rfl rfl
   refine⟨[some (scr ns,0),some (.int t,9),some (x0v n f,9),some (.int (Int.ofNat z),9),some (.lst (x0f ((List.range i).map d)),1),some (.int (Int.ofNat i),9),none],[some (scr ns,0),some (.int t,9),some (x0v n f,9),some (.int (Int.ofNat z),9),some (.lst (x0f ((List.range (i+1)).map d)),1),some (.int (Int.ofNat i),9),none],?_,.inl ?_,⟨_,rfl⟩⟩
   ·rw[show(x1a n)[i]=.int (Int.ofNat i)by simp[x1a]]; simp
   ·have ex:x0f ((List.range (i+1)).map d)=x0f ((List.range i).map d)++[.int (Int.ofNat (d i))]:=by rw[List.range_succ]; simp[x0f]
    have hl:(x0f ((List.range i).map d)).length<=1000:=by rw[x1o,List.length_map,List.length_range]; omega
    exact x7w rfl (x0r hdi) rfl hl (by rw[ex]; rfl)) ⟨none,rfl⟩
 rw[x15]at e
 refine(x0e ((x3l (x4s hn rfl x2u)).trans e)).trans ?_
 refine(x0e (ρ1:=[some (scr ns,0),some (.int t,9),some (x0v n f,9),some (.int (Int.ofNat z),9),some (.lst (x0f ((List.range n).map d)),1),y,some (.lst [],1)]) ?_).trans ?_
 ·simp
 have hdn:∀ i,i<n->d i<n:=fun i _=>(hd i).1
 obtain⟨ρ',e,y',rfl⟩:=x4f (pt:=x0l 5) (body:=x2t (x93 6 (x01 (x0g x3r 2 (x01 (x04 2) (x01 (x3f 1 (x5t (x0g x2r 2 (x01 (x04 2) (x01 (x04 5) (x0c))))) (x0l 7) (x2p) (x1i 4 (x04 7)) false) (x0c)))) (x0c)))) (x1a n)
  (fun i ρ=>∃ y,ρ=[some (scr ns,0),some (.int t,9),some (x0v n f,9),some (.int (Int.ofNat z),9),some (.lst (x0f ((List.range n).map d)),1),y,some (.lst (x0f ((List.range i).map (Lad.lr n f z d))),1)])
  [some (scr ns,0),some (.int t,9),some (x0v n f,9),some (.int (Int.ofNat z),9),some (.lst (x0f ((List.range n).map d)),1),y,some (.lst [],1)] (fun i hi ρ hh0=>by
   obtain⟨y,hy⟩:=hh0
   subst hy
   have hi':i<n:=by rw[x15]at hi; exact hi
   refine⟨[some (scr ns,0),some (.int t,9),some (x0v n f,9),some (.int (Int.ofNat z),9),some (.lst (x0f ((List.range n).map d)),1),some (.int (Int.ofNat i),9),some (.lst (x0f ((List.range i).map (Lad.lr n f z d))),1)],[some (scr ns,0),some (.int t,9),some (x0v n f,9),some (.int (Int.ofNat z),9),some (.lst (x0f ((List.range n).map d)),1),some (.int (Int.ofNat i),9),some (.lst (x0f ((List.range (i+1)).map (Lad.lr n f z d))),1)],?_,.inl ?_,⟨_,rfl⟩⟩
   ·rw[show(x1a n)[i]=.int (Int.ofNat i)by simp[x1a]]; simp
   ·have ex:x0f ((List.range (i+1)).map (Lad.lr n f z d))=x0f ((List.range i).map (Lad.lr n f z d))++[.int (Int.ofNat (Lad.lr n f z d i))]:=by rw[List.range_succ]; simp[x0f]
    have hl:(x0f ((List.range i).map (Lad.lr n f z d))).length<=1000:=by rw[x1o,List.length_map,List.length_range]; omega
    have hlow:(Lad.low n f i).length<=1000:=by
     have:=List.length_filter_le (fun y=>decide (f y i=i)) (List.range n)
     rw[List.length_range]at this
     exact Nat.le_trans this hn
    have hit:x5t (x0g x2r 2 (x01 (x04 2) (x01 (x04 5) (x0c)))) [some (scr ns,0),some (.int t,9),some (x0v n f,9),some (.int (Int.ofNat z),9),some (.lst (x0f ((List.range n).map d)),1),some (.int (Int.ofNat i),9),some (.lst (x0f ((List.range i).map (Lad.lr n f z d))),1)]=some (x0f (Lad.low n f i),[some (scr ns,0),some (.int t,9),some (x0v n f,9),some (.int (Int.ofNat z),9),some (.lst (x0f ((List.range n).map d)),1),some (.int (Int.ofNat i),9),some (.lst (x0f ((List.range i).map (Lad.lr n f z d))),1)]):=by
     have hb:x2r [x0v n f,.int (Int.ofNat i)]=some (.lst (x0f (Lad.low n f i)),1):=z4q hn hi'
     simp[-Int.ofNat_eq_natCast,hb,x1o,hlow]
    have hc:=x24 (k:=1) (te:=x1i 4 (x04 7)) (deep:=false) hit (j5d (i:=7) (Lad.low n f i) rfl (fun y=>.int (Int.ofNat (d y))) (fun _=>9) (fun y hy=>by
     have hyn:=(Lad.mem_low.mp hy).1
     have hat:atD (.lst (x0f ((List.range n).map d))) (Int.ofNat y)=some (.int (Int.ofNat (d y))):=x2x hyn
     simp[-Int.ofNat_eq_natCast,hat]))
    have hm:∀ y∈(Lad.low n f i).map d,y<n:=Lad.lr_mem L hz bz hdn
    have e':((Lad.low n f i).map fun y=>D.int (Int.ofNat (d y)))=x0f ((Lad.low n f i).map d):=by simp[x0f]
    rw[e']at hc
    have hj:x3r [x0v n f,.lst (x0f ((Lad.low n f i).map d))]=some (.int (Int.ofNat (Lad.lr n f z d i)),9):=z76 L hz bz hn (by rw[List.length_map]; exact hlow) hm
    have ha:=x0r (x0o (n:=2) (x0w (f:=x04 2) (q:=9) (d:=x0v n f) (ρ:=[some (scr ns,0),some (.int t,9),some (x0v n f,9),some (.int (Int.ofNat z),9),some (.lst (x0f ((List.range n).map d)),1),some (.int (Int.ofNat i),9),some (.lst (x0f ((List.range i).map (Lad.lr n f z d))),1)]) (ρ1:=[some (scr ns,0),some (.int t,9),some (x0v n f,9),some (.int (Int.ofNat z),9),some (.lst (x0f ((List.range n).map d)),1),some (.int (Int.ofNat i),9),some (.lst (x0f ((List.range i).map (Lad.lr n f z d))),1)]) rfl (x0r hc)) rfl hj)
    exact x7w rfl ha rfl hl (by rw[ex]; rfl)) ⟨y,rfl⟩
 rw[x15]at e
 refine(x0e ((x3l (x4s hn rfl x2u)).trans e)).trans ?_
 exact x1y (x1x (x0r (q:=0) (ρ1:=[some (scr ns,0),some (.int t,9),some (x0v n f,9),some (.int (Int.ofNat z),9),some (.lst (x0f ((List.range n).map d)),1),y',some (.lst (x0f ((List.range n).map (Lad.lr n f z d))),0)]) rfl))
end
noncomputable def x83 (n:Nat):D->Bool
 | .int i=>decide (0<=i) && decide (i<(n:Int))
 | _=>false
theorem x23 (d:D):x1r [d]=some (.bl (match d with | .int _=>true | _=>false),9):=by
 unfold x1r y2o
 cases d <;> simp[isD]
theorem x53 (n:Nat) (d:D):x16 [d,.int (Int.ofNat n)]=some (.bl (x83 n d),9):=by
 unfold x16 x7q
 cases d with
 | int i=>
  have h:=x23 (.int i)
  by_cases h0:0<=i
  ·by_cases h1:i<(n:Int)
   ·simp[h,x83,h0,h1]
   ·simp[h,x83,h0,h1]
  ·simp[h,x83,h0]
 | non=>simp[x23,x83]
 | bl b=>simp[x23,x83]
 | str x=>simp[x23,x83]
 | tup ds=>simp[x23,x83]
 | lst ds=>simp[x23,x83]
 | dic ks ds=>simp[x23,x83]
 | exc nm=>simp[x23,x83]
 | ob f fo vs ds=>simp[x23,x83]
section
variable {n:Nat} {f:Nat->Nat->Nat}
theorem z04 (hn:n<=1000) (v:Nat):x4z [x0v n f,.int (Int.ofNat v)]=some (x3j n fun _=>v,9):=by
 unfold x4z y8m
 have b1:(-1000:Int)<=n:=by omega
 have b2:(n:Int)<=1000:=by omega
 have e:(List.replicate n [D.int (Int.ofNat v)]).flatten=x0f ((List.range n).map fun _=>v):=by
  simp[x0f,List.flatten_replicate_singleton,List.map_const']
 have e':(List.replicate n [D.int (v:Int)]).flatten=x0f ((List.range n).map fun _=>v):=e
 simp[x2u,b1,b2,hn,x3j,e']
end
theorem z9y {i:Nat} {te:Den} {ρ:Rho} (ds:List D) (hi:ρ.length=i) (v:D->D) (q:D->Nat)
  (he:∀ d,d∈ds->te (ρ++[some (d,y36 d)])=some (v d,q d,ρ++[some (d,y36 d)])) :
  x6r 1 (x0l i) x2p te false ds ρ=some (ds.map v,ρ):=by
 have h:=x4y (k:=1) (pt:=x0l i) (tt:=x2p) (te:=te) (deep:=false) ds (fun _=>ρ) (fun _=>true) (fun j=>v (ds.getD j .non)) (fun j hj=>?_)
 ·rw[show(List.range ds.length).filter (fun _=>true)=List.range ds.length by simp]at h
  rw[h]
  have e:(List.range ds.length).map (fun j=>v (ds.getD j .non))=ds.map v:=by
   apply List.ext_getElem?
   intro k
   by_cases hk:k<ds.length
   ·simp[hk]
   ·rw[List.getElem?_eq_none (by simp; omega),List.getElem?_eq_none (by simp; omega)]
  rw[e]
 ·have hg:ds.getD j .non=ds[j]:=by simp[hj]
  refine⟨ρ++[some (ds[j],y36 ds[j])],_,?_,rfl,?_⟩
  ·unfold x0l
   rw[if_pos (by simp[hi])]
   subst hi
   simp[-y36,List.set_append]
  ·rw[if_pos rfl,hg]
   exact⟨q _,_,he _ (List.getElem_mem hj),by simp,by simp⟩
theorem z2z {i:Nat} {te:Den} {it:y2s} {ρ:Rho} {ds:List D} (hi:ρ.length=i) (hit:it ρ=some (ds,ρ)) (b:D->Bool) (q:D->Nat)
  (he:∀ d,d∈ds->te (ρ++[some (d,y36 d)])=some (.bl (b d),q d,ρ++[some (d,y36 d)])) :
  eB z48 (x01 (x3f 1 it (x0l i) x2p te false) x0c) ρ=some (.bl (ds.all b),9,ρ):=by
 refine j0i (x0r (x24 (deep:=false) hit (z9y ds hi (fun d=>.bl (b d)) q he))) ?_
 simp only[z48,y8a,Option.map_some]
 simp[List.all_map,Function.comp_def]
structure Cht where
 p:Nat
 W:List (Nat × Nat × (Nat->Nat))
 B:List (Nat × Nat)
noncomputable def y03 (n:Nat) (w:Nat × Nat × (Nat->Nat)):D:=.tup [.int (Int.ofNat w.1),.int (Int.ofNat w.2.1),x3j n w.2.2]
noncomputable def y64 (b:Nat × Nat):D:=.tup [.int (Int.ofNat b.1),.int (Int.ofNat b.2)]
noncomputable def x0h (n:Nat) (C:Cht):D:=.tup [.int (Int.ofNat C.p),.tup (C.W.map (y03 n)),.tup (C.B.map y64)]
noncomputable def okW (n:Nat) (f:Nat->Nat->Nat) (p:Nat) (w:Nat × Nat × (Nat->Nat)):Prop:=w.1<p/\w.2.1<p/\(∀ i,i<n->w.2.2 i<n)/\∀ x y,x<n->y<n->f x y=y->f (w.2.2 x) (w.2.2 y)=w.2.2 y
noncomputable def okB (n:Nat) (p:Nat) (b:Nat × Nat):Prop:=b.1<p/\b.2<n
structure Cht.Ok (n:Nat) (f:Nat->Nat->Nat) (C:Cht):Prop where
 p1:1<=C.p
 p8:C.p<=8
 w60:C.W.length<=60
 b60:C.B.length<=60
 ws:∀ w∈C.W,okW n f C.p w
 bs:∀ b∈C.B,okB n C.p b
@[simp] theorem z9n {n:Nat} {C:Cht}:(x0h n C).isL=false:=rfl
@[simp] theorem j43 {n:Nat} {w:Nat × Nat × (Nat->Nat)}:(y03 n w).isL=false:=rfl
@[simp] theorem j47 {b:Nat × Nat}:(y64 b).isL=false:=rfl
theorem x98 {m:Nat} (hm:m<=1000) {fe:Den} {ρ ρ':Rho} {q:Nat} (h:fe ρ=some (.int (Int.ofNat m),q,ρ')):x14 (x01 fe x0c) ρ=some (x1a m,ρ'):=by
 have b1:(-1000:Int)<=Int.ofNat m:=by show(-1000:Int)<=m; omega
 have b2:Int.ofNat m<=1000:=by show(m:Int)<=1000; omega
 simp only[x14,x01,x0c,h]
 rw[if_pos ⟨b1,b2⟩]
 rfl
noncomputable def x94 (b:Nat × Nat):ChS:=(b.1,fun _=>b.2)
noncomputable def y4p (w:Nat × Nat × (Nat->Nat)):ChS:=(w.2.1,fun v=>w.2.2 (gv v w.1))
noncomputable def x2q (C:Cht):List ChS:=C.B.map x94++C.W.map y4p
section
variable {n:Nat} {f:Nat->Nat->Nat} (L:Lad n f) {C:Cht} (hC:C.Ok n f)
include L hC
theorem x76:∀ s∈x2q C,OkS n C.p f s:=fun s hs=>by
 unfold x2q at hs
 rcases List.mem_append.mp hs with h | h
 ·obtain⟨b,hb,rfl⟩:=List.mem_map.mp h
  have k:=hC.bs b hb
  exact⟨k.1,fun _ _=>k.2,fun _ _ _ _ _=>L.idem _ k.2⟩
 ·obtain⟨w,hw,rfl⟩:=List.mem_map.mp h
  have k:=hC.ws w hw
  exact⟨k.2.1,fun v hv=>k.2.2.1 _ (hv.gv k.1),fun u v hu hv e=>k.2.2.2 _ _ (hu.gv k.1) (hv.gv k.1) (e _ k.1)⟩
theorem x99 {v:List Nat} (hv:Vn n C.p v):x2y [x0v n f,x0h n C,.tup (x0f v)]=some (.tup (x0f ((x2q C).foldl (doS f) v)),9):=by
 have hW:=hC.w60
 have hB:=hC.b60
 obtain⟨j1,e1,hv1⟩:=x9f (J:=(Option (D × Nat) × Option (D × Nat) × Option (D × Nat) × Option (D × Nat) × Option (D × Nat) × Option (D × Nat))) (pt:=y3d (x10 (x0l 3) (x10 (x0l 4) (x5s)))) (body:=x7o) y64 (fun v a=>[some (x0v n f,9),some (x0h n C,9),some (.lst (x0f v),1),(a).1,(a).2.1,(a).2.2.1,(a).2.2.2.1,(a).2.2.2.2.1,(a).2.2.2.2.2]) (fun v b=>doS f v (x94 b)) (Vn n C.p) C.B v (none,none,none,none,none,none) hv (fun b hb v a hv=>by
  have k:=hC.bs b hb
  have ok:=x76 L hC (x94 b) (List.mem_append_left _ (List.mem_map.mpr ⟨b,hb,rfl⟩))
  refine⟨L.doS_V ok hv,[some (x0v n f,9),some (x0h n C,9),some (.lst (x0f v),1),((some (D.int (Int.ofNat b.1),9),some (D.int (Int.ofNat b.2),9),a.2.2)).1,((some (D.int (Int.ofNat b.1),9),some (D.int (Int.ofNat b.2),9),a.2.2)).2.1,((some (D.int (Int.ofNat b.1),9),some (D.int (Int.ofNat b.2),9),a.2.2)).2.2.1,((some (D.int (Int.ofNat b.1),9),some (D.int (Int.ofNat b.2),9),a.2.2)).2.2.2.1,((some (D.int (Int.ofNat b.1),9),some (D.int (Int.ofNat b.2),9),a.2.2)).2.2.2.2.1,((some (D.int (Int.ofNat b.1),9),some (D.int (Int.ofNat b.2),9),a.2.2)).2.2.2.2.2],(some (D.int (Int.ofNat b.1),9),some (D.int (Int.ofNat b.2),9),a.2.2),by simp[-Int.ofNat_eq_natCast,y64],?_⟩
  have hl:b.1<v.length:=by rw[hv.len]; exact k.1
  have a1:=j59 hl
  have a2:=x7t (f:=f) (hv.gv k.1)
  have a3:=x9n (f:=f) (i:=gv v b.1) k.2
  have a4:ixN (x0f v).length (Int.ofNat b.1)=some b.1:=x9v (by rw[x1o]; exact hl)
  have a5:=y86 v b.1 (f (gv v b.1) b.2)
  unfold x7o doS x94
  simp[-Int.ofNat_eq_natCast,a1,a2,a3,a4,a5])
 obtain⟨j2,e2',hv2⟩:=x9f (J:=(Option (D × Nat) × Option (D × Nat) × Option (D × Nat) × Option (D × Nat) × Option (D × Nat) × Option (D × Nat))) (pt:=y3d (x10 (x0l 5) (x10 (x0l 6) (x10 (x0l 7) (x5s))))) (body:=x7r) (y03 n) (fun v a=>[some (x0v n f,9),some (x0h n C,9),some (.lst (x0f v),1),(a).1,(a).2.1,(a).2.2.1,(a).2.2.2.1,(a).2.2.2.2.1,(a).2.2.2.2.2]) (fun v w=>doS f v (y4p w)) (Vn n C.p) C.W (C.B.foldl (fun v b=>doS f v (x94 b)) v) j1 hv1 (fun w hw v a hv=>by
  have k:=hC.ws w hw
  have ok:=x76 L hC (y4p w) (List.mem_append_right _ (List.mem_map.mpr ⟨w,hw,rfl⟩))
  refine⟨L.doS_V ok hv,[some (x0v n f,9),some (x0h n C,9),some (.lst (x0f v),1),((a.1,a.2.1,some (D.int (Int.ofNat w.1),9),some (D.int (Int.ofNat w.2.1),9),some (x3j n w.2.2,9),a.2.2.2.2.2)).1,((a.1,a.2.1,some (D.int (Int.ofNat w.1),9),some (D.int (Int.ofNat w.2.1),9),some (x3j n w.2.2,9),a.2.2.2.2.2)).2.1,((a.1,a.2.1,some (D.int (Int.ofNat w.1),9),some (D.int (Int.ofNat w.2.1),9),some (x3j n w.2.2,9),a.2.2.2.2.2)).2.2.1,((a.1,a.2.1,some (D.int (Int.ofNat w.1),9),some (D.int (Int.ofNat w.2.1),9),some (x3j n w.2.2,9),a.2.2.2.2.2)).2.2.2.1,((a.1,a.2.1,some (D.int (Int.ofNat w.1),9),some (D.int (Int.ofNat w.2.1),9),some (x3j n w.2.2,9),a.2.2.2.2.2)).2.2.2.2.1,((a.1,a.2.1,some (D.int (Int.ofNat w.1),9),some (D.int (Int.ofNat w.2.1),9),some (x3j n w.2.2,9),a.2.2.2.2.2)).2.2.2.2.2],(a.1,a.2.1,some (D.int (Int.ofNat w.1),9),some (D.int (Int.ofNat w.2.1),9),some (x3j n w.2.2,9),some (D.int (Int.ofNat (w.2.2 (gv v w.1))),9)),by simp[-Int.ofNat_eq_natCast,y03],?_⟩
  have hl:w.2.1<v.length:=by rw[hv.len]; exact k.2.1
  have hl0:w.1<v.length:=by rw[hv.len]; exact k.1
  have a0:=j59 hl0
  have a1:=j59 hl
  have b0:=y7n (r:=w.2.2) (hv.gv k.1)
  have a2:=x7t (f:=f) (hv.gv k.2.1)
  have a3:=x9n (f:=f) (i:=gv v w.2.1) (k.2.2.1 _ (hv.gv k.1))
  have a4:ixN (x0f v).length (Int.ofNat w.2.1)=some w.2.1:=x9v (by rw[x1o]; exact hl)
  have a5:=y86 v w.2.1 (f (gv v w.2.1) (w.2.2 (gv v w.1)))
  unfold x7r doS y4p
  simp[-Int.ofNat_eq_natCast,a0,b0,a1,a2,a3,a4,a5])
 have ef:(x2q C).foldl (doS f) v=C.W.foldl (fun v w=>doS f v (y4p w)) (C.B.foldl (fun v b=>doS f v (x94 b)) v):=by
  unfold x2q
  rw[List.foldl_append,List.foldl_map,List.foldl_map]
 rw[ef]
 unfold x2y x8m
 refine x29 ?_
 show x0z _ _ [some (x0v n f,9),some (x0h n C,9),some (.tup (x0f v),9),none,none,none,none,none,none]=_
 refine(x0e (ρ1:=[some (x0v n f,9),some (x0h n C,9),some (.lst (x0f v),1),(((none,none,none,none,none,none):(Option (D × Nat) × Option (D × Nat) × Option (D × Nat) × Option (D × Nat) × Option (D × Nat) × Option (D × Nat)))).1,(((none,none,none,none,none,none):(Option (D × Nat) × Option (D × Nat) × Option (D × Nat) × Option (D × Nat) × Option (D × Nat) × Option (D × Nat)))).2.1,(((none,none,none,none,none,none):(Option (D × Nat) × Option (D × Nat) × Option (D × Nat) × Option (D × Nat) × Option (D × Nat) × Option (D × Nat)))).2.2.1,(((none,none,none,none,none,none):(Option (D × Nat) × Option (D × Nat) × Option (D × Nat) × Option (D × Nat) × Option (D × Nat) × Option (D × Nat)))).2.2.2.1,(((none,none,none,none,none,none):(Option (D × Nat) × Option (D × Nat) × Option (D × Nat) × Option (D × Nat) × Option (D × Nat) × Option (D × Nat)))).2.2.2.2.1,(((none,none,none,none,none,none):(Option (D × Nat) × Option (D × Nat) × Option (D × Nat) × Option (D × Nat) × Option (D × Nat) × Option (D × Nat)))).2.2.2.2.2]) (by simp)).trans ?_
 refine(x0e ((x3l (ds:=C.B.map y64) (ρ1:=[some (x0v n f,9),some (x0h n C,9),some (.lst (x0f v),1),(((none,none,none,none,none,none):(Option (D × Nat) × Option (D × Nat) × Option (D × Nat) × Option (D × Nat) × Option (D × Nat) × Option (D × Nat)))).1,(((none,none,none,none,none,none):(Option (D × Nat) × Option (D × Nat) × Option (D × Nat) × Option (D × Nat) × Option (D × Nat) × Option (D × Nat)))).2.1,(((none,none,none,none,none,none):(Option (D × Nat) × Option (D × Nat) × Option (D × Nat) × Option (D × Nat) × Option (D × Nat) × Option (D × Nat)))).2.2.1,(((none,none,none,none,none,none):(Option (D × Nat) × Option (D × Nat) × Option (D × Nat) × Option (D × Nat) × Option (D × Nat) × Option (D × Nat)))).2.2.2.1,(((none,none,none,none,none,none):(Option (D × Nat) × Option (D × Nat) × Option (D × Nat) × Option (D × Nat) × Option (D × Nat) × Option (D × Nat)))).2.2.2.2.1,(((none,none,none,none,none,none):(Option (D × Nat) × Option (D × Nat) × Option (D × Nat) × Option (D × Nat) × Option (D × Nat) × Option (D × Nat)))).2.2.2.2.2]) (by
  have h:atD (x0h n C) 2=some (.tup (C.B.map y64)):=rfl
  have hB':C.B.length<=1000:=by omega
  simp[h,hB'])).trans e1)).trans ?_
 refine(x0e ((x3l (ds:=C.W.map (y03 n)) (ρ1:=[some (x0v n f,9),some (x0h n C,9),some (.lst (x0f (C.B.foldl (fun v b=>doS f v (x94 b)) v)),1),(j1).1,(j1).2.1,(j1).2.2.1,(j1).2.2.2.1,(j1).2.2.2.2.1,(j1).2.2.2.2.2]) (by
  have h:atD (x0h n C) 1=some (.tup (C.W.map (y03 n))):=rfl
  have hW':C.W.length<=1000:=by omega
  simp[h,hW'])).trans e2')).trans ?_
 simp
end
section
variable {n:Nat} {f:Nat->Nat->Nat} (L:Lad n f) {C:Cht} (hC:C.Ok n f)
include L hC
structure Low (n:Nat) (f:Nat->Nat->Nat) (C:Cht) (v u:List Nat):Prop where
 V:Vn n C.p u
 cl:ClS f (x2q C) u
 up:leV f C.p v u
 le:∀ a,Vn n C.p a->ClS f (x2q C) a->leV f C.p v a->leV f C.p u a
theorem y3n {v:List Nat} (hv:Vn n C.p v):∃ u,Low n f C v u/\x25 [x0v n f,x0h n C,.tup (x0f v)]=some (.tup (x0f u),9):=by
 have hS:=x76 L hC
 have hp8:=hC.p8
 have hn8:=L.hi
 have hmu:=Lad.mu_le (f:=f) hv
 have hmu':C.p*n<=8*16:=Nat.mul_le_mul hp8 hn8
 obtain⟨ρ',e,u,hu,rfl⟩:=x4h (c:=x2g (e2 dNe (x04 3) (x04 2))) (b:=x7i) (Q:=fun ρ=>∃ u,Low n f C v u/\ρ=[some (x0v n f,9),some (x0h n C,9),some (.tup (x0f u),9),some (.tup (x0f u),9)])
  (fun k ρ=>∃ w,Vn n C.p w/\leV f C.p v w/\(∀ a,Vn n C.p a->ClS f (x2q C) a->leV f C.p v a->leV f C.p w a)/\Lad.mu n f w=k/\ρ=[some (x0v n f,9),some (x0h n C,9),some (.tup (x0f w),9),some (.tup (x0f ((x2q C).foldl (doS f) w)),9)])
  (k:=Lad.mu n f v) (ρ:=[some (x0v n f,9),some (x0h n C,9),some (.tup (x0f v),9),some (.tup (x0f ((x2q C).foldl (doS f) v)),9)]) (by omega) ⟨v,hv,L.leV_refl hv,fun a ha _ h=>h,rfl,rfl⟩ (fun k ρ hh0=>by
   obtain⟨w,hw,h1,h2,h3,hr⟩:=hh0
   subst hr
   have hw':=L.foldS_V hS hw
   by_cases e:(x2q C).foldl (doS f) w=w
   ·refine .inl ⟨[some (x0v n f,9),some (x0h n C,9),some (.tup (x0f w),9),some (.tup (x0f w),9)],?_,w,⟨hw,(L.foldS_fix hS hw).mp e,h1,h2⟩,rfl⟩
    rw[e]
    simp[y78]
   ·refine .inr ⟨[some (x0v n f,9),some (x0h n C,9),some (.tup (x0f w),9),some (.tup (x0f ((x2q C).foldl (doS f) w)),9)],[some (x0v n f,9),some (x0h n C,9),some (.tup (x0f ((x2q C).foldl (doS f) w)),9),some (.tup (x0f ((x2q C).foldl (doS f) ((x2q C).foldl (doS f) w))),9)],Lad.mu n f ((x2q C).foldl (doS f) w),?_,?_,?_,_,hw',L.leV_trans hv hw hw' h1 (L.foldS_up hS hw),fun a ha ca hva=>L.foldS_below ha hS hw ca (h2 a ha ca hva),rfl,rfl⟩
    ·simp[y78,e]
    ·have r:=x99 L hC hw'
     generalize (x2q C).foldl (doS f) w=w' at *
     unfold x7i
     simp[r]
    ·rw[<- h3]
     exact L.mu_lt hw hw' (L.foldS_up hS hw) (fun z=>e z.symm))
 refine⟨u,hu,?_⟩
 unfold x25 x87
 refine x29 ?_
 show x0z _ _ [some (x0v n f,9),some (x0h n C,9),some (.tup (x0f v),9),none]=_
 refine(x0e (ρ1:=[some (x0v n f,9),some (x0h n C,9),some (.tup (x0f v),9),some (.tup (x0f ((x2q C).foldl (doS f) v)),9)]) (by simp[x99 L hC hv])).trans ?_
 refine(x0e e).trans ?_
 simp
end
noncomputable abbrev Sn:=Bool × Nat
noncomputable def x0m (s:Sn):D:=.tup [.str (if s.1 then "begin" else "way"),.int (Int.ofNat s.2)]
@[simp] theorem z9x {s:Sn}:(x0m s).isL=false:=rfl
noncomputable def okN (C:Cht) (s:Sn):Prop:=s.2<(if s.1 then C.B.length else C.W.length)
noncomputable def x49 (C:Cht) (s:Sn):ChS:=if s.1 then x94 (C.B.getD s.2 (0,0))else y4p (C.W.getD s.2 (0,0,id))
noncomputable def z3f (C:Cht):List Sn:=(List.range C.B.length).map (fun k=>(true,k))++(List.range C.W.length).map (fun k=>(false,k))
theorem z7u (C:Cht):∀ s∈z3f C,okN C s:=fun s hs=>by
 unfold z3f at hs
 rcases List.mem_append.mp hs with h | h
 ·obtain⟨k,hk,rfl⟩:=List.mem_map.mp h
  exact List.mem_range.mp hk
 ·obtain⟨k,hk,rfl⟩:=List.mem_map.mp h
  exact List.mem_range.mp hk
theorem y7h {α β:Type} (l:List α) (d:α) (g:α->β):(List.range l.length).map (fun k=>g (l.getD k d))=l.map g:=by
 apply List.ext_getElem?
 intro k
 by_cases hk:k<l.length
 ·simp[hk]
 ·rw[List.getElem?_eq_none (by simp; omega),List.getElem?_eq_none (by simp; omega)]
theorem z3u (C:Cht):(z3f C).map (x49 C)=x2q C:=by
 unfold z3f x2q
 rw[List.map_append,List.map_map,List.map_map,<- y7h C.B (0,0) x94,<- y7h C.W (0,0,id) y4p]
 rfl
theorem y3x {C:Cht} {s:Sn} (h:okN C s):x49 C s∈x2q C:=by
 unfold okN at h
 unfold x49 x2q
 cases hb:s.1 with
 | true=>
  rw[hb]at h
  have h':s.2<C.B.length:=h
  refine List.mem_append_left _ (List.mem_map.mpr ⟨C.B.getD s.2 (0,0),?_,rfl⟩)
  rw[List.getD_eq_getElem?_getD,List.getElem?_eq_getElem h']
  exact List.getElem_mem h'
 | false=>
  rw[hb]at h
  have h':s.2<C.W.length:=h
  refine List.mem_append_right _ (List.mem_map.mpr ⟨C.W.getD s.2 (0,0,id),?_,rfl⟩)
  rw[List.getD_eq_getElem?_getD,List.getElem?_eq_getElem h']
  exact List.getElem_mem h'
theorem z32:dEq (.str "begin") (.str "begin")=some (.bl true):=by
 have h:okD (.str "begin")=true:=by decide +kernel
 unfold dEq
 rw[if_pos ⟨h,h⟩]
 rfl
theorem j1c:dEq (.str "way") (.str "begin")=some (.bl false):=by
 have h:okD (.str "begin")=true:=by decide +kernel
 have h':okD (.str "way")=true:=by decide +kernel
 have e:eqD (.str "way") (.str "begin")=false:=by decide +kernel
 unfold dEq
 rw[if_pos ⟨h',h⟩,e]
theorem j0r {v:List Nat} {p:Nat} (hp:p<v.length):L3.j1w (x0f v) none (some (Int.ofNat p))=x0f (v.take p):=by
 unfold L3.j1w
 have e1:HT.sIx (x0f v).length 0 none=0:=rfl
 have e2:HT.sIx (x0f v).length (x0f v).length (some (Int.ofNat p))=p:=by
  rw[x1o]
  have:¬ ((p:Int)<0):=by omega
  simp[HT.sIx,this]
  omega
 rw[e1,e2,List.drop_zero,Nat.sub_zero]
 simp only[x0f,List.map_take]
theorem z4h {v:List Nat} {p:Nat} (hp:p<v.length):L3.j1w (x0f v) (some (Int.ofNat p+1)) none=x0f (v.drop (p+1)):=by
 unfold L3.j1w
 have e1:HT.sIx (x0f v).length 0 (some (Int.ofNat p+1))=p+1:=by
  rw[x1o]
  have:¬ ((p:Int)+1<0):=by omega
  simp[HT.sIx,this]
  omega
 have e2:HT.sIx (x0f v).length (x0f v).length none=(x0f v).length:=rfl
 rw[e1,e2,List.take_of_length_le (by rw[List.length_drop]; exact Nat.le_refl _)]
 simp only[x0f,List.map_drop]
theorem z6v {v:List Nat} {p x:Nat} (hp:p<v.length):x0f (v.take p)++[.int (Int.ofNat x)]++x0f (v.drop (p+1))=x0f (v.set p x):=by
 rw[List.set_eq_take_append_cons_drop,if_pos hp]
 simp[x0f]
section
variable {n:Nat} {f:Nat->Nat->Nat} (L:Lad n f) {C:Cht} (hC:C.Ok n f)
include L hC
theorem z4s {v:List Nat} (hv:Vn n C.p v) {s:Sn} (hs:okN C s):x2i [x0h n C,.tup (x0f v),x0m s]=some (.tup [.int (Int.ofNat (x49 C s).1),.int (Int.ofNat ((x49 C s).2 v))],9):=by
 obtain⟨b,k⟩:=s
 unfold okN at hs
 unfold x2i x5u
 have c1:atD (x0h n C) 1=some (.tup (C.W.map (y03 n))):=rfl
 have c2:atD (x0h n C) 2=some (.tup (C.B.map y64)):=rfl
 cases b with
 | true=>
  have hk:k<C.B.length:=hs
  have s0:atD (x0m (true,k)) 0=some (.str "begin"):=rfl
  have s1:atD (x0m (true,k)) 1=some (.int (Int.ofNat k)):=rfl
  have e:atD (.tup (C.B.map y64)) (Int.ofNat k)=some (y64 (C.B.getD k (0,0))):=y53 (by rw[List.getElem?_map,List.getElem?_eq_getElem hk]; simp[hk])
  have hst:x49 C (true,k)=x94 (C.B.getD k (0,0)):=rfl
  rw[hst]
  generalize C.B.getD k (0,0)=b at *
  generalize x0m (true,k)=sd at *
  have hb:y64 b=.tup [.int (Int.ofNat (x94 b).1),.int (Int.ofNat ((x94 b).2 v))]:=rfl
  rw[<- hb]
  simp[-Int.ofNat_eq_natCast,s0,s1,c2,e,z32]
 | false=>
  have hk:k<C.W.length:=hs
  have s0:atD (x0m (false,k)) 0=some (.str "way"):=rfl
  have s1:atD (x0m (false,k)) 1=some (.int (Int.ofNat k)):=rfl
  have e:atD (.tup (C.W.map (y03 n))) (Int.ofNat k)=some (y03 n (C.W.getD k (0,0,id))):=y53 (by rw[List.getElem?_map,List.getElem?_eq_getElem hk]; simp[hk])
  have hst:x49 C (false,k)=y4p (C.W.getD k (0,0,id)):=rfl
  have hw:C.W.getD k (0,0,id)∈C.W:=by
   rw[List.getD_eq_getElem?_getD,List.getElem?_eq_getElem hk]
   exact List.getElem_mem hk
  have ok:=hC.ws _ hw
  rw[hst]
  generalize C.W.getD k (0,0,id)=w at *
  have w0:atD (y03 n w) 0=some (.int (Int.ofNat w.1)):=rfl
  have w1:atD (y03 n w) 1=some (.int (Int.ofNat w.2.1)):=rfl
  have w2:atD (y03 n w) 2=some (x3j n w.2.2):=rfl
  have a0:=j5p (v:=v) (i:=w.1) (by rw[hv.len]; exact ok.1)
  have a1:=y7n (r:=w.2.2) (hv.gv ok.1)
  have hst':x0m (false,k)=x0m (false,k):=rfl
  generalize hsd:x0m (false,k)=sd at *
  have hL:sd.isL=false:=by rw[<- hsd]; rfl
  show _=some (D.tup [.int (Int.ofNat w.2.1),.int (Int.ofNat (w.2.2 (gv v w.1)))],9)
  generalize hwt:y03 n w=wt at *
  have hL2:wt.isL=false:=by rw[<- hwt]; rfl
  simp[-Int.ofNat_eq_natCast,s0,s1,c1,e,j1c,w0,w1,w2,a0,a1,hL,hL2]
theorem z2d {v:List Nat} (hv:Vn n C.p v) {s:Sn} (hs:okN C s):x20 [x0v n f,x0h n C,.tup (x0f v),x0m s]=some (.tup (x0f (doS f v (x49 C s))),9):=by
 have ok:=x76 L hC _ (y3x hs)
 have hp:=z4s L hC hv hs
 have hx:=ok.lt v hv
 have hg:=hv.gv ok.pl
 have hpl:(x49 C s).1<v.length:=by rw[hv.len]; exact ok.pl
 have hp8:=hC.p8
 have hl:=hv.len
 unfold doS
 generalize (x49 C s).1=g at *
 generalize (x49 C s).2 v=x at *
 have a0:=j5p hpl
 have a1:=x7t (f:=f) hg
 have a2:=x9n (f:=f) (i:=gv v g) hx
 have s1:=j0r hpl
 have s2:=z4h hpl
 have s3:=z6v (x:=f (gv v g) x) hpl
 have l1:(x0f (v.take g)).length=g:=by rw[x1o,List.length_take]; omega
 have l2:(x0f (v.drop (g+1))).length=v.length-(g+1):=by rw[x1o,List.length_drop]
 unfold x20 x6w
 refine x29 ?_
 show x0z _ _ [some (x0v n f,9),some (x0h n C,9),some (.tup (x0f v),9),some (x0m s,9),none,none,none]=_
 refine(x0e (ρ1:=[some (x0v n f,9),some (x0h n C,9),some (.tup (x0f v),9),some (x0m s,9),some (.tup [.int (Int.ofNat g),.int (Int.ofNat x)],9),none,none]) (by simp[-Int.ofNat_eq_natCast,hp])).trans ?_
 have t0:atD (.tup [.int (Int.ofNat g),.int (Int.ofNat x)]) 0=some (.int (Int.ofNat g)):=rfl
 have t1:atD (.tup [.int (Int.ofNat g),.int (Int.ofNat x)]) 1=some (.int (Int.ofNat x)):=rfl
 refine(x0e (ρ1:=[some (x0v n f,9),some (x0h n C,9),some (.tup (x0f v),9),some (x0m s,9),some (.tup [.int (Int.ofNat g),.int (Int.ofNat x)],9),some (.int (Int.ofNat g),9),none]) (by simp[-Int.ofNat_eq_natCast,t0])).trans ?_
 refine(x0e (ρ1:=[some (x0v n f,9),some (x0h n C,9),some (.tup (x0f v),9),some (x0m s,9),some (.tup [.int (Int.ofNat g),.int (Int.ofNat x)],9),some (.int (Int.ofNat g),9),some (.int (Int.ofNat (f (gv v g) x)),9)]) (by simp[-Int.ofNat_eq_natCast,a0,a1,a2,t1])).trans ?_
 rw[<- s3]
 have m1:(x0f (v.take g)).length+1<=1000:=by omega
 have m2:(x0f (v.take g)).length+1+(x0f (v.drop (g+1))).length<=1000:=by omega
 generalize x0f (v.take g)=u1 at *
 generalize x0f (v.drop (g+1))=u2 at *
 have m1':u1.length<=999:=by omega
 simp[-Int.ofNat_eq_natCast,s1,s2,m1,m1',m2]
structure LowS (n:Nat) (f:Nat->Nat->Nat) (p:Nat) (l:List ChS) (v u:List Nat):Prop where
 V:Vn n p u
 cl:ClS f l u
 up:leV f p v u
 le:∀ a,Vn n p a->ClS f l a->leV f p v a->leV f p u a
theorem z46 {v:List Nat} (hv:Vn n C.p v) {l:List Sn} (hl:∀ s∈l,okN C s) (hlen:l.length<=1000) :
  ∃ (u:List Nat) (R:List Sn),LowS n f C.p (l.map (x49 C)) v u/\(∀ s∈R,s∈l)/\(R.map (x49 C)).foldl (doS f) v=u/\Lad.mu n f u+R.length<=Lad.mu n f v/\y18 [x0v n f,x0h n C,.lst (l.map x0m),.tup (x0f v)]=some (.tup [.tup (x0f u),.lst (R.map x0m)],9):=by
 have hp8:=hC.p8
 have hn8:=L.hi
 have hmu:=Lad.mu_le (f:=f) hv
 have hmu':C.p*n<=8*16:=Nat.mul_le_mul hp8 hn8
 have hS:∀ t∈l.map (x49 C),OkS n C.p f t:=fun t ht=>by
  obtain⟨s,hs,rfl⟩:=List.mem_map.mp ht
  exact x76 L hC _ (y3x (hl s hs))
 -- one round
 have round:∀ (w:List Nat) (R:List Sn) (a:Option (D × Nat)) (j:(Option (D × Nat) × Option (D × Nat))),Vn n C.p w->(∀ s∈R,s∈l)->(R.map (x49 C)).foldl (doS f) v=w->Lad.mu n f w+R.length<=Lad.mu n f v->
   ∃ (R':List Sn) (j':(Option (D × Nat) × Option (D × Nat))),(∀ s∈R',s∈l)/\(R'.map (x49 C)).foldl (doS f) v=(l.map (x49 C)).foldl (doS f) w/\Lad.mu n f ((l.map (x49 C)).foldl (doS f) w)+R'.length<=Lad.mu n f v /\
    y12 (x0l 6) y0w (l.map x0m) [some (x0v n f,9),some (x0h n C,9),some (.lst (l.map x0m),0),some (.tup (x0f w),9),some (.lst ((R).map x0m),1),a,(j).1,(j).2]=some (.nx [some (x0v n f,9),some (x0h n C,9),some (.lst (l.map x0m),0),some (.tup (x0f ((l.map (x49 C)).foldl (doS f) w)),9),some (.lst ((R').map x0m),1),a,(j').1,(j').2]):=fun w R a j hw h1 h2 h3=>by
  obtain⟨j',e,i1,i2,i3,i4⟩:=x9f (J:=(Option (D × Nat) × Option (D × Nat))) (pt:=x0l 6) (body:=y0w) x0m (fun(σ:List Nat × List Sn) j=>[some (x0v n f,9),some (x0h n C,9),some (.lst (l.map x0m),0),some (.tup (x0f σ.1),9),some (.lst ((σ.2).map x0m),1),a,(j).1,(j).2]) (fun σ s=>(doS f σ.1 (x49 C s),if doS f σ.1 (x49 C s)=σ.1 then σ.2 else σ.2++[s]))
   (fun σ=>Vn n C.p σ.1/\(∀ s∈σ.2,s∈l)/\(σ.2.map (x49 C)).foldl (doS f) v=σ.1/\Lad.mu n f σ.1+σ.2.length<=Lad.mu n f v) l (w,R) j ⟨hw,h1,h2,h3⟩ (fun s hs σ j hh0=>by
    obtain⟨k1,k2,k3,k4⟩:=hh0
    obtain⟨x,Q⟩:=σ
    dsimp only at k1 k2 k3 k4 ⊢
    have ok:=x76 L hC _ (y3x (hl s hs))
    have hb:=z2d L hC k1 (hl s hs)
    have hx':=L.doS_V ok k1
    by_cases he:doS f x (x49 C s)=x
    ·rw[if_pos he]
     refine⟨⟨hx',k2,by rw[he]; exact k3,by rw[he]; exact k4⟩,[some (x0v n f,9),some (x0h n C,9),some (.lst (l.map x0m),0),some (.tup (x0f x),9),some (.lst ((Q).map x0m),1),a,(((some (x0m s,9),j.2):(Option (D × Nat) × Option (D × Nat)))).1,(((some (x0m s,9),j.2):(Option (D × Nat) × Option (D × Nat)))).2],(some (x0m s,9),some (.tup (x0f (doS f x (x49 C s))),9)),by simp,?_⟩
     unfold y0w
     refine(x0e (ρ1:=[some (x0v n f,9),some (x0h n C,9),some (.lst (l.map x0m),0),some (.tup (x0f x),9),some (.lst ((Q).map x0m),1),a,(((some (x0m s,9),some (.tup (x0f (doS f x (x49 C s))),9)):(Option (D × Nat) × Option (D × Nat)))).1,(((some (x0m s,9),some (.tup (x0f (doS f x (x49 C s))),9)):(Option (D × Nat) × Option (D × Nat)))).2]) (by simp[hb])).trans ?_
     refine(x0e (ρ1:=[some (x0v n f,9),some (x0h n C,9),some (.lst (l.map x0m),0),some (.tup (x0f x),9),some (.lst ((Q).map x0m),1),a,(((some (x0m s,9),some (.tup (x0f (doS f x (x49 C s))),9)):(Option (D × Nat) × Option (D × Nat)))).1,(((some (x0m s,9),some (.tup (x0f (doS f x (x49 C s))),9)):(Option (D × Nat) × Option (D × Nat)))).2]) (by rw[he]; simp[y78])).trans ?_
     simp
    ·rw[if_neg he]
     have hlt:=L.mu_lt k1 hx' (L.doS_up ok k1) (fun z=>he z.symm)
     refine⟨⟨hx',fun t ht=>?_,?_,by rw[List.length_append]; show _+(Q.length+1)<=_; omega⟩,[some (x0v n f,9),some (x0h n C,9),some (.lst (l.map x0m),0),some (.tup (x0f x),9),some (.lst ((Q).map x0m),1),a,(((some (x0m s,9),j.2):(Option (D × Nat) × Option (D × Nat)))).1,(((some (x0m s,9),j.2):(Option (D × Nat) × Option (D × Nat)))).2],(some (x0m s,9),some (.tup (x0f (doS f x (x49 C s))),9)),by simp,?_⟩
     ·rcases List.mem_append.mp ht with h | h
      ·exact k2 t h
      ·rw[List.mem_singleton.mp h]; exact hs
     ·rw[List.map_append,List.foldl_append,k3]; rfl
     ·unfold y0w
      have hQ:Q.length<=1000:=by omega
      refine(x0e (ρ1:=[some (x0v n f,9),some (x0h n C,9),some (.lst (l.map x0m),0),some (.tup (x0f x),9),some (.lst ((Q).map x0m),1),a,(((some (x0m s,9),some (.tup (x0f (doS f x (x49 C s))),9)):(Option (D × Nat) × Option (D × Nat)))).1,(((some (x0m s,9),some (.tup (x0f (doS f x (x49 C s))),9)):(Option (D × Nat) × Option (D × Nat)))).2]) (by simp[hb])).trans ?_
      refine(x0e (ρ1:=[some (x0v n f,9),some (x0h n C,9),some (.lst (l.map x0m),0),some (.tup (x0f x),9),some (.lst (((Q++[s])).map x0m),1),a,(((some (x0m s,9),some (.tup (x0f (doS f x (x49 C s))),9)):(Option (D × Nat) × Option (D × Nat)))).1,(((some (x0m s,9),some (.tup (x0f (doS f x (x49 C s))),9)):(Option (D × Nat) × Option (D × Nat)))).2]) (by
       generalize doS f x (x49 C s)=y at *
       simp[y78,he,hQ])).trans ?_
      simp)
  have ef:∀ (l:List Sn) (σ:List Nat × List Sn),(l.foldl (fun(σ:List Nat × List Sn) s=>(doS f σ.1 (x49 C s),if doS f σ.1 (x49 C s)=σ.1 then σ.2 else σ.2++[s])) σ).1=(l.map (x49 C)).foldl (doS f) σ.1:=by
   intro l
   induction l with
   | nil=>intro σ; rfl
   | cons s l ih=>intro σ; exact ih _
  have ef':=ef l (w,R)
  generalize l.foldl (fun(σ:List Nat × List Sn) s=>(doS f σ.1 (x49 C s),if doS f σ.1 (x49 C s)=σ.1 then σ.2 else σ.2++[s])) (w,R)=σ at *
  obtain⟨x,Q⟩:=σ
  dsimp only at ef' i1 i2 i3 i4 e
  have ef2:x=(l.map (x49 C)).foldl (doS f) w:=ef'
  subst ef2
  exact⟨Q,j',i2,i3,i4,e⟩
 -- all rounds
 obtain⟨ρ',e,u,R,j,hu,hR1,hR2,hR3,rfl⟩:=x4h (c:=x2g (e2 dNe (x04 3) (x04 5))) (b:=y3q)
  (Q:=fun ρ=>∃ (u:List Nat) (R:List Sn),∃ j:(Option (D × Nat) × Option (D × Nat)),LowS n f C.p (l.map (x49 C)) v u/\(∀ s∈R,s∈l)/\(R.map (x49 C)).foldl (doS f) v=u/\Lad.mu n f u+R.length<=Lad.mu n f v/\ρ=[some (x0v n f,9),some (x0h n C,9),some (.lst (l.map x0m),0),some (.tup (x0f u),9),some (.lst ((R).map x0m),1),some (.tup (x0f u),9),(j).1,(j).2])
  (fun k ρ=>∃ (w:List Nat) (R:List Sn),∃ j:(Option (D × Nat) × Option (D × Nat)),∃ a:D,Vn n C.p w/\leV f C.p v w/\(∀ x,Vn n C.p x->ClS f (l.map (x49 C)) x->leV f C.p v x->leV f C.p w x)/\(∀ s∈R,s∈l)/\(R.map (x49 C)).foldl (doS f) v=w/\Lad.mu n f w+R.length<=Lad.mu n f v /\
    ((a=.non/\k=Lad.mu n f w+1)\/∃ y,a=.tup (x0f y)/\Vn n C.p y/\w=(l.map (x49 C)).foldl (doS f) y/\k=Lad.mu n f w+(if y=w then 0 else 1))/\ρ=[some (x0v n f,9),some (x0h n C,9),some (.lst (l.map x0m),0),some (.tup (x0f w),9),some (.lst ((R).map x0m),1),some (a,9),(j).1,(j).2])
  (k:=Lad.mu n f v+1) (ρ:=[some (x0v n f,9),some (x0h n C,9),some (.lst (l.map x0m),0),some (.tup (x0f v),9),some (.lst ((([]:List Sn)).map x0m),1),some (.non,9),(((none,none):(Option (D × Nat) × Option (D × Nat)))).1,(((none,none):(Option (D × Nat) × Option (D × Nat)))).2]) (by omega) ⟨v,[],(none,none),.non,hv,L.leV_refl hv,fun x _ _ h=>h,(fun _ z=>nomatch z),rfl,Nat.le_refl _,.inl ⟨rfl,rfl⟩,rfl⟩ (fun k ρ hh0=>by
   obtain⟨w,R,j,a,hw,h1,h2,h3,h4,h5,h6,hr⟩:=hh0
   subst hr
   have next:(x2g (e2 dNe (x04 3) (x04 5)) [some (x0v n f,9),some (x0h n C,9),some (.lst (l.map x0m),0),some (.tup (x0f w),9),some (.lst ((R).map x0m),1),some (a,9),(j).1,(j).2]=some (true,[some (x0v n f,9),some (x0h n C,9),some (.lst (l.map x0m),0),some (.tup (x0f w),9),some (.lst ((R).map x0m),1),some (a,9),(j).1,(j).2]))->Lad.mu n f w+1<=k->∃ ρ1 ρ2 k',x2g (e2 dNe (x04 3) (x04 5)) [some (x0v n f,9),some (x0h n C,9),some (.lst (l.map x0m),0),some (.tup (x0f w),9),some (.lst ((R).map x0m),1),some (a,9),(j).1,(j).2]=some (true,ρ1)/\y3q ρ1=some (.nx ρ2)/\k'<k/\∃ (w:List Nat) (R:List Sn),∃ j:(Option (D × Nat) × Option (D × Nat)),∃ a:D,Vn n C.p w/\leV f C.p v w/\(∀ x,Vn n C.p x->ClS f (l.map (x49 C)) x->leV f C.p v x->leV f C.p w x)/\(∀ s∈R,s∈l)/\(R.map (x49 C)).foldl (doS f) v=w/\Lad.mu n f w+R.length<=Lad.mu n f v /\
   ((a=.non/\k'=Lad.mu n f w+1)\/∃ y,a=.tup (x0f y)/\Vn n C.p y/\w=(l.map (x49 C)).foldl (doS f) y/\k'=Lad.mu n f w+(if y=w then 0 else 1))/\ρ2=[some (x0v n f,9),some (x0h n C,9),some (.lst (l.map x0m),0),some (.tup (x0f w),9),some (.lst ((R).map x0m),1),some (a,9),(j).1,(j).2]:=fun ht hk=>by
    obtain⟨R',j',r1,r2,r3,r4⟩:=round w R (some (.tup (x0f w),9)) j hw h3 h4 h5
    have hw':=L.foldS_V hS hw
    have up:=L.foldS_up hS hw
    refine⟨_,[some (x0v n f,9),some (x0h n C,9),some (.lst (l.map x0m),0),some (.tup (x0f ((l.map (x49 C)).foldl (doS f) w)),9),some (.lst ((R').map x0m),1),some (.tup (x0f w),9),(j').1,(j').2],Lad.mu n f ((l.map (x49 C)).foldl (doS f) w)+(if w=(l.map (x49 C)).foldl (doS f) w then 0 else 1),ht,?_,?_,_,R',j',.tup (x0f w),hw',L.leV_trans hv hw hw' h1 up,fun x hx cx hvx=>L.foldS_below hx hS hw cx (h2 x hx cx hvx),r1,r2,r3,.inr ⟨w,rfl,hw,rfl,rfl⟩,rfl⟩
    ·unfold y3q
     refine(x0e (ρ1:=[some (x0v n f,9),some (x0h n C,9),some (.lst (l.map x0m),0),some (.tup (x0f w),9),some (.lst ((R).map x0m),1),some (.tup (x0f w),9),(j).1,(j).2]) (by simp)).trans ?_
     exact(x3l (ds:=l.map x0m) (ρ1:=[some (x0v n f,9),some (x0h n C,9),some (.lst (l.map x0m),0),some (.tup (x0f w),9),some (.lst ((R).map x0m),1),some (.tup (x0f w),9),(j).1,(j).2]) (by simp[hlen])).trans r4
    ·by_cases he:w=(l.map (x49 C)).foldl (doS f) w
     ·rw[if_pos he,<- he]; omega
     ·rw[if_neg he]
      have:=L.mu_lt hw hw' up he
      omega
   rcases h6 with⟨rfl,hk⟩ | ⟨y,rfl,hy,hwy,hk⟩
   ·refine .inr (next ?_ (by omega))
    have hne:dNe (.tup (x0f w)) .non=some (.bl true):=by
     unfold dNe
     rw[if_pos ⟨(z9p w).ok,(Sh.non (k:=0)).ok⟩]
     rfl
    simp[hne]
   ·by_cases hyw:y=w
    ·subst hyw
     refine .inl ⟨[some (x0v n f,9),some (x0h n C,9),some (.lst (l.map x0m),0),some (.tup (x0f y),9),some (.lst ((R).map x0m),1),some (.tup (x0f y),9),(j).1,(j).2],by simp[y78],y,R,j,⟨hw,(L.foldS_fix hS hw).mp hwy.symm,h1,h2⟩,h3,h4,h5,rfl⟩
    ·rw[if_neg hyw]at hk
     refine .inr (next ?_ (by omega))
     have:¬ (w=y):=fun z=>hyw z.symm
     simp[y78,this])
 refine⟨u,R,hu,hR1,hR2,hR3,?_⟩
 unfold y18 z03
 refine x29 ?_
 show x0z _ _ [some (x0v n f,9),some (x0h n C,9),some (.lst (l.map x0m),0),some (.tup (x0f v),9),none,none,none,none]=_
 refine(x0e (ρ1:=[some (x0v n f,9),some (x0h n C,9),some (.lst (l.map x0m),0),some (.tup (x0f v),9),some (.lst [],1),none,none,none]) (by simp)).trans ?_
 refine(x0e (ρ1:=[some (x0v n f,9),some (x0h n C,9),some (.lst (l.map x0m),0),some (.tup (x0f v),9),some (.lst ((([]:List Sn)).map x0m),1),some (.non,9),(((none,none):(Option (D × Nat) × Option (D × Nat)))).1,(((none,none):(Option (D × Nat) × Option (D × Nat)))).2]) (by simp)).trans ?_
 refine(x0e e).trans ?_
 simp
end
theorem dg1 (a b:D):y61 ["begin","way"] [a,b] "begin" = some a:=by unfold y61; rw[if_pos rfl]
theorem dg2 (a b:D):y61 ["begin","way"] [a,b] "way" = some b:=by
 unfold y61
 rw[if_neg (by decide)]
 unfold y61
 rw[if_pos rfl]
section
variable {n:Nat} {f:Nat->Nat->Nat} {C:Cht}
theorem z39 {s:Sn} (hs:okN C s):x2h [x0m s,.dic ["begin","way"] [.int (Int.ofNat C.B.length),.int (Int.ofNat C.W.length)]]=some (.bl true,9):=by
 obtain⟨b,k⟩:=s
 unfold okN at hs
 have l2:dNe (.int 2) (.int 2)=some (.bl false):=(z7v _ _).trans (by simp)
 unfold x2h x5j
 cases b with
 | true=>
  have hk:k<C.B.length:=hs
  have n1:x16 [.int (Int.ofNat k),.int (Int.ofNat C.B.length)]=some (.bl true,9):=by
   rw[x53]
   have:x83 C.B.length (.int (Int.ofNat k))=true:=by
    show(decide ((0:Int)<=(k:Int)) && decide ((k:Int)<(C.B.length:Int)))=true
    simp; exact hk
   rw[this]
  have s0:atD (.tup [.str "begin",.int (Int.ofNat k)]) 0=some (.str "begin"):=rfl
  have s1:atD (.tup [.str "begin",.int (Int.ofNat k)]) 1=some (.int (Int.ofNat k)):=rfl
  have ll:y0t (.tup [.str "begin",.int (Int.ofNat k)])=some 2:=rfl
  have g1:=dg1 (.int (Int.ofNat C.B.length)) (.int (Int.ofNat C.W.length))
  show fnD _ _ [.tup [.str "begin",.int (Int.ofNat k)],_]=_
  simp[-Int.ofNat_eq_natCast,isD,ll,l2,s0,s1,g1,n1]
 | false=>
  have hk:k<C.W.length:=hs
  have n1:x16 [.int (Int.ofNat k),.int (Int.ofNat C.W.length)]=some (.bl true,9):=by
   rw[x53]
   have:x83 C.W.length (.int (Int.ofNat k))=true:=by
    show(decide ((0:Int)<=(k:Int)) && decide ((k:Int)<(C.W.length:Int)))=true
    simp; exact hk
   rw[this]
  have s0:atD (.tup [.str "way",.int (Int.ofNat k)]) 0=some (.str "way"):=rfl
  have s1:atD (.tup [.str "way",.int (Int.ofNat k)]) 1=some (.int (Int.ofNat k)):=rfl
  have ll:y0t (.tup [.str "way",.int (Int.ofNat k)])=some 2:=rfl
  have g1:=dg2 (.int (Int.ofNat C.B.length)) (.int (Int.ofNat C.W.length))
  show fnD _ _ [.tup [.str "way",.int (Int.ofNat k)],_]=_
  simp[-Int.ofNat_eq_natCast,isD,ll,l2,s0,s1,g1,n1]
theorem y98 {s:Sn} (hs:okN C s):x4l [x0h n C,x0m s]=some (.bl true,9):=by
 have h:=z39 hs
 unfold x4l y5t
 have e1:x8t 0 2 [some (x0h n C,9),some (x0m s,9)]=some (Int.ofNat C.B.length):=by
  show some (Int.ofNat (C.B.map y64).length)=_
  rw[List.length_map]
 have e2':x8t 0 1 [some (x0h n C,9),some (x0m s,9)]=some (Int.ofNat C.W.length):=by
  show some (Int.ofNat (C.W.map (y03 n)).length)=_
  rw[List.length_map]
 have ed:y96 "begin" "way" (x8t 0 2) (x8t 0 1) [some (x0h n C,9),some (x0m s,9)]=some (.dic ["begin","way"] [.int (Int.ofNat C.B.length),.int (Int.ofNat C.W.length)],9,[some (x0h n C,9),some (x0m s,9)]):=by
  unfold y96
  rw[e1,e2']
 exact x29 (x1y (x0o (x0w (f:=x04 1) (d:=x0m s) (q:=9) (ρ:=[some (x0h n C,9),some (x0m s,9)]) (ρ1:=[some (x0h n C,9),some (x0m s,9)]) rfl (x0r ed)) rfl h))
theorem x9k {l:List Sn} (hl:∀ s∈l,okN C s) (hlen:l.length<=1000):x32 [x0h n C,.lst (l.map x0m)]=some (.non,9):=by
 have hit:x5t (x04 1) [some (x0h n C,9),some (.lst (l.map x0m),0)]=some (l.map x0m,[some (x0h n C,9),some (.lst (l.map x0m),0)]):=by simp[hlen]
 have e:=z2z (i:=2) (te:=x0g x4l 2 (x01 (x04 0) (x01 (x04 2) (x0c)))) (ρ:=[some (x0h n C,9),some (.lst (l.map x0m),0)]) rfl hit (fun _=>true) (fun _=>9) (fun d hd=>by
  obtain⟨s,hs,rfl⟩:=List.mem_map.mp hd
  simp[y98 (n:=n) (hl s hs)])
 have ea:(l.map x0m).all (fun _=>true)=true:=by simp
 rw[ea]at e
 unfold x32 x6a
 show(match sIf _ _ _ [some (x0h n C,9),some (.lst (l.map x0m),0)]with | some (.rt d q)=>some (d,q) | some (.nx _)=>some (D.non,9) | _=>none)=_
 have ei:sIf (x5e (x81 (eB z48 (x01 (x3f 1 (x5t (x04 1)) (x0l 2) (x2p) (x0g x4l 2 (x01 (x04 0) (x01 (x04 2) (x0c)))) false) (x0c))))) (y2v) (x7e) [some (x0h n C,9),some (.lst (l.map x0m),0)]=some (.nx [some (x0h n C,9),some (.lst (l.map x0m),0)]):=by
  refine(y3k ?_).trans rfl
  unfold x5e x81
  rw[e]
  rfl
 rw[ei]
theorem z3d:(z3f C).length=C.B.length+C.W.length:=by simp[z3f]
theorem y5c (hB:C.B.length<=60) (hW:C.W.length<=60):x4q [x0h n C]=some (.lst ((z3f C).map x0m),1):=by
 unfold x4q y1q
 refine x29 ?_
 show x0z _ _ [some (x0h n C,9),none]=_
 have c1:atD (x0h n C) 1=some (.tup (C.W.map (y03 n))):=rfl
 have c2:atD (x0h n C) 2=some (.tup (C.B.map y64)):=rfl
 have lB:y0t (.tup (C.B.map y64))=some C.B.length:=by simp[y0t]
 have lW:y0t (.tup (C.W.map (y03 n)))=some C.W.length:=by simp[y0t]
 have h1:=x24 (k:=1) (tt:=x2p) (te:=x4e (x01 (eC (.str "begin")) (x01 (x04 2) (x0c)))) (deep:=false) (x98 (m:=C.B.length) (by omega) (fe:=eB z4k (x01 (x1i 0 (eC (.int 2))) (x0c))) (ρ:=[some (x0h n C,9),none]) (ρ':=[some (x0h n C,9),none]) (q:=9) (by simp[-Int.ofNat_eq_natCast,c2,lB])) (z1s (i:=2) rfl (fun _=>true) (fun k=>x0m (true,k)) (fun _=>9) (fun k hk=>rfl) (fun k hk _=>by simp[-Int.ofNat_eq_natCast,x0m]))
 rw[show(List.range C.B.length).filter (fun _=>true)=List.range C.B.length by simp]at h1
 refine(x0e (ρ1:=[some (x0h n C,9),some (.lst ((List.range C.B.length).map fun k=>x0m (true,k)),1)]) (x17 h1 rfl)).trans ?_
 have h2:=x24 (k:=1) (tt:=x2p) (te:=x4e (x01 (eC (.str "way")) (x01 (x04 2) (x0c)))) (deep:=false) (x98 (m:=C.W.length) (by omega) (fe:=eB z4k (x01 (x1i 0 (eC (.int 1))) (x0c))) (ρ:=[some (x0h n C,9),some (.lst ((List.range C.B.length).map fun k=>x0m (true,k)),0)]) (ρ':=[some (x0h n C,9),some (.lst ((List.range C.B.length).map fun k=>x0m (true,k)),0)]) (q:=9) (by simp[-Int.ofNat_eq_natCast,c1,lW])) (z1s (i:=2) rfl (fun _=>true) (fun k=>x0m (false,k)) (fun _=>9) (fun k hk=>rfl) (fun k hk _=>by simp[-Int.ofNat_eq_natCast,x0m]))
 rw[show(List.range C.W.length).filter (fun _=>true)=List.range C.W.length by simp]at h2
 have ea:(z3f C).map x0m=((List.range C.B.length).map fun k=>x0m (true,k))++((List.range C.W.length).map fun k=>x0m (false,k)):=by
  unfold z3f
  rw[List.map_append,List.map_map,List.map_map]
  rfl
 rw[ea]
 refine x1y (ρ1:=[some (x0h n C,9),some (.lst ((List.range C.B.length).map fun k=>x0m (true,k)),0)]) ?_
 have v1:x04 1 [some (x0h n C,9),some (.lst ((List.range C.B.length).map fun k=>x0m (true,k)),1)]=some (.lst ((List.range C.B.length).map fun k=>x0m (true,k)),0,[some (x0h n C,9),some (.lst ((List.range C.B.length).map fun k=>x0m (true,k)),0)]):=rfl
 unfold y2i
 rw[v1]
 have hl:((List.range C.B.length).map fun k=>x0m (true,k)).length+((List.range C.W.length).map fun k=>x0m (false,k)).length<=1000:=by
  rw[List.length_map,List.length_map,List.length_range,List.length_range]; omega
 generalize ((List.range C.B.length).map fun k=>x0m (true,k))=x at *
 generalize ((List.range C.W.length).map fun k=>x0m (false,k))=y at *
 rw[if_neg (by decide)]at h2
 simp only[h2,if_pos hl]
end
section
variable {n:Nat} {f:Nat->Nat->Nat} (L:Lad n f) {z:Nat} (hz:z<n) (bz:∀ j,j<n->f z j=j) {C:Cht} (hC:C.Ok n f)
noncomputable def y0v (p z:Nat):List Nat:=List.replicate p z
theorem z1x {p:Nat} (hz:z<n):Vn n p (y0v p z):=⟨by simp[y0v],fun x hx=>by rw[(List.mem_replicate.mp hx).2]; exact hz⟩
theorem y70 {p i:Nat} (hi:i<p):gv (y0v p z) i=z:=by unfold gv y0v; simp[hi]
theorem z0k {p:Nat} (bz:∀ j,j<n->f z j=j) {v:List Nat} (hv:Vn n p v):leV f p (y0v p z) v:=fun i hi=>by rw[y70 hi]; exact bz _ (hv.gv hi)
include L hz bz hC
theorem z27:x8u [x0v n f,x0h n C]=some (.tup (x0f (y0v C.p z)),9):=by
 have hn:n<=1000:=Nat.le_trans L.hi (by decide)
 have hp8:=hC.p8
 have c0:atD (x0h n C) 0=some (.int (Int.ofNat C.p)):=rfl
 have hl:=y7m L hz bz hn
 unfold x8u y7q
 have e:(List.replicate C.p [D.int (Int.ofNat z)]).flatten=x0f (y0v C.p z):=by
  simp[x0f,y0v,List.flatten_replicate_singleton]
 have b1:(-1000:Int)<=Int.ofNat C.p:=by show(-1000:Int)<=(C.p:Int); omega
 have b2:Int.ofNat C.p<=1000:=by show(C.p:Int)<=1000; omega
 have b3:(Int.ofNat C.p).toNat=C.p:=rfl
 have b4:C.p<=1000:=by omega
 simp[-Int.ofNat_eq_natCast,-List.flatten_replicate_singleton,hl,c0,b1,b2,b3,b4,e]
theorem y6o {l:List Sn} (hl:∀ s∈l,okN C s) (hlen:l.length<=1000) :
  ∃ (u:List Nat) (R:List Sn),LowS n f C.p (l.map (x49 C)) (y0v C.p z) u/\(∀ s∈R,s∈l)/\(R.map (x49 C)).foldl (doS f) (y0v C.p z)=u/\Lad.mu n f u+R.length<=Lad.mu n f (y0v C.p z)/\x5w [x0v n f,x0h n C,.lst (l.map x0m)]=some (.tup [.tup (x0f u),.int (Int.ofNat R.length)],9):=by
 obtain⟨u,R,h1,h2,h3,h4,e⟩:=z46 L hC (z1x (p:=C.p) hz) hl hlen
 refine⟨u,R,h1,h2,h3,h4,?_⟩
 have r0:=x9k (n:=n) hl hlen
 have r1:=z27 L hz bz hC
 have a0:atD (.tup [.tup (x0f u),.lst (R.map x0m)]) 0=some (.tup (x0f u)):=rfl
 have a1:atD (.tup [.tup (x0f u),.lst (R.map x0m)]) 1=some (.lst (R.map x0m)):=rfl
 have a2:y0t (.lst (R.map x0m))=some R.length:=by simp[y0t]
 unfold x5w y3g
 simp[-Int.ofNat_eq_natCast,r0,r1,e,a0,a1,a2]
theorem y7e:∃ u,LowS n f C.p (x2q C) (y0v C.p z) u/\x60 [x0v n f,x0h n C]=some (.tup (x0f u),9):=by
 have hB:=hC.b60
 have hW:=hC.w60
 obtain⟨u,R,h1,h2,h3,h4,e⟩:=y6o L hz bz hC (z7u C) (by rw[z3d]; omega)
 rw[z3u]at h1
 refine⟨u,h1,?_⟩
 have r0:=y5c (n:=n) hB hW
 have a0:atD (.tup [.tup (x0f u),.int (Int.ofNat R.length)]) 0=some (.tup (x0f u)):=rfl
 unfold x60 z0u
 simp[-Int.ofNat_eq_natCast,r0,e,a0]
end
theorem x4i {α:Type} {k:Nat} {pt:x6q} {tt:x2b} {te:Den} {ρ:Rho} (enc:α->D) (ext:α->Rho) (b:α->Bool) (v:α->D) (q:α->Nat):∀ l:List α,
  (∀ x∈l,pt (enc x) (ρ++List.replicate k none)=some (ρ++ext x)/\tt (ρ++ext x)=some (b x,ρ++ext x)/\(b x=true->te (ρ++ext x)=some (v x,q x,ρ++ext x)))->x6r k pt tt te false (l.map enc) ρ=some ((l.filter b).map v,ρ)
 | [],_=>rfl
 | x::l,h=>by
  obtain⟨h1,h2,h3⟩:=h x List.mem_cons_self
  have ih:=x4i enc ext b v q l (fun y m=>h y (List.mem_cons_of_mem _ m))
  have ht:(ρ++ext x).take ρ.length=ρ:=by simp
  rw[List.map_cons]
  unfold x6r
  rw[h1]
  simp only[h2]
  cases hb:b x with
  | true=>
   simp only[if_true,h3 hb,ht,ih]
   rw[List.filter_cons_of_pos hb]
   simp
  | false=>
   simp only[ht,ih]
   rw[List.filter_cons_of_neg (by rw[hb]; simp)]
   simp
end My
namespace My
open PySem PySem.Spec PyProof.Rows L2 L3
end My
namespace My
open PySem PySem.Spec PyProof.Rows L2 L3
theorem z4j (v:Nat) (l:List Nat):inD (.int (Int.ofNat v)) (.lst (x0f l))=some (decide (v∈l)):=by
 show some ((x6v (x0f l)).any fun y=>PyData.eqv y (toP (.int (Int.ofNat v))))=_
 congr 1
 induction l with
 | nil=>rfl
 | cons a l ih=>
  have h1:(x6v (x0f (a::l)))=toP (.int (Int.ofNat a))::x6v (x0f l):=rfl
  rw[h1,List.any_cons,ih]
  have h2:PyData.eqv (toP (.int (Int.ofNat a))) (toP (.int (Int.ofNat v)))=decide (a=v):=z0n a v
  rw[h2]
  by_cases h:a=v
  ·simp[h]
  ·have h':¬ v=a:=fun q=>h q.symm
   simp[h,h']
theorem y9z (v:Nat) (l:List Nat):dIn (.int (Int.ofNat v)) (.lst (x0f l))=some (.bl (decide (v∈l))):=by
 unfold dIn
 rw[if_pos ⟨(Sh.int (k:=0) _).ok,(z6x l).ok⟩,z4j]
 rfl
theorem z2m {i:Nat} {ρ:Rho} {x:D × Nat} (h:ρ[i]? = some (some x)):ρ.set i (some x)=ρ:=by
 apply List.ext_getElem?
 intro k
 by_cases hk:i=k
 ·subst hk
  rw[h,List.getElem?_set_self (List.getElem?_eq_some_iff.mp h).1]
 ·rw[List.getElem?_set_ne hk]
theorem x3i {i q:Nat} {ρ:Rho} {ds:List D} (h:ρ[i]? = some (some (.lst ds,q))):x04 i ρ=some (.lst ds,0,ρ.set i (some (.lst ds,0))):=by
 unfold x04
 rw[h]
 by_cases hq:q=0
 ·subst hq
  rw[z2m h]
  rfl
 ·simp[hq]
theorem j5q {g h:x2b} {ρ ρ1:Rho} (e:g ρ=some (false,ρ1)):z0w g h ρ=h ρ1:=by unfold z0w; rw[e]; rfl
theorem y3i {g:x2b} {ρ ρ1:Rho} {b:Bool} (e:g ρ=some (b,ρ1)):x5e g ρ=some (!b,ρ1):=by unfold x5e; rw[e]
theorem x9p {f:Den} {ρ ρ1:Rho} {b:Bool} {q:Nat} (h:f ρ=some (.bl b,q,ρ1)):x81 f ρ=some (b,ρ1):=by unfold x81; rw[h]; cases b <;> rfl
theorem x5z {i q n:Nat} {ρ:Rho} {d:D} (h:ρ[i]? = some (some (d,q))) (hl:y0t d=some n):x1c i ρ=some (.int (Int.ofNat n),9,ρ):=by unfold x1c; rw[h]; simp only[hl]
theorem y84 {i q:Nat} {ρ:Rho} {d:D} (h:ρ[i]? = some (some (d,q))) (hd:d.isL=false):x04 i ρ=some (d,9,ρ):=by unfold x04; rw[h]; simp[hd]
theorem y1d {i q:Nat} {ρ:Rho} {x d:D} {b:Den} {k:Int} {q':Nat} (hb:b ρ=some (.int k,q',ρ)) (h:ρ[i]? = some (some (x,q))) (ha:atD x k=some d) (hd:d.isL=false):x1i i b ρ=some (d,9,ρ):=by
 unfold x1i
 rw[h]
 simp only[hb,h,ha,hd,y36]
 simp
theorem z60 {ρ:Rho} {x d:D} {a b:Den} {k:Int} {q q':Nat} {ρ1 ρ2:Rho} (h:a ρ=some (x,q,ρ1)) (hb:b ρ1=some (.int k,q',ρ2)) (ha:atD x k=some d) (hx:x.isL=false) (hd:d.isL=false):eIx a b ρ=some (d,9,ρ2):=by
 unfold eIx
 rw[h]
 simp only[hb,ha,hd,hx,y36]
 simp
theorem x7s (ns:List Int) {c:Int} (hc:0<=c) {n:Nat} (hn:0<n):∃ v,v<n/\x0d [scr ns,.int c,.int (Int.ofNat n)]=some (.int (Int.ofNat v),9):=by
 have hnp:(0:Int)<Int.ofNat n:=by show(0:Int)<(n:Int); omega
 have h1:=x6g ns c hnp
 have h2:=x80 ns c hnp
 have h3:Int.ofNat n=(n:Int):=rfl
 obtain⟨v,hv⟩:=Int.eq_ofNat_of_zero_le h1
 refine⟨v,by rw[hv,h3]at h2; omega,?_⟩
 rw[x82 ns c _ hc hnp,hv]
 rfl
theorem x5c {g:x2c} {ρ ρ1:Rho} {ds:List D} (h:g ρ=some (ds,ρ1)) (hl:ds.length<=1000):x4e g ρ=some (.tup ds,9,ρ1):=by unfold x4e; rw[h]; exact if_pos hl
theorem y0x {α J:Type} {pt:x6q} {body:x19} (enc:α->D) (S:List D->J->Rho) (v:α->D):∀ (l:List α) (acc:List D) (j:J),acc.length+l.length<=1000->
  (∀ a∈l,∀ ds j,ds.length<=1000->∃ ρ1 j',pt (enc a) (S ds j)=some ρ1/\body ρ1=some (.nx (S (ds++[v a]) j')))->∃ j',y12 pt body (l.map enc) (S acc j)=some (.nx (S (acc++l.map v) j'))
 | [],acc,j,_,_=>⟨j,by rw[List.map_nil,List.map_nil,List.append_nil]; rfl⟩
 | a::l,acc,j,hl,h=>by
  rw[List.length_cons]at hl
  obtain⟨ρ1,j1,h1,h2⟩:=h a List.mem_cons_self acc j (by omega)
  obtain⟨j2,e⟩:=y0x enc S v l (acc++[v a]) j1 (by rw[List.length_append]; show _+1+_<=1000; omega) fun b hb=>h b (List.mem_cons_of_mem _ hb)
  refine⟨j2,?_⟩
  rw[List.map_cons,y4l h1 h2,e,List.append_assoc]
  rfl
theorem y1e {α β J:Type} {pt:x6q} {body:x19} (enc:α->D) (S:List D->J->Rho) (dec:β->D) (good:β->Prop):∀ (l:List α) (acc:List D) (j:J),acc.length+l.length<=1000->
  (∀ a∈l,∀ ds j,ds.length<=1000->∃ ρ1 j' x,good x/\pt (enc a) (S ds j)=some ρ1/\body ρ1=some (.nx (S (ds++[dec x]) j')))->∃ (xs:List β) (j':J),xs.length=l.length/\(∀ x∈xs,good x)/\y12 pt body (l.map enc) (S acc j)=some (.nx (S (acc++xs.map dec) j'))
 | [],acc,j,_,_=>⟨[],j,rfl,(fun _ h=>nomatch h),by rw[List.map_nil,List.map_nil,List.append_nil]; rfl⟩
 | a::l,acc,j,hl,h=>by
  rw[List.length_cons]at hl
  obtain⟨ρ1,j1,x,hx,h1,h2⟩:=h a List.mem_cons_self acc j (by omega)
  obtain⟨xs,j2,l2,g2,e⟩:=y1e enc S dec good l (acc++[dec x]) j1 (by rw[List.length_append]; show _+1+_<=1000; omega) fun b hb=>h b (List.mem_cons_of_mem _ hb)
  refine⟨x::xs,j2,by rw[List.length_cons,List.length_cons,l2],fun y hy=>?_,?_⟩
  ·rcases List.mem_cons.mp hy with rfl | hy
   ·exact hx
   ·exact g2 y hy
  ·rw[List.map_cons,y4l h1 h2,e,List.append_assoc]
   rfl
noncomputable abbrev Led:=Nat ⊕ (Nat->Nat)
structure Hs where
 p:Nat
 W:List (Nat × Nat × Led)
noncomputable def y08:Led->Bool
 | .inl _=>true
 | .inr _=>false
noncomputable def x84 (n:Nat):Led->D
 | .inl j=>.int (Int.ofNat j)
 | .inr r=>x3j n r
noncomputable def x5f (n:Nat) (w:Nat × Nat × Led):D:=.tup [.int (Int.ofNat w.1),.int (Int.ofNat w.2.1),x84 n w.2.2]
noncomputable def x0p (n:Nat) (H:Hs):D:=.tup [.int (Int.ofNat H.p),.tup (H.W.map (x5f n))]
noncomputable def x1k (n:Nat) (P:List Hs):D:=.tup (P.map (x0p n))
noncomputable def okL (n:Nat) (f:Nat->Nat->Nat) (h:Nat):Led->Prop
 | .inl j=>j<h
 | .inr r=>(∀ i,i<n->r i<n)/\∀ x y,x<n->y<n->f x y=y->f (r x) (r y)=r y
structure Hs.Ok (n:Nat) (f:Nat->Nat->Nat) (h:Nat) (H:Hs):Prop where
 p1:1<=H.p
 p8:H.p<=8
 w60:H.W.length<=60
 ws:∀ w∈H.W,w.1<H.p/\w.2.1<H.p/\okL n f h w.2.2
@[simp] theorem y10 {n:Nat} {x:Led}:(x84 n x).isL=false:=by cases x <;> rfl
@[simp] theorem z9k {n:Nat} {H:Hs}:(x0p n H).isL=false:=rfl
@[simp] theorem j2b {n:Nat} {P:List Hs}:(x1k n P).isL=false:=rfl
theorem z49 {n:Nat} {x:Led}:y36 (x84 n x)=9:=by unfold y36; rw[y10]; rfl
noncomputable def x6k (r:List Nat):D:=.tup (x0f r)
noncomputable def x0i (V:List (List Nat)):D:=.tup (V.map x6k)
@[simp] theorem z9m {V:List (List Nat)}:(x0i V).isL=false:=rfl
theorem z09 {n:Nat} {r:List Nat} (h:r.length=n):x6k r=x3j n (gv r):=by
 unfold x6k x3j
 rw[<- h,<- j6f r]
structure RowOk (n:Nat) (f:Nat->Nat->Nat) (r:List Nat):Prop where
 V:Vn n n r
 m:∀ x y,x<n->y<n->f x y=y->f (gv r x) (gv r y)=gv r y
structure VOk (n:Nat) (f:Nat->Nat->Nat) (h:Nat) (V:List (List Nat)):Prop where
 len:V.length=h
 row:∀ r∈V,RowOk n f r
noncomputable def y60 (f:Nat->Nat->Nat) (n:Nat) (V W:List (List Nat)):Prop:=∀ j,j<V.length->leV f n (V.getD j []) (W.getD j [])
noncomputable def y8y (V:List (List Nat)):Led->Nat->Nat
 | .inl j=>gv (V.getD j [])
 | .inr r=>r
noncomputable def x6e (V:List (List Nat)) (H:Hs) (w:Nat):Cht:=⟨H.p,H.W.map fun a=>(a.1,a.2.1,y8y V a.2.2),[(0,w)]⟩
theorem VOk.at {n:Nat} {f:Nat->Nat->Nat} {h:Nat} {V:List (List Nat)} (o:VOk n f h V) {j:Nat} (hj:j<h):RowOk n f (V.getD j []):=by
 have hj':j<V.length:=by rw[o.len]; exact hj
 refine o.row _ ?_
 rw[List.getD_eq_getElem?_getD,List.getElem?_eq_getElem hj']
 exact List.getElem_mem hj'
theorem VOk.get {n:Nat} {f:Nat->Nat->Nat} {h:Nat} {V:List (List Nat)} (o:VOk n f h V) {j:Nat} (hj:j<h):atD (x0i V) (Int.ofNat j)=some (x3j n (gv (V.getD j []))):=by
 have hj':j<V.length:=by rw[o.len]; exact hj
 show L2.atI (V.map x6k) (Int.ofNat j)=_
 refine z6q ?_
 rw[List.getElem?_map,List.getElem?_eq_getElem hj',<- z09 (o.at hj).V.len,List.getD_eq_getElem?_getD,List.getElem?_eq_getElem hj']
 rfl
theorem x6p {n:Nat} {f:Nat->Nat->Nat} {h:Nat} {V:List (List Nat)} (o:VOk n f h V) {H:Hs} (hH:H.Ok n f h) {w:Nat} (hw:w<n):(x6e V H w).Ok n f where
 p1:=hH.p1
 p8:=hH.p8
 w60:=by show(H.W.map _).length<=60; rw[List.length_map]; exact hH.w60
 b60:=by show 1<=60; decide
 ws:=fun a ha=>by
  obtain⟨b,hb,rfl⟩:=List.mem_map.mp ha
  obtain⟨h1,h2,h3⟩:=hH.ws b hb
  refine⟨h1,h2,?_⟩
  show(∀ i,i<n->y8y V b.2.2 i<n)/\∀ x y,x<n->y<n->f x y=y->f (y8y V b.2.2 x) (y8y V b.2.2 y)=y8y V b.2.2 y
  cases hb2:b.2.2 with
  | inl j=>
   rw[hb2]at h3
   have r:=o.at (show j<h from h3)
   exact⟨fun i hi=>r.V.gv hi,r.m⟩
  | inr r=>
   rw[hb2]at h3
   exact h3
 bs:=fun b hb=>by
  have:b=(0,w):=List.mem_singleton.mp hb
  subst this
  exact⟨hH.p1,hw⟩
theorem j69 {n:Nat} {f:Nat->Nat->Nat} {h:Nat} {V:List (List Nat)} (o:VOk n f h V) {x:Led} (hx:okL n f h x) {i j:Nat} {ρ:Rho} {c:x2b} (hc:c ρ=some (y08 x,ρ)) (hi:ρ[i]? = some (some (x0i V,9))) (hj:ρ[j]? = some (some (x84 n x,9))) :
  eIf c (x1i i (x04 j)) (x04 j) ρ=some (x3j n (y8y V x),9,ρ):=by
 unfold eIf
 rw[hc]
 cases x with
 | inl k=>exact y1d (y84 hj rfl) hi (o.get (show k<h from hx)) rfl
 | inr r=>exact y84 hj rfl
theorem z2a {n:Nat} {f:Nat->Nat->Nat} {h:Nat} {V:List (List Nat)} (o:VOk n f h V) {H:Hs} (hH:H.Ok n f h) {w:Nat}:x35 [x0p n H,x0i V,.int (Int.ofNat w)]=some (x0h n (x6e V H w),9):=by
 have hw6:=hH.w60
 unfold x35 x7p
 refine x29 ?_
 show x0z _ _ [some (x0p n H,9),some (x0i V,9),some (.int (Int.ofNat w),9),none]=_
 have i1:x5t (x1i 0 (eC (.int 1))) [some (x0p n H,9),some (x0i V,9),some (.int (Int.ofNat w),9),none]=some (H.W.map (x5f n),[some (x0p n H,9),some (x0i V,9),some (.int (Int.ofNat w),9),none]):=by
  have e:x1i 0 (eC (.int 1)) [some (x0p n H,9),some (x0i V,9),some (.int (Int.ofNat w),9),none]=some (.tup (H.W.map (x5f n)),9,[some (x0p n H,9),some (x0i V,9),some (.int (Int.ofNat w),9),none]):=rfl
  unfold x5t
  rw[e]
  simp only[List.length_map]
  rw[if_pos (by omega)]
 have c1:=x24 (k:=3) (tt:=x2p) (te:=x4e (x01 (x04 4) (x01 (x04 5) (x01 (eIf (x81 (x0g x1r 1 (x01 (x04 6) (x0c)))) (x1i 1 (x04 6)) (x04 6)) (x0c))))) (deep:=false) (pt:=y3d (x10 (x0l 4) (x10 (x0l 5) (x10 (x0l 6) (x5s))))) i1 (x4i (x5f n) (fun a=>[some (.int (Int.ofNat a.1),9),some (.int (Int.ofNat a.2.1),9),some (x84 n a.2.2,9)]) (fun _=>true) (fun a=>y03 n (a.1,a.2.1,y8y V a.2.2)) (fun _=>9) H.W (fun a ha=>⟨by
   show y3d _ (D.tup [.int (Int.ofNat a.1),.int (Int.ofNat a.2.1),x84 n a.2.2]) _=_
   have:=z49 (n:=n) (x:=a.2.2)
   cases hx:a.2.2 <;> rfl,rfl,fun _=>by
  obtain⟨_,_,hx⟩:=hH.ws a ha
  have e:=j69 (i:=1) (j:=6) (ρ:=[some (x0p n H,9),some (x0i V,9),some (.int (Int.ofNat w),9),none]++[some (.int (Int.ofNat a.1),9),some (.int (Int.ofNat a.2.1),9),some (x84 n a.2.2,9)]) (c:=x81 (x0g x1r 1 (x01 (x04 6) (x0c)))) o hx (by
   have e1:=x23 (x84 n a.2.2)
   have v6:x04 6 ([some (x0p n H,9),some (x0i V,9),some (.int (Int.ofNat w),9),none]++[some (.int (Int.ofNat a.1),9),some (.int (Int.ofNat a.2.1),9),some (x84 n a.2.2,9)])=some (x84 n a.2.2,9,[some (x0p n H,9),some (x0i V,9),some (.int (Int.ofNat w),9),none]++[some (.int (Int.ofNat a.1),9),some (.int (Int.ofNat a.2.1),9),some (x84 n a.2.2,9)]):=y84 rfl y10
   refine x9p (q:=9) ((x0o (x0r v6) rfl e1).trans ?_)
   cases a.2.2 <;> rfl) rfl rfl
  exact x5c (x0w (f:=x04 4) (q:=9) rfl (x0w (f:=x04 5) (q:=9) rfl (x0r e))) (show 3<=1000 by decide)⟩))
 have e1:(H.W.filter fun _=>true).map (fun a=>y03 n (a.1,a.2.1,y8y V a.2.2))=(x6e V H w).W.map (y03 n):=by
  show _=(H.W.map _).map (y03 n)
  rw[List.map_map,List.filter_eq_self.mpr fun _ _=>rfl]
  rfl
 rw[e1]at c1
 refine(x0e (ρ1:=[some (x0p n H,9),some (x0i V,9),some (.int (Int.ofNat w),9),some (.lst ((x6e V H w).W.map (y03 n)),1)]) (x17 c1 rfl)).trans ?_
 exact x1y (x5c (x0w (f:=x1i 0 (eC (.int 0))) (q:=9) rfl (x0w (x1x (x0r (x3i (i:=3) (q:=1) (ds:=(x6e V H w).W.map (y03 n)) rfl))) (x0r (f:=x4e (x01 (x4e (x01 (eC (.int 0)) (x01 (x04 2) (x0c)))) (x0c))) (d:=.tup [y64 (0,w)]) (q:=9) rfl))) (show 3<=1000 by decide))
theorem y3z {n:Nat} {f:Nat->Nat->Nat} {h:Nat} {V:List (List Nat)} (o:VOk n f h V) {H:Hs} (hH:H.Ok n f h) {w:Nat}:x1j [x0p n H,x0i V,.int (Int.ofNat w)]=some (x0h n (x6e V H w),9):=by
 have hw6:=hH.w60
 unfold x1j x57
 refine x29 ?_
 show x0z _ _ [some (x0p n H,9),some (x0i V,9),some (.int (Int.ofNat w),9),none,none,none,none]=_
 refine(x0e (ρ1:=[some (x0p n H,9),some (x0i V,9),some (.int (Int.ofNat w),9),some (.lst ([]),1),none,none,none]) rfl).trans ?_
 have i1:x5t (x1i 0 (eC (.int 1))) [some (x0p n H,9),some (x0i V,9),some (.int (Int.ofNat w),9),some (.lst ([]),1),none,none,none]=some (H.W.map (x5f n),[some (x0p n H,9),some (x0i V,9),some (.int (Int.ofNat w),9),some (.lst ([]),1),none,none,none]):=by
  have e:x1i 0 (eC (.int 1)) [some (x0p n H,9),some (x0i V,9),some (.int (Int.ofNat w),9),some (.lst ([]),1),none,none,none]=some (.tup (H.W.map (x5f n)),9,[some (x0p n H,9),some (x0i V,9),some (.int (Int.ofNat w),9),some (.lst ([]),1),none,none,none]):=rfl
  unfold x5t
  rw[e]
  simp only[List.length_map]
  rw[if_pos (by omega)]
 obtain⟨j,e⟩:=y0x (J:=Option (D × Nat) × Option (D × Nat) × Option (D × Nat)) (pt:=y3d (x10 (x0l 4) (x10 (x0l 5) (x10 (x0l 6) (x5s))))) (body:=x4v) (x5f n) (fun l j=>[some (x0p n H,9),some (x0i V,9),some (.int (Int.ofNat w),9),some (.lst (l),1),j.1,j.2.1,j.2.2]) (fun a=>y03 n (a.1,a.2.1,y8y V a.2.2)) H.W [] (none,none,none) (by show 0+_<=1000; omega) (fun a ha l j hl=>by
  obtain⟨_,_,hx⟩:=hH.ws a ha
  have er:=j69 (i:=1) (j:=6) (ρ:=[some (x0p n H,9),some (x0i V,9),some (.int (Int.ofNat w),9),some (.lst (l),1),some (.int (Int.ofNat a.1),9),some (.int (Int.ofNat a.2.1),9),some (x84 n a.2.2,9)]) (c:=x81 (z2i .int (x04 6))) o hx (by
   clear hx
   cases a.2.2 <;> rfl) rfl rfl
  refine⟨[some (x0p n H,9),some (x0i V,9),some (.int (Int.ofNat w),9),some (.lst (l),1),some (.int (Int.ofNat a.1),9),some (.int (Int.ofNat a.2.1),9),some (x84 n a.2.2,9)],(some (.int (Int.ofNat a.1),9),some (.int (Int.ofNat a.2.1),9),some (x84 n a.2.2,9)),?_,?_⟩
  ·show y3d _ (D.tup [.int (Int.ofNat a.1),.int (Int.ofNat a.2.1),x84 n a.2.2]) _=_
   cases hx:a.2.2 <;> rfl
  ·unfold x4v
   exact x7w (ds:=l) rfl (x0r (x5c (x0w (f:=x04 4) (q:=9) rfl (x0w (f:=x04 5) (q:=9) rfl (x0r er))) (show 3<=1000 by decide))) rfl hl rfl)
 have e1:[]++H.W.map (fun a=>y03 n (a.1,a.2.1,y8y V a.2.2))=(x6e V H w).W.map (y03 n):=by
  show _=(H.W.map _).map (y03 n)
  rw[List.map_map]
  rfl
 rw[e1]at e
 refine(x0e ((x3l i1).trans e)).trans ?_
 exact x1y (x5c (x0w (f:=x1i 0 (eC (.int 0))) (q:=9) rfl (x0w (x1x (x0r (x3i (i:=3) (q:=1) (ds:=(x6e V H w).W.map (y03 n)) rfl))) (x0r (f:=x4e (x01 (x4e (x01 (eC (.int 0)) (x01 (x04 2) (x0c)))) (x0c))) (d:=.tup [y64 (0,w)]) (q:=9) rfl))) (show 3<=1000 by decide))
theorem j0x {u:List Nat} (h:0<u.length):atD (.tup (x0f u)) (-1)=some (.int (Int.ofNat (gv u (u.length-1)))):=by
 have hne:u ≠ []:=fun z=>by rw[z]at h; cases h
 have e:u=u.dropLast++[u.getLast hne]:=(List.dropLast_concat_getLast hne).symm
 have e2:gv u (u.length-1)=u.getLast hne:=by
  unfold gv
  rw[List.getD_eq_getElem?_getD,List.getElem?_eq_getElem (by omega),<- List.getLast_eq_getElem hne]
  rfl
 have e3:x0f u=x0f u.dropLast++[.int (Int.ofNat (u.getLast hne))]:=by
  have:=congrArg x0f e
  rw[this]
  simp[x0f]
 rw[e2]
 show L2.atI (x0f u) (-1)=_
 rw[e3]
 have hi:ixN ((x0f u.dropLast++[D.int (Int.ofNat (u.getLast hne))]).length) (-1)=some (x0f u.dropLast).length:=by
  rw[List.length_append]
  unfold ixN
  simp
  omega
 unfold L2.atI
 rw[hi]
 simp
noncomputable def ans (n:Nat) (f:Nat->Nat->Nat) (C:Cht):List Nat:=match x60 [x0v n f,x0h n C]with
 | some (.tup ds,_)=>ds.map fun d=>match d with | .int i=>i.toNat | _=>0
 | _=>[]
theorem j2q {n:Nat} {f:Nat->Nat->Nat} {C:Cht} {u:List Nat} {q:Nat} (h:x60 [x0v n f,x0h n C]=some (.tup (x0f u),q)):ans n f C=u:=by
 unfold ans
 rw[h]
 show(x0f u).map _=u
 simp[x0f,Function.comp_def]
noncomputable def nxr (n:Nat) (f:Nat->Nat->Nat) (V:List (List Nat)) (H:Hs):List Nat:=(List.range n).map fun w=>gv (ans n f (x6e V H w)) (H.p-1)
noncomputable def nx (n:Nat) (f:Nat->Nat->Nat) (P:List Hs) (V:List (List Nat)):List (List Nat):=P.map (nxr n f V)
section
variable {n:Nat} {f:Nat->Nat->Nat} (L:Lad n f) {z:Nat} (hz:z<n) (bz:∀ j,j<n->f z j=j)
include L hz bz
theorem y1z {C:Cht} (hC:C.Ok n f):LowS n f C.p (x2q C) (y0v C.p z) (ans n f C)/\x60 [x0v n f,x0h n C]=some (.tup (x0f (ans n f C)),9):=by
 obtain⟨u,h1,h2⟩:=y7e L hz bz hC
 rw[j2q h2]
 exact⟨h1,h2⟩
theorem z5p {C:Cht} (hC:C.Ok n f) {a:List Nat} (ha:Vn n C.p a) (cl:ClS f (x2q C) a):leV f C.p (ans n f C) a:=(y1z L hz bz hC).1.le a ha cl (z0k bz ha)
theorem z4v {V:List (List Nat)} {H:Hs} {w:Nat} {v:List Nat}:ClS f (x2q (x6e V H w)) v ↔ f w (gv v 0)=gv v 0/\∀ a∈H.W,f (y8y V a.2.2 (gv v a.1)) (gv v a.2.1)=gv v a.2.1:=by
 constructor
 ·intro h
  refine⟨h (x94 (0,w)) (List.mem_append_left _ (List.mem_singleton.mpr rfl)),fun a ha=>?_⟩
  exact h (y4p (a.1,a.2.1,y8y V a.2.2)) (List.mem_append_right _ (List.mem_map_of_mem (List.mem_map_of_mem (f:=fun a:Nat × Nat × Led=>(a.1,a.2.1,y8y V a.2.2)) ha)))
 ·intro h s hs
  rcases List.mem_append.mp hs with m | m
  ·have:s=x94 (0,w):=List.mem_singleton.mp m
   subst this
   exact h.1
  ·obtain⟨b,hb,rfl⟩:=List.mem_map.mp m
   obtain⟨a,ha,rfl⟩:=List.mem_map.mp hb
   exact h.2 a ha
variable {h:Nat} {P:List Hs} (hP:∀ H∈P,H.Ok n f h) (hl:P.length=h)
theorem y80 {V:List (List Nat)} {H:Hs} {w:Nat} (hw:w<n):gv (nxr n f V H) w=gv (ans n f (x6e V H w)) (H.p-1):=y7y _ hw
include hP hl
theorem j3k {V:List (List Nat)} (o:VOk n f h V) {H:Hs} (hH:H.Ok n f h):RowOk n f (nxr n f V H):=by
 have p1:=hH.p1
 refine⟨⟨by unfold nxr; rw[List.length_map,List.length_range],fun x hx=>?_⟩,fun x y hx hy e=>?_⟩
 ·obtain⟨w,hw,rfl⟩:=List.mem_map.mp hx
  exact(y1z L hz bz (x6p o hH (List.mem_range.mp hw))).1.V.gv (show H.p-1<H.p by omega)
 ·rw[y80 L hz bz hx,y80 L hz bz hy]
  have ox:=y1z L hz bz (x6p o hH hx)
  have oy:=y1z L hz bz (x6p o hH hy)
  have c:=(z4v L hz bz).mp oy.1.cl
  refine z5p L hz bz (x6p o hH hx) oy.1.V ((z4v L hz bz).mpr ⟨?_,c.2⟩) (H.p-1) (show H.p-1<H.p by omega)
  exact L.le_trans hx hy (oy.1.V.gv (show 0<H.p by omega)) e c.1
theorem z4l {V:List (List Nat)} (o:VOk n f h V):VOk n f h (nx n f P V):=⟨by unfold nx; rw[List.length_map]; exact hl,fun r hr=>by
 obtain⟨H,hH,rfl⟩:=List.mem_map.mp hr
 exact j3k L hz bz hP hl o (hP H hH)⟩
theorem j1t {V:List (List Nat)} {j:Nat} (hj:j<h):∃ H∈P,∀ V,(nx n f P V).getD j []=nxr n f V H:=by
 have hj':j<P.length:=by rw[hl]; exact hj
 refine⟨P[j],List.getElem_mem hj',fun V=>?_⟩
 unfold nx
 rw[List.getD_eq_getElem?_getD,List.getElem?_map,List.getElem?_eq_getElem hj']
 rfl
theorem y4j {V W:List (List Nat)} (o:VOk n f h V) (o':VOk n f h W) (le:y60 f n V W):y60 f n (nx n f P V) (nx n f P W):=fun j hj=>by
 have hj':j<h:=by rw[<- (z4l L hz bz hP hl o).len]; exact hj
 obtain⟨H,hH,e⟩:=j1t L hz bz hP hl (V:=V) hj'
 rw[e,e]
 have oH:=hP H hH
 have p1:=oH.p1
 intro w hw
 rw[y80 L hz bz hw,y80 L hz bz hw]
 have ox:=y1z L hz bz (x6p o' oH hw)
 have c:=(z4v L hz bz).mp ox.1.cl
 refine z5p L hz bz (x6p o oH hw) ox.1.V ((z4v L hz bz).mpr ⟨c.1,fun a ha=>?_⟩) (H.p-1) (show H.p-1<H.p by omega)
 obtain⟨a1,a2,a3⟩:=oH.ws a ha
 have c2:=c.2 a ha
 cases hx:a.2.2 with
 | inr r=>rw[hx]at c2; exact c2
 | inl k=>
  rw[hx]at c2 a3
  have hk:k<h:=a3
  have g1:=ox.1.V.gv (show a.1<H.p from a1)
  have g2:=ox.1.V.gv (show a.2.1<H.p from a2)
  exact L.le_trans ((o.at hk).V.gv g1) ((o'.at hk).V.gv g1) g2 (le k (by rw[o.len]; exact hk) _ g1) c2
omit hP hl
theorem y49 {V:List (List Nat)} (o:VOk n f h V) {H:Hs} (hH:H.Ok n f h):x3u [x0v n f,x0p n H,x0i V]=some (x6k (nxr n f V H),9):=by
 have hn:n<=1000:=Nat.le_trans L.hi (by decide)
 have p1:=hH.p1
 unfold x3u y0g
 have hcm:=x24 (k:=1) (tt:=x2p) (te:=eIx (x0g x60 2 (x01 (x04 0) (x01 (x0g x35 3 (x01 (x04 1) (x01 (x04 2) (x01 (x04 3) (x0c))))) (x0c)))) (z9o (eC (.int 1)))) (deep:=false) (x4s hn (i:=0) (ρ:=[some (x0v n f,9),some (x0p n H,9),some (x0i V,9)]) rfl x2u) (z1s (i:=3) rfl (fun _=>true) (fun w=>.int (Int.ofNat (gv (ans n f (x6e V H w)) (H.p-1)))) (fun _=>9) (fun j hj=>rfl) (fun w hw _=>by
  have oc:=y1z L hz bz (x6p o hH hw)
  have lu:(ans n f (x6e V H w)).length=H.p:=oc.1.V.len
  have ae:=j0x (u:=ans n f (x6e V H w)) (by rw[lu]; omega)
  rw[lu]at ae
  exact z60 (x0o (x0w (f:=x04 0) (q:=9) rfl (x0r (x0o (ds:=[x0p n H,x0i V,.int (Int.ofNat w)]) rfl rfl (z2a o hH)))) rfl oc.2) (b:=z9o (eC (.int 1))) (k:=-1) (q':=9) rfl ae rfl rfl))
 rw[show(List.range n).filter (fun _=>true)=List.range n by simp]at hcm
 have e1:D.tup ((List.range n).map fun w=>.int (Int.ofNat (gv (ans n f (x6e V H w)) (H.p-1))))=x6k (nxr n f V H):=by
  unfold x6k nxr
  rw[x7b]
 have e2:=x1x (x0r hcm)
 rw[e1]at e2
 exact x29 (x1y e2)
theorem y5z {V:List (List Nat)} (o:VOk n f h V) (hP:∀ H∈P,H.Ok n f h) (hlen:P.length<=1000):x1w [x0v n f,x1k n P,x0i V]=some (x0i (nx n f P V),9):=by
 unfold x1w x5g
 have hi:x5t (x04 1) [some (x0v n f,9),some (x1k n P,9),some (x0i V,9)]=some (P.map (x0p n),[some (x0v n f,9),some (x1k n P,9),some (x0i V,9)]):=by
  simp[x1k,hlen]
 have hcm:=x24 (k:=1) (tt:=x2p) (te:=x0g x3u 3 (x01 (x04 0) (x01 (x04 3) (x01 (x04 2) (x0c))))) (deep:=false) (pt:=x0l 3) hi (x4i (x0p n) (fun H=>[some (x0p n H,9)]) (fun _=>true) (fun H=>x6k (nxr n f V H)) (fun _=>9) P (fun H hH=>⟨rfl,rfl,fun _=>x0o (ds:=[x0v n f,x0p n H,x0i V]) rfl rfl (y49 L hz bz o (hP H hH))⟩))
 have e1:(P.filter fun _=>true).map (fun H=>x6k (nxr n f V H))=(nx n f P V).map x6k:=by
  unfold nx
  rw[List.map_map,List.filter_eq_self.mpr fun _ _=>rfl]
  rfl
 rw[e1]at hcm
 exact x29 (x1y (x1x (x0r hcm)))
noncomputable abbrev N8 (n:Nat) (f:Nat->Nat->Nat) (P:List Hs) (V:List (List Nat)) (l:List D) (a b c d:Option (D × Nat)):Rho:=[some (x0v n f,9),some (x1k n P,9),some (x0i V,9),some (.lst l,1),a,b,c,d]
theorem y1k {V:List (List Nat)} (o:VOk n f h V) (hP:∀ H∈P,H.Ok n f h) (hlen:P.length<=900):x1e [x0v n f,x1k n P,x0i V]=some (x0i (nx n f P V),9):=by
 have hn:n<=1000:=Nat.le_trans L.hi (by decide)
 have hn8:=L.hi
 unfold x1e x5p
 refine x29 ?_
 show x0z _ _ [some (x0v n f,9),some (x1k n P,9),some (x0i V,9),none,none,none,none,none]=_
 refine(x0e (ρ1:=N8 n f P V [] none none none none) rfl).trans ?_
 have hi:x5t (x04 1) (N8 n f P V [] none none none none)=some (P.map (x0p n),N8 n f P V [] none none none none):=by
  have:P.length<=1000:=by omega
  simp[x1k,this]
 obtain⟨j,e⟩:=y0x (J:=Option (D × Nat) × Option (D × Nat) × Option (D × Nat) × Option (D × Nat)) (pt:=x0l 4) (body:=x51) (x0p n) (fun l j=>N8 n f P V l j.1 j.2.1 j.2.2.1 j.2.2.2) (fun H=>x6k (nxr n f V H)) P [] (none,none,none,none) (by show 0+_<=1000; omega) (fun H hH l j hl=>by
  have oH:=hP H hH
  have p1:=oH.p1
  have p8:=oH.p8
  obtain⟨j',e⟩:=y0x (J:=Option (D × Nat) × Option (D × Nat)) (pt:=x0l 6) (body:=x52) (fun w:Nat=>D.int (Int.ofNat w)) (fun row j=>N8 n f P V l (some (x0p n H,9)) (some (.lst row,1)) j.1 j.2) (fun w=>.int (Int.ofNat (gv (ans n f (x6e V H w)) (H.p-1)))) (List.range n) [] (j.2.2.1,j.2.2.2) (by rw[List.length_range]; show 0+n<=1000; omega) (fun w hw row j hrow=>by
   have hwn:=List.mem_range.mp hw
   have oc:=x6p o oH hwn
   have oa:=y1z L hz bz oc
   have hlow:=z1x (p:=H.p) hz
   obtain⟨u,hu,eu⟩:=y3n L oc hlow
   have eq:u=ans n f (x6e V H w):=L.leV_anti hu.V oa.1.V (hu.le _ oa.1.V oa.1.cl oa.1.up) (oa.1.le u hu.V hu.cl hu.up)
   subst eq
   have ae:atD (.tup (x0f (ans n f (x6e V H w)))) (Int.ofNat (H.p-1))=some (.int (Int.ofNat (gv (ans n f (x6e V H w)) (H.p-1)))):=j5p (by rw[oa.1.V.len]; show H.p-1<H.p; omega)
   refine⟨N8 n f P V l (some (x0p n H,9)) (some (.lst row,1)) (some (.int (Int.ofNat w),9)) j.2,(some (.int (Int.ofNat w),9),some (x0h n (x6e V H w),9)),rfl,?_⟩
   unfold x52
   refine(x0e (ρ1:=N8 n f P V l (some (x0p n H,9)) (some (.lst row,1)) (some (.int (Int.ofNat w),9)) (some (x0h n (x6e V H w),9))) (x17 (x0o (ds:=[x0p n H,x0i V,.int (Int.ofNat w)]) rfl rfl (y3z o oH)) rfl)).trans ?_
   have e1:x4e (x01 (x0g x1d 1 (x01 (x04 0) (x0c))) (x0c)) (N8 n f P V l (some (x0p n H,9)) (some (.lst row,1)) (some (.int (Int.ofNat w),9)) (some (x0h n (x6e V H w),9)))=some (.tup [.int (Int.ofNat z)],9,N8 n f P V l (some (x0p n H,9)) (some (.lst row,1)) (some (.int (Int.ofNat w),9)) (some (x0h n (x6e V H w),9))):=x5c (x0r (x0o (ds:=[x0v n f]) rfl rfl (y8j L hz bz hn))) (show 1<=1000 by decide)
   have e2:x1i 4 (eC (.int 0)) (N8 n f P V l (some (x0p n H,9)) (some (.lst row,1)) (some (.int (Int.ofNat w),9)) (some (x0h n (x6e V H w),9)))=some (.int (Int.ofNat H.p),9,N8 n f P V l (some (x0p n H,9)) (some (.lst row,1)) (some (.int (Int.ofNat w),9)) (some (x0h n (x6e V H w),9))):=rfl
   have e3:y1c (x4e (x01 (x0g x1d 1 (x01 (x04 0) (x0c))) (x0c))) (x1i 4 (eC (.int 0))) (N8 n f P V l (some (x0p n H,9)) (some (.lst row,1)) (some (.int (Int.ofNat w),9)) (some (x0h n (x6e V H w),9)))=some (.tup (x0f (y0v H.p z)),9,N8 n f P V l (some (x0p n H,9)) (some (.lst row,1)) (some (.int (Int.ofNat w),9)) (some (x0h n (x6e V H w),9))):=by
    unfold y1c
    rw[e1]
    simp only[e2]
    rw[if_pos ⟨rfl,by show(1:Int)<=(H.p:Int); omega,by show 1*H.p<=1000; omega⟩]
    show some (D.tup (List.replicate H.p [D.int (Int.ofNat z)]).flatten,9,_)=_
    rw[List.flatten_replicate_singleton]
    simp[x0f,y0v]
   have e4:z67 (.int (Int.ofNat H.p)) (.int 1)=some (.int (Int.ofNat (H.p-1))):=by
    show some (D.int (Int.ofNat H.p-1))=_
    have:Int.ofNat H.p-1=Int.ofNat (H.p-1):=by show(H.p:Int)-1=((H.p-1:Nat):Int); omega
    rw[this]
   have v0:x04 0 (N8 n f P V l (some (x0p n H,9)) (some (.lst row,1)) (some (.int (Int.ofNat w),9)) (some (x0h n (x6e V H w),9)))=some (x0v n f,9,N8 n f P V l (some (x0p n H,9)) (some (.lst row,1)) (some (.int (Int.ofNat w),9)) (some (x0h n (x6e V H w),9))):=rfl
   have v7:x04 7 (N8 n f P V l (some (x0p n H,9)) (some (.lst row,1)) (some (.int (Int.ofNat w),9)) (some (x0h n (x6e V H w),9)))=some (x0h n (x6e V H w),9,N8 n f P V l (some (x0p n H,9)) (some (.lst row,1)) (some (.int (Int.ofNat w),9)) (some (x0h n (x6e V H w),9))):=rfl
   have e5:=z60 (x0o (F:=x25) (n:=3) (x0w v0 (x0w v7 (x0r e3))) rfl eu) (x3c e2 (rfl:eC (.int 1) _=some (.int 1,9,_)) e4) ae rfl rfl
   exact x7w (ds:=row) rfl (x0r e5) rfl hrow rfl)
  have e1:[]++(List.range n).map (fun w=>D.int (Int.ofNat (gv (ans n f (x6e V H w)) (H.p-1))))=x0f (nxr n f V H):=by
   unfold nxr
   rw[x7b]
   rfl
  rw[e1]at e
  refine⟨N8 n f P V l (some (x0p n H,9)) j.2.1 j.2.2.1 j.2.2.2,(some (x0p n H,9),some (.lst (x0f (nxr n f V H)),0),j'.1,j'.2),rfl,?_⟩
  unfold x51
  refine(x0e (ρ1:=N8 n f P V l (some (x0p n H,9)) (some (.lst [],1)) j.2.2.1 j.2.2.2) rfl).trans ?_
  refine(x0e ((x3l (x4s hn rfl x2u)).trans e)).trans ?_
  exact x7w (ds:=l) rfl (x0r (x1x (x0r (x3i (i:=5) (q:=1) (ds:=x0f (nxr n f V H)) rfl)))) rfl hl rfl)
 have e1:[]++P.map (fun H=>x6k (nxr n f V H))=(nx n f P V).map x6k:=by
  unfold nx
  rw[List.map_map]
  rfl
 rw[e1]at e
 refine(x0e ((x3l hi).trans e)).trans ?_
 exact x1y (x1x (x0r (x3i (i:=3) (q:=1) (ds:=(nx n f P V).map x6k) rfl)))
end
theorem z8e {i j:Int} (c:(-(2 ^ 64)<i/\i<2 ^ 64)\/(-(2 ^ 64)<j/\j<2 ^ 64)):x95 (.int i) (.int j)=some (.int (i*j)):=by
 unfold x95 gI
 dsimp only
 rw[if_pos c]
theorem z6m {a:Nat} (h:a<1000):-(2 ^ 64)<(Int.ofNat a)/\(Int.ofNat a)<2 ^ 64:=by
 have e:Int.ofNat a=(a:Int):=rfl
 rw[e]
 constructor <;> omega
theorem y8h {a b:Nat} (h:a<1000):x95 (.int (Int.ofNat a)) (.int (Int.ofNat b))=some (.int (Int.ofNat (a*b))):=by
 rw[z8e (.inl (z6m h))]
 rfl
theorem x9c (V:List (List Nat)):Sh 2 (x0i V):=.tup fun d hd=>by
 obtain⟨r,_,rfl⟩:=List.mem_map.mp hd
 exact z9p r
theorem j4u:∀ A B:List (List Nat),PyData.eqvAll (x6v (A.map x6k)) (x6v (B.map x6k))=decide (A=B)
 | [],[]=>rfl
 | [],b::B=>rfl
 | a::A,[]=>rfl
 | a::A,b::B=>by
  show(PyData.eqv (toP (x6k a)) (toP (x6k b)) && PyData.eqvAll (x6v (A.map x6k)) (x6v (B.map x6k)))=_
  have e1:PyData.eqv (toP (x6k a)) (toP (x6k b))=decide (a=b):=z82 a b
  rw[e1,j4u A B]
  by_cases h1:a=b
  ·by_cases h2:A=B
   ·simp[h1,h2]
   ·simp[h1,h2]
  ·simp[h1]
theorem x5n (A B:List (List Nat)):dNe (x0i A) (x0i B)=some (.bl (!decide (A=B))):=by
 unfold dNe
 rw[if_pos ⟨(x9c A).ok,(x9c B).ok⟩]
 show some (D.bl (!PyData.eqvAll (x6v (A.map x6k)) (x6v (B.map x6k))))=_
 rw[j4u]
theorem x96 (A B:List (List Nat)):dEq (x0i A) (x0i B)=some (.bl (decide (A=B))):=by
 unfold dEq
 rw[if_pos ⟨(x9c A).ok,(x9c B).ok⟩]
 show some (D.bl (PyData.eqvAll (x6v (A.map x6k)) (x6v (B.map x6k))))=_
 rw[j4u]
theorem x64 (A:List (List Nat)):dNe (x0i A) .non=some (.bl true):=by
 unfold dNe
 rw[if_pos ⟨(x9c A).ok,(Sh.non (k:=0)).ok⟩]
 rfl
noncomputable def mS (n:Nat) (f:Nat->Nat->Nat) (V:List (List Nat)):Nat:=(V.map (Lad.mu n f)).sum
theorem y8q {n:Nat} {f:Nat->Nat->Nat}:∀ {V:List (List Nat)},(∀ r∈V,Vn n n r)->mS n f V<=V.length*(n*n)
 | [],_=>Nat.zero_le _
 | r::V,h=>by
  have h1:=Lad.mu_le (f:=f) (h r List.mem_cons_self)
  have h2:=y8q (n:=n) (f:=f) (V:=V) fun s hs=>h s (List.mem_cons_of_mem _ hs)
  show Lad.mu n f r+mS n f V<=(V.length+1)*(n*n)
  rw[Nat.add_mul,Nat.one_mul]
  omega
section
variable {n:Nat} {f:Nat->Nat->Nat} (L:Lad n f) {z:Nat} (hz:z<n) (bz:∀ j,j<n->f z j=j) {h:Nat}
include L
theorem j3s:∀ {V W:List (List Nat)},V.length=W.length->(∀ r∈V,Vn n n r)->(∀ r∈W,Vn n n r)->y60 f n V W->mS n f W<=mS n f V/\(V≠W->mS n f W<mS n f V)
 | [],[],_,_,_,_=>⟨Nat.le_refl _,fun z=>absurd rfl z⟩
 | [],_::_,e,_,_,_=>nomatch e
 | _::_,[],e,_,_,_=>nomatch e
 | r::V,s::W,e,hV,hW,le=>by
  have hr:=hV r List.mem_cons_self
  have hs:=hW s List.mem_cons_self
  have i:=j3s (V:=V) (W:=W) (Nat.succ.inj e) (fun t ht=>hV t (List.mem_cons_of_mem _ ht)) (fun t ht=>hW t (List.mem_cons_of_mem _ ht)) fun j hj=>le (j+1) (Nat.succ_lt_succ hj)
  have l0:leV f n r s:=le 0 (Nat.zero_lt_succ _)
  by_cases hrs:r=s
  ·subst hrs
   refine⟨Nat.add_le_add_left i.1 _,fun ne=>Nat.add_lt_add_left (i.2 fun q=>ne (by rw[q])) _⟩
  ·have:=L.mu_lt hr hs l0 hrs
   have k:mS n f (s::W)<mS n f (r::V):=Nat.add_lt_add_of_lt_of_le this i.1
   exact⟨Nat.le_of_lt k,fun _=>k⟩
theorem z1o {V W:List (List Nat)} (o:VOk n f h V) (o':VOk n f h W) (a:y60 f n V W) (b:y60 f n W V):V=W:=by
 apply List.ext_getElem?
 intro j
 by_cases hj:j<h
 ·have h1:j<V.length:=by rw[o.len]; exact hj
  have h2:j<W.length:=by rw[o'.len]; exact hj
  have e:=L.leV_anti (o.at hj).V (o'.at hj).V (a j h1) (b j h2)
  rw[List.getD_eq_getElem?_getD,List.getD_eq_getElem?_getD,List.getElem?_eq_getElem h1,List.getElem?_eq_getElem h2]at e
  rw[List.getElem?_eq_getElem h1,List.getElem?_eq_getElem h2]
  exact congrArg some e
 ·rw[List.getElem?_eq_none (by rw[o.len]; omega),List.getElem?_eq_none (by rw[o'.len]; omega)]
include hz bz
noncomputable def x6d (n h z:Nat):List (List Nat):=List.replicate h (y0v n z)
theorem z07:VOk n f h (x6d n h z):=⟨List.length_replicate,fun r hr=>by
 rw[(List.mem_replicate.mp hr).2]
 refine⟨z1x hz,fun x y hx hy _=>?_⟩
 rw[y70 hx,y70 hy]
 exact bz z hz⟩
theorem y3p {V:List (List Nat)} (o:VOk n f h V):y60 f n (x6d n h z) V:=fun j hj=>by
 have hj':j<h:=by rw[show(x6d n h z).length=h from List.length_replicate]at hj; exact hj
 have e:(x6d n h z).getD j []=y0v n z:=by
  unfold x6d
  rw[List.getD_eq_getElem?_getD,List.getElem?_replicate]
  simp[hj']
 rw[e]
 exact z0k bz (o.at hj').V
variable {P:List Hs} (hP:∀ H∈P,H.Ok n f h) (hl:P.length=h)
include hl
theorem x7h (hh:h<=100):x3w [x0v n f,x1k n P]=some (x0i (x6d n h z),9):=by
 have hn:n<=1000:=Nat.le_trans L.hi (by decide)
 unfold x3w x8x
 have e1:x3j n (fun _=>z)=x6k (y0v n z):=by
  unfold x3j x6k y0v
  rw[List.map_const',List.length_range]
 have s1:=z04 (f:=f) hn z
 rw[e1]at s1
 have l1:x1c 1 [some (x0v n f,9),some (x1k n P,9)]=some (.int (Int.ofNat h),9,[some (x0v n f,9),some (x1k n P,9)]):=x5z rfl (by show some (P.map (x0p n)).length=_; rw[List.length_map,hl])
 have c1:=x0o (F:=x4z) (n:=2) (x0w (f:=x04 0) (q:=9) (ρ:=[some (x0v n f,9),some (x1k n P,9)]) (ρ1:=[some (x0v n f,9),some (x1k n P,9)]) rfl (x0r (x0o (F:=x36) (n:=1) (g:=x01 (x04 0) x0c) (ds:=[x0v n f]) rfl rfl (y7m L hz bz hn)))) rfl s1
 have e2:x4x (x01 (x0g x4z 2 (x01 (x04 0) (x01 (x0g x36 1 (x01 (x04 0) (x0c))) (x0c)))) (x0c)) [some (x0v n f,9),some (x1k n P,9)]=some (.lst [x6k (y0v n z)],1,[some (x0v n f,9),some (x1k n P,9)]):=by
  unfold x4x
  rw[x0r c1]
  exact if_pos (show 1<=1000 by decide)
 have e3:y15 (x4x (x01 (x0g x4z 2 (x01 (x04 0) (x01 (x0g x36 1 (x01 (x04 0) (x0c))) (x0c)))) (x0c))) (x1c 1) [some (x0v n f,9),some (x1k n P,9)]=some (.lst ((x6d n h z).map x6k),1,[some (x0v n f,9),some (x1k n P,9)]):=by
  unfold y15
  rw[e2]
  simp only[l1]
  rw[if_pos ⟨by show(-1000:Int)<=(h:Int); omega,by show(h:Int)<=1000; omega,by show 1*h<=1000; omega⟩]
  show some (D.lst (List.replicate h [x6k (y0v n z)]).flatten,1,_)=_
  rw[List.flatten_replicate_singleton]
  unfold x6d
  rw[List.map_replicate]
 exact x29 (x1y (x1x (x0r e3)))
include hP
structure Fix (n:Nat) (f:Nat->Nat->Nat) (h:Nat) (P:List Hs) (V:List (List Nat)):Prop where
 ok:VOk n f h V
 fx:nx n f P V=V
 le:∀ W,VOk n f h W->nx n f P W=W->y60 f n V W
noncomputable abbrev Q6 (n:Nat) (f:Nat->Nat->Nat) (P:List Hs) (d:Nat) (V:List (List Nat)) (a:D) (i:Int):Rho:=[some (x0v n f,9),some (x1k n P,9),some (.int (Int.ofNat d),9),some (x0i V,9),some (a,9),some (.int i,9)]
theorem j1e (hh:h<=3) (hn5:n<=5) {d:Nat} (hd:h*(n*n)<=d):∃ V,Fix n f h P V/\x13 [x0v n f,x1k n P,.int (Int.ofNat d)]=some (x0i V,9):=by
 have o0:VOk n f h (x6d n h z):=z07 L hz bz
 have hb:mS n f (x6d n h z)<=h*(n*n):=by
  have:=y8q (n:=n) (f:=f) (V:=x6d n h z) fun r hr=>(o0.row r hr).V
  rw[o0.len]at this
  exact this
 have h75:h*(n*n)<=75:=by
  have h1:n*n<=5*5:=Nat.mul_le_mul hn5 hn5
  have h2:h*(n*n)<=3*(5*5):=Nat.mul_le_mul hh h1
  omega
 obtain⟨ρ',e,V,a,i,hV,rfl⟩:=x4h (c:=x5o (x2g (e2 dGe (x04 5) (eC (.int 0)))) (x2g (e2 dNe (x04 3) (x04 4)))) (b:=x2n)
  (Q:=fun ρ=>∃ (V:List (List Nat)) (a:D) (i:Int),Fix n f h P V/\ρ=Q6 n f P d V a i)
  (fun k ρ=>∃ (V:List (List Nat)) (a:D) (i:Nat),VOk n f h V/\y60 f n V (nx n f P V)/\(∀ W,VOk n f h W->nx n f P W=W->y60 f n V W) /\
    ((a=.non/\i=0/\V=x6d n h z/\k=mS n f V+2)\/∃ U,a=x0i U/\VOk n f h U/\V=nx n f P U/\mS n f V+i<=mS n f (x6d n h z)+(if U=V then 1 else 0)/\k=mS n f V+(if U=V then 0 else 1))/\ρ=Q6 n f P d V a ((d:Int)-(i:Int)))
  (k:=mS n f (x6d n h z)+2) (ρ:=Q6 n f P d (x6d n h z) .non (Int.ofNat d)) (by omega)
  ⟨x6d n h z,.non,0,o0,y3p L hz bz (z4l L hz bz hP hl o0),fun W oW _=>y3p L hz bz oW,.inl ⟨rfl,rfl,rfl,rfl⟩,by show _=Q6 n f P d (x6d n h z) .non ((d:Int)-((0:Nat):Int)); rw[show(d:Int)-((0:Nat):Int)=(d:Int)from Int.sub_zero _]; rfl⟩ (fun k ρ hh0=>by
   obtain⟨V,a,i,oV,up,lo,h6,rfl⟩:=hh0
   have oN:=z4l L hz bz hP hl oV
   have de:=y5z L hz bz oV hP (by omega)
   have lt:=j3s L (by rw[oV.len,oN.len]) (fun r hr=>(oV.row r hr).V) (fun r hr=>(oN.row r hr).V) up
   have go:∀ (hi:i<=d) (hne:dNe (x0i V) a=some (.bl true)) (k':Nat),k'<k->k'=mS n f (nx n f P V)+(if V=nx n f P V then 0 else 1)->mS n f (nx n f P V)+(i+1)<=mS n f (x6d n h z)+(if V=nx n f P V then 1 else 0)->
     ∃ ρ1 ρ2 k',x5o (x2g (e2 dGe (x04 5) (eC (.int 0)))) (x2g (e2 dNe (x04 3) (x04 4))) (Q6 n f P d V a ((d:Int)-(i:Int)))=some (true,ρ1)/\x2n ρ1=some (.nx ρ2)/\k'<k/\∃ (V:List (List Nat)) (a:D) (i:Nat),VOk n f h V/\y60 f n V (nx n f P V)/\(∀ W,VOk n f h W->nx n f P W=W->y60 f n V W) /\
   ((a=.non/\i=0/\V=x6d n h z/\k'=mS n f V+2)\/∃ U,a=x0i U/\VOk n f h U/\V=nx n f P U/\mS n f V+i<=mS n f (x6d n h z)+(if U=V then 1 else 0)/\k'=mS n f V+(if U=V then 0 else 1))/\ρ2=Q6 n f P d V a ((d:Int)-(i:Int)):=fun hi hne k' hk hk' hm=>by
    refine⟨Q6 n f P d V a ((d:Int)-(i:Int)),Q6 n f P d (nx n f P V) (x0i V) ((d:Int)-((i+1:Nat):Int)),k',?_,?_,hk,nx n f P V,x0i V,i+1,oN,y4j L hz bz hP hl oV oN up,fun W oW fW=>?_,.inr ⟨V,rfl,oV,rfl,hm,hk'⟩,rfl⟩
    ·have g1:x2g (e2 dGe (x04 5) (eC (.int 0))) (Q6 n f P d V a ((d:Int)-(i:Int)))=some (true,Q6 n f P d V a ((d:Int)-(i:Int))):=by
      refine x2s (x3c (fa:=x04 5) (fb:=eC (.int 0)) (q:=9) (q':=9) rfl rfl ?_)
      show some (D.bl (decide ((0:Int)<=(d:Int)-(i:Int))))=_
      rw[decide_eq_true (by omega)]
     have g2:x2g (e2 dNe (x04 3) (x04 4)) (Q6 n f P d V a ((d:Int)-(i:Int)))=some (true,Q6 n f P d V a ((d:Int)-(i:Int))):=by
      rcases h6 with⟨rfl,_⟩ | ⟨U,rfl,_⟩
      ·exact x2s (x3c (fa:=x04 3) (fb:=x04 4) (q:=9) (q':=9) rfl rfl hne)
      ·exact x2s (x3c (fa:=x04 3) (fb:=x04 4) (q:=9) (q':=9) rfl rfl hne)
     unfold x5o
     rw[g1]
     exact g2
    ·unfold x2n
     refine(x0e (ρ1:=Q6 n f P d V (x0i V) ((d:Int)-(i:Int))) (x17 (d:=x0i V) (q:=9) rfl rfl)).trans ?_
     refine(x0e (ρ1:=Q6 n f P d (nx n f P V) (x0i V) ((d:Int)-(i:Int))) (x17 (x0o (ds:=[x0v n f,x1k n P,x0i V]) rfl rfl de) rfl)).trans ?_
     have e1:(d:Int)-(i:Int)-1=(d:Int)-((i+1:Nat):Int):=by omega
     refine x17 (d:=.int ((d:Int)-((i+1:Nat):Int))) (q:=9) (ρ1:=Q6 n f P d (nx n f P V) (x0i V) ((d:Int)-(i:Int))) (x3c (fa:=x04 5) (fb:=eC (.int 1)) (q:=9) (q':=9) rfl rfl ?_) rfl
     show some (D.int ((d:Int)-(i:Int)-1))=_
     rw[e1]
    ·have:=y4j L hz bz hP hl oV oW (lo W oW fW)
     rw[fW]at this
     exact this
   rcases h6 with⟨rfl,rfl,rfl,hk⟩ | ⟨U,rfl,oU,hU,hm,hk⟩
   ·refine .inr ?_
    by_cases he:x6d n h z=nx n f P (x6d n h z)
    ·exact go (Nat.zero_le _) (x64 _) (mS n f (nx n f P (x6d n h z))+0) (by rw[<- he]; omega) (by rw[if_pos he]) (by rw[if_pos he,<- he]; omega)
    ·have:=lt.2 he
     exact go (Nat.zero_le _) (x64 _) (mS n f (nx n f P (x6d n h z))+1) (by omega) (by rw[if_neg he]) (by rw[if_neg he]; omega)
   ·by_cases hUV:U=V
    ·subst hUV
     refine .inl ⟨Q6 n f P d U (x0i U) ((d:Int)-(i:Int)),?_,U,x0i U,_,⟨oV,hU.symm,lo⟩,rfl⟩
     have g1:x2g (e2 dGe (x04 5) (eC (.int 0))) (Q6 n f P d U (x0i U) ((d:Int)-(i:Int)))=some (decide ((0:Int)<=(d:Int)-(i:Int)),Q6 n f P d U (x0i U) ((d:Int)-(i:Int))):=x2s (x3c (fa:=x04 5) (fb:=eC (.int 0)) (q:=9) (q':=9) rfl rfl rfl)
     have ne:=x5n U U
     rw[decide_eq_true rfl]at ne
     have g2:x2g (e2 dNe (x04 3) (x04 4)) (Q6 n f P d U (x0i U) ((d:Int)-(i:Int)))=some (false,Q6 n f P d U (x0i U) ((d:Int)-(i:Int))):=x2s (x3c (fa:=x04 3) (fb:=x04 4) (q:=9) (q':=9) rfl rfl ne)
     unfold x5o
     rw[g1]
     cases decide ((0:Int)<=(d:Int)-(i:Int))with
     | true=>exact g2
     | false=>rfl
    ·rw[if_neg hUV]at hm hk
     have hi:i<=d:=by omega
     have hne:dNe (x0i V) (x0i U)=some (.bl true):=by rw[x5n,decide_eq_false fun q=>hUV q.symm]; rfl
     refine .inr ?_
     by_cases he:V=nx n f P V
     ·exact go hi hne (mS n f (nx n f P V)+0) (by rw[<- he]; omega) (by rw[if_pos he]) (by rw[if_pos he,<- he]; omega)
     ·have:=lt.2 he
      exact go hi hne (mS n f (nx n f P V)+1) (by omega) (by rw[if_neg he]) (by rw[if_neg he]; omega))
 refine⟨V,hV,?_⟩
 unfold x13 x5b
 refine x29 ?_
 show x0z _ _ [some (x0v n f,9),some (x1k n P,9),some (.int (Int.ofNat d),9),none,none,none]=_
 refine(x0e (ρ1:=[some (x0v n f,9),some (x1k n P,9),some (.int (Int.ofNat d),9),some (x0i (x6d n h z),9),none,none]) (x17 (x0o (ds:=[x0v n f,x1k n P]) rfl rfl (x7h L hz bz hl (by omega))) rfl)).trans ?_
 refine(x0e (ρ1:=[some (x0v n f,9),some (x1k n P,9),some (.int (Int.ofNat d),9),some (x0i (x6d n h z),9),some (.non,9),none]) rfl).trans ?_
 refine(x0e (ρ1:=Q6 n f P d (x6d n h z) .non (Int.ofNat d)) rfl).trans ?_
 exact(x0e e).trans (x1y (ρ1:=Q6 n f P d V a i) rfl)
theorem y52 (hh:h<=3) (hn5:n<=5):∃ V,Fix n f h P V/\x4r [x0v n f,x1k n P]=some (x0i V,9):=by
 obtain⟨V,hV,e⟩:=j1e L hz bz hP hl hh hn5 (d:=h*(n*n)) (Nat.le_refl _)
 refine⟨V,hV,?_⟩
 unfold x4r y1g
 have l1:x1c 1 [some (x0v n f,9),some (x1k n P,9)]=some (.int (Int.ofNat h),9,[some (x0v n f,9),some (x1k n P,9)]):=x5z rfl (by show some (P.map (x0p n)).length=_; rw[List.length_map,hl])
 have l0:x1c 0 [some (x0v n f,9),some (x1k n P,9)]=some (.int (Int.ofNat n),9,[some (x0v n f,9),some (x1k n P,9)]):=x5z rfl x2u
 have hm1:=y8h (a:=h) (b:=n) (by omega)
 have h15:h*n<=3*5:=Nat.mul_le_mul hh hn5
 have hm2:=y8h (a:=h*n) (b:=n) (by omega)
 rw[Nat.mul_assoc]at hm2
 exact x29 (x1y (x0o (x0w (f:=x04 0) (q:=9) rfl (x0w (f:=x04 1) (q:=9) rfl (x0r (x3c (x3c l1 l0 hm1) l0 hm2)))) rfl e))
end
theorem z5c {i j:Int} (c:(-(2 ^ 64)<i/\i<2 ^ 64)\/(-(2 ^ 64)<j/\j<2 ^ 64)):x95 (.int i) (.int j)=some (.int (i*j)):=by
 unfold x95 gI
 dsimp only
 rw[if_pos c]
theorem z2k {a:Nat} (h:a<1000):-(2 ^ 64)<(Int.ofNat a)/\(Int.ofNat a)<2 ^ 64:=by
 have e:Int.ofNat a=(a:Int):=rfl
 rw[e]
 constructor <;> omega
theorem z5z {c:Nat} {j:Nat} (h:c<1000):x95 (.int (Int.ofNat c)) (.int (Int.ofNat j))=some (.int (Int.ofNat c*Int.ofNat j)):=z5c (.inl (z2k h))
noncomputable abbrev P11 (ns:List Int) (t:Int) (n:Nat) (f:Nat->Nat->Nat) (h:Nat) (l:List D) (a b c d e g:Option (D × Nat)):Rho:=[some (scr ns,0),some (.int t,9),some (x0v n f,9),some (.int (Int.ofNat h),9),some (.lst l,1),a,b,c,d,e,g]
section
variable {n:Nat} {f:Nat->Nat->Nat} (L:Lad n f) {z:Nat} (hz:z<n) (bz:∀ j,j<n->f z j=j)
include L hz bz
theorem y94 (ns:List Int) (t:Int) (h0:0<=t) {h:Nat} (hh:0<h) (l:List D) (j:Nat) {p:Nat} (hp:0<p) (m:Nat) (hm:m<=5) (a b c:Option (D × Nat)) :
  ∃ (W:List (Nat × Nat × Led)) (a' b' c':Option (D × Nat)),W.length=m/\(∀ w∈W,w.1<p/\w.2.1<p/\okL n f h w.2.2) /\
   y12 (x0l 8) x4p (x1a m) (P11 ns t n f h l (some (.int (Int.ofNat j),9)) (some (.int (Int.ofNat p),9)) (some (.lst [],1)) a b c)=some (.nx (P11 ns t n f h l (some (.int (Int.ofNat j),9)) (some (.int (Int.ofNat p),9)) (some (.lst (W.map (x5f n)),1)) a' b' c')):=by
 obtain⟨W,j',hl,hg,e⟩:=y1e (J:=Option (D × Nat) × Option (D × Nat) × Option (D × Nat)) (pt:=x0l 8) (body:=x4p) (fun k:Nat=>D.int (Int.ofNat k)) (fun ds x=>P11 ns t n f h l (some (.int (Int.ofNat j),9)) (some (.int (Int.ofNat p),9)) (some (.lst ds,1)) x.1 x.2.1 x.2.2) (x5f n) (fun w=>w.1<p/\w.2.1<p/\okL n f h w.2.2) (List.range m) [] (a,b,c) (by rw[List.length_range]; show 0+m<=1000; omega) (fun k hk ds x hds=>by
  have i1:Int.ofNat j=(j:Int):=rfl
  have i2:Int.ofNat k=(k:Int):=rfl
  obtain⟨y,hy⟩:∃ y:Int,y=t+10+120*Int.ofNat j+23*Int.ofNat k:=⟨_,rfl⟩
  have hy0:0<=y:=by omega
  obtain⟨d,hd,hR⟩:=y67 L hz bz ns (y+4) (by omega)
  obtain⟨s,hs,es⟩:=x7s ns hy0 hp
  obtain⟨g,hg,eg⟩:=x7s ns (c:=y+1) (by omega) hp
  obtain⟨v,hv,ev⟩:=x7s ns (c:=y+2) (by omega) (n:=3) (by decide)
  obtain⟨o,ho,eo⟩:=x7s ns (c:=y+3) (by omega) hh
  have okr:okL n f h (.inr (Lad.lr n f z d)):=⟨fun i _=>L.lr_lt hz bz hd i,fun x y hx hy e=>L.lr_rises hz bz hd hx hy e⟩
  generalize Lad.lr n f z d=r at hR okr
  have fin:∀ x:Led,x2t (x93 7 (x01 (x4e (x01 (x0g x0d 3 (x01 (x04 0) (x01 (x04 9) (x01 (x04 6) (x0c))))) (x01 (x0g x0d 3 (x01 (x04 0) (x01 (e2 x2w (x04 9) (eC (.int 1))) (x01 (x04 6) (x0c))))) (x01 (x04 10) (x0c))))) (x0c))) (P11 ns t n f h l (some (.int (Int.ofNat j),9)) (some (.int (Int.ofNat p),9)) (some (.lst ds,1)) (some (.int (Int.ofNat k),9)) (some (.int y,9)) (some (x84 n x,9)))=some (.nx (P11 ns t n f h l (some (.int (Int.ofNat j),9)) (some (.int (Int.ofNat p),9)) (some (.lst (ds++[x5f n (s,g,x)]),1)) (some (.int (Int.ofNat k),9)) (some (.int y,9)) (some (x84 n x,9)))):=fun x=>by
   have v10:x04 10 (P11 ns t n f h l (some (.int (Int.ofNat j),9)) (some (.int (Int.ofNat p),9)) (some (.lst ds,1)) (some (.int (Int.ofNat k),9)) (some (.int y,9)) (some (x84 n x,9)))=some (x84 n x,9,P11 ns t n f h l (some (.int (Int.ofNat j),9)) (some (.int (Int.ofNat p),9)) (some (.lst ds,1)) (some (.int (Int.ofNat k),9)) (some (.int y,9)) (some (x84 n x,9))):=y84 rfl y10
   exact x7w (ds:=ds) rfl (x0r (x5c (x0w (x0o (ds:=[scr ns,.int y,.int (Int.ofNat p)]) rfl rfl es) (x0w (x0o (ds:=[scr ns,.int (y+1),.int (Int.ofNat p)]) rfl rfl eg) (x0r v10))) (show 3<=1000 by decide))) rfl hds rfl
  have st1:x1m 9 (e2 x2w (e2 x2w (e2 x2w (x04 1) (eC (.int 10))) (e2 x95 (eC (.int 120)) (x04 5))) (e2 x95 (eC (.int 23)) (x04 8))) (P11 ns t n f h l (some (.int (Int.ofNat j),9)) (some (.int (Int.ofNat p),9)) (some (.lst ds,1)) (some (.int (Int.ofNat k),9)) x.2.1 x.2.2)=some (.nx (P11 ns t n f h l (some (.int (Int.ofNat j),9)) (some (.int (Int.ofNat p),9)) (some (.lst ds,1)) (some (.int (Int.ofNat k),9)) (some (.int y,9)) x.2.2)):=by
   refine x17 (d:=.int y) (q:=9) (ρ1:=P11 ns t n f h l (some (.int (Int.ofNat j),9)) (some (.int (Int.ofNat p),9)) (some (.lst ds,1)) (some (.int (Int.ofNat k),9)) x.2.1 x.2.2) ?_ rfl
   rw[hy]
   exact x3c (x3c (x3c (fa:=x04 1) (fb:=eC (.int 10)) (q:=9) (q':=9) rfl rfl rfl) (x3c (fa:=eC (.int 120)) (fb:=x04 5) (q:=9) (q':=9) rfl rfl (z5z (c:=120) (by decide))) rfl) (x3c (fa:=eC (.int 23)) (fb:=x04 8) (q:=9) (q':=9) rfl rfl (z5z (c:=23) (by decide))) rfl
  have st2:x1m 10 (x0g x3b 3 (x01 (x04 0) (x01 (e2 x2w (x04 9) (eC (.int 4))) (x01 (x04 2) (x0c))))) (P11 ns t n f h l (some (.int (Int.ofNat j),9)) (some (.int (Int.ofNat p),9)) (some (.lst ds,1)) (some (.int (Int.ofNat k),9)) (some (.int y,9)) x.2.2)=some (.nx (P11 ns t n f h l (some (.int (Int.ofNat j),9)) (some (.int (Int.ofNat p),9)) (some (.lst ds,1)) (some (.int (Int.ofNat k),9)) (some (.int y,9)) (some (x84 n (.inr r),9)))):=
   x17 (x0o (ds:=[scr ns,.int (y+4),x0v n f]) rfl rfl hR) rfl
  have te:x2g (e2 dEq (x0g x0d 3 (x01 (x04 0) (x01 (e2 x2w (x04 9) (eC (.int 2))) (x01 (eC (.int 3)) (x0c))))) (eC (.int 0))) (P11 ns t n f h l (some (.int (Int.ofNat j),9)) (some (.int (Int.ofNat p),9)) (some (.lst ds,1)) (some (.int (Int.ofNat k),9)) (some (.int y,9)) (some (x84 n (.inr r),9)))=some (decide (v=0),P11 ns t n f h l (some (.int (Int.ofNat j),9)) (some (.int (Int.ofNat p),9)) (some (.lst ds,1)) (some (.int (Int.ofNat k),9)) (some (.int y,9)) (some (x84 n (.inr r),9))):=
   x2s (x3c (x0o (ds:=[scr ns,.int (y+2),.int 3]) rfl rfl ev) (rfl:eC (.int 0) _=some (.int (Int.ofNat 0),9,_)) (y79 v 0))
  refine⟨P11 ns t n f h l (some (.int (Int.ofNat j),9)) (some (.int (Int.ofNat p),9)) (some (.lst ds,1)) (some (.int (Int.ofNat k),9)) x.2.1 x.2.2,(some (.int (Int.ofNat k),9),some (.int y,9),some (x84 n (if v=0 then .inl o else .inr r),9)),(s,g,if v=0 then .inl o else .inr r),⟨hs,hg,?_⟩,rfl,?_⟩
  ·show okL n f h (if v=0 then .inl o else .inr r)
   by_cases h0:v=0
   ·rw[if_pos h0]; exact ho
   ·rw[if_neg h0]; exact okr
  ·unfold x4p
   refine(x0e st1).trans ((x0e st2).trans ?_)
   by_cases h0:v=0
   ·rw[decide_eq_true h0]at te
    rw[if_pos h0]
    exact(x0e (ρ1:=P11 ns t n f h l (some (.int (Int.ofNat j),9)) (some (.int (Int.ofNat p),9)) (some (.lst ds,1)) (some (.int (Int.ofNat k),9)) (some (.int y,9)) (some (x84 n (.inl o),9))) ((j2j te).trans (x17 (x0o (ds:=[scr ns,.int (y+3),.int (Int.ofNat h)]) rfl rfl eo) rfl))).trans (fin (.inl o))
   ·rw[decide_eq_false h0]at te
    rw[if_neg h0]
    exact(x0e ((y3k te).trans rfl)).trans (fin (.inr r)))
 rw[List.length_range]at hl
 exact⟨W,j'.1,j'.2.1,j'.2.2,hl,hg,e⟩
theorem y9i (ns:List Int) (t:Int) (h0:0<=t):∃ P:List Hs,1<=P.length/\P.length<=3/\(∀ H∈P,H.Ok n f P.length)/\x3p [scr ns,.int t,x0v n f]=some (x1k n P,9):=by
 obtain⟨h',hh',eh⟩:=x7s ns h0 (n:=3) (by decide)
 obtain⟨h,hh⟩:∃ h:Nat,h=h'+1:=⟨_,rfl⟩
 have eh':(1:Int)+Int.ofNat h'=Int.ofNat h:=by show(1:Int)+(h':Int)=(h:Int); omega
 obtain⟨P,x,hl,hg,e⟩:=y1e (J:=Option (D × Nat) × Option (D × Nat) × Option (D × Nat) × Option (D × Nat) × Option (D × Nat) × Option (D × Nat)) (pt:=x0l 5) (body:=x6x) (fun k:Nat=>D.int (Int.ofNat k)) (fun ds x=>P11 ns t n f h ds x.1 x.2.1 x.2.2.1 x.2.2.2.1 x.2.2.2.2.1 x.2.2.2.2.2) (x0p n) (fun H=>H.Ok n f h) (List.range h) [] (none,none,none,none,none,none) (by rw[List.length_range]; show 0+h<=1000; omega) (fun j hj ds x hds=>by
  have i1:Int.ofNat j=(j:Int):=rfl
  obtain⟨p',hp',ep⟩:=x7s ns (c:=t+1+Int.ofNat j) (by omega) (n:=4) (by decide)
  obtain⟨m,hm,em⟩:=x7s ns (c:=t+4+Int.ofNat j) (by omega) (n:=6) (by decide)
  obtain⟨p,hp⟩:∃ p:Nat,p=p'+1:=⟨_,rfl⟩
  have ep':(1:Int)+Int.ofNat p'=Int.ofNat p:=by show(1:Int)+(p':Int)=(p:Int); omega
  obtain⟨W,a',b',c',lW,gW,eW⟩:=y94 L hz bz ns t h0 (h:=h) (by omega) ds j (p:=p) (by omega) m (by omega) x.2.2.2.1 x.2.2.2.2.1 x.2.2.2.2.2
  refine⟨P11 ns t n f h ds (some (.int (Int.ofNat j),9)) x.2.1 x.2.2.1 x.2.2.2.1 x.2.2.2.2.1 x.2.2.2.2.2,(some (.int (Int.ofNat j),9),some (.int (Int.ofNat p),9),some (.lst (W.map (x5f n)),0),a',b',c'),⟨p,W⟩,⟨by show 1<=p; omega,by show p<=8; omega,by show W.length<=60; omega,gW⟩,rfl,?_⟩
  unfold x6x
  refine(x0e (ρ1:=P11 ns t n f h ds (some (.int (Int.ofNat j),9)) (some (.int (Int.ofNat p),9)) x.2.2.1 x.2.2.2.1 x.2.2.2.2.1 x.2.2.2.2.2) (x17 (d:=.int (Int.ofNat p)) (q:=9) (ρ1:=P11 ns t n f h ds (some (.int (Int.ofNat j),9)) x.2.1 x.2.2.1 x.2.2.2.1 x.2.2.2.2.1 x.2.2.2.2.2) (x3c (fa:=eC (.int 1)) (q:=9) rfl (x0o (ds:=[scr ns,.int (t+1+Int.ofNat j),.int 4]) rfl rfl ep) ?_) rfl)).trans ?_
  ·show some (D.int (1+Int.ofNat p'))=_
   rw[ep']
  refine(x0e (ρ1:=P11 ns t n f h ds (some (.int (Int.ofNat j),9)) (some (.int (Int.ofNat p),9)) (some (.lst [],1)) x.2.2.2.1 x.2.2.2.2.1 x.2.2.2.2.2) rfl).trans ?_
  refine(x0e ((x3l (x98 (m:=m) (by omega) (ρ:=P11 ns t n f h ds (some (.int (Int.ofNat j),9)) (some (.int (Int.ofNat p),9)) (some (.lst [],1)) x.2.2.2.1 x.2.2.2.2.1 x.2.2.2.2.2) (ρ':=P11 ns t n f h ds (some (.int (Int.ofNat j),9)) (some (.int (Int.ofNat p),9)) (some (.lst [],1)) x.2.2.2.1 x.2.2.2.2.1 x.2.2.2.2.2) (q:=9) (x0o (ds:=[scr ns,.int (t+4+Int.ofNat j),.int 6]) rfl rfl em))).trans eW)).trans ?_
  have v7:x04 7 (P11 ns t n f h ds (some (.int (Int.ofNat j),9)) (some (.int (Int.ofNat p),9)) (some (.lst (W.map (x5f n)),1)) a' b' c')=some (.lst (W.map (x5f n)),0,P11 ns t n f h ds (some (.int (Int.ofNat j),9)) (some (.int (Int.ofNat p),9)) (some (.lst (W.map (x5f n)),0)) a' b' c'):=x3i rfl
  exact x7w (ds:=ds) rfl (x0r (x5c (x0w (f:=x04 6) (q:=9) rfl (x0r (x1x (x0r v7)))) (show 2<=1000 by decide))) rfl hds rfl)
 rw[List.length_range]at hl
 refine⟨P,by omega,by omega,fun H hH=>by rw[hl]; exact hg H hH,?_⟩
 unfold x3p x7n
 refine x29 ?_
 show x0z _ _ [some (scr ns,0),some (.int t,9),some (x0v n f,9),none,none,none,none,none,none,none,none]=_
 refine(x0e (ρ1:=[some (scr ns,0),some (.int t,9),some (x0v n f,9),some (.int (Int.ofNat h),9),none,none,none,none,none,none,none]) (x17 (d:=.int (Int.ofNat h)) (q:=9) (ρ1:=[some (scr ns,0),some (.int t,9),some (x0v n f,9),none,none,none,none,none,none,none,none]) (x3c (fa:=eC (.int 1)) (q:=9) rfl (x0o (ds:=[scr ns,.int t,.int 3]) rfl rfl eh) ?_) rfl)).trans ?_
 ·show some (D.int (1+Int.ofNat h'))=_
  rw[eh']
 refine(x0e (ρ1:=P11 ns t n f h [] none none none none none none) rfl).trans ?_
 refine(x0e ((x3l (x98 (m:=h) (by omega) (fe:=x04 3) (ρ:=P11 ns t n f h [] none none none none none none) (ρ':=P11 ns t n f h [] none none none none none none) (q:=9) rfl)).trans e)).trans ?_
 exact x1y (x1x (x0r (x3i (i:=4) (q:=1) (ds:=P.map (x0p n)) rfl)))
end
theorem z1v (ks:List Nat):∀ n,n<=ks.length->mb (fun i=>ks.getD i 0) n=(ks.take n).foldl bor 0
 | 0,_=>rfl
 | n+1,h=>by
  show bor (mb _ n) (ks.getD n 0)=_
  rw[z1v ks n (by omega),List.take_add_one,List.getElem?_eq_getElem (by omega),List.foldl_append,List.getD_eq_getElem?_getD,List.getElem?_eq_getElem (by omega)]
  rfl
theorem j1z (ks:List Nat):mOf ks=ks.foldl bor 0:=by rw[mOf,z1v ks _ (Nat.le_refl _),List.take_length]
theorem z0l:∀ {ks:List Nat},(∀ k∈ks,k<5)->y93 (x0f ks)=some ks
 | [],_=>rfl
 | k::ks,h=>by
  show(if k<5 then(y93 (x0f ks)).map (k :: ·)else none)=_
  rw[if_pos (h k List.mem_cons_self),z0l fun j hj=>h j (List.mem_cons_of_mem _ hj)]
  rfl
theorem y2u {fa:Den} {ρ ρ1:Rho} {ks:List Nat} {q:Nat} (h:fa ρ=some (.lst (x0f ks),q,ρ1)) (hq:q<=1) (h5:∀ k∈ks,k<5):x4d fa ρ=some (.lst (x0f (bl (ks.foldl bor 0))),1,ρ1):=by
 unfold x4d
 rw[h]
 show(if q<=1 then _ else none)=_
 rw[if_pos hq,z0l h5]
 show some (D.lst (x0f (bl (mOf ks))),1,ρ1)=_
 rw[j1z]
theorem z7t:∀ (g:List Nat) (m:Nat),m<=g.foldl bor m
 | [],m=>Nat.le_refl m
 | k::g,m=>Nat.le_trans Nat.left_le_or (z7t g (bor m k))
theorem z89:∀ {g:List Nat} {m:Nat},m<32->(∀ k∈g,k<5)->g.foldl bor m<32
 | [],_,h,_=>h
 | k::g,m,h,h5=>z89 (g:=g) (m:=bor m k) (z1g m h k (h5 k List.mem_cons_self)) fun j hj=>h5 j (List.mem_cons_of_mem _ hj)
theorem z7i:∀ m:Nat,m<32->(bl m).foldl bor 0=m:=by decide +kernel
theorem j3h {m m':Nat} (h:m<32) (h':m'<32) (e:bl m=bl m'):m=m':=by rw[<- z7i m h,<- z7i m' h',e]
theorem j0l {g:List Nat} (h:g.foldl bor 0=0):g=[]:=by
 cases g with
 | nil=>rfl
 | cons k g=>
  have h1:=z7t g (bor 0 k)
  have h2:1 <<< k<=bor 0 k:=Nat.right_le_or
  have h3:0<1 <<< k:=by rw[Nat.one_shiftLeft]; exact Nat.two_pow_pos k
  have h4:(k::g).foldl bor 0=g.foldl bor (bor 0 k):=rfl
  omega
noncomputable def gl:Led->Nat
 | .inl k=>k
 | .inr _=>0
noncomputable def clT (c:Nat × Nat):D:=.tup [.int (Int.ofNat c.1),.int (Int.ofNat c.2),.non]
noncomputable def clH (i:Nat) (H:Hs):List (Nat × Nat):=(H.W.filter fun w=>y08 w.2.2).map fun w=>(i,gl w.2.2)
noncomputable def clP (P:List Hs):List (Nat × Nat):=P.zipIdx.foldl (fun l x=>l++clH x.2 x.1) []
noncomputable def clC (h:Nat) (l:List (Nat × Nat)):D:=.tup [.int (Int.ofNat h),.tup (l.map clT),.tup []]
theorem y7d:∀ (l:List (Hs × Nat)) (acc:List (Nat × Nat)) (c:Nat × Nat),c∈l.foldl (fun l x=>l++clH x.2 x.1) acc ↔ c∈acc\/∃ x∈l,c∈clH x.2 x.1
 | [],acc,c=>by simp
 | x::l,acc,c=>by
  rw[List.foldl_cons,y7d l _ c,List.mem_append]
  simp only[List.mem_cons,exists_eq_or_imp]
  rw[or_assoc]
theorem y9t:∀ (l:List (Hs × Nat)) (acc:List (Nat × Nat)),(∀ x∈l,x.1.W.length<=60)->(l.foldl (fun l x=>l++clH x.2 x.1) acc).length<=acc.length+60*l.length
 | [],acc,_=>by simp
 | x::l,acc,h=>by
  have h1:=y9t l (acc++clH x.2 x.1) fun y hy=>h y (List.mem_cons_of_mem _ hy)
  have h2:(clH x.2 x.1).length<=60:=by
   unfold clH
   rw[List.length_map]
   exact Nat.le_trans (List.length_filter_le _ _) (h x List.mem_cons_self)
  rw[List.length_append]at h1
  rw[List.foldl_cons,List.length_cons]
  omega
theorem z6k {i:Nat} {g:Den} {ρ ρ1 ρ2:Rho} {ds es:List D} (hl:y65 ρ[i]? = true) (hg:g ρ=some (.lst es,1,ρ1)) (h1:ρ1[i]? = some (some (.lst ds,1))) (hn:ds.length+es.length<=1000) (e:ρ1.set i (some (.lst (ds++es),1))=ρ2):x2t (z5o i g) ρ=some (.nx ρ2):=by
 unfold x2t z5o
 rw[if_pos hl,hg]
 simp only[h1]
 rw[if_pos hn,e]
section
variable {n:Nat} {f:Nat->Nat->Nat} {h:Nat} {P:List Hs} (hP:∀ H∈P,H.Ok n f h) (hl:P.length=h) (h3:h<=3)
include hP hl h3
theorem j4k {c:Nat × Nat} (hc:c∈clP P):c.1<h/\c.2<h:=by
 rcases(y7d P.zipIdx [] c).mp hc with q | ⟨x,hx,q⟩
 ·cases q
 ·obtain⟨w,hw,rfl⟩:=List.mem_map.mp q
  obtain⟨hw1,hw2⟩:=List.mem_filter.mp hw
  have hx':=List.mem_zipIdx' hx
  have ok:=(hP x.1 (hx'.2 ▸ List.getElem_mem _)).ws w hw1
  refine⟨by show x.2<h; rw[<- hl]; exact hx'.1,?_⟩
  show gl w.2.2<h
  have o3:=ok.2.2
  cases e:w.2.2 with
  | inl k=>rw[e]at o3; exact o3
  | inr r=>rw[e]at hw2; cases hw2
theorem z5f {k:Nat} (hk:k<h) (hn:∀ c∈clP P,c.1≠k):∀ w∈(P[k]'(by omega)).W,y08 w.2.2=false:=by
 intro w hw
 cases e:y08 w.2.2 with
 | false=>rfl
 | true=>
  refine absurd rfl (hn (k,gl w.2.2) ((y7d P.zipIdx [] _).mpr (.inr ⟨(P[k]'(by omega),k),?_,?_⟩)))
  ·rw[List.mem_zipIdx_iff_getElem?]
   exact List.getElem?_eq_getElem (by omega)
  ·exact List.mem_map.mpr ⟨w,List.mem_filter.mpr ⟨hw,e⟩,rfl⟩
end
theorem z4u {n:Nat} (P:List Hs):y2n (P.map (x0p n))=P.zipIdx.map fun x=>D.tup [.int (Int.ofNat x.2),x0p n x.1]:=by
 apply List.ext_getElem?
 intro i
 rw[y5l,List.getElem?_map,List.getElem?_map,List.getElem?_zipIdx,Option.map_map,Option.map_map]
 cases P[i]? with
 | none=>rfl
 | some H=>simp
section
variable {n:Nat} {f:Nat->Nat->Nat} {h:Nat} {P:List Hs} (hP:∀ H∈P,H.Ok n f h) (hl:P.length=h) (h3:h<=3)
include hP hl h3
noncomputable abbrev C4 (n:Nat) (P:List Hs) (l:List (Nat × Nat)) (a b:Option (D × Nat)):Rho:=[some (x1k n P,9),some (.lst (l.map clT),1),a,b]
omit hP hl h3
theorem z4w {H:Hs} (h60:H.W.length<=60) (i:Nat) {l:List (Nat × Nat)} (hn:l.length<=500):x2t (z5o 1 (x3f 1 (x5t (x1i 3 (eC (.int 1)))) (x0l 4) (x81 (x0g x1r 1 (x01 (x1i 4 (eC (.int 2))) (x0c)))) (x4e (x01 (x04 2) (x01 (x1i 4 (eC (.int 2))) (x01 (eC .non) (x0c))))) false)) (C4 n P l (some (.int (Int.ofNat i),9)) (some (x0p n H,9)))=some (.nx (C4 n P (l++clH i H) (some (.int (Int.ofNat i),9)) (some (x0p n H,9)))):=by
 have hi:x5t (x1i 3 (eC (.int 1))) (C4 n P l (some (.int (Int.ofNat i),9)) (some (x0p n H,9)))=some (H.W.map (x5f n),C4 n P l (some (.int (Int.ofNat i),9)) (some (x0p n H,9))):=by
  have e:x1i 3 (eC (.int 1)) (C4 n P l (some (.int (Int.ofNat i),9)) (some (x0p n H,9)))=some (.tup (H.W.map (x5f n)),9,C4 n P l (some (.int (Int.ofNat i),9)) (some (x0p n H,9))):=rfl
  unfold x5t
  rw[e]
  simp only[List.length_map]
  rw[if_pos (by omega)]
 have hx:∀ a:Nat × Nat × Led,x1i 4 (eC (.int 2)) (C4 n P l (some (.int (Int.ofNat i),9)) (some (x0p n H,9))++[some (x5f n a,9)])=some (x84 n a.2.2,9,C4 n P l (some (.int (Int.ofNat i),9)) (some (x0p n H,9))++[some (x5f n a,9)]):=fun a=>y1d (x:=x5f n a) (q:=9) (q':=9) rfl rfl rfl y10
 have hcm:=x24 (k:=1) (tt:=x81 (x0g x1r 1 (x01 (x1i 4 (eC (.int 2))) (x0c)))) (te:=x4e (x01 (x04 2) (x01 (x1i 4 (eC (.int 2))) (x01 (eC .non) (x0c))))) (deep:=false) (pt:=x0l 4) hi (x4i (x5f n) (fun a=>[some (x5f n a,9)]) (fun a=>y08 a.2.2) (fun a=>D.tup [.int (Int.ofNat i),x84 n a.2.2,.non]) (fun _=>9) H.W (fun a ha=>⟨rfl,by
   refine x9p (q:=9) ((x0o (x0r (hx a)) rfl (x23 (x84 n a.2.2))).trans ?_)
   cases a.2.2 <;> rfl,fun _=>x5c (x0w (f:=x04 2) (q:=9) rfl (x0w (hx a) (x0r (f:=eC .non) (d:=.non) (q:=9) rfl))) (show 3<=1000 by decide)⟩))
 have e1:(H.W.filter fun a=>y08 a.2.2).map (fun a=>D.tup [.int (Int.ofNat i),x84 n a.2.2,.non])=(clH i H).map clT:=by
  unfold clH
  rw[List.map_map]
  apply List.map_congr_left
  intro a ha
  have hb:=(List.mem_filter.mp ha).2
  show D.tup [.int (Int.ofNat i),x84 n a.2.2,.non]=D.tup [.int (Int.ofNat i),.int (Int.ofNat (gl a.2.2)),.non]
  cases e:a.2.2 with
  | inl k=>rfl
  | inr r=>rw[e]at hb; cases hb
 rw[e1]at hcm
 have h2:(clH i H).length<=60:=by
  unfold clH
  rw[List.length_map]
  exact Nat.le_trans (List.length_filter_le _ _) h60
 exact z6k (ds:=l.map clT) rfl hcm rfl (by rw[List.length_map,List.length_map]; omega) (by rw[<- List.map_append]; rfl)
theorem y89:∀ (xs:List (Hs × Nat)) (acc:List (Nat × Nat)) (j:Option (D × Nat) × Option (D × Nat)),(∀ x∈xs,x.1.W.length<=60)->acc.length+60*xs.length<=500->
  ∃ j':Option (D × Nat) × Option (D × Nat),y12 (y3d (x10 (x0l 2) (x10 (x0l 3) (x5s)))) (x2t (z5o 1 (x3f 1 (x5t (x1i 3 (eC (.int 1)))) (x0l 4) (x81 (x0g x1r 1 (x01 (x1i 4 (eC (.int 2))) (x0c)))) (x4e (x01 (x04 2) (x01 (x1i 4 (eC (.int 2))) (x01 (eC .non) (x0c))))) false))) (xs.map fun x:Hs × Nat=>D.tup [.int (Int.ofNat x.2),x0p n x.1]) (C4 n P acc j.1 j.2)=some (.nx (C4 n P (xs.foldl (fun l x=>l++clH x.2 x.1) acc) j'.1 j'.2))
 | [],acc,j,_,_=>⟨j,rfl⟩
 | x::xs,acc,j,h60,hl=>by
  rw[List.length_cons]at hl
  have h2:(clH x.2 x.1).length<=60:=by
   unfold clH
   rw[List.length_map]
   exact Nat.le_trans (List.length_filter_le _ _) (h60 x List.mem_cons_self)
  have st:=z4w (n:=n) (P:=P) (h60 x List.mem_cons_self) x.2 (l:=acc) (by omega)
  obtain⟨j',e⟩:=y89 xs (acc++clH x.2 x.1) (some (.int (Int.ofNat x.2),9),some (x0p n x.1,9)) (fun y hy=>h60 y (List.mem_cons_of_mem _ hy)) (by rw[List.length_append]; omega)
  exact⟨j',(y4l (ρ1:=C4 n P acc (some (.int (Int.ofNat x.2),9)) (some (x0p n x.1,9))) rfl st).trans e⟩
include hP hl h3
theorem x9o:x34 [x1k n P]=some (clC h (clP P),9):=by
 unfold x34 x69
 refine x29 ?_
 show x0z _ _ [some (x1k n P,9),none,none,none]=_
 refine(x0e (ρ1:=C4 n P [] none none) rfl).trans ?_
 have hp:P.length<=1000:=by omega
 have hi:y9e (x01 (x04 0) (x0c)) (C4 n P [] none none)=some (P.zipIdx.map (fun x=>D.tup [.int (Int.ofNat x.2),x0p n x.1]),C4 n P [] none none):=by
  rw[<- z4u]
  unfold y9e
  rw[x0r (f:=x04 0) (ρ:=C4 n P [] none none) (ρ1:=C4 n P [] none none) (d:=x1k n P) (q:=9) rfl]
  show(if(P.map (x0p n)).length<=1000 then _ else none)=_
  rw[if_pos (by rw[List.length_map]; exact hp)]
 have hz60:∀ x∈P.zipIdx,x.1.W.length<=60:=fun x hx=>by
  have hx':=List.mem_zipIdx' hx
  exact(hP x.1 (hx'.2 ▸ List.getElem_mem _)).w60
 obtain⟨j,e⟩:=y89 (n:=n) (P:=P) P.zipIdx [] (none,none) hz60 (by rw[List.length_zipIdx]; show 0+_<=500; omega)
 refine(x0e ((x3l hi).trans e)).trans ?_
 have l0:x1c 0 (C4 n P (clP P) j.1 j.2)=some (.int (Int.ofNat h),9,C4 n P (clP P) j.1 j.2):=x5z rfl (by show some (P.map (x0p n)).length=_; rw[List.length_map,hl])
 exact x1y (x5c (x0w l0 (x0w (x1x (x0r (x3i (i:=1) (q:=1) (ds:=(clP P).map clT) rfl))) (x0r (f:=x4e (x0c)) (d:=.tup []) (q:=9) rfl))) (show 3<=1000 by decide))
omit hP hl h3
theorem x8w {l:List (Nat × Nat)} (hn:l.length<=1000) (g:List Nat):x1p [clC h l,.lst (x0f g)]=some (.lst (x0f ((l.filter fun c=>decide (c.1∈g)).map (·.2))),1):=by
 unfold x1p y0j
 have hi:x5t (x1i 0 (eC (.int 1))) [some (clC h l,9),some (.lst (x0f g),0)]=some (l.map clT,[some (clC h l,9),some (.lst (x0f g),0)]):=by
  have e:x1i 0 (eC (.int 1)) [some (clC h l,9),some (.lst (x0f g),0)]=some (.tup (l.map clT),9,[some (clC h l,9),some (.lst (x0f g),0)]):=rfl
  unfold x5t
  rw[e]
  simp only[List.length_map]
  rw[if_pos hn]
 have hcm:=x24 (k:=3) (tt:=x2g (e2 dIn (x04 2) (x04 1))) (te:=x04 3) (deep:=false) (pt:=y3d (x10 (x0l 2) (x10 (x0l 3) (x10 (x0l 4) (x5s))))) hi (x4i clT (fun c=>[some (.int (Int.ofNat c.1),9),some (.int (Int.ofNat c.2),9),some (.non,9)]) (fun c=>decide (c.1∈g)) (fun c=>.int (Int.ofNat c.2)) (fun _=>9) l (fun c hc=>⟨rfl,x2s (x3c (fa:=x04 2) (q:=9) rfl (fb:=x04 1) (y:=.lst (x0f g)) (q':=0) rfl (y9z c.1 g)),fun _=>rfl⟩))
 have e1:(l.filter fun c=>decide (c.1∈g)).map (fun c=>D.int (Int.ofNat c.2))=x0f ((l.filter fun c=>decide (c.1∈g)).map (·.2)):=by unfold x0f; rw[List.map_map]; rfl
 rw[e1]at hcm
 exact x29 (x1y hcm)
theorem y7z {h k:Nat} (hk:k<h):x83 h (.int (Int.ofNat k))=true:=by
 show(decide ((0:Int)<=(k:Int)) && decide ((k:Int)<(h:Int)))=true
 rw[decide_eq_true (by omega),decide_eq_true (by omega)]; rfl
theorem z5w {n:Nat} {body:x19} {ds:List D} {ρ:Rho} (h:body (x8h n ds)=some (.nx ρ)):fnD n body ds=some (.non,9):=by unfold fnD; rw[h]
theorem y82 {g:Den} {ρ ρ1:Rho} {d:D} {q:Nat} (h:g ρ=some (d,q,ρ1)):x2t g ρ=some (.nx ρ1):=by unfold x2t; rw[h]
theorem y1n {k:Nat} (hk:k<h):x2j [.int (Int.ofNat h),.int (Int.ofNat k)]=some (.non,9):=by
 have e:=x53 h (.int (Int.ofNat k))
 rw[y7z hk]at e
 unfold x2j x5m
 exact z5w ((y3k (y3i (x9p (x0o (ds:=[.int (Int.ofNat k),.int (Int.ofNat h)]) rfl rfl e)))).trans rfl)
theorem y1f {k:Nat} (hl:P.length=h) (hk:k<h):x2l [x1k n P,.int (Int.ofNat k)]=some (.non,9):=by
 have e:=x53 h (.int (Int.ofNat k))
 rw[y7z hk]at e
 unfold x2l x5q
 have l0:x1c 0 [some (x1k n P,9),some (.int (Int.ofNat k),9)]=some (.int (Int.ofNat h),9,[some (x1k n P,9),some (.int (Int.ofNat k),9)]):=x5z rfl (by show some (P.map (x0p n)).length=_; rw[List.length_map,hl])
 exact z5w ((y3k (y3i (x9p (x0o (x0w (f:=x04 1) (q:=9) rfl (x0r l0)) rfl e)))).trans rfl)
noncomputable def gf (l:List (Nat × Nat)) (g:List Nat):List Nat:=(l.filter fun c=>decide (c.1∈g)).map (·.2)
theorem j42 {l:List (Nat × Nat)} (h5:∀ c∈l,c.2<5) (g:List Nat):∀ k∈gf l g,k<5:=fun k hk=>by
 obtain⟨c,hc,rfl⟩:=List.mem_map.mp hk
 exact h5 c (List.mem_filter.mp hc).1
theorem j1d {l:List (Nat × Nat)} (g:List Nat):(gf l g).length<=l.length:=by
 unfold gf
 rw[List.length_map]
 exact List.length_filter_le _ _
theorem y6s {l:List (Nat × Nat)} (hn:l.length<=500) (h5:∀ c∈l,c.2<5) {k:Nat} (hk:k<h):x5h [clC h l,.int (Int.ofNat k)]=some (.lst (x0f (bl ((gf l [k]).foldl bor 0))),1):=by
 unfold x5h y2z
 refine x29 ?_
 show x0z _ _ [some (clC h l,9),some (.int (Int.ofNat k),9)]=_
 refine(x0e (ρ1:=[some (clC h l,9),some (.int (Int.ofNat k),9)]) (y82 (x0o (ds:=[.int (Int.ofNat h),.int (Int.ofNat k)]) rfl rfl (y1n hk)))).trans ?_
 exact x1y (y2u (ks:=gf l [k]) (q:=1) (x0o (ds:=[clC h l,.lst (x0f [k])]) rfl rfl (x8w (by omega) [k])) (Nat.le_refl 1) (j42 h5 [k]))
noncomputable abbrev R4 (h:Nat) (l:List (Nat × Nat)) (d:D) (q:Nat) (m:Nat) (a:D) (q2 q3:Nat):Rho:=[some (clC h l,9),some (d,q),some (.lst (x0f (bl m)),q2),some (a,q3)]
theorem y9w (l:List Nat):dNe (.lst (x0f l)) .non=some (.bl true):=by
 unfold dNe
 rw[if_pos ⟨(z6x l).ok,(Sh.non (k:=0)).ok⟩]
 rfl
theorem y68 (a b:List Nat):x0f a++x0f b=x0f (a++b):=by unfold x0f; rw[List.map_append]
theorem y2f {l:List (Nat × Nat)} (hn:l.length<=500) (h5:∀ c∈l,c.2<5) {m0:Nat} (hm0:m0<32):∃ M,m0<=M/\M<32/\x42 [clC h l,.lst (x0f (bl m0))]=some (.lst (x0f (bl M)),0):=by
 have b5:∀ (m:Nat),∀ k∈bl m,k<5:=fun m k hk=>z5l m hk
 have st:∀ (m:Nat) (hm:m<32) (a:D) (q3:Nat),(x0z (x1m 3 (x04 2)) (x1m 2 (x4d (y2i (x04 3) (x0g x1p 2 (x01 (x04 0) (x01 (x04 3) (x0c)))))))) (R4 h l (.lst (x0f (bl m0))) 0 m a 0 q3)=some (.nx (R4 h l (.lst (x0f (bl m0))) 0 ((gf l (bl m)).foldl bor m) (.lst (x0f (bl m))) 1 0)):=fun m hm a q3=>by
  refine(x0e (ρ1:=R4 h l (.lst (x0f (bl m0))) 0 m (.lst (x0f (bl m))) 0 0) (x17 (x3i (i:=2) (q:=0) rfl) rfl)).trans ?_
  have v3:x04 3 (R4 h l (.lst (x0f (bl m0))) 0 m (.lst (x0f (bl m))) 0 0)=some (.lst (x0f (bl m)),0,R4 h l (.lst (x0f (bl m0))) 0 m (.lst (x0f (bl m))) 0 0):=x3i (i:=3) (q:=0) rfl
  have c3:=x0o (F:=x1p) (n:=2) (x0w (f:=x04 0) (q:=9) (ρ:=R4 h l (.lst (x0f (bl m0))) 0 m (.lst (x0f (bl m))) 0 0) (ρ1:=R4 h l (.lst (x0f (bl m0))) 0 m (.lst (x0f (bl m))) 0 0) (d:=clC h l) rfl (x0r v3)) rfl (x8w (by omega) (bl m))
  have e1:y2i (x04 3) (x0g x1p 2 (x01 (x04 0) (x01 (x04 3) (x0c)))) (R4 h l (.lst (x0f (bl m0))) 0 m (.lst (x0f (bl m))) 0 0)=some (.lst (x0f (bl m++gf l (bl m))),1,R4 h l (.lst (x0f (bl m0))) 0 m (.lst (x0f (bl m))) 0 0):=by
   unfold y2i
   rw[v3]
   dsimp only
   rw[c3]
   have g1:=j1d (l:=l) (bl m)
   have g2:=y85 m hm
   show(if(x0f (bl m)).length+(x0f (gf l (bl m))).length<=1000 then some (D.lst (x0f (bl m)++x0f (gf l (bl m))),1,_)else none)=_
   rw[if_pos (by rw[x1o,x1o]; omega),y68]
  have e2:=y2u e1 (Nat.le_refl 1) (fun k hk=>by
   rcases List.mem_append.mp hk with q | q
   ·exact b5 m k q
   ·exact j42 h5 _ k q)
  rw[List.foldl_append,z7i m hm]at e2
  exact x17 e2 rfl
 obtain⟨ρ',e,M,a,q2,q3,h1,h2,rfl⟩:=x4h (c:=x2g (e2 dNe (x04 2) (x04 3))) (b:=x0z (x1m 3 (x04 2)) (x1m 2 (x4d (y2i (x04 3) (x0g x1p 2 (x01 (x04 0) (x01 (x04 3) (x0c))))))))
  (Q:=fun ρ=>∃ M a q2 q3,m0<=M/\M<32/\ρ=R4 h l (.lst (x0f (bl m0))) 0 M a q2 q3)
  (fun k ρ=>∃ m a q2 q3,m0<=m/\m<32/\((a=D.non/\q3=9/\k=40)\/∃ u,a=.lst (x0f (bl u))/\q3=0/\u<=m/\u<32/\k=32-u)/\ρ=R4 h l (.lst (x0f (bl m0))) 0 m a q2 q3)
  (k:=40) (ρ:=R4 h l (.lst (x0f (bl m0))) 0 m0 .non 0 9) (by decide) ⟨m0,.non,0,9,Nat.le_refl _,hm0,.inl ⟨rfl,rfl,rfl⟩,rfl⟩ (fun k ρ hh0=>by
   obtain⟨m,a,q2,q3,l1,l2,h6,rfl⟩:=hh0
   have m1:=z7t (gf l (bl m)) m
   have m2:=z89 l2 (j42 h5 (bl m))
   have v2:x04 2 (R4 h l (.lst (x0f (bl m0))) 0 m a q2 q3)=some (.lst (x0f (bl m)),0,R4 h l (.lst (x0f (bl m0))) 0 m a 0 q3):=x3i (i:=2) (q:=q2) rfl
   rcases h6 with⟨rfl,rfl,rfl⟩ | ⟨u,rfl,rfl,u1,u2,rfl⟩
   ·have te:x2g (e2 dNe (x04 2) (x04 3)) (R4 h l (.lst (x0f (bl m0))) 0 m .non q2 9)=some (true,R4 h l (.lst (x0f (bl m0))) 0 m .non 0 9):=x2s (x3c v2 (fb:=x04 3) (q':=9) rfl (y9w _))
    exact .inr ⟨_,_,32-m,te,st m l2 .non 9,by omega,_,.lst (x0f (bl m)),1,0,by omega,m2,.inr ⟨m,rfl,rfl,m1,l2,rfl⟩,rfl⟩
   ·have te:x2g (e2 dNe (x04 2) (x04 3)) (R4 h l (.lst (x0f (bl m0))) 0 m (.lst (x0f (bl u))) q2 0)=some (!decide (bl m=bl u),R4 h l (.lst (x0f (bl m0))) 0 m (.lst (x0f (bl u))) 0 0):=x2s (x3c v2 (x3i (i:=3) (q:=0) rfl) (j5w _ _))
    by_cases he:bl m=bl u
    ·rw[decide_eq_true he]at te
     exact .inl ⟨_,te,m,_,_,_,l1,l2,rfl⟩
    ·rw[decide_eq_false he]at te
     have:u≠m:=fun q=>he (by rw[q])
     exact .inr ⟨_,_,32-m,te,st m l2 _ 0,by omega,_,.lst (x0f (bl m)),1,0,by omega,m2,.inr ⟨m,rfl,rfl,m1,l2,rfl⟩,rfl⟩)
 refine⟨M,h1,h2,?_⟩
 unfold x42 x8q
 refine x29 ?_
 show x0z _ _ [some (clC h l,9),some (.lst (x0f (bl m0)),0),none,none]=_
 refine(x0e (ρ1:=[some (clC h l,9),some (.lst (x0f (bl m0)),0),some (.lst (x0f (bl m0)),0),none]) (x17 (x3i (i:=1) (q:=0) rfl) rfl)).trans ?_
 refine(x0e (ρ1:=R4 h l (.lst (x0f (bl m0))) 0 m0 .non 0 9) rfl).trans ?_
 exact(x0e e).trans (x1y (x3i (i:=2) (q:=q2) rfl))
include hP hl h3
theorem y5q {k:Nat} (hk:k<h):∃ g:List Nat,x3d [x1k n P,.int (Int.ofNat k)]=some (.lst (x0f g),0)/\(g=[]->∀ w∈(P[k]'(by omega)).W,y08 w.2.2=false):=by
 have hn:(clP P).length<=500:=by
  have:=y9t P.zipIdx [] fun x hx=>by
   have hx':=List.mem_zipIdx' hx
   exact(hP x.1 (hx'.2 ▸ List.getElem_mem _)).w60
  rw[List.length_zipIdx]at this
  unfold clP
  simp only[List.length_nil]at this
  omega
 have h5:∀ c∈clP P,c.2<5:=fun c hc=>by have:=(j4k hP hl h3 hc).2; omega
 have hm0:(gf (clP P) [k]).foldl bor 0<32:=z89 (by decide) (j42 h5 [k])
 obtain⟨M,h1,h2,e⟩:=y2f (h:=h) hn h5 hm0
 refine⟨bl M,?_,fun he=>?_⟩
 ·unfold x3d y1o
  refine x29 ?_
  show x0z _ _ [some (x1k n P,9),some (.int (Int.ofNat k),9),none]=_
  refine(x0e (ρ1:=[some (x1k n P,9),some (.int (Int.ofNat k),9),none]) (y82 (x0o (ds:=[x1k n P,.int (Int.ofNat k)]) rfl rfl (y1f hl hk)))).trans ?_
  refine(x0e (ρ1:=[some (x1k n P,9),some (.int (Int.ofNat k),9),some (clC h (clP P),9)]) (x17 (x0o (ds:=[x1k n P]) rfl rfl (x9o hP hl h3)) rfl)).trans ?_
  exact x1y (x0o (x0w (f:=x04 2) (q:=9) rfl (x0r (x0o (ds:=[clC h (clP P),.int (Int.ofNat k)]) rfl rfl (y6s hn h5 hk)))) rfl e)
 ·have hM:M=0:=j3h h2 (by decide) (he.trans (by decide +kernel))
  have g0:gf (clP P) [k]=[]:=j0l (by omega)
  refine z5f hP hl h3 hk fun c hc q=>?_
  have:c.2∈gf (clP P) [k]:=List.mem_map.mpr ⟨c,List.mem_filter.mpr ⟨hc,by rw[q]; simp⟩,rfl⟩
  rw[g0]at this
  cases this
end
theorem z53 {pt:x6q} {body:x19} {d:D} {ds:List D} {ρ ρ1 ρ2:Rho} (h1:pt d ρ=some ρ1) (h2:body ρ1=some (.bk ρ2)):y12 pt body (d::ds) ρ=some (.nx ρ2):=by
 unfold y12
 rw[h1]
 simp only[h2]
theorem z4i {ns:List Int} (h63:ns.length<=63) {m:Nat} (hm:m+1<=1000) (once:∀ ns':List Int,x3e [scr ns']=some (.bl true,9)):∃ x,x7a (x14 (x01 (eC (.int (Int.ofNat (m+1)))) x0c)) (x0l 1) y7w [some (scr ns,0),none]=some (.nx [some (scr ns,0),x]):=by
 have hl:(ns.map D.int).length<=1000:=by rw[List.length_map]; omega
 have hc:∀ (t:Nat),x3f 1 (x5t (x04 0)) (x0l 2) x2p (e2 x2w (x04 2) (e2 x95 (eC (.int 7919)) (x04 1))) false [some (scr ns,0),some (.int (Int.ofNat t),9)]=some (scr (ns.map fun x=>x+7919*Int.ofNat t),1,[some (scr ns,0),some (.int (Int.ofNat t),9)]):=fun t=>by
  have h:=z9y (i:=2) (te:=e2 x2w (x04 2) (e2 x95 (eC (.int 7919)) (x04 1))) (ρ:=[some (scr ns,0),some (.int (Int.ofNat t),9)]) (ns.map D.int) rfl (fun d=>match d with | .int x=>.int (x+7919*Int.ofNat t) | d=>d) (fun _=>9) (fun d hd=>by
   obtain⟨x,_,rfl⟩:=List.mem_map.mp hd
   simp[-Int.ofNat_eq_natCast])
  have hl':ns.length<=1000:=by omega
  refine(x24 (deep:=false) (by simp[hl']) h).trans ?_
  simp[-Int.ofNat_eq_natCast,Function.comp_def]
 have step:∀ (t:Nat),y7w [some (scr ns,0),some (.int (Int.ofNat t),9)]=some (if ns=[]then .bk [some (scr ns,0),some (.int (Int.ofNat t),9)]else .nx [some (scr ns,0),some (.int (Int.ofNat t),9)]):=fun t=>by
  have h1:=once (ns.map fun x=>x+7919*Int.ofNat t)
  unfold y7w
  refine(x0e (ρ1:=[some (scr ns,0),some (.int (Int.ofNat t),9)]) ?_).trans ?_
  ·have e:=x0o (F:=x3e) (n:=1) (x0r (hc t)) rfl h1
   simp only[sIf,x5e,x81,e]
   rfl
  ·have e:=z02 ns
   by_cases hns:ns=[]
   ·rw[if_pos hns]
    rw[decide_eq_true hns]at e
    simp[-Int.ofNat_eq_natCast,e]
   ·rw[if_neg hns]
    rw[decide_eq_false hns]at e
    simp[-Int.ofNat_eq_natCast,e]
 have hr:x14 (x01 (eC (.int (Int.ofNat (m+1)))) x0c) [some (scr ns,0),none]=some (x1a (m+1),[some (scr ns,0),none]):=by
  simp only[x14,x0r (f:=eC (.int (Int.ofNat (m+1)))) (q:=9) (ρ:=[some (scr ns,0),none]) rfl]
  rw[if_pos ⟨by show(-1000:Int)<=((m+1:Nat):Int); omega,by show((m+1:Nat):Int)<=1000; omega⟩]
  rfl
 rw[x3l hr]
 by_cases hns:ns=[]
 ·refine⟨some (.int (Int.ofNat 0),9),?_⟩
  have h:=step 0
  rw[if_pos hns]at h
  have e:x1a (m+1)=.int (Int.ofNat 0)::(x1a (m+1)).tail:=by
   unfold x1a
   rw[List.range_succ_eq_map]
   rfl
  rw[e]
  exact z53 (ρ1:=[some (scr ns,0),some (.int (Int.ofNat 0),9)]) (by simp) h
 ·obtain⟨ρ',e,x,rfl⟩:=x4f (pt:=x0l 1) (body:=y7w) (x1a (m+1)) (fun _ ρ=>∃ x,ρ=[some (scr ns,0),x]) [some (scr ns,0),none] (fun i hi ρ ⟨x,hx⟩=>by
   subst hx
   have h:=step i
   rw[if_neg hns]at h
   refine⟨[some (scr ns,0),some (.int (Int.ofNat i),9)],_,by rw[x5i]; simp,.inl h,_,rfl⟩) ⟨none,rfl⟩
  exact⟨x,e⟩
theorem y9r {A B:List (List Nat)} (h:x0i A=x0i B):A=B:=by
 have e:=x96 A B
 rw[<- h,x96 A A]at e
 have:=D.bl.inj (Option.some.inj e)
 rw[decide_eq_true rfl]at this
 exact of_decide_eq_true this.symm
theorem z0z {g h:x2b} {ρ ρ1:Rho} (e:g ρ=some (false,ρ1)):x5o g h ρ=some (false,ρ1):=by unfold x5o; rw[e]; rfl
theorem y7s {g h:x2b} {ρ ρ1:Rho} (e:g ρ=some (true,ρ1)):x5o g h ρ=h ρ1:=by unfold x5o; rw[e]; rfl
noncomputable def itn (n:Nat) (f:Nat->Nat->Nat) (P:List Hs) (z:Nat):Nat->List (List Nat)
 | 0=>x6d n P.length z
 | k+1=>nx n f P (itn n f P z k)
section
variable {n:Nat} {f:Nat->Nat->Nat} (L:Lad n f) {z:Nat} (hz:z<n) (bz:∀ j,j<n->f z j=j) {h:Nat} {P:List Hs} (hP:∀ H∈P,H.Ok n f h) (hl:P.length=h)
include L hz bz hP hl
theorem y26:∀ k,VOk n f h (itn n f P z k)
 | 0=>by show VOk n f h (x6d n P.length z); rw[hl]; exact z07 L hz bz
 | k+1=>z4l L hz bz hP hl (y26 k)
theorem j2p:∀ k,y60 f n (itn n f P z k) (itn n f P z (k+1))
 | 0=>by
  have:=y26 L hz bz hP hl 1
  show y60 f n (x6d n P.length z) _
  rw[hl]
  exact y3p L hz bz this
 | k+1=>y4j L hz bz hP hl (y26 L hz bz hP hl k) (y26 L hz bz hP hl (k+1)) (j2p k)
theorem j3l {V:List (List Nat)} (hV:Fix n f h P V):∀ k,y60 f n (itn n f P z k) V
 | 0=>by
  show y60 f n (x6d n P.length z) _
  rw[hl]
  exact y3p L hz bz hV.ok
 | k+1=>by
  have:=y4j L hz bz hP hl (y26 L hz bz hP hl k) hV.ok (j3l hV k)
  rw[hV.fx]at this
  exact this
omit L hz bz hP hl
theorem z6d {k:Nat} (e:itn n f P z (k+1)=itn n f P z k):∀ j,itn n f P z (k+j)=itn n f P z k
 | 0=>rfl
 | j+1=>by
  show nx n f P (itn n f P z (k+j))=_
  rw[z6d e j]
  exact e
include L hz bz hP hl
theorem z7c (hh:h<=3) {d:Nat} (hd:d<=500):x13 [x0v n f,x1k n P,.int (Int.ofNat d)]=some (x0i (itn n f P z (d+1)),9):=by
 obtain⟨ρ',e,a,i,rfl⟩:=x4h (c:=x5o (x2g (e2 dGe (x04 5) (eC (.int 0)))) (x2g (e2 dNe (x04 3) (x04 4)))) (b:=x2n)
  (Q:=fun ρ=>∃ (a:D) (i:Int),ρ=Q6 n f P d (itn n f P z (d+1)) a i)
  (fun k ρ=>∃ (i:Nat) (a:D),i<=d+1/\k=d+1-i/\((i=0/\a=.non)\/∃ j,i=j+1/\a=x0i (itn n f P z j))/\ρ=Q6 n f P d (itn n f P z i) a ((d:Int)-(i:Int)))
  (k:=d+1) (ρ:=Q6 n f P d (itn n f P z 0) .non (Int.ofNat d)) (by omega)
  ⟨0,.non,Nat.zero_le _,rfl,.inl ⟨rfl,rfl⟩,by show _=Q6 n f P d (itn n f P z 0) .non ((d:Int)-((0:Nat):Int)); rw[show(d:Int)-((0:Nat):Int)=(d:Int)from Int.sub_zero _]; rfl⟩ (fun k ρ hh0=>by
   obtain⟨i,a,hi,hk,h6,rfl⟩:=hh0
   have g1:x2g (e2 dGe (x04 5) (eC (.int 0))) (Q6 n f P d (itn n f P z i) a ((d:Int)-(i:Int)))=some (decide ((0:Int)<=(d:Int)-(i:Int)),Q6 n f P d (itn n f P z i) a ((d:Int)-(i:Int))):=x2s (x3c (fa:=x04 5) (fb:=eC (.int 0)) (q:=9) (q':=9) rfl rfl rfl)
   by_cases hd1:i=d+1
   ·subst hd1
    rw[decide_eq_false (by omega)]at g1
    exact .inl ⟨_,z0z g1,a,_,rfl⟩
   rw[decide_eq_true (by omega)]at g1
   have go:dNe (x0i (itn n f P z i)) a=some (.bl true)->x04 4 (Q6 n f P d (itn n f P z i) a ((d:Int)-(i:Int)))=some (a,9,Q6 n f P d (itn n f P z i) a ((d:Int)-(i:Int)))->∃ ρ1 ρ2 k',x5o (x2g (e2 dGe (x04 5) (eC (.int 0)))) (x2g (e2 dNe (x04 3) (x04 4))) (Q6 n f P d (itn n f P z i) a ((d:Int)-(i:Int)))=some (true,ρ1)/\x2n ρ1=some (.nx ρ2)/\k'<k/\∃ (i:Nat) (a:D),i<=d+1/\k'=d+1-i/\((i=0/\a=.non)\/∃ j,i=j+1/\a=x0i (itn n f P z j))/\ρ2=Q6 n f P d (itn n f P z i) a ((d:Int)-(i:Int)):=fun hne v4=>by
    refine⟨Q6 n f P d (itn n f P z i) a ((d:Int)-(i:Int)),Q6 n f P d (itn n f P z (i+1)) (x0i (itn n f P z i)) ((d:Int)-((i+1:Nat):Int)),d+1-(i+1),?_,?_,by omega,i+1,_,by omega,rfl,.inr ⟨i,rfl,rfl⟩,rfl⟩
    ·exact(y7s g1).trans (x2s (x3c (fa:=x04 3) (q:=9) rfl v4 hne))
    ·unfold x2n
     refine(x0e (ρ1:=Q6 n f P d (itn n f P z i) (x0i (itn n f P z i)) ((d:Int)-(i:Int))) (x17 (d:=x0i (itn n f P z i)) (q:=9) rfl rfl)).trans ?_
     refine(x0e (ρ1:=Q6 n f P d (itn n f P z (i+1)) (x0i (itn n f P z i)) ((d:Int)-(i:Int))) (x17 (x0o (ds:=[x0v n f,x1k n P,x0i (itn n f P z i)]) rfl rfl (y5z L hz bz (y26 L hz bz hP hl i) hP (by omega))) rfl)).trans ?_
     have e1:(d:Int)-(i:Int)-1=(d:Int)-((i+1:Nat):Int):=by omega
     refine x17 (d:=.int ((d:Int)-((i+1:Nat):Int))) (q:=9) (ρ1:=Q6 n f P d (itn n f P z (i+1)) (x0i (itn n f P z i)) ((d:Int)-(i:Int))) (x3c (fa:=x04 5) (fb:=eC (.int 1)) (q:=9) (q':=9) rfl rfl ?_) rfl
     show some (D.int ((d:Int)-(i:Int)-1))=_
     rw[e1]
   rcases h6 with⟨rfl,rfl⟩ | ⟨j,rfl,rfl⟩
   ·exact .inr (go (x64 _) rfl)
   ·by_cases he:itn n f P z (j+1)=itn n f P z j
    ·have ne:=x5n (itn n f P z (j+1)) (itn n f P z j)
     rw[decide_eq_true he]at ne
     refine .inl ⟨_,(y7s g1).trans (x2s (x3c (fa:=x04 3) (fb:=x04 4) (q:=9) (q':=9) rfl rfl ne)),x0i (itn n f P z j),(d:Int)-((j+1:Nat):Int),?_⟩
     have s1:=z6d he (d+1-j)
     rw[show j+(d+1-j)=d+1 by omega]at s1
     rw[s1,he]
    ·exact .inr (go (by rw[x5n,decide_eq_false he]; rfl) rfl))
 unfold x13 x5b
 refine x29 ?_
 show x0z _ _ [some (x0v n f,9),some (x1k n P,9),some (.int (Int.ofNat d),9),none,none,none]=_
 subst hl
 have lr:=x7h L hz bz (rfl:P.length=P.length) (P:=P) (n:=n) (by omega)
 refine(x0e (ρ1:=[some (x0v n f,9),some (x1k n P,9),some (.int (Int.ofNat d),9),some (x0i (x6d n P.length z),9),none,none]) (x17 (x0o (ds:=[x0v n f,x1k n P]) rfl rfl lr) rfl)).trans ?_
 refine(x0e (ρ1:=[some (x0v n f,9),some (x1k n P,9),some (.int (Int.ofNat d),9),some (x0i (x6d n P.length z),9),some (.non,9),none]) rfl).trans ?_
 refine(x0e (ρ1:=Q6 n f P d (itn n f P z 0) .non (Int.ofNat d)) rfl).trans ?_
 exact(x0e e).trans (x1y (ρ1:=Q6 n f P d _ a i) rfl)
theorem j2o (hh:h<=3) (hn5:n<=5) {V:List (List Nat)} (hV:Fix n f h P V) {k:Nat} (hk:h*(n*n)+1<=k):itn n f P z k=V:=by
 have h75:h*(n*n)<=75:=by
  have h1:n*n<=5*5:=Nat.mul_le_mul hn5 hn5
  have h2:h*(n*n)<=3*(5*5):=Nat.mul_le_mul hh h1
  omega
 obtain⟨W,hW,e⟩:=j1e L hz bz hP hl hh hn5 (d:=h*(n*n)) (Nat.le_refl _)
 rw[z7c L hz bz hP hl hh (by omega)]at e
 have e1:itn n f P z (h*(n*n)+1)=W:=y9r (Prod.mk.inj (Option.some.inj e)).1
 have e2:V=W:=z1o L hV.ok hW.ok (hV.le W hW.ok hW.fx) (hW.le V hV.ok hV.fx)
 have e3:itn n f P z (h*(n*n)+1+1)=itn n f P z (h*(n*n)+1):=by show nx n f P _=_; rw[e1]; exact hW.fx
 have s1:=z6d e3 (k-(h*(n*n)+1))
 rw[show h*(n*n)+1+(k-(h*(n*n)+1))=k by omega]at s1
 rw[s1,e1,e2]
end
noncomputable abbrev E9 (ns:List Int) (n:Nat) (f:Nat->Nat->Nat) (P:List Hs) (V:List (List Nat)) (r i m t k:Option (D × Nat)):Rho:=[some (scr ns,0),some (x0v n f,9),some (x1k n P,9),some (x0i V,9),r,i,m,t,k]
noncomputable abbrev rT (A:List (List Nat)):Option (D × Nat):=some (x0i A,9)
noncomputable abbrev nT (i:Nat):Option (D × Nat):=some (.int (Int.ofNat i),9)
section
variable {n:Nat} {f:Nat->Nat->Nat} (L:Lad n f) {z:Nat} (hz:z<n) (bz:∀ j,j<n->f z j=j) {P:List Hs}
theorem j2c {H:Hs} (h:∀ w∈H.W,y08 w.2.2=false) (A B:List (List Nat)):nxr n f A H=nxr n f B H:=by
 have e:∀ w,x6e A H w=x6e B H w:=fun w=>by
  unfold x6e
  congr 1
  apply List.map_congr_left
  intro a ha
  have:=h a ha
  cases hx:a.2.2 with
  | inl k=>rw[hx]at this; cases this
  | inr r=>rfl
 unfold nxr
 apply List.map_congr_left
 intro w _
 rw[e w]
theorem j1u {V:List (List Nat)} {j:Nat} (hj:j<P.length):(nx n f P V).getD j []=nxr n f V P[j]:=by
 unfold nx
 rw[List.getD_eq_getElem?_getD,List.getElem?_map,List.getElem?_eq_getElem hj]
 rfl
include L hz bz
theorem y4v {A B:List (List Nat)} {j:Nat} (hj:j<P.length) (oA:VOk n f P.length A) (oB:VOk n f P.length B) (le:y60 f n A B):x1q [x0v n f,x3j n (gv (A.getD j [])),x3j n (gv (B.getD j []))]=some (.bl true,9):=by
 have hn:n<=1000:=Nat.le_trans L.hi (by decide)
 have r1:=oA.at hj
 have r2:=oB.at hj
 have nm:=y4i (f:=f) hn (r:=gv (A.getD j [])) (s:=gv (B.getD j [])) (fun i hi=>r1.V.gv hi) (fun i hi=>r2.V.gv hi)
 rw[show((List.range n).all fun i=>decide (f (gv (A.getD j []) i) (gv (B.getD j []) i)=gv (B.getD j []) i))=true from L3.range_all.mpr fun i hi=>decide_eq_true (le j (by rw[oA.len]; exact hj) i hi)]at nm
 exact nm
variable (hP:∀ H∈P,H.Ok n f P.length) (h3:P.length<=3)
include hP h3
theorem j6x (ns:List Int) {V:List (List Nat)} (hV:Fix n f P.length P V) (i:Nat) (a b:Option (D × Nat)) {j:Nat} (hj:j<P.length):x6i (E9 ns n f P V (rT (itn n f P z i)) a b (rT (itn n f P z (i+1))) (nT j))=some (.nx (E9 ns n f P V (rT (itn n f P z i)) a b (rT (itn n f P z (i+1))) (nT j))):=by
 have oA:=y26 L hz bz hP rfl i
 have oB:=y26 L hz bz hP rfl (i+1)
 have k4:=y1d (i:=4) (b:=x04 8) (q':=9) (ρ:=E9 ns n f P V (rT (itn n f P z i)) a b (rT (itn n f P z (i+1))) (nT j)) rfl rfl (oA.get hj) rfl
 have k7:=y1d (i:=7) (b:=x04 8) (q':=9) (ρ:=E9 ns n f P V (rT (itn n f P z i)) a b (rT (itn n f P z (i+1))) (nT j)) rfl rfl (oB.get hj) rfl
 have k3:=y1d (i:=3) (b:=x04 8) (q':=9) (ρ:=E9 ns n f P V (rT (itn n f P z i)) a b (rT (itn n f P z (i+1))) (nT j)) rfl rfl (hV.ok.get hj) rfl
 have c1:=y3i (x9p (x0o (x0w (f:=x04 1) (q:=9) (ρ:=E9 ns n f P V (rT (itn n f P z i)) a b (rT (itn n f P z (i+1))) (nT j)) rfl (x0w k4 (x0r k7))) rfl (y4v L hz bz hj oA oB (j2p L hz bz hP rfl i))))
 have c2:=y3i (x9p (x0o (x0w (f:=x04 1) (q:=9) (ρ:=E9 ns n f P V (rT (itn n f P z i)) a b (rT (itn n f P z (i+1))) (nT j)) rfl (x0w k7 (x0r k3))) rfl (y4v L hz bz hj oB hV.ok (j3l L hz bz hP rfl hV (i+1)))))
 unfold x6i
 refine(x0e ((y3k ((j5q c1).trans c2)).trans rfl)).trans ?_
 obtain⟨g,eg,hg⟩:=y5q hP rfl h3 hj
 have c3:=x2s (x3c (x0o (F:=x3d) (n:=2) (g:=x01 (x04 2) (x01 (x04 8) x0c)) (ρ:=E9 ns n f P V (rT (itn n f P z i)) a b (rT (itn n f P z (i+1))) (nT j)) (ds:=[x1k n P,.int (Int.ofNat j)]) rfl rfl eg) (rfl:x4x x0c _=some (.lst [],1,_)) (j2d g []))
 by_cases hg0:g=[]
 ·rw[decide_eq_true hg0]at c3
  have er:(itn n f P z (i+1)).getD j []=V.getD j []:=by
   have e1:(itn n f P z (i+1)).getD j []=nxr n f (itn n f P z i) P[j]:=j1u hj
   have e2:V.getD j []=nxr n f V P[j]:=by
    have:=j1u (n:=n) (f:=f) (V:=V) hj
    rw[hV.fx]at this
    exact this
   rw[e1,e2]
   exact j2c (hg hg0) _ _
  rw[er]at k7
  have ne:dNe (x3j n (gv (V.getD j []))) (x3j n (gv (V.getD j [])))=some (.bl false):=by
   have:=y78 ((List.range n).map (gv (V.getD j []))) ((List.range n).map (gv (V.getD j [])))
   rw[decide_eq_true rfl]at this
   exact this
  exact(y3k ((y7s c3).trans (x2s (x3c k7 k3 ne)))).trans rfl
 ·rw[decide_eq_false hg0]at c3
  exact(y3k (z0z c3)).trans rfl
theorem j3g (ns:List Int) {V:List (List Nat)} (hV:Fix n f P.length P V) (i:Nat) (hi:i<=100) (b t k:Option (D × Nat)):∃ b' t' k',x71 (E9 ns n f P V (rT (itn n f P z i)) (nT i) b t k)=some (.nx (E9 ns n f P V (rT (itn n f P z (i+1))) (nT i) b' t' k')):=by
 have oA:=y26 L hz bz hP rfl i
 unfold x71
 have e1:=y1k L hz bz oA hP (by omega)
 have e2:=z7c L hz bz hP rfl h3 (d:=i) (by omega)
 have ne:=x5n (itn n f P z (i+1)) (itn n f P z (i+1))
 rw[decide_eq_true rfl]at ne
 have hi2:x14 (x01 (x1c 2) x0c) (E9 ns n f P V (rT (itn n f P z i)) (nT i) (rT (itn n f P z (i+1))) (rT (itn n f P z (i+1))) k)=some (x1a P.length,E9 ns n f P V (rT (itn n f P z i)) (nT i) (rT (itn n f P z (i+1))) (rT (itn n f P z (i+1))) k):=x4s (n:=P.length) (by omega) (i:=2) rfl (by show some (P.map (x0p n)).length=_; rw[List.length_map])
 obtain⟨ρ',e,x,rfl⟩:=x4f (pt:=x0l 8) (body:=x6i) (x1a P.length) (fun _ ρ=>∃ x,ρ=E9 ns n f P V (rT (itn n f P z i)) (nT i) (rT (itn n f P z (i+1))) (rT (itn n f P z (i+1))) x) (E9 ns n f P V (rT (itn n f P z i)) (nT i) (rT (itn n f P z (i+1))) (rT (itn n f P z (i+1))) k) (fun j hj ρ ⟨x,hx⟩=>by
  subst hx
  rw[x15]at hj
  exact⟨E9 ns n f P V (rT (itn n f P z i)) (nT i) (rT (itn n f P z (i+1))) (rT (itn n f P z (i+1))) (nT j),_,by rw[x5i]; simp,.inl (j6x L hz bz hP h3 ns hV i _ _ hj),_,rfl⟩) ⟨k,rfl⟩
 refine⟨rT (itn n f P z (i+1)),rT (itn n f P z (i+1)),x,?_⟩
 refine(x0e (ρ1:=E9 ns n f P V (rT (itn n f P z i)) (nT i) (rT (itn n f P z (i+1))) t k) (x17 (x0o (ds:=[x0v n f,x1k n P,x0i (itn n f P z i)]) rfl rfl e1) rfl)).trans ?_
 refine(x0e (ρ1:=E9 ns n f P V (rT (itn n f P z i)) (nT i) (rT (itn n f P z (i+1))) (rT (itn n f P z (i+1))) k) (x17 (x0o (ds:=[x0v n f,x1k n P,.int (Int.ofNat i)]) rfl rfl e2) rfl)).trans ?_
 refine(x0e ((y3k (x2s (x3c (fa:=x04 7) (fb:=x04 6) (q:=9) (q':=9) rfl rfl ne))).trans rfl)).trans ?_
 refine(x0e ((x3l hi2).trans e)).trans ?_
 exact x17 (d:=x0i (itn n f P z (i+1))) (q:=9) rfl rfl
theorem z90 (ns:List Int) (hn5:n<=5) {V:List (List Nat)} (hV:Fix n f P.length P V) (m t k:Option (D × Nat)):∃ i,i<=100/\itn n f P z (3+i)=V/\x9e (x5o (x2g (e2 dNe (x04 4) (x04 3))) (x2g (e2 dLt (x04 5) (eC (.int 200))))) x6m (E9 ns n f P V (rT (itn n f P z 3)) (nT 0) m t k)=some (.nx (E9 ns n f P V (rT (itn n f P z (3+i))) (nT i) m t k)):=by
 have h75:P.length*(n*n)<=75:=by
  have h1:n*n<=5*5:=Nat.mul_le_mul hn5 hn5
  have h2:P.length*(n*n)<=3*(5*5):=Nat.mul_le_mul h3 h1
  omega
 obtain⟨ρ',e,i,hi,hf,rfl⟩:=x4h (c:=x5o (x2g (e2 dNe (x04 4) (x04 3))) (x2g (e2 dLt (x04 5) (eC (.int 200))))) (b:=x6m)
  (Q:=fun ρ=>∃ i,i<=100/\itn n f P z (3+i)=V/\ρ=E9 ns n f P V (rT (itn n f P z (3+i))) (nT i) m t k)
  (fun kk ρ=>∃ i,i<=100/\kk=100-i/\ρ=E9 ns n f P V (rT (itn n f P z (3+i))) (nT i) m t k)
  (k:=100) (ρ:=E9 ns n f P V (rT (itn n f P z 3)) (nT 0) m t k) (by decide) ⟨0,by decide,rfl,rfl⟩ (fun kk ρ hh0=>by
   obtain⟨i,hi,hk,rfl⟩:=hh0
   have ne:=x5n (itn n f P z (3+i)) V
   by_cases he:itn n f P z (3+i)=V
   ·rw[decide_eq_true he]at ne
    exact .inl ⟨_,z0z (x2s (x3c (fa:=x04 4) (fb:=x04 3) (q:=9) (q':=9) rfl rfl ne)),i,hi,he,rfl⟩
   ·rw[decide_eq_false he]at ne
    have hi9:i<100:=by
     rcases Nat.lt_or_ge i 100 with q | q
     ·exact q
     ·exact absurd (j2o L hz bz hP rfl h3 hn5 hV (k:=3+i) (by omega)) he
    have lt:x2g (e2 dLt (x04 5) (eC (.int 200))) (E9 ns n f P V (rT (itn n f P z (3+i))) (nT i) m t k)=some (true,E9 ns n f P V (rT (itn n f P z (3+i))) (nT i) m t k):=by
     refine x2s (x3c (fa:=x04 5) (fb:=eC (.int 200)) (q:=9) (q':=9) rfl rfl ?_)
     show some (D.bl (decide ((i:Int)<200)))=_
     rw[decide_eq_true (by omega)]
    refine .inr ⟨_,E9 ns n f P V (rT (itn n f P z (3+(i+1)))) (nT (i+1)) m t k,100-(i+1),(y7s (x2s (x3c (fa:=x04 4) (fb:=x04 3) (q:=9) (q':=9) rfl rfl ne))).trans lt,?_,by omega,i+1,by omega,rfl,rfl⟩
    unfold x6m
    refine(x0e (ρ1:=E9 ns n f P V (rT (itn n f P z (3+(i+1)))) (nT i) m t k) (x17 (x0o (ds:=[x0v n f,x1k n P,x0i (itn n f P z (3+i))]) rfl rfl (y1k L hz bz (y26 L hz bz hP rfl (3+i)) hP (by omega))) rfl)).trans ?_
    exact x17 (d:=.int (Int.ofNat (i+1))) (q:=9) (ρ1:=E9 ns n f P V (rT (itn n f P z (3+(i+1)))) (nT i) m t k) (x3c (fa:=x04 5) (fb:=eC (.int 1)) (q:=9) (q':=9) rfl rfl rfl) rfl)
 exact⟨i,hi,hf,e⟩
end
theorem j34 (ns:List Int):x3e [scr ns]=some (.bl true,9):=by
 obtain⟨n,f,L,hL⟩:=j0a ns 0 (Int.le_refl 0)
 obtain⟨z,hz,bz⟩:=L.bot
 have hn:n<=1000:=Nat.le_trans L.hi (by decide)
 unfold x3e y1b
 refine x29 ?_
 show x0z _ _ [some (scr ns,0),none,none,none,none,none,none,none,none]=_
 refine(x0e (ρ1:=[some (scr ns,0),some (x0v n f,9),none,none,none,none,none,none,none]) (x17 (x0o (ds:=[scr ns,.int 0]) rfl rfl hL) rfl)).trans ?_
 have te:x2g (e2 dGt (x1c 1) (eC (.int 4))) [some (scr ns,0),some (x0v n f,9),none,none,none,none,none,none,none]=some (decide ((4:Int)<Int.ofNat n),[some (scr ns,0),some (x0v n f,9),none,none,none,none,none,none,none]):=x2s (x3c (x5z rfl x2u) (rfl:eC (.int 4) _=some (.int 4,9,_)) rfl)
 by_cases h4:(4:Int)<Int.ofNat n
 ·rw[decide_eq_true h4]at te
  exact z8b ((j2j te).trans rfl)
 rw[decide_eq_false h4]at te
 have hn5:n<=5:=by have:¬ (4:Int)<(n:Int):=h4; omega
 refine(x0e ((y3k te).trans rfl)).trans ?_
 obtain⟨P,_,h3,hP,eP⟩:=y9i L hz bz ns 20 (by decide)
 obtain⟨V,hV,eS⟩:=y52 L hz bz hP rfl h3 hn5
 refine(x0e (ρ1:=[some (scr ns,0),some (x0v n f,9),some (x1k n P,9),none,none,none,none,none,none]) (x17 (x0o (ds:=[scr ns,.int 20,x0v n f]) rfl rfl eP) rfl)).trans ?_
 refine(x0e (ρ1:=E9 ns n f P V none none none none none) (x17 (x0o (ds:=[x0v n f,x1k n P]) rfl rfl eS) rfl)).trans ?_
 refine(x0e (ρ1:=E9 ns n f P V (rT (itn n f P z 0)) none none none none) (x17 (d:=x0i (x6d n P.length z)) (q:=9) (ρ1:=E9 ns n f P V none none none none none) ?_ rfl)).trans ?_
 ·have hi:x5t (x04 2) (E9 ns n f P V none none none none none)=some (P.map (x0p n),E9 ns n f P V none none none none none):=by
   have:P.length<=1000:=by omega
   simp[x1k,this]
  have hcm:=x24 (k:=1) (tt:=x2p) (te:=y1c (x4e (x01 (x0g x1d 1 (x01 (x04 1) (x0c))) (x0c))) (x1c 1)) (deep:=false) (pt:=x0l 9) hi (x4i (x0p n) (fun H=>[some (x0p n H,9)]) (fun _=>true) (fun _=>x6k (y0v n z)) (fun _=>9) P (fun H hH=>⟨rfl,rfl,fun _=>by
   have e1:x4e (x01 (x0g x1d 1 (x01 (x04 1) (x0c))) (x0c)) (E9 ns n f P V none none none none none++[some (x0p n H,9)])=some (.tup [.int (Int.ofNat z)],9,E9 ns n f P V none none none none none++[some (x0p n H,9)]):=x5c (x0r (x0o (ds:=[x0v n f]) rfl rfl (y8j L hz bz hn))) (show 1<=1000 by decide)
   have e2:x1c 1 (E9 ns n f P V none none none none none++[some (x0p n H,9)])=some (.int (Int.ofNat n),9,E9 ns n f P V none none none none none++[some (x0p n H,9)]):=x5z rfl x2u
   unfold y1c
   rw[e1]
   simp only[e2]
   have:=L.lo
   rw[if_pos ⟨rfl,by show(1:Int)<=(n:Int); omega,by show 1*n<=1000; omega⟩]
   show some (D.tup (List.replicate n [D.int (Int.ofNat z)]).flatten,9,_)=_
   rw[List.flatten_replicate_singleton]
   simp[x0f,y0v,x6k]⟩))
  have e1:(P.filter fun _=>true).map (fun _=>x6k (y0v n z))=(x6d n P.length z).map x6k:=by
   unfold x6d
   rw[List.map_replicate,List.filter_eq_self.mpr fun _ _=>rfl,List.map_const']
  rw[e1]at hcm
  exact x1x (x0r hcm)
 obtain⟨ρ',e,a,b,c,d,rfl⟩:=x4f (pt:=x0l 5) (body:=x71) (x1a 3) (fun i ρ=>∃ a b c d,ρ=E9 ns n f P V (rT (itn n f P z i)) a b c d) (E9 ns n f P V (rT (itn n f P z 0)) none none none none) (fun i hi ρ hh0=>by
  obtain⟨a,b,c,d,rfl⟩:=hh0
  rw[x15]at hi
  obtain⟨b',t',k',e⟩:=j3g L hz bz hP h3 ns hV i (by omega) b c d
  exact⟨E9 ns n f P V (rT (itn n f P z i)) (nT i) b c d,_,by rw[x5i]; simp,.inl e,_,_,_,_,rfl⟩) ⟨none,none,none,none,rfl⟩
 have hr:x14 (x01 (eC (.int 3)) x0c) (E9 ns n f P V (rT (itn n f P z 0)) none none none none)=some (x1a 3,E9 ns n f P V (rT (itn n f P z 0)) none none none none):=x98 (m:=3) (by decide) (q:=9) rfl
 refine(x0e ((x3l hr).trans e)).trans ?_
 refine(x0e (ρ1:=E9 ns n f P V (rT (itn n f P z 3)) (nT 0) b c d) rfl).trans ?_
 obtain⟨i,hi,hf,ew⟩:=z90 L hz bz hP h3 ns hn5 hV b c d
 refine(x0e ew).trans ?_
 have eq1:=x96 (itn n f P z (3+i)) V
 rw[decide_eq_true hf]at eq1
 have c1:=x3c (fa:=x04 4) (fb:=x04 3) (q:=9) (q':=9) (ρ:=E9 ns n f P V (rT (itn n f P z (3+i))) (nT i) b c d) rfl rfl eq1
 have eb:=z7c L hz bz hP rfl h3 (d:=3+i) (by omega)
 have ef:itn n f P z (3+i+1)=V:=by show nx n f P (itn n f P z (3+i))=V; rw[hf]; exact hV.fx
 rw[ef]at eb
 have eq2:=x96 V V
 rw[decide_eq_true rfl]at eq2
 have a5:e2 x2w (eC (.int 3)) (x04 5) (E9 ns n f P V (rT (itn n f P z (3+i))) (nT i) b c d)=some (.int (Int.ofNat (3+i)),9,E9 ns n f P V (rT (itn n f P z (3+i))) (nT i) b c d):=x3c (fa:=eC (.int 3)) (fb:=x04 5) (q:=9) (q':=9) rfl rfl rfl
 have c2:=x3c (x0o (F:=x13) (n:=3) (x0w (f:=x04 1) (q:=9) (ρ:=E9 ns n f P V (rT (itn n f P z (3+i))) (nT i) b c d) rfl (x0w (f:=x04 2) (q:=9) rfl (x0r a5))) rfl eb) (fb:=x04 3) (q':=9) rfl eq2
 refine x1y (ρ1:=E9 ns n f P V (rT (itn n f P z (3+i))) (nT i) b c d) ?_
 unfold z6s
 rw[c1]
 exact c2
theorem law_true (ns:List Int) (h63:ns.length<=63):∃ q,y9a [.lst (ns.map D.int)]=some (.bl true,q):=by
 obtain⟨x,e⟩:=z4i h63 (m:=4) (by decide) j34
 refine⟨9,?_⟩
 unfold y9a j29
 refine x29 ?_
 exact(x0e e).trans rfl
noncomputable def A0 (K:PySem.W.Frag) (mg:Str->Option Value) (x:Str) (st:Stmt):Prop:=∃ f fd,Fun K x x st f fd/\mg x=some (.ref f)
theorem A0.mk {K:PySem.W.Frag} {h:Heap} {mg:Str->Option Value} {x:Str} {st:Stmt} {f:Addr} {od an:Option Addr} {sl:Array (Option Value)} {oc kV dc pm cd ct:Value} (X:K.In h) (G:h.Ns mainGlobals mg) (a:PySem.W.nsIn K mainGlobals x=some (some (.ref f))) (l:K.lookup f=some ⟨oc,od,.func (PySem.W.fnOf x x (x70 st) (x44 st) (x0b st) .none kV dc pm an cd ct),sl⟩) (c:PySem.W.codeIn K cd x=true) (k:PySem.W.keepIn K (.ref f)=true):A0 K mg x st:=⟨_,_,z5y l c k,PySem.W.mg_of X G a⟩
theorem A0.at {K:PySem.W.Frag} {mg:Str->Option Value} {x:Str} {st:Stmt} {ps:List Str} (a:A0 K mg x st) (h:∀ (kV doc pm:Value) (an:Option Addr) (cdv ct:Value) (us:List Value),us.length=ps.length->bindArgs (PySem.W.fnOf x x (x70 st) (x44 st) (x0b st) .none kV doc pm an cdv ct) ⟨us,[]⟩=pure (ps.zip us)):At K mg x st ps:=by
 obtain⟨f,fd,F,m⟩:=a
 exact⟨f,fd,F,m,F.binds h⟩
theorem all_mk {l:PySem.W.OpenLaw} {w:World} {K:PySem.W.Frag} {h:Heap} {mg:Str->Option Value} {fa:Addr} {f48:Addr} {od48 an48:Option Addr} {sl48:Array (Option Value)} {oc48 kV48 dc48 pm48 cd48 ct48:Value} (X:K.In h) (G:h.Ns mainGlobals mg) (hfa:mg "law" = some (.ref fa))
  (A1:A0 K mg "_law_cell" (top 43))
  (A2:A0 K mg "_law_pick" (top 44))
  (A3:A0 K mg "_law_chain" (top 45))
  (A4:A0 K mg "_law_couples" (top 46))
  (A5:A0 K mg "_law_side_by_side" (top 47))
  (A6:A0 K mg "_law_base" (top 48))
  (A7:A0 K mg "_law_ladder" (top 49))
  (A8:A0 K mg "_law_low" (top 50))
  (A9:A0 K mg "_law_join" (top 51))
  (A10:A0 K mg "_law_under" (top 52))
  (A11:A0 K mg "_law_rule" (top 53))
  (A12:A0 K mg "_law_program" (top 56))
  (A13:A0 K mg "steady" (top 15))
  (A14:A0 K mg "row_of_least" (top 10))
  (A15:A0 K mg "least_of" (top 11))
  (A16:A0 K mg "least_rules" (top 37))
  (A17:A0 K mg "is_whole" (top 6))
  (A18:A0 K mg "is_number_of" (top 7))
  (A19:A0 K mg "is_named_number" (top 8))
  (A20:A0 K mg "is_step" (top 26))
  (A21:A0 K mg "refuse_no_step" (top 27))
  (A22:A0 K mg "place_and_worth" (top 28))
  (A23:A0 K mg "worths_behind" (top 29))
  (A24:A0 K mg "risen" (top 30))
  (A25:A0 K mg "lowest" (top 23))
  (A26:A0 K mg "least_by" (top 31))
  (A27:A0 K mg "all_steps" (top 25))
  (A28:A0 K mg "least" (top 24))
  (A29:A0 K mg "called_chart" (top 34))
  (A30:A0 K mg "house_rule" (top 35))
  (A31:A0 K mg "one_call_deeper" (top 36))
  (A32:A0 K mg "summaries_by" (top 39))
  (A33:A0 K mg "summaries" (top 38))
  (A34:A0 K mg "_law_house_chart" (top 60))
  (A35:A0 K mg "_law_raised" (top 57))
  (A36:A0 K mg "_law_lowest" (top 58))
  (A37:A0 K mg "_law_next_rules" (top 61))
  (A38:A0 K mg "is_below" (top 12))
  (A39:A0 K mg "is_no_more" (top 14))
  (A40:A0 K mg "refuse_no_house" (top 33))
  (A41:A0 K mg "chart_of_calls" (top 41))
  (A42:A0 K mg "goals_from" (top 20))
  (A43:A0 K mg "all_reached" (top 21))
  (A44:A0 K mg "refuse_no_place" (top 17))
  (A45:A0 K mg "goals_of" (top 19))
  (A46:A0 K mg "called_by" (top 40))
  (A47:A0 K mg "_law_once" (top 62))
  (a48:PySem.W.nsIn K mainGlobals "law" = some (some (.ref f48))) (l48:K.lookup f48=some ⟨oc48,od48,.func (PySem.W.fnOf "law" "law" (x70 (top 63)) (x44 (top 63)) (x0b (top 63)) .none kV48 dc48 pm48 an48 cd48 ct48),sl48⟩) (c48:PySem.W.codeIn K cd48 "law" = true) (k48:PySem.W.keepIn K (.ref f48)=true)
  (z1:PySem.W.nsIn K mainGlobals "all" = some none) (z2:PySem.W.nsIn K mainGlobals "bool" = some none) (z3:PySem.W.nsIn K mainGlobals "enumerate" = some none) (z4:PySem.W.nsIn K mainGlobals "int" = some none) (z5:PySem.W.nsIn K mainGlobals "isinstance" = some none) (z6:PySem.W.nsIn K mainGlobals "len" = some none) (z7:PySem.W.nsIn K mainGlobals "list" = some none) (z8:PySem.W.nsIn K mainGlobals "max" = some none) (z9:PySem.W.nsIn K mainGlobals "range" = some none) (z10:PySem.W.nsIn K mainGlobals "set" = some none) (z11:PySem.W.nsIn K mainGlobals "sorted" = some none) (z12:PySem.W.nsIn K mainGlobals "str" = some none) (z13:PySem.W.nsIn K mainGlobals "tuple" = some none) (z14:PySem.W.nsIn K mainGlobals "zip" = some none) :
  ∃ fd:FuncData,(∀ (s:Shared) (v:Value),BindsTo s fd ⟨[v],[]⟩ [("_law_script",v)])/\∀ base:Heap,K.In base->base.Ns mainGlobals mg->Lm K mg base->FnOk l.prog w K mg base CX0 13 fa fd ["_law_script"] (spD K 1 y9a):=by
 have e:=hfa.symm.trans (PySem.W.mg_of X G a48)
 cases e
 have B:Bt mg:=⟨PySem.W.mg_none_of X G z1,PySem.W.mg_none_of X G z2,PySem.W.mg_none_of X G z3,PySem.W.mg_none_of X G z4,PySem.W.mg_none_of X G z5,PySem.W.mg_none_of X G z6,PySem.W.mg_none_of X G z7,PySem.W.mg_none_of X G z8,PySem.W.mg_none_of X G z9,PySem.W.mg_none_of X G z10,PySem.W.mg_none_of X G z11,PySem.W.mg_none_of X G z12,PySem.W.mg_none_of X G z13,PySem.W.mg_none_of X G z14⟩
 refine⟨PySem.W.fnOf "law" "law" (x70 (top 63)) (x44 (top 63)) (x0b (top 63)) .none kV48 dc48 pm48 an48 cd48 ct48,fun s v=>.of_eq rfl,fun base KX NG L=>?_⟩
 have D__law_cell:=y6g (P:=l.prog) (w:=w) (base:=base) B (A1.at fun _ _ _ _ _ _ _ h=>by obtain⟨_,_,rfl⟩:=L3.j7d h; rfl)
 have D__law_pick:=y6a B D__law_cell (A2.at fun _ _ _ _ _ _ _ h=>by obtain⟨_,_,_,rfl⟩:=L3.j78 h; rfl)
 have D__law_chain:=y5a (P:=l.prog) (w:=w) (base:=base) B (A3.at fun _ _ _ _ _ _ _ h=>by obtain⟨_,rfl⟩:=L3.j75 h; rfl)
 have D__law_couples:=y2m (P:=l.prog) (w:=w) (base:=base) B (A4.at fun _ _ _ _ _ _ _ h=>by obtain⟨_,_,rfl⟩:=L3.j7d h; rfl)
 have D__law_side_by_side:=x7v (P:=l.prog) (w:=w) (base:=base) B (A5.at fun _ _ _ _ _ _ _ h=>by obtain⟨_,rfl⟩:=L3.j75 h; rfl)
 have D__law_base:=y77 B D__law_pick D__law_chain D__law_couples D__law_side_by_side (A6.at fun _ _ _ _ _ _ _ h=>by obtain⟨_,_,rfl⟩:=L3.j7d h; rfl)
 have D__law_ladder:=y4q B D__law_base D__law_pick (A7.at fun _ _ _ _ _ _ _ h=>by obtain⟨_,_,rfl⟩:=L3.j7d h; rfl)
 have D__law_low:=y91 (P:=l.prog) (w:=w) (base:=base) B (A8.at fun _ _ _ _ _ _ _ h=>by obtain⟨_,rfl⟩:=L3.j75 h; rfl)
 have D__law_join:=y7a B D__law_low (A9.at fun _ _ _ _ _ _ _ h=>by obtain⟨_,_,rfl⟩:=L3.j7d h; rfl)
 have D__law_under:=y4s (P:=l.prog) (w:=w) (base:=base) B (A10.at fun _ _ _ _ _ _ _ h=>by obtain⟨_,_,rfl⟩:=L3.j7d h; rfl)
 have D__law_rule:=y6f B D__law_low D__law_pick D__law_join D__law_under (A11.at fun _ _ _ _ _ _ _ h=>by obtain⟨_,_,_,rfl⟩:=L3.j78 h; rfl)
 have D__law_program:=y2c B D__law_pick D__law_rule (A12.at fun _ _ _ _ _ _ _ h=>by obtain⟨_,_,_,rfl⟩:=L3.j78 h; rfl)
 have D_steady:=z3r (P:=l.prog) (w:=w) (base:=base) B (A13.at fun _ _ _ _ _ _ _ h=>by obtain⟨_,_,rfl⟩:=L3.j7d h; rfl)
 have D_row_of_least:=y27 (P:=l.prog) (w:=w) (base:=base) B (A14.at fun _ _ _ _ _ _ _ h=>by obtain⟨_,rfl⟩:=L3.j75 h; rfl)
 have D_least_of:=y8w B D_row_of_least (A15.at fun _ _ _ _ _ _ _ h=>by obtain⟨_,rfl⟩:=L3.j75 h; rfl)
 have D_least_rules:=y41 B D_steady D_least_of (A16.at fun _ _ _ _ _ _ _ h=>by obtain⟨_,_,rfl⟩:=L3.j7d h; rfl)
 have D_is_whole:=y8z (P:=l.prog) (w:=w) (base:=base) B (A17.at fun _ _ _ _ _ _ _ h=>by obtain⟨_,rfl⟩:=L3.j75 h; rfl)
 have D_is_number_of:=y2j B D_is_whole (A18.at fun _ _ _ _ _ _ _ h=>by obtain⟨_,_,rfl⟩:=L3.j7d h; rfl)
 have D_is_named_number:=x9j B D_is_number_of (A19.at fun _ _ _ _ _ _ _ h=>by obtain⟨_,_,rfl⟩:=L3.j7d h; rfl)
 have D_is_step:=z0o B D_is_named_number (A20.at fun _ _ _ _ _ _ _ h=>by obtain⟨_,_,rfl⟩:=L3.j7d h; rfl)
 have D_refuse_no_step:=y0p B D_is_step (A21.at fun _ _ _ _ _ _ _ h=>by obtain⟨_,_,rfl⟩:=L3.j7d h; rfl)
 have D_place_and_worth:=x9s (P:=l.prog) (w:=w) (base:=base) B (A22.at fun _ _ _ _ _ _ _ h=>by obtain⟨_,_,_,rfl⟩:=L3.j78 h; rfl)
 have D_worths_behind:=y1s B D_place_and_worth (A23.at fun _ _ _ _ _ _ _ h=>by obtain⟨_,_,_,_,rfl⟩:=L3.j7g h; rfl)
 have D_risen:=z99 B D_worths_behind (A24.at fun _ _ _ _ _ _ _ h=>by obtain⟨_,_,_,_,rfl⟩:=L3.j7g h; rfl)
 have D_lowest:=z3m B D_least_of (A25.at fun _ _ _ _ _ _ _ h=>by obtain⟨_,_,rfl⟩:=L3.j7d h; rfl)
 have D_least_by:=y8x B D_refuse_no_step D_risen D_lowest (A26.at fun _ _ _ _ _ _ _ h=>by obtain⟨_,_,_,rfl⟩:=L3.j78 h; rfl)
 have D_all_steps:=y6v (P:=l.prog) (w:=w) (base:=base) B (A27.at fun _ _ _ _ _ _ _ h=>by obtain⟨_,rfl⟩:=L3.j75 h; rfl)
 have D_least:=z6p B D_least_by D_all_steps (A28.at fun _ _ _ _ _ _ _ h=>by obtain⟨_,_,rfl⟩:=L3.j7d h; rfl)
 have D_called_chart:=y29 B D_is_whole (A29.at fun _ _ _ _ _ _ _ h=>by obtain⟨_,_,_,rfl⟩:=L3.j78 h; rfl)
 have D_house_rule:=y5s B D_least D_called_chart (A30.at fun _ _ _ _ _ _ _ h=>by obtain⟨_,_,_,rfl⟩:=L3.j78 h; rfl)
 have D_one_call_deeper:=x9u B D_house_rule (A31.at fun _ _ _ _ _ _ _ h=>by obtain⟨_,_,_,rfl⟩:=L3.j78 h; rfl)
 have D_summaries_by:=y2l B D_least_rules D_one_call_deeper (A32.at fun _ _ _ _ _ _ _ h=>by obtain⟨_,_,_,rfl⟩:=L3.j78 h; rfl)
 have D_summaries:=y63 B D_summaries_by (A33.at fun _ _ _ _ _ _ _ h=>by obtain⟨_,_,rfl⟩:=L3.j7d h; rfl)
 have D__law_house_chart:=x8s (P:=l.prog) (w:=w) (base:=base) B (A34.at fun _ _ _ _ _ _ _ h=>by obtain⟨_,_,_,rfl⟩:=L3.j78 h; rfl)
 have D__law_raised:=y3w (P:=l.prog) (w:=w) (base:=base) B (A35.at fun _ _ _ _ _ _ _ h=>by obtain⟨_,_,_,rfl⟩:=L3.j78 h; rfl)
 have D__law_lowest:=y4f B D__law_raised (A36.at fun _ _ _ _ _ _ _ h=>by obtain⟨_,_,_,rfl⟩:=L3.j78 h; rfl)
 have D__law_next_rules:=y04 B D__law_house_chart D__law_lowest D__law_low (A37.at fun _ _ _ _ _ _ _ h=>by obtain⟨_,_,_,rfl⟩:=L3.j78 h; rfl)
 have D_is_below:=y90 (P:=l.prog) (w:=w) (base:=base) B (A38.at fun _ _ _ _ _ _ _ h=>by obtain⟨_,_,_,rfl⟩:=L3.j78 h; rfl)
 have D_is_no_more:=y55 B D_is_below (A39.at fun _ _ _ _ _ _ _ h=>by obtain⟨_,_,_,rfl⟩:=L3.j78 h; rfl)
 have D_refuse_no_house:=x9x B D_is_number_of (A40.at fun _ _ _ _ _ _ _ h=>by obtain⟨_,_,rfl⟩:=L3.j7d h; rfl)
 have D_chart_of_calls:=y0o B D_is_whole (A41.at fun _ _ _ _ _ _ _ h=>by obtain⟨_,rfl⟩:=L3.j75 h; rfl)
 have D_goals_from:=y4u (P:=l.prog) (w:=w) (base:=base) B (A42.at fun _ _ _ _ _ _ _ h=>by obtain⟨_,_,rfl⟩:=L3.j7d h; rfl)
 have D_all_reached:=y3t B D_goals_from (A43.at fun _ _ _ _ _ _ _ h=>by obtain⟨_,_,rfl⟩:=L3.j7d h; rfl)
 have D_refuse_no_place:=x9y B D_is_number_of (A44.at fun _ _ _ _ _ _ _ h=>by obtain⟨_,_,rfl⟩:=L3.j7d h; rfl)
 have D_goals_of:=y9f B D_refuse_no_place D_goals_from (A45.at fun _ _ _ _ _ _ _ h=>by obtain⟨_,_,rfl⟩:=L3.j7d h; rfl)
 have D_called_by:=y6k B D_refuse_no_house D_chart_of_calls D_all_reached D_goals_of (A46.at fun _ _ _ _ _ _ _ h=>by obtain⟨_,_,rfl⟩:=L3.j7d h; rfl)
 have D__law_once:=y73 B D__law_ladder D__law_program D_summaries D__law_low D__law_next_rules D_summaries_by D_is_no_more D_called_by (A47.at fun _ _ _ _ _ _ _ h=>by obtain⟨_,rfl⟩:=L3.j75 h; rfl)
 exact z8l B D__law_once (z5y (st:=top 63) l48 c48 k48)
theorem walk {l:PySem.W.OpenLaw} {q:Program} {loose:List Str} {XP:(Str->Option Value)->Heap->Prop} {YP:World->Heap->Prop} {d:DefRec} {K:Params->PySem.W.Frag} (hn:l.most=some 63) (hdf:d.params.defaults=[])
  (hY:∀ (w:World) (h:Heap),YP w h->(K w.params).In h)
  (F:∀ (w:World) (mg:Str->Option Value) (fa:Addr) (h:Heap),(K w.params).In h->h.Ns mainGlobals mg->mg d.name=some (.ref fa)->j40 q (K w.params)/\PySem.W.noTabs (K w.params)=true /\
    ∃ fd:FuncData,(∀ (s:Shared) (u:Value),BindsTo s fd ⟨[u],[]⟩ [("_law_script",u)])/\∀ base:Heap,(K w.params).In base->base.Ns mainGlobals mg->Lm (K w.params) mg base->FnOk l.prog w (K w.params) mg base CX0 13 fa fd ["_law_script"] (spD (K w.params) 1 y9a)) :
  PySem.W.WalkO q loose XP YP l.row.toRowW d [] (fun f vs=>PySem.call f vs):=
 z3q (n:=63) (k:=13) (x:="_law_script") (CX:=fun _=>CX0) (sp:=fun w=>spD (K w.params) 1 y9a) hn (by decide) hdf ⟨rfl,by decide,by decide⟩ hY F (fun _ _ a ns hl tb hS=>j3o law_true hl hS tb) fun _ _ _ _ _ z=>z
end My
namespace PySem.W.Fast
def tw10016841741802716784:=0
def tw10020181050391360273:=0
def tw10043745811281337445:=0
def tw10048448126520652065:=0
def tw10061657295966943597:=0
def tw10063066840547580509:=0
def tw10097853906630607952:=0
def tw10136185713019179913:=0
def tw10263371146618897740:=0
def tw10264118782251589858:=0
def tw10295456240381364911:=0
def tw10329861432188109313:=0
def tw10343218111548500353:=0
def tw10405108683210011236:=0
def tw10503214873789350710:=0
def tw10623306852448764654:=0
def tw10635818249412344403:=0
def tw1063680428636590060:=0
def tw10664983367020671676:=0
def tw10669382012380597800:=0
def tw10719943125271281841:=0
def tw10781734948688277434:=0
def tw10827256841770241463:=0
def tw10898586574027726829:=0
def tw10913836219471391502:=0
def tw10937674100030781051:=0
def tw10943901060409118848:=0
def tw1094512635336018536:=0
def tw10957128470606231388:=0
def tw1100226303777915002:=0
def tw11006265422735626095:=0
def tw11076455352493668059:=0
def tw11104310630537634230:=0
def tw11136387145776935959:=0
def tw11164712660671234115:=0
def tw11283170101745228079:=0
def tw11304839524015103036:=0
def tw11322202897451343017:=0
def tw11355464233942073899:=0
def tw11364702782383884842:=0
def tw11462628841870361449:=0
def tw1154065797460395338:=0
def tw11632122073115734973:=0
def tw11639509432615886694:=0
def tw11748746762794185430:=0
def tw11770974201993769712:=0
def tw11801547935616925008:=0
def tw11822316014853331868:=0
def tw11837910727090501382:=0
def tw11856813791596542628:=0
def tw12004706833640406965:=0
def tw12036801986061864937:=0
def tw12139623830579089753:=0
def tw12145947025644319647:=0
def tw12158483291551676824:=0
def tw12287383307520940864:=0
def tw12373988420447231930:=0
def tw12461675976265643624:=0
def tw12464366363558957727:=0
def tw12478051836260442001:=0
def tw12549788899077936186:=0
def tw12557288014075398058:=0
def tw12570275366794044443:=0
def tw12645579943156088098:=0
def tw12739221941765181171:=0
def tw12743176225673217853:=0
def tw1285184644847489191:=0
def tw1289963523807417779:=0
def tw12959699483100061762:=0
def tw130472233584184665:=0
def tw13078366259471215885:=0
def tw13171230000419544225:=0
def tw13203842421046251194:=0
def tw13265839738676325239:=0
def tw13324341250786612648:=0
def tw13331577378843484620:=0
def tw13339228033206017047:=0
def tw13348450153675065610:=0
def tw13370574411445784537:=0
def tw13406723553243688886:=0
def tw13422649021599574950:=0
def tw13461360126361428661:=0
def tw13475155107093602537:=0
def tw13545799003664982504:=0
def tw13575851727592843815:=0
def tw1365983249352452949:=0
def tw13721372659283035033:=0
def tw13744577905910076733:=0
def tw13754405257707862182:=0
def tw13827684453542870102:=0
def tw13840986838900540769:=0
def tw13854086144685163965:=0
def tw13894919053826666122:=0
def tw13917686520139799611:=0
def tw13920153313007746318:=0
def tw139289195076195720:=0
def tw14019655189312442686:=0
def tw14087354441591054253:=0
def tw1410107583469141561:=0
def tw14118305842526449378:=0
def tw14166913345503197659:=0
def tw14250097654749026423:=0
def tw1426700393567740029:=0
def tw14312379945694269878:=0
def tw14362770966765495033:=0
def tw14443873896834196279:=0
def tw14485727129727660108:=0
def tw14516341666010512336:=0
def tw14536918844093853894:=0
def tw14559490344221083493:=0
def tw14643194608107664796:=0
def tw14664840932454014971:=0
def tw14665688675532632931:=0
def tw14708256041987770302:=0
def tw14763837123828898034:=0
def tw14864933989344242134:=0
def tw14866603897294469304:=0
def tw14886023250549550036:=0
def tw14945861164476428634:=0
def tw14958754953218831071:=0
def tw15103850953525204821:=0
def tw15166333753122190657:=0
def tw15259803531275152671:=0
def tw15284340629134134706:=0
def tw153399885916206847:=0
def tw15350142511707480763:=0
def tw15452600643805406629:=0
def tw15491345683361619406:=0
def tw15516470839777608783:=0
def tw15573432744453893105:=0
def tw15605636331564068058:=0
def tw15686952093784459669:=0
def tw15830738873977346341:=0
def tw15923021999462078918:=0
def tw15959586342837961346:=0
def tw16004508025104063880:=0
def tw1600481866922937509:=0
def tw16052578218107318992:=0
def tw16230869398938418361:=0
def tw16274409361411909396:=0
def tw16288226361488416224:=0
def tw16445191388604890850:=0
def tw16532484118715242892:=0
def tw16566236216050472008:=0
def tw16633194274591905773:=0
def tw1669461652369836326:=0
def tw16762764959812588604:=0
def tw16835048389022720060:=0
def tw16846610455154876104:=0
def tw16978260937557562365:=0
def tw17008332471230399144:=0
def tw17055991239662658327:=0
def tw17076060783998436392:=0
def tw17090272802528619016:=0
def tw17123268533693826346:=0
def tw17133591893778901144:=0
def tw17173929769482709677:=0
def tw17191220768667050000:=0
def tw17226354184092882205:=0
def tw17284205469783838515:=0
def tw17315910693436947422:=0
def tw17330344127833717023:=0
def tw17336662117923705404:=0
def tw17378513871767754327:=0
def tw17399588383956668009:=0
def tw17403634400302864181:=0
def tw17456731796851613498:=0
def tw17460867346595492251:=0
def tw17582784769293504275:=0
def tw17629404913843101397:=0
def tw17679578591845601699:=0
def tw17699403578604621215:=0
def tw17703904671016324178:=0
def tw17738123779359388080:=0
def tw1775586900025103608:=0
def tw17789014079197821041:=0
def tw17809875680999054272:=0
def tw17812167873489541995:=0
def tw17923099543337597772:=0
def tw17998950956194808067:=0
def tw18053917883720000055:=0
def tw18070952318601196859:=0
def tw18164216133319299753:=0
def tw18168883762949810812:=0
def tw1819505249129951339:=0
def tw18228357347363963863:=0
def tw18230667180630608584:=0
def tw18313723354387304359:=0
def tw1837842177253722707:=0
def tw1856352194100177400:=0
def tw1984595419208730238:=0
def tw2000994505828237:=0
def tw203884622748635505:=0
def tw2073584639958548320:=0
def tw2133305895542480192:=0
def tw2195863806030044877:=0
def tw219979888067766810:=0
def tw2250242431288963324:=0
def tw2334022426839786279:=0
def tw2359859343850680950:=0
def tw2395027559377281199:=0
def tw2395407001691195208:=0
def tw2508557681169202508:=0
def tw2537269483303713837:=0
def tw2624033480359283600:=0
def tw2792973567000720746:=0
def tw2797830030986086401:=0
def tw280285273730013463:=0
def tw2825111873877333584:=0
def tw2893328052903909438:=0
def tw3058483531025621230:=0
def tw306859435527144365:=0
def tw3165154622811819409:=0
def tw3184855214759109160:=0
def tw3213336538697125060:=0
def tw3229091442585867766:=0
def tw3339115996791221845:=0
def tw3350873883330929533:=0
def tw3355164201449556243:=0
def tw3370236754910729832:=0
def tw3402468164142769785:=0
def tw3435149983715071521:=0
def tw3441213161797645311:=0
def tw3445405000685349293:=0
def tw3451944650729510925:=0
def tw3498924036480783558:=0
def tw3560253633733308663:=0
def tw3643744256793363248:=0
def tw3675634394858551594:=0
def tw3680981587003723334:=0
def tw3686234518399017872:=0
def tw3720736064353317193:=0
def tw3754941122939026961:=0
def tw3842586031144082929:=0
def tw3849889295369523510:=0
def tw3885301951287139202:=0
def tw3911464965975256950:=0
def tw3917136435212349661:=0
def tw3988311813203217060:=0
def tw3998700817977583536:=0
def tw4078329380674731710:=0
def tw412671601573075104:=0
def tw4139402614044118084:=0
def tw4248449008555055420:=0
def tw4340772023386565550:=0
def tw4350972562631376373:=0
def tw4543802314899649369:=0
def tw4727268227391154319:=0
def tw476361949013867909:=0
def tw4793917379760041742:=0
def tw4928267213425719537:=0
def tw5092711510756788954:=0
def tw5106017057065551222:=0
def tw5132641565621488145:=0
def tw5147587374044532316:=0
def tw5270637667411324091:=0
def tw5306419946832948160:=0
def tw5309968267214161566:=0
def tw5311927061643645911:=0
def tw5407483123897123674:=0
def tw5439427634521473813:=0
def tw5465521616629670454:=0
def tw5520086790615229865:=0
def tw5671919773958324924:=0
def tw5840595736904379291:=0
def tw5842276350891841430:=0
def tw5882473094922475868:=0
def tw5913406643305586080:=0
def tw5967534119775672018:=0
def tw5976264696419963734:=0
def tw5985332525245836764:=0
def tw6032386660287653156:=0
def tw6058370464908048438:=0
def tw6060506859773043252:=0
def tw6061566295267814233:=0
def tw6069352322769535144:=0
def tw6142198497137846356:=0
def tw6155874686823572324:=0
def tw627271591419292072:=0
def tw6285113174527322921:=0
def tw6320332129661873398:=0
def tw6382683386920476666:=0
def tw6433074046204790221:=0
def tw6443384760448840820:=0
def tw6444165416273842883:=0
def tw6466480882904598212:=0
def tw652585676430811195:=0
def tw6537018370473706724:=0
def tw6649920919805572168:=0
def tw6674354466251362158:=0
def tw6710104883359409280:=0
def tw6746307438498170010:=0
def tw6773813421119762905:=0
def tw694294926382457141:=0
def tw7022750517831270709:=0
def tw7113264504111893243:=0
def tw7142237805530796507:=0
def tw7154825727798096072:=0
def tw7193518101091917241:=0
def tw7220698544416135118:=0
def tw7241174514423814575:=0
def tw7247484356783786022:=0
def tw7448049657692938258:=0
def tw7482504951038835887:=0
def tw7555878859279061728:=0
def tw7613092398446290160:=0
def tw7749790272392319261:=0
def tw783390173503189745:=0
def tw7898428306647321094:=0
def tw7933271552183628570:=0
def tw7990091024778162870:=0
def tw7995085925269180605:=0
def tw8179609872218945374:=0
def tw8294755377987792024:=0
def tw8310459360842121419:=0
def tw8392406700394134664:=0
def tw8420196601879099841:=0
def tw8421077444072567387:=0
def tw8483061681987012849:=0
def tw8496509488412913571:=0
def tw854183795637110904:=0
def tw8565087571865775713:=0
def tw8659913979075514742:=0
def tw8676033587041989999:=0
def tw8768123766289354429:=0
def tw8855655757752363066:=0
def tw8943300317394946202:=0
def tw895232281567605643:=0
def tw8979849277007081423:=0
def tw9044584874041192082:=0
def tw9058552659241814626:=0
def tw9072805298360453418:=0
def tw9119533734545142687:=0
def tw9136660586736659534:=0
def tw921074156460069276:=0
def tw9222879220390371762:=0
def tw9257717377225132549:=0
def tw9396867613698687368:=0
def tw9398066150308047881:=0
def tw9432277626982701875:=0
def tw9447412756613025479:=0
def tw9455432857646076443:=0
def tw9516833102809988247:=0
def tw952438327658704760:=0
def tw9623111430017576369:=0
def tw9652038016321234597:=0
def tw9670362985561045244:=0
def tw9680189320583649427:=0
def tw9787542846135218634:=0
def tw9801202724951185930:=0
def tw9801619583167864130:=0
def tw9819458259598962192:=0
def tw9832651844890434126:=0
def tw9883095835968125063:=0
def tw9892584827617816216:=0
def tw9948002868586660448:=0
def tw9956648419025751042:=0
end PySem.W.Fast
open PySem PySem.W PyProof.Rows
set_option maxRecDepth 100000 in
set_option maxHeartbeats 0 in
theorem PySem.Challenge.cw_ladderhall_k82_whole_by_depth_holds : PySem.Challenge.rw_ladderhall_k82_whole_by_depth.Holds := by
  w_on; o_law; k_head; (case hw => w_witness2)
  k_fill
  refine My.walk (l := PySem.Challenge.rw_ladderhall_k82_whole_by_depth) rfl rfl (fun w h Y => PySem.W.kIn_of Y) ?F
  case F =>
    intro w mg fa h KX G hmg
    refine' ⟨L3.j40.of ?r1 ?r2 ?r3 ?r4, ?nt, ?al⟩
    (case r1 => refine' .inr (L3.j41 ?_); k_is)
    (case r2 => refine' .inr (L3.j41 ?_); k_is)
    (case r3 => refine' .inr (L3.j41 ?_); k_is)
    (case r4 => refine' .inr (L3.j41 ?_); k_is)
    (case nt => kernel_rfl)
    refine' My.all_mk KX G hmg ?A1 ?A2 ?A3 ?A4 ?A5 ?A6 ?A7 ?A8 ?A9 ?A10 ?A11 ?A12 ?A13 ?A14 ?A15 ?A16 ?A17 ?A18 ?A19 ?A20 ?A21 ?A22 ?A23 ?A24 ?A25 ?A26 ?A27 ?A28 ?A29 ?A30 ?A31 ?A32 ?A33 ?A34 ?A35 ?A36 ?A37 ?A38 ?A39 ?A40 ?A41 ?A42 ?A43 ?A44 ?A45 ?A46 ?A47 ?a48 ?l48 ?c48 ?k48 ?z1 ?z2 ?z3 ?z4 ?z5 ?z6 ?z7 ?z8 ?z9 ?z10 ?z11 ?z12 ?z13 ?z14
    (case A1 | A2 | A3 | A4 | A5 | A6 | A7 | A8 | A9 | A10 | A11 | A12 | A13 | A14 | A15 | A16 | A17 | A18 | A19 | A20 | A21 | A22 | A23 | A24 | A25 | A26 | A27 | A28 | A29 | A30 | A31 | A32 | A33 | A34 | A35 | A36 | A37 | A38 | A39 | A40 | A41 | A42 | A43 | A44 | A45 | A46 | A47 => refine' My.A0.mk KX G ?a ?l ?c ?k; (case a => k_is); (case l => k_is); (case c => k_is); (case k => k_is))
    (case a48 => k_is)
    (case l48 => k_is)
    (case c48 => k_is)
    (case k48 => k_is)
    (case z1 => k_is)
    (case z2 => k_is)
    (case z3 => k_is)
    (case z4 => k_is)
    (case z5 => k_is)
    (case z6 => k_is)
    (case z7 => k_is)
    (case z8 => k_is)
    (case z9 => k_is)
    (case z10 => k_is)
    (case z11 => k_is)
    (case z12 => k_is)
    (case z13 => k_is)
    (case z14 => k_is)
