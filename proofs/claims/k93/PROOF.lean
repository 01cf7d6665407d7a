import PyProof.Rows.All
import Wide.All
import OpenK.AllK
import Wide.FinOn
import Lean
import PyProof.EqAt
import PyProof.EqKinds
import PyProof.TupleCall
import KE.KIsNot
import PyProof.ExcArgs
import OpenK.KOwn
import KE.LcSums
import PyProof.EnumMake
import PyProof.Draws
import PyProof.Rows.EnumRows
import PyProof.ExcBaseAll.ValueError
import PyProof.NsDelKeeps
import PySem.Challenge.RW_ladderhall_k93_whole_couples
set_option Elab.async false
set_option linter.all false
set_option maxRecDepth 100000
set_option maxHeartbeats 0
namespace L2
open PySem PySem.Spec PyProof.Rows
noncomputable abbrev Key:=Sum Int Str
noncomputable def y7h:Key->Value->Bool
 | .inl k,v=>Value.isInt k v
 | .inr x,v=>Value.isStrOf x v
noncomputable def j3g (w:World):Key->Int
 | .inl k=>hashInt k
 | .inr x=>hashStr w x
theorem x2d:∀ {k:Key} {v:Value},y7h k v=true->(∃ i t,k=Sum.inl i/\v=Value.int i t)\/(∃ x t,k=Sum.inr x/\v=Value.str x t)
 | .inl i,v,h=>by
  obtain⟨t,e⟩:=Value.isInt_shape (k:=i) (v:=v) h
  exact .inl ⟨i,t,rfl,e⟩
 | .inr x,v,h=>by
  obtain⟨t,e⟩:=Value.isStrOf_shape (x:=x) (v:=v) h
  exact .inr ⟨x,t,rfl,e⟩
theorem y89 (i:Int) (t:Tok):y7h (.inl i) (.int i t)=true:=by simp[y7h,Value.isInt]
theorem y9b (x:Str) (t:Tok):y7h (.inr x) (.str x t)=true:=by simp[y7h,Value.isStrOf]
theorem z8i (a b:Int):decide ((Sum.inl a:Key)=Sum.inl b)=(a == b):=by
 by_cases e:a=b
 ·subst e; simp
 ·have h:¬ (Sum.inl a:Key)=Sum.inl b:=fun q=>e (Sum.inl.inj q)
  rw[decide_eq_false h]
  exact(beq_eq_false_iff_ne.mpr e).symm
theorem z83 (a b:Str):decide ((Sum.inr a:Key)=Sum.inr b)=decide (a=b):=by
 by_cases e:a=b
 ·subst e; simp
 ·have h:¬ (Sum.inr a:Key)=Sum.inr b:=fun q=>e (Sum.inr.inj q)
  rw[decide_eq_false h,decide_eq_false e]
theorem z8n (a:Int) (b:Str):decide ((Sum.inl a:Key)=Sum.inr b)=false:=decide_eq_false (fun q=>nomatch q)
theorem z8m (a:Str) (b:Int):decide ((Sum.inr a:Key)=Sum.inl b)=false:=decide_eq_false (fun q=>nomatch q)
noncomputable def x2r (prog:Program) (w:World):PySem.KeyKind prog w Key where
 is:=y7h
 hash:=j3g w
 inj:=fun v a b ha hb=>by
  rcases x2d ha with⟨i,t,rfl,rfl⟩ | ⟨x,t,rfl,rfl⟩
  ·rcases x2d hb with⟨j,u,rfl,e⟩ | ⟨y,u,rfl,e⟩
   ·injection e with e1 _; rw[e1]
   ·exact nomatch e
  ·rcases x2d hb with⟨j,u,rfl,e⟩ | ⟨y,u,rfl,e⟩
   ·exact nomatch e
   ·injection e with e1 _; rw[e1]
 byValue:=fun k v h=>by
  rcases x2d h with⟨i,t,rfl,rfl⟩ | ⟨x,t,rfl,rfl⟩ <;> rfl
 pyHash:=fun hv h=>by
  rcases x2d hv with⟨i,t,rfl,rfl⟩ | ⟨x,t,rfl,rfl⟩
  ·exact wpAny_pyHash_int h
  ·exact wpAny_pyHash_str h
 eqBool:=fun hu hv h=>by
  rcases x2d hu with⟨i,t,rfl,rfl⟩ | ⟨x,t,rfl,rfl⟩
  ·rcases x2d hv with⟨j,u,rfl,rfl⟩ | ⟨y,u,rfl,rfl⟩
   ·rw[z8i]at h; exact wpAny_eqBool_int h
   ·rw[z8n]at h; exact SeqAt.EqAt.int_str i t y u _ _ _ _ h
  ·rcases x2d hv with⟨j,u,rfl,rfl⟩ | ⟨y,u,rfl,rfl⟩
   ·rw[z8m]at h; exact SeqAt.EqAt.str_int x t j u _ _ _ _ h
   ·rw[z83]at h; exact wpAny_eqBool_str h
 «strs»:=fun k x t v h=>by
  rcases x2d h with⟨i,u,rfl,e⟩ | ⟨y,u,rfl,e⟩
  ·exact nomatch e
  ·injection e with e1 _
   subst e1
   cases v <;> rfl
theorem y5p (prog:Program) (w:World) (i:Int) (t:Tok):(x2r prog w).is (.inl i) (.int i t)=true:=y89 i t
theorem y5g (prog:Program) (w:World) (x:Str) (t:Tok):(x2r prog w).is (.inr x) (.str x t)=true:=y9b x t
inductive V where
 | non | bl (b:Bool) | int (i:Int) | str (x:Str) | byt (b:Array UInt8) | flt (b:UInt64) | ref (a:Addr) | ty (n:String)
 deriving DecidableEq
noncomputable def x3i:V->Value->Prop
 | .non,u=>u=Value.none
 | .bl b,u=>u=Value.bool b
 | .int i,u=>∃ t,u=Value.int i t
 | .str x,u=>∃ t,u=Value.str x t
 | .byt b,u=>∃ t,u=Value.bytes b t
 | .flt b,u=>∃ t,u=Value.float b t
 | .ref a,u=>u=Value.ref a
 | .ty n,u=>u=Value.type n
noncomputable abbrev x2j:List V->List Value->Prop:=Paired x3i
theorem x2j.length {xs:List V} {us:List Value} (r:x2j xs us):xs.length=us.length:=Paired.length r
theorem x2j.get:∀ {xs:List V} {us:List Value} {i:Nat} {x:V},x2j xs us->xs[i]? = some x->∃ u,us[i]? = some u/\x3i x u
 | _,_,_,_,.nil,e=>by simp at e
 | _,_,0,_,.cons r _,e=>by simp at e; subst e; exact⟨_,rfl,r⟩
 | _,_,i+1,x,.cons _ t,e=>by
  obtain⟨u,h1,h2⟩:=x2j.get (i:=i) (x:=x) t (by simpa using e)
  exact⟨u,by simpa using h1,h2⟩
theorem x2j.set {x:V} {u:Value} (r:x3i x u):∀ {xs:List V} {us:List Value} (i:Nat),x2j xs us->x2j (xs.set i x) (us.set i u)
 | _,_,_,.nil=>.nil
 | _,_,0,.cons _ t=>.cons r t
 | _,_,i+1,.cons q t=>.cons q (x2j.set r i t)
theorem x2j.append:∀ {xs ys:List V} {us ws:List Value},x2j xs us->x2j ys ws->x2j (xs++ys) (us++ws)
 | _,_,_,_,.nil,s=>s
 | _,_,_,_,.cons r t,s=>.cons r (x2j.append t s)
theorem x2j.take:∀ {xs:List V} {us:List Value} (n:Nat),x2j xs us->x2j (xs.take n) (us.take n)
 | _,_,0,_=>.nil
 | _,_,_+1,.nil=>.nil
 | _,_,n+1,.cons r t=>.cons r (x2j.take n t)
theorem x2j.drop:∀ {xs:List V} {us:List Value} (n:Nat),x2j xs us->x2j (xs.drop n) (us.drop n)
 | _,_,0,r=>r
 | _,_,_+1,.nil=>.nil
 | _,_,n+1,.cons _ t=>x2j.drop n t
noncomputable def z61:Option V->Option Value->Prop
 | some v,some u=>x3i v u
 | none,none=>True
 | _,_=>False
noncomputable def KV {κ:Type}:List (κ × V)->List (κ × Value)->Prop:=Paired fun(p:κ × V) (q:κ × Value)=>p.1=q.1/\x3i p.2 q.2
noncomputable def kV:Key->V
 | .inl i=>.int i
 | .inr x=>.str x
inductive HO where
 /-- a list -/
 | lst (xs:List V)
 /-- a tuple (never changes) -/
 | tup (xs:List V)
 /-- a dict whose keys are ints and texts; one whose keys are tuples of ints and texts (the empty one is both) -/
 | dK (kvs:List (Key × V)) | dT (kvs:List (List Key × V))
 /-- a set of ints: its members,its size -/
 | set (S:Int->Bool) (n:Nat)
 /-- an instance of the class at C,its dict at dx,its attributes -/
 | ins (C dx:Addr) (fs:List (Str × V))
 /-- the dict of the instance at x -/
 | own (x:Addr)
 /-- the dict of an exception -/
 | xd (fs:List (Str × V))
 /-- a bound method,f of x -/
 | met (f x:Addr)
 /-- a range object lo,lo+1,.. below hi -/
 | rng (lo hi:Int)
 /-- a thing that is known to the object (the script; a dict while a loop walks it): read,never written while it is so -/
 | frz (o:Obj) (u:HO)
 /-- a code object's table -/
 | tbl (ps:Array Value)
 /-- any other thing,by what is true of its one object (a def of one's own: SetO a S n:=HO.ext fun h=>..) -/
 | ext (φ:Heap->Prop)
noncomputable abbrev Hp:=Addr->Option HO
noncomputable def upd (H:Hp) (a:Addr) (o:HO):Hp:=fun b=>if b=a then some o else H b
theorem x0y {H:Hp} {a:Addr} {o:HO}:upd H a o a=some o:=by unfold upd; rw[if_pos rfl]
theorem x0i {H:Hp} {a b:Addr} {o:HO} (h:b≠a):upd H a o b=H b:=by unfold upd; rw[if_neg h]
theorem z3y {H:Hp} {a:Addr} {o u:HO}:upd (upd H a o) a u=upd H a u:=by
 funext b; unfold upd; split <;> rfl
theorem x0u {H:Hp} {a b:Addr} {o:HO} (h:H a=some o) (h':H b=none):a≠b:=by
 intro e; subst e; rw[h]at h'; cases h'
noncomputable def x4f (h:Heap) (a:Addr) (items:Array Value):Prop:=∃ o,h.get? a=some o/\o.cls=.type "tuple" /\ (∃ n,o.data=.seq items n)/\o.dict=none
theorem x4f.tup {h:Heap} {a:Addr} {items:Array Value} (x:x4f h a items):IsTup h a items:=let ⟨o,e,c,n,_⟩:=x; ⟨o,e,c,n⟩
theorem x4f.new (h:Heap) (items:Array Value):x4f (h.push { cls:=.type "tuple",data:=.seq items }) h.objs.size items:=⟨_,Heap.get?_push_size _ rfl,rfl,⟨_,rfl⟩,rfl⟩
theorem x4f.lt {h:Heap} {a:Addr} {items:Array Value} (x:x4f h a items):a<h.objs.size:=let ⟨_,e,_⟩:=x; Heap.lt_size e
section
variable (P:Program) (w:World)
noncomputable def x2a (H:Hp) (h:Heap) (a:Addr):HO->Prop
 | .lst xs=>xs.length<=sizeLine/\∃ (its:List Value) (n:Nat),x2j xs its/\h.get? a=some { cls:=.type "list",data:=.seq its.toArray n }
 | .tup xs=>xs.length<=sizeLine/\∃ its:List Value,x2j xs its/\x4f h a its.toArray
 | .dK kvs=>kvs.length<=sizeLine/\(a == sysModules)=false/\∃ vs,KV kvs vs/\h.DictOf (x2r P w) a vs
 | .dT kvs=>kvs.length<=sizeLine/\(a == sysModules)=false/\∃ xs:List (List Key × Addr × Value),
   Paired (fun(p:List Key × V) (q:List Key × Addr × Value)=>p.1=q.1/\H q.2.1=some (.tup (p.1.map kV))/\x3i p.2 q.2.2) kvs xs /\
   ∃ o es ep,h.get? a=some o/\o.ExactDict/\o.data=.dict es ep/\es.toList=xs.map (entryOfKey (tupleKind (x2r P w)))/\(xs.map (·.1)).Nodup
 | .set S n=>h.SetOf (intKind P w) a S n
 | .ins C dx fs=>H dx=some (.own a)/\fs.length<=1000/\dx≠a/\h.get? a=some (PySem.W.instObj C dx) /\
   ∃ mA,h.Ns1 dx mA/\(∀ f,z61 (fs.lookup f) (mA f))/\PySem.Within mA (fs.map (·.1))
 | .own _=>∃ o,h.get? a=some o
 | .xd fs=>∃ mA,h.Ns1 a mA/\∀ f,z61 (fs.lookup f) (mA f)
 | .rng lo hi=>∃ t u v,h.get? a=some { cls:=.type "range",data:=.fields #[.int lo t,.int hi u,.int 1 v] }
 | .frz o u=>h.get? a=some o/\x2a H h a u
 | .tbl ps=>h.get? a=some { cls:=.none,data:=.fields ps }
 | .met f x=>h.get? a=some (PySem.W.methodObj (.ref f) (.ref x))
 | .ext φ=>φ h/\(∃ o,h.get? a=some o)/\∀ h1 h2:Heap,φ h1->(∀ o,h1.get? a=some o->h2.get? a=some o)->φ h2
noncomputable def HOk (H:Hp) (h:Heap):Prop:=∀ a o,H a=some o->x2a P w H h a o
end
section
variable {P:Program} {w:World} {H H':Hp} {h h':Heap} {a:Addr} {o:HO}
theorem x2a.lt (x:x2a P w H h a o):a<h.objs.size:=by
 cases o with
 | lst xs=>obtain⟨_,_,_,_,e⟩:=x; exact Heap.lt_size e
 | tup xs=>obtain⟨_,_,_,p⟩:=x; exact p.lt
 | dK kvs=>obtain⟨_,_,_,_,o,_,_,e,_⟩:=x; exact Heap.lt_size e
 | dT kvs=>obtain⟨_,_,_,_,o,_,_,e,_⟩:=x; exact Heap.lt_size e
 | set S n=>obtain⟨o,_,_,_,e,_⟩:=x; exact Heap.lt_size e
 | ins C dx fs=>obtain⟨_,_,_,e,_⟩:=x; exact Heap.lt_size e
 | own y=>obtain⟨_,e⟩:=x; exact Heap.lt_size e
 | xd fs=>obtain⟨_,⟨_,_,_,e,_⟩,_⟩:=x; exact Heap.lt_size e
 | rng lo hi=>obtain⟨_,_,_,e⟩:=x; exact Heap.lt_size e
 | frz ob u=>obtain⟨e,_⟩:=x; exact Heap.lt_size e
 | tbl ps=>exact Heap.lt_size (show h.get? a=some _ from x)
 | met f y=>exact Heap.lt_size (show h.get? a=some _ from x)
 | ext φ=>obtain⟨_,⟨_,e⟩,_⟩:=x; exact Heap.lt_size e
theorem Paired.mapP {α β:Type} {F G:α->β->Prop}:∀ {l₁:List α} {l₂:List β},Paired F l₁ l₂->(∀ a b,F a b->G a b)->Paired G l₁ l₂
 | _,_,.nil,_=>.nil
 | _,_,.cons r t,f=>.cons (f _ _ r) (Paired.mapP t f)
theorem x2a.stay (x:x2a P w H h a o) (k:∀ b u,(b=a\/H b=some (.own a))->h.get? b=some u->h'.get? b=some u)
  (ho:∀ b,H b=some (.own a)->H' b=some (.own a)) (ht:∀ b xs,H b=some (.tup xs)->H' b=some (.tup xs)):x2a P w H' h' a o:=by
 induction o with
 | lst xs=>obtain⟨z,its,n,r,e⟩:=x; exact⟨z,its,n,r,k _ _ (.inl rfl) e⟩
 | tup xs=>obtain⟨z,its,r,ob,e,c⟩:=x; exact⟨z,its,r,ob,k _ _ (.inl rfl) e,c⟩
 | dK kvs=>obtain⟨z,y,vs,r,ob,es,ep,e,c⟩:=x; exact⟨z,y,vs,r,ob,es,ep,k _ _ (.inl rfl) e,c⟩
 | dT kvs=>
  obtain⟨z,y,xs,r,ob,es,ep,e,c⟩:=x
  exact⟨z,y,xs,Paired.mapP r fun p q z=>⟨z.1,ht _ _ z.2.1,z.2.2⟩,ob,es,ep,k _ _ (.inl rfl) e,c⟩
 | set S n=>obtain⟨ob,es,ep,t,e,c⟩:=x; exact⟨ob,es,ep,t,k _ _ (.inl rfl) e,c⟩
 | ins C dx fs=>
  obtain⟨d,z,ne,e,mA,⟨od,es,ep,e2,c⟩,r⟩:=x
  exact⟨ho _ d,z,ne,k _ _ (.inl rfl) e,mA,⟨od,es,ep,k _ _ (.inr d) e2,c⟩,r⟩
 | own y=>obtain⟨ob,e⟩:=x; exact⟨ob,k _ _ (.inl rfl) e⟩
 | xd fs=>obtain⟨mA,⟨od,es,ep,e,c⟩,r⟩:=x; exact⟨mA,⟨od,es,ep,k _ _ (.inl rfl) e,c⟩,r⟩
 | rng lo hi=>obtain⟨t,u,v,e⟩:=x; exact⟨t,u,v,k _ _ (.inl rfl) e⟩
 | frz ob u ih=>obtain⟨e,q⟩:=x; exact⟨k _ _ (.inl rfl) e,ih q⟩
 | tbl ps=>
  have e:h.get? a=some { cls:=.none,data:=.fields ps }:=x
  show h'.get? a=some { cls:=.none,data:=.fields ps }
  exact k a _ (.inl rfl) e
 | met f y=>
  have e:h.get? a=some (PySem.W.methodObj (.ref f) (.ref y)):=x
  show h'.get? a=some (PySem.W.methodObj (.ref f) (.ref y))
  exact k a _ (.inl rfl) e
 | ext φ=>obtain⟨p,⟨o,e⟩,st⟩:=x; exact⟨st _ _ p fun o q=>k _ _ (.inl rfl) q,⟨o,k _ _ (.inl rfl) e⟩,st⟩
theorem HOk.lt (x:HOk P w H h) (e:H a=some o):a<h.objs.size:=(x a o e).lt
theorem HOk.fresh (x:HOk P w H h) (e:h.objs.size<=a):H a=none:=by
 cases q:H a with
 | none=>rfl
 | some u=>exact absurd (Nat.lt_of_lt_of_le (x.lt q) e) (Nat.lt_irrefl _)
theorem HOk.kept (x:HOk P w H h) (k:∀ b u,h.get? b=some u->h'.get? b=some u):HOk P w H h':=fun a o e=>
 (x a o e).stay (fun b u _ q=>k b u q) (fun _ q=>q) fun _ _ q=>q
theorem HOk.laid (x:HOk P w H h) (k:∀ b u,h.get? b=some u->h'.get? b=some u) (hp:h.objs.size<=a) (new:x2a P w (upd H a o) h' a o):HOk P w (upd H a o) h':=fun b u e=>by
 have hn:=x.fresh hp
 by_cases hb:b=a
 ·subst hb; rw[x0y]at e; cases e; exact new
 ·rw[x0i hb]at e
  exact(x b u e).stay (fun c v _ q=>k c v q) (fun c q=>by rw[x0i (x0u q hn)]; exact q) fun c xs q=>by rw[x0i (x0u q hn)]; exact q
end
noncomputable def Rd (H:Hp) (a:Addr) (u:HO):Prop:=H a=some u\/∃ o,H a=some (.frz o u)
theorem Rd.of {H:Hp} {a:Addr} {u:HO} (h:H a=some u):Rd H a u:=.inl h
theorem Rd.ok {P:Program} {w:World} {H:Hp} {h:Heap} {a:Addr} {u:HO} (r:Rd H a u) (x:HOk P w H h):x2a P w H h a u:=by
 rcases r with r | ⟨o,r⟩
 ·exact x a u r
 ·obtain⟨_,q⟩:=x a _ r
  exact q
noncomputable def Mut:Option HO->Prop
 | some (.lst _)=>True
 | some (.dK _)=>True
 | some (.dT _)=>True
 | some (.set _ _)=>True
 | some (.ins _ _ _)=>True
 | some (.ext _)=>True
 | _=>False
section
variable {P:Program} {w:World} {H:Hp} {h h':Heap} {x e:Addr} {o':HO}
theorem HOk.write (ok:HOk P w H h) (mu:Mut (H x)) (he:e=x\/H e=some (.own x)) (k:∀ b u,b≠e->h.get? b=some u->h'.get? b=some u) (heo:∃ u,h'.get? e=some u)
  (new:x2a P w (upd H x o') h' x o'):HOk P w (upd H x o') h':=fun b u q=>by
 have nown:∀ c y,H c=some (.own y)->c≠x:=fun c y r z=>by subst z; rw[r]at mu; exact mu
 have ntup:∀ c xs,H c=some (.tup xs)->c≠x:=fun c xs r z=>by subst z; rw[r]at mu; exact mu
 by_cases hb:b=x
 ·subst hb; rw[x0y]at q; cases q; exact new
 ·rw[x0i hb]at q
  by_cases hbe:b=e
  ·have q':H b=some (.own x):=by
    rcases he with z | z
    ·exact absurd (hbe.trans z) hb
    ·rw[hbe]; exact z
   rw[q]at q'; cases q'
   obtain⟨v,hv⟩:=heo
   exact⟨v,by rw[hbe]; exact hv⟩
  ·refine(ok b u q).stay (fun c v hc r=>k c v ?_ r) (fun c r=>by rw[x0i (nown c b r)]; exact r) fun c xs r=>by rw[x0i (ntup c xs r)]; exact r
   rcases hc with rfl | hc
   ·exact hbe
   ·rintro rfl
    rcases he with z | z
    ·exact nown c b hc z
    ·rw[hc]at z; cases z; exact hb rfl
end
structure Un (fs ex:List Addr) (H H':Hp) (h h':Heap):Prop where
 keep:∀ b o,h.get? b=some o->H b=none->b ∉ fs->b ∉ ex->h'.get? b=some o
 slot:∀ b o,h.get? b=some o->H b=none->b∈fs->b ∉ ex->∃ sl,h'.get? b=some { o with slots:=sl }
 free:∀ b o,h.get? b=some o->H b=none->b ∉ ex->H' b=none
 there:∀ b o,h.get? b=some o->b ∉ ex->∃ o',h'.get? b=some o'
 tups:∀ b xs,H b=some (.tup xs)->H' b=some (.tup xs)
 frzs:∀ b o u,H b=some (.frz o u)->H' b=some (.frz o u)
 tbls:∀ b ps,H b=some (.tbl ps)->∃ more,H' b=some (.tbl (ps++more))
section
variable {fs fs' ex ex':List Addr} {H H1 H2:Hp} {h h1 h2 h':Heap} {a x e:Addr} {o:HO}
theorem Un.any (u:Un fs ex H H1 h h1) {b:Addr} {ob:Obj} (q:h.get? b=some ob) (n:H b=none) (hx:b ∉ ex):∃ sl,h1.get? b=some { ob with slots:=sl }:=by
 by_cases hb:b∈fs
 ·exact u.slot b ob q n hb hx
 ·exact⟨ob.slots,u.keep b ob q n hb hx⟩
theorem Un.kept (k:∀ b u,h.get? b=some u->h'.get? b=some u):Un fs ex H H h h':=
 ⟨fun b ob q _ _ _=>k b ob q,fun b ob q _ _ _=>⟨ob.slots,k b ob q⟩,fun _ _ _ n _=>n,fun b ob q _=>⟨ob,k b ob q⟩,fun _ _ q=>q,fun _ _ _ q=>q,fun _ ps q=>⟨#[],by rw[q]; simp⟩⟩
theorem Un.refl:Un fs ex H H h h:=Un.kept fun _ _ q=>q
theorem Un.laid (k:∀ b u,h.get? b=some u->h'.get? b=some u) (hp:h.objs.size<=a) (hn:H a=none):Un fs ex H (upd H a o) h h' where
 keep:=fun b u q _ _ _=>k b u q
 slot:=fun b u q _ _ _=>⟨u.slots,k b u q⟩
 free:=fun b u q n _=>by rw[x0i (Nat.ne_of_lt (Nat.lt_of_lt_of_le (Heap.lt_size q) hp))]; exact n
 there:=fun b u q _=>⟨u,k b u q⟩
 tups:=fun b xs q=>by rw[x0i (x0u q hn)]; exact q
 frzs:=fun b u xs q=>by rw[x0i (x0u q hn)]; exact q
 tbls:=fun b ps q=>⟨#[],by rw[x0i (x0u q hn),q]; simp⟩
theorem Un.write (mu:Mut (H x)) (he:e=x\/H e=some (.own x)) (k:∀ b u,b≠e->h.get? b=some u->h'.get? b=some u) (heo:∃ u,h'.get? e=some u):Un fs ex H (upd H x o) h h':=by
 have hx:∀ b,H b=none->b≠x:=fun b n z=>by subst z; rw[n]at mu; exact mu
 have hb:∀ b,H b=none->b≠e:=fun b n z=>by
  subst z
  rcases he with r | r
  ·exact hx b n r
  ·rw[n]at r; cases r
 have hm:∀ b u,H b=some u->¬ Mut (some u)->b≠x:=fun b u q nm z=>by subst z; rw[q]at mu; exact nm mu
 refine⟨fun b u q n _ _=>k b u (hb b n) q,fun b u q n _ _=>⟨u.slots,k b u (hb b n) q⟩,fun b u q n _=>by rw[x0i (hx b n)]; exact n,fun b u q _=>?_,
  fun b xs q=>by rw[x0i (hm b _ q fun z=>z)]; exact q,fun b u xs q=>by rw[x0i (hm b _ q fun z=>z)]; exact q,fun b ps q=>⟨#[],by rw[x0i (hm b _ q fun z=>z),q]; simp⟩⟩
 by_cases hbe:b=e
 ·subst hbe; exact heo
 ·exact⟨u,k b u hbe q⟩
end
noncomputable def trk (h:Heap) (H:Hp):List Addr:=(List.range h.objs.size).filter fun a=>(H a).isSome
noncomputable def z02 (h:Heap) (H:Hp):Heap:=PySem.W.hideAll h (trk h H)
theorem y85 (h:Heap) (H:Hp):(z02 h H).objs.size=h.objs.size:=PySem.W.hideAll_size _ _
theorem z2j {h:Heap} {H:Hp} {b:Addr} {o:Obj} (e:h.get? b=some o) (n:H b=none):(z02 h H).get? b=some o:=
 PySem.W.hideAll_get _ e fun hm=>by
  have q:(H b).isSome=true:=(List.mem_filter.mp hm).2
  rw[n]at q; simp at q
theorem z58 {h:Heap} {H:Hp} {b:Addr} {o:Obj} (e:(z02 h H).get? b=some o):h.get? b=some o/\H b=none:=by
 have e':h.get? b=some o:=PySem.W.of_hideAll (trk h H) e
 refine⟨e',?_⟩
 cases q:H b with
 | none=>rfl
 | some x=>
  have hm:b∈trk h H:=List.mem_filter.mpr ⟨List.mem_range.mpr (Heap.lt_size e'),by simp[q]⟩
  have z:(z02 h H).get? b=none:=PySem.W.hideAll_none (trk h H) hm
  rw[z]at e; cases e
noncomputable def z4e (g h:Heap) (L:Addr):List (Addr × Obj):=(List.range h.objs.size).filterMap fun a=>if a=L\/(g.get? a).isSome=true then none else(h.get? a).map fun o=>(a,o)
noncomputable def x2l (g h:Heap) (L d:Addr):List (Addr × Obj):=(z4e g h L).filter fun p=>decide (p.1≠d)
structure Mod (K:PySem.W.Frag) (mg:Str->Option Value) (base:Heap):Prop where
 kin:K.In base
 glob:base.Ns mainGlobals mg
 blt:∃ mb,base.Ns builtinsNs mb/\∀ x:Str,x ≠ "__name__"->mb x=bootBuiltins x
 nolimit:base.NoLimit
structure Cx where
 prog:Program
 w:World
 K:PySem.W.Frag
 mg:Str->Option Value
 base:Heap
 A:Around
 N:List Str
 s₀:Shared
 H₀:Hp
 env:Env
 outer:List Env
 stack:List Env
 ex:List Addr
 fn:Str->Bool
 calm:Bool
 pn:List (Addr × Obj)
 xe:Value->Shared->Prop
noncomputable def frs (l:List Env):List Addr:=l.filterMap (·.frame)
noncomputable abbrev Cx.fs (X:Cx):List Addr:=frs X.outer
noncomputable def Vis (sc:Scope) (x:Str):Prop:=sc.names.lookup x=some .local\/sc.names.lookup x=some .cell\/sc.names.lookup x=some .free
noncomputable def Loc (sc:Scope) (x:Str):Prop:=sc.names.lookup x=some .local\/sc.names.lookup x=some .cell
noncomputable def j3b (env:Env) (h:Heap) (m:Str->Option Value) (x:Str) (u:Value):Prop:=
 (env.kindOf x=some .local/\m x=some u)\/((env.kindOf x=some .cell\/env.kindOf x=some .free)/\∃ c,env.cells.lookup x=some c/\h.IsCell c (some u))
structure Cx.Ok (X:Cx):Prop where
 mod:Mod X.K X.mg X.base
 kind:X.env.scope.kind=.function
 glob:X.env.globals=mainGlobals
 blt:X.env.builtins=builtinsNs
 above:X.s₀.heap.objs.size<=X.env.locals
 inj:∀ x y c,X.env.cells.lookup x=some c->X.env.cells.lookup y=some c->x=y
 has:∀ x,(X.env.kindOf x=some .cell\/X.env.kindOf x=some .free)->∃ c,X.env.cells.lookup x=some c
 cab:∀ x c,X.fn x=true->X.env.cells.lookup x=some c->X.s₀.heap.objs.size<=c
 hd:X.calm=true->X.A.handled=none
 frames:X.A.frames=some X.stack
 stk:X.stack=X.outer\/(X.stack=X.env::X.outer/\X.env.frame=some X.env.locals)
 exf:∀ b∈X.ex,b≠X.env.locals/\∀ x c,X.env.cells.lookup x=some c->c≠b
 bs:∀ b o,X.base.get? b=some o->X.s₀.heap.get? b=some o/\X.H₀ b=none
 bsz:X.base.objs.size<=X.s₀.heap.objs.size
 noex:∀ b o,X.base.get? b=some o->b ∉ X.ex
 exfs:∀ b∈X.ex,b ∉ X.fs
 funs:X.s₀.heap.FunFrames X.base X.outer
 frf:∀ b∈X.fs,X.H₀ b=none
structure Inv (X:Cx) (pins:List (Addr × Obj)) (σ:List (Option V)) (H:Hp) (s:Shared):Prop where
 ok:X.Ok
 os:s.os=X.s₀.os
 bare:AllBare s.gens
 base:Un X.fs X.ex X.H₀ H X.s₀.heap s.heap
 loc:∃ m,s.heap.Ns X.env.locals m/\∀ (i:Nat) (x:Str) (v:V),X.N[i]? = some x->σ[i]? = some (some v)->Vis X.env.scope x->∃ u,x3i v u/\j3b X.env s.heap m x u
 cell:∀ x c,X.env.cells.lookup x=some c->∃ v,s.heap.IsCell c v
 free:H X.env.locals=none
 freeC:∀ x c,X.env.cells.lookup x=some c->H c=none
 pin:∀ p∈X.pn++pins,s.heap.get? p.1=some p.2/\H p.1=none/\p.1≠X.env.locals/\p.1 ∉ X.fs/\∀ v,p.2.data ≠ .cell v
 hok:HOk X.prog X.w H s.heap
 len:σ.length=X.N.length
section
variable {X:Cx} {pins:List (Addr × Obj)} {σ:List (Option V)} {H H':Hp} {s:Shared} {h':Heap}
theorem Cx.Ok.nofr (ok:X.Ok) {b:Addr} {o:Obj} (e:X.base.get? b=some o):b ∉ X.fs:=fun hb=>by
 have:=(ok.funs.mem hb).1
 rw[e]at this; cases this
theorem Inv.bs (I:Inv X pins σ H s):∀ b o,X.base.get? b=some o->s.heap.get? b=some o/\H b=none:=fun b o e=>
 ⟨I.base.keep b o (I.ok.bs b o e).1 (I.ok.bs b o e).2 (I.ok.nofr e) (I.ok.noex b o e),I.base.free b o (I.ok.bs b o e).1 (I.ok.bs b o e).2 (I.ok.noex b o e)⟩
theorem Inv.bk (I:Inv X pins σ H s):∀ b o,X.base.get? b=some o->s.heap.get? b=some o:=fun b o e=>(I.bs b o e).1
theorem Inv.mod (I:Inv X pins σ H s):Mod X.K X.mg X.base:=I.ok.mod
theorem Inv.kIn (I:Inv X pins σ H s):X.K.In s.heap:=I.ok.mod.kin.keeps I.bk
theorem Inv.fr (I:Inv X pins σ H s):∃ m,Fr X.base X.env.locals s.heap m:=
 let ⟨m,hn,_⟩:=I.loc
 ⟨m,hn,I.bk,Nat.le_trans I.ok.bsz I.ok.above⟩
theorem Inv.lt (I:Inv X pins σ H s):X.env.locals<s.heap.objs.size:=let ⟨_,hn,_⟩:=I.loc; hn.lt
theorem Inv.sz (I:Inv X pins σ H s):X.s₀.heap.objs.size<=s.heap.objs.size:=Nat.le_trans I.ok.above (Nat.le_of_lt I.lt)
theorem Inv.nofs (I:Inv X pins σ H s) {a:Addr} (h:s.heap.objs.size<=a):a ∉ X.fs:=fun hb=>by
 obtain⟨_,o,ho,_⟩:=I.ok.funs.mem hb
 exact absurd (Nat.lt_of_lt_of_le (Heap.lt_size ho) (Nat.le_trans I.sz h)) (Nat.lt_irrefl _)
theorem Inv.cne (I:Inv X pins σ H s):∀ x c,X.env.cells.lookup x=some c->c≠X.env.locals:=fun x c e z=>by
 obtain⟨v,o,ho,hd⟩:=I.cell x c e
 obtain⟨m,⟨o',es,ep,ho',hd',_⟩,_⟩:=I.loc
 rw[z,ho']at ho; cases ho; rw[hd']at hd; cases hd
theorem Inv.funs (I:Inv X pins σ H s):s.heap.FunFrames X.base X.outer:=by
 have all:∀ (l:List Env),(∀ b∈frs l,b∈X.fs)->X.s₀.heap.FunFrames X.base l->s.heap.FunFrames X.base l:=by
  intro l
  induction l with
  | nil=>intro _ _; trivial
  | cons env r ih=>
   intro hs hl
   obtain⟨hk,⟨L,o,hf,hn,ho,hd⟩,hr⟩:=hl
   have hL:L∈X.fs:=hs L (by unfold frs; rw[List.filterMap_cons,hf]; exact List.mem_cons_self)
   obtain⟨sl,e⟩:=I.base.slot L o ho (I.ok.frf L hL) hL fun z=>I.ok.exfs L z hL
   exact⟨hk,⟨L,_,hf,hn,e,hd⟩,ih (fun b hb=>hs b (by unfold frs; rw[List.filterMap_cons,hf]; exact List.mem_cons_of_mem _ hb)) hr⟩
 exact all X.outer (fun _ hb=>hb) I.ok.funs
theorem Inv.stack (I:Inv X pins σ H s):s.heap.FunFrames X.base X.stack:=by
 rcases I.ok.stk with e | ⟨e,hf⟩
 ·rw[e]; exact I.funs
 ·rw[e]
  obtain⟨m,hn,_⟩:=I.loc
  refine .cons (by rw[I.ok.kind]; decide) hf hn ?_ I.funs
  exact Heap.get?_none_of_le (Nat.le_trans I.ok.bsz I.ok.above)
theorem Inv.stkSub (I:Inv X pins σ H s):∀ b∈frs X.stack,b∈X.env.locals::X.fs:=fun b hb=>by
 rcases I.ok.stk with e | ⟨e,hf⟩
 ·rw[e]at hb; exact List.mem_cons_of_mem _ hb
 ·rw[e]at hb
  unfold frs at hb
  rw[List.filterMap_cons,hf]at hb
  exact hb
theorem Inv.stkFree (I:Inv X pins σ H s):∀ b∈frs X.stack,H b=none:=fun b hb=>by
 rcases List.mem_cons.mp (I.stkSub b hb)with e | hb
 ·rw[e]; exact I.free
 ·obtain⟨_,o,ho,_⟩:=I.ok.funs.mem hb
  exact I.base.free b o ho (I.ok.frf b hb) fun z=>I.ok.exfs b z hb
theorem Inv.step {g':Array GenState} {t':Nat} {d':Drawn} {ch:List Addr} (I:Inv X pins σ H s)
  (hch:∀ b∈ch,(b∈X.ex\/X.s₀.heap.objs.size<=b)/\b≠X.env.locals/\(∀ x c,X.env.cells.lookup x=some c->c≠b)/\∀ p∈X.pn++pins,p.1≠b)
  (keep:∀ b o,b≠X.env.locals->b ∉ X.fs->b ∉ ch->s.heap.get? b=some o->H b=none->h'.get? b=some o)
  (slot:∀ b o,b≠X.env.locals->b∈X.fs->b ∉ ch->s.heap.get? b=some o->H b=none->∃ sl,h'.get? b=some { o with slots:=sl }) (free:∀ b o,b ∉ ch->s.heap.get? b=some o->H b=none->H' b=none)
  (there:∀ b o,b ∉ ch->s.heap.get? b=some o->∃ o',h'.get? b=some o')
  (tups:∀ b xs,H b=some (.tup xs)->H' b=some (.tup xs)) (frzs:∀ b o u,H b=some (.frz o u)->H' b=some (.frz o u)) (tbls:∀ b ps,H b=some (.tbl ps)->∃ more,H' b=some (.tbl (ps++more)))
  (ns:∀ m,s.heap.Ns X.env.locals m->h'.Ns X.env.locals m) (hok:HOk X.prog X.w H' h') (hg:AllBare g') :
  Inv X pins σ H' { s with heap:=h',gens:=g',drawn:=d',toks:=t' }:=by
 have neL:∀ b o,X.s₀.heap.get? b=some o->b≠X.env.locals:=fun b o e=>Nat.ne_of_lt (Nat.lt_of_lt_of_le (Heap.lt_size e) I.ok.above)
 have neC:∀ b o,X.s₀.heap.get? b=some o->b ∉ X.ex->b ∉ ch:=fun b o e hx hb=>by
  rcases(hch b hb).1 with z | z
  ·exact hx z
  ·exact absurd (Nat.lt_of_lt_of_le (Heap.lt_size e) z) (Nat.lt_irrefl _)
 have cellK:∀ x c,X.env.cells.lookup x=some c->∀ v,s.heap.IsCell c v->h'.IsCell c v:=fun x c e v hh0=>by
  obtain⟨o,ho,hd⟩:=hh0
  have nch:c ∉ ch:=fun z=>(hch c z).2.2.1 x c e rfl
  by_cases hc:c∈X.fs
  ·obtain⟨sl,q⟩:=slot c o (I.cne x c e) hc nch ho (I.freeC x c e)
   exact⟨_,q,hd⟩
  ·exact⟨o,keep c o (I.cne x c e) hc nch ho (I.freeC x c e),hd⟩
 refine⟨I.ok,I.os,hg,⟨fun b o e n hb hx=>?_,fun b o e n hb hx=>?_,fun b o e n hx=>?_,fun b o e hx=>?_,fun b xs e=>tups b xs (I.base.tups b xs e),fun b o xs e=>frzs b o xs (I.base.frzs b o xs e),fun b ps e=>?_⟩,?_,fun x c e=>?_,?_,fun x c e=>?_,fun p hp=>?_,hok,I.len⟩
 ·exact keep b o (neL b o e) hb (neC b o e hx) (I.base.keep b o e n hb hx) (I.base.free b o e n hx)
 ·obtain⟨sl,e1⟩:=I.base.slot b o e n hb hx
  obtain⟨sl',e2⟩:=slot b _ (neL b o e) hb (neC b o e hx) e1 (I.base.free b o e n hx)
  exact⟨sl',e2⟩
 ·obtain⟨o',e1⟩:=I.base.there b o e hx
  exact free b o' (neC b o e hx) e1 (I.base.free b o e n hx)
 ·obtain⟨o',e1⟩:=I.base.there b o e hx
  exact there b o' (neC b o e hx) e1
 ·obtain⟨m1,e1⟩:=I.base.tbls b ps e
  obtain⟨m2,e2⟩:=tbls b _ e1
  exact⟨m1++m2,by rw[e2,Array.append_assoc]⟩
 ·obtain⟨m,hn,hl⟩:=I.loc
  refine⟨m,ns m hn,fun i x v e1 e2 e3=>?_⟩
  obtain⟨u,r,l⟩:=hl i x v e1 e2 e3
  refine⟨u,r,?_⟩
  rcases l with l | ⟨k,c,e,z⟩
  ·exact .inl l
  ·exact .inr ⟨k,c,e,cellK x c e _ z⟩
 ·obtain⟨v,z⟩:=I.cell x c e
  exact⟨v,cellK x c e v z⟩
 ·obtain⟨m,⟨o,_,_,ho,_⟩,_⟩:=I.loc
  exact free _ o (fun z=>(hch _ z).2.1 rfl) ho I.free
 ·obtain⟨v,o,ho,hd⟩:=I.cell x c e
  exact free c o (fun z=>(hch c z).2.2.1 x c e rfl) ho (I.freeC x c e)
 ·obtain⟨e,n,ne,nf,d⟩:=I.pin p hp
  have nch:p.1 ∉ ch:=fun z=>(hch p.1 z).2.2.2 p hp rfl
  exact⟨keep p.1 p.2 ne nf nch e n,free p.1 p.2 nch e n,ne,nf,d⟩
theorem Inv.un {t':Nat} (I:Inv X pins σ H s) (u:Un X.fs [] H H' s.heap h') (hok:HOk X.prog X.w H' h'):Inv X pins σ H' { s with heap:=h',toks:=t' }:=by
 obtain⟨m,⟨o,es,ep,ho,r⟩,_⟩:=id I.loc
 obtain⟨sl,hL⟩:=u.any ho I.free (by simp)
 exact I.step (g':=s.gens) (d':=s.drawn) (ch:=[]) (fun _ z=>nomatch z) (fun b o _ hb _ e n=>u.keep b o e n hb (by simp)) (fun b o _ hb _ e n=>u.slot b o e n hb (by simp)) (fun b o _ e n=>u.free b o e n (by simp)) (fun b o _ e=>u.there b o e (by simp)) u.tups u.frzs u.tbls (fun m' hm=>by
  obtain⟨o',es',ep',ho',r'⟩:=hm
  rw[ho]at ho'; cases ho'
  exact⟨_,es',ep',hL,r'⟩) hok I.bare
theorem Inv.call {g':Array GenState} {t':Nat} {d':Drawn} {ch:List Addr} (I:Inv X pins σ H s) (u:Un (frs X.stack) ch H H' s.heap h') (hok:HOk X.prog X.w H' h') (hg:AllBare g')
  (hch:∀ b∈ch,(b∈X.ex\/X.s₀.heap.objs.size<=b)/\b≠X.env.locals/\(∀ x c,X.env.cells.lookup x=some c->c≠b)/\∀ p∈X.pn++pins,p.1≠b) :
  Inv X pins σ H' { s with heap:=h',gens:=g',drawn:=d',toks:=t' }:=by
 obtain⟨m,⟨o,es,ep,ho,r⟩,_⟩:=id I.loc
 obtain⟨sl,hL⟩:=u.any ho I.free fun z=>(hch _ z).2.1 rfl
 exact I.step (ch:=ch) hch (fun b o hL hb hc e n=>u.keep b o e n (fun z=>(List.mem_cons.mp (I.stkSub b z)).elim hL hb) hc) (fun b o _ _ hc e n=>u.any e n hc) (fun b o hc e n=>u.free b o e n hc) (fun b o hc e=>u.there b o e hc) u.tups u.frzs u.tbls (fun m' hm=>by
  obtain⟨o',es',ep',ho',r'⟩:=hm
  rw[ho]at ho'; cases ho'
  exact⟨_,es',ep',hL,r'⟩) hok hg
theorem Inv.turned {t':Nat} {it:Addr} (I:Inv X pins σ H s) (k:∀ b o,b≠it->s.heap.get? b=some o->h'.get? b=some o) (hn:H it=none) (hL:it≠X.env.locals)
  (h1:it∈X.ex\/X.s₀.heap.objs.size<=it) (h2:∀ x c,X.env.cells.lookup x=some c->c≠it) (h3:∀ p∈X.pn++pins,p.1≠it):Inv X pins σ H { s with heap:=h',toks:=t' }:=by
 have nit:∀ b u,H b=some u->b≠it:=fun b u e z=>by rw[z,hn]at e; cases e
 refine I.step (g':=s.gens) (d':=s.drawn) (ch:=[it]) (fun b hb=>?_) (fun b o _ _ hc e _=>k b o (fun z=>hc (by simp[z])) e) (fun b o _ _ hc e _=>⟨o.slots,k b o (fun z=>hc (by simp[z])) e⟩) (fun _ _ _ _ n=>n)
  (fun b o hc e=>⟨o,k b o (fun z=>hc (by simp[z])) e⟩) (fun _ _ e=>e) (fun _ _ _ e=>e) (fun b ps e=>⟨#[],by rw[e]; simp⟩) (fun m hm=>?_) (fun b u e=>?_) I.bare
 ·have e:b=it:=by simpa using hb
  subst e
  exact⟨h1,hL,h2,h3⟩
 ·obtain⟨o,es,ep,ho,r⟩:=hm
  exact⟨o,es,ep,k _ o (Ne.symm hL) ho,r⟩
 ·refine(I.hok b u e).stay (fun c v hc q=>k c v ?_ q) (fun _ q=>q) fun _ _ q=>q
  rcases hc with z | z
  ·rw[z]; exact nit b u e
  ·exact nit c _ z
theorem Inv.tok (I:Inv X pins σ H s) (t:Nat):Inv X pins σ H { s with toks:=t }:=I.un (h':=s.heap) (t':=t) Un.refl I.hok
theorem Inv.kept {t':Nat} (I:Inv X pins σ H s) (k:∀ b u,s.heap.get? b=some u->h'.get? b=some u):Inv X pins σ H { s with heap:=h',toks:=t' }:=I.un (Un.kept k) (I.hok.kept k)
theorem Inv.laid {a:Addr} {o:HO} {t':Nat} (I:Inv X pins σ H s) (k:∀ b u,s.heap.get? b=some u->h'.get? b=some u) (hp:s.heap.objs.size<=a) (new:x2a X.prog X.w (upd H a o) h' a o) :
  Inv X pins σ (upd H a o) { s with heap:=h',toks:=t' }:=I.un (Un.laid k hp (I.hok.fresh hp)) (I.hok.laid k hp new)
theorem Inv.write {x e:Addr} {o:HO} {t':Nat} (I:Inv X pins σ H s) (mu:Mut (H x)) (he:e=x\/H e=some (.own x)) (k:∀ b u,b≠e->s.heap.get? b=some u->h'.get? b=some u) (heo:∃ u,h'.get? e=some u)
  (new:x2a X.prog X.w (upd H x o) h' x o):Inv X pins σ (upd H x o) { s with heap:=h',toks:=t' }:=I.un (Un.write mu he k heo) (I.hok.write mu he k heo new)
theorem Inv.weak {σ':List (Option V)} (I:Inv X pins σ H s) (hl:σ'.length=σ.length) (w:∀ (i:Nat) v,σ'[i]? = some (some v)->σ[i]? = some (some v)):Inv X pins σ' H s:=
 ⟨I.ok,I.os,I.bare,I.base,let ⟨m,hn,hl'⟩:=I.loc; ⟨m,hn,fun i x v e1 e2 e3=>hl' i x v e1 (w i v e2) e3⟩,I.cell,I.free,I.freeC,I.pin,I.hok,hl.trans I.len⟩
theorem Inv.pins_of {pins':List (Addr × Obj)} (I:Inv X pins σ H s) (h:∀ p∈pins',s.heap.get? p.1=some p.2/\H p.1=none/\p.1≠X.env.locals/\p.1 ∉ X.fs/\∀ v,p.2.data ≠ .cell v):Inv X pins' σ H s:=
 ⟨I.ok,I.os,I.bare,I.base,I.loc,I.cell,I.free,I.freeC,fun p hp=>(List.mem_append.mp hp).elim (fun z=>I.pin p (List.mem_append_left _ z)) (h p),I.hok,I.len⟩
theorem y6a {N:List Str} (hN:N.Nodup) {i j:Nat} {x:Str} (a:N[i]? = some x) (b:N[j]? = some x):i=j:=by
 obtain⟨h1,e1⟩:=List.getElem?_eq_some_iff.mp a
 obtain⟨h2,e2⟩:=List.getElem?_eq_some_iff.mp b
 exact(List.getElem_inj hN).mp (e1.trans e2.symm)
theorem y38 {M:Model} {A:Around} {E:Value->Shared->Prop} {i:Nat} {x:Str} {v:V} {u:Value} {Q:Unit->Shared->Prop} (I:Inv X pins σ H s) (hN:X.N.Nodup) (hi:X.N[i]? = some x) (hx:Loc X.env.scope x) (r:x3i v u)
  (h:∀ s',Inv X pins (σ.set i (some v)) H s'->(∃ a,Heap.SameBut a s.heap s'.heap/\(a=X.env.locals\/X.env.cells.lookup x=some a))->Q () s') (hf:X.fn x=true\/X.env.scope.names.lookup x=some .local:=by first | exact .inl rfl | exact .inr rfl | assumption):wpAny M A (storeName X.env x u) Q E s:=by
 obtain⟨m,hn,hl⟩:=id I.loc
 have hcls:(X.env.scope.kind == .class || (X.env.scope.kind == .module && X.env.locals != X.env.globals))=false:=by rw[I.ok.kind]; rfl
 have hiσ:i<σ.length:=by rw[I.len]; exact(List.getElem?_eq_some_iff.mp hi).1
 have cne:=I.cne
 have tracked:∀ {a:Addr} {h':Heap},(∃ o,s.heap.get? a=some o/\H a=none)->Heap.SameBut a s.heap h'->HOk X.prog X.w H h':=fun {a h'} ha hs b ob e=>by
  obtain⟨_,_,hfree⟩:=ha
  refine(I.hok b ob e).stay (fun c w' hc q=>(hs.2 c ?_).trans q) (fun _ q=>q) fun _ _ q=>q
  rintro rfl
  rcases hc with rfl | hc
  ·rw[hfree]at e; cases e
  ·rw[hfree]at hc; cases hc
 rcases hx with hk | hk
 ·refine wpAny_storeName_local hk hn (fun h' hn' hs=>?_) hcls
  obtain⟨oL,_,_,hoL,_⟩:=id hn
  refine h _ ⟨I.ok,I.os,I.bare,⟨fun b o e n hb hx=>?_,fun b o e n hb hx=>?_,I.base.free,fun b o e hx=>?_,I.base.tups,I.base.frzs,I.base.tbls⟩,⟨_,hn',fun j y v' e1 e2 e3=>?_⟩,fun y c e=>?_,I.free,I.freeC,fun p hp=>?_,tracked ⟨oL,hoL,I.free⟩ hs,by simpa using I.len⟩ ⟨_,hs,.inl rfl⟩
  ·exact(hs.2 b (Nat.ne_of_lt (Nat.lt_of_lt_of_le (Heap.lt_size e) I.ok.above))).trans (I.base.keep b o e n hb hx)
  ·obtain⟨sl,e1⟩:=I.base.slot b o e n hb hx
   exact⟨sl,(hs.2 b (Nat.ne_of_lt (Nat.lt_of_lt_of_le (Heap.lt_size e) I.ok.above))).trans e1⟩
  ·obtain⟨o',e1⟩:=I.base.there b o e hx
   exact⟨o',(hs.2 b (Nat.ne_of_lt (Nat.lt_of_lt_of_le (Heap.lt_size e) I.ok.above))).trans e1⟩
  ·by_cases hj:j=i
   ·subst hj
    rw[hi]at e1; cases e1
    rw[List.getElem?_set_self hiσ]at e2
    cases e2
    exact⟨u,r,.inl ⟨hk,by simp⟩⟩
   ·rw[List.getElem?_set_ne (Ne.symm hj)]at e2
    obtain⟨u',r',q⟩:=hl j y v' e1 e2 e3
    refine⟨u',r',?_⟩
    rcases q with⟨k,e⟩ | ⟨k,c,e,z⟩
    ·refine .inl ⟨k,?_⟩
     have:y≠x:=fun e=>hj (y6a hN e1 (e ▸ hi))
     simp[this,e]
    ·exact .inr ⟨k,c,e,z.sameBut hs (cne y c e)⟩
  ·obtain⟨w',z⟩:=I.cell y c e
   exact⟨w',z.sameBut hs (cne y c e)⟩
  ·obtain⟨e,n,ne,nf,d⟩:=I.pin p hp
   exact⟨(hs.2 p.1 ne).trans e,n,ne,nf,d⟩
 ·have hfn:X.fn x=true:=by
   rcases hf with z | z
   ·exact z
   ·rw[z]at hk; cases hk
  obtain⟨c,hc⟩:=I.ok.has x (.inl hk)
  obtain⟨w',z⟩:=I.cell x c hc
  refine wpAny_storeName_cell I.ok.kind hk hc z (fun h' hc' hs=>?_)
  obtain⟨oc,hoc,hocd⟩:=id z
  refine h { s with heap:=h' } ⟨I.ok,I.os,I.bare,⟨fun b o e n hb hx=>?_,fun b o e n hb hx=>?_,I.base.free,fun b o e hx=>?_,I.base.tups,I.base.frzs,I.base.tbls⟩,⟨m,hn.sameBut hs (Ne.symm (cne x c hc)),fun j y v' e1 e2 e3=>?_⟩,fun y c' e=>?_,I.free,I.freeC,fun p hp=>?_,tracked ⟨oc,hoc,I.freeC x c hc⟩ hs,by simpa using I.len⟩ ⟨c,hs,.inr hc⟩
  ·exact(hs.2 b (Nat.ne_of_lt (Nat.lt_of_lt_of_le (Heap.lt_size e) (I.ok.cab x c hfn hc)))).trans (I.base.keep b o e n hb hx)
  ·obtain⟨sl,e1⟩:=I.base.slot b o e n hb hx
   exact⟨sl,(hs.2 b (Nat.ne_of_lt (Nat.lt_of_lt_of_le (Heap.lt_size e) (I.ok.cab x c hfn hc)))).trans e1⟩
  ·obtain⟨o',e1⟩:=I.base.there b o e hx
   exact⟨o',(hs.2 b (Nat.ne_of_lt (Nat.lt_of_lt_of_le (Heap.lt_size e) (I.ok.cab x c hfn hc)))).trans e1⟩
  ·by_cases hj:j=i
   ·subst hj
    rw[hi]at e1; cases e1
    rw[List.getElem?_set_self hiσ]at e2
    cases e2
    exact⟨u,r,.inr ⟨.inl hk,c,hc,hc'⟩⟩
   ·rw[List.getElem?_set_ne (Ne.symm hj)]at e2
    obtain⟨u',r',q⟩:=hl j y v' e1 e2 e3
    refine⟨u',r',?_⟩
    rcases q with q | ⟨k,c',e,z'⟩
    ·exact .inl q
    ·refine .inr ⟨k,c',e,z'.sameBut hs ?_⟩
     rintro rfl
     exact hj (y6a hN e1 (I.ok.inj _ _ _ e hc ▸ hi))
  ·by_cases hcc:c'=c
   ·subst hcc; exact⟨_,hc'⟩
   ·obtain⟨w2,z2⟩:=I.cell y c' e
    exact⟨w2,z2.sameBut hs hcc⟩
  ·obtain⟨e,n,ne,nf,d⟩:=I.pin p hp
   refine⟨(hs.2 p.1 ?_).trans e,n,ne,nf,d⟩
   intro q
   rw[q,hoc]at e
   have q':oc=p.2:=Option.some.inj e
   exact d w' (by rw[<- q']; exact hocd)
theorem y5w {M:Model} {A:Around} {E:Value->Shared->Prop} {i:Nat} {x:Str} {v:V} {u:Value} {Q:Unit->Shared->Prop} (I:Inv X pins σ H s) (hN:X.N.Nodup) (hi:X.N[i]? = some x) (hx:Loc X.env.scope x) (r:x3i v u)
  (h:∀ s',Inv X pins (σ.set i (some v)) H s'->Q () s') (hf:X.fn x=true\/X.env.scope.names.lookup x=some .local:=by first | exact .inl rfl | exact .inr rfl | assumption):wpAny M A (storeName X.env x u) Q E s:=
 y38 I hN hi hx r (fun s' I' _=>h s' I') hf
theorem Inv.call' {s':Shared} {ch:List Addr} (I:Inv X pins σ H s) (ho:s'.os=s.os) (u:Un (frs X.stack) ch H H' s.heap s'.heap) (hok:HOk X.prog X.w H' s'.heap) (hg:AllBare s'.gens)
  (hch:∀ b∈ch,(b∈X.ex\/X.s₀.heap.objs.size<=b)/\b≠X.env.locals/\(∀ x c,X.env.cells.lookup x=some c->c≠b)/\∀ p∈X.pn++pins,p.1≠b):Inv X pins σ H' s':=by
 obtain⟨h',g',d',t',o'⟩:=s'
 have e:o'=s.os:=ho
 subst e
 exact I.call (g':=g') (t':=t') (d':=d') u hok hg hch
end
noncomputable abbrev XK:=Value->Option Addr->Hp->Prop
noncomputable abbrev St:=List (Option V)
noncomputable abbrev VK:=V->Hp->Prop
noncomputable abbrev TE:=St->Hp->VK->Prop
noncomputable abbrev TT:=St->Hp->(Bool->Hp->Prop)->Prop
noncomputable abbrev TA:=St->Hp->(List V->Hp->Prop)->Prop
structure Ends where
 nx:St->Hp->Prop
 rt:VK
 bk:St->Hp->Prop:=fun _ _=>False
 ct:St->Hp->Prop:=fun _ _=>False
noncomputable abbrev TS:=Ends->St->Hp->Prop
noncomputable def EP (X:Cx) (pins:List (Addr × Obj)) (σ:St) (Q:VK) (u:Value) (s':Shared):Prop:=∃ v H',Inv X pins σ H' s'/\x3i v u/\Q v H'
noncomputable def TP (X:Cx) (pins:List (Addr × Obj)) (σ:St) (Q:Bool->Hp->Prop) (b:Bool) (s':Shared):Prop:=∃ H',Inv X pins σ H' s'/\Q b H'
noncomputable def AP (X:Cx) (pins:List (Addr × Obj)) (σ:St) (Q:List V->Hp->Prop) (us:List Value) (s':Shared):Prop:=∃ vs H',Inv X pins σ H' s'/\x2j vs us/\Q vs H'
noncomputable def SP (X:Cx) (pins:List (Addr × Obj)) (D:Ends) (f:Flow) (s':Shared):Prop:=
 match f with
 | .next=>∃ σ' H',Inv X pins σ' H' s'/\D.nx σ' H'
 | .brk=>∃ σ' H',Inv X pins σ' H' s'/\D.bk σ' H'
 | .cont=>∃ σ' H',Inv X pins σ' H' s'/\D.ct σ' H'
 | .ret u=>∃ v σ' H',Inv X pins σ' H' s'/\x3i v u/\D.rt v H'
noncomputable def PE (X:Cx) (e:Expr) (t:TE):Prop:=
 ∀ (pins:List (Addr × Obj)) (s:Shared) (σ:St) (H:Hp) (Q:VK),Inv X pins σ H s->t σ H Q->wpAny (model X.prog X.w) X.A (eval e X.env) (EP X pins σ Q) X.xe s
noncomputable def PT (X:Cx) (e:Expr) (t:TT):Prop:=
 ∀ (pins:List (Addr × Obj)) (s:Shared) (σ:St) (H:Hp) (Q:Bool->Hp->Prop),Inv X pins σ H s->t σ H Q->wpAny (model X.prog X.w) X.A (isTrue e X.env (eval e X.env)) (TP X pins σ Q) X.xe s
noncomputable def PW (X:Cx) (e:Expr) (t:TT):Prop:=
 ∀ (whole:Sem Value) (pins:List (Addr × Obj)) (s:Shared) (σ:St) (H:Hp) (Q:Bool->Hp->Prop),Inv X pins σ H s->t σ H Q->wpAny (model X.prog X.w) X.A (isTrue e X.env whole) (TP X pins σ Q) X.xe s
theorem PW.pt {X:Cx} {e:Expr} {t:TT} (h:PW X e t):PT X e t:=h _
noncomputable def PA (X:Cx) (es:List Expr) (t:TA):Prop:=
 ∀ (pos:Pos) (pins:List (Addr × Obj)) (s:Shared) (σ:St) (H:Hp) (Q:List V->Hp->Prop),Inv X pins σ H s->t σ H Q->wpAny (model X.prog X.w) X.A (spliced (backTo pos (starEach es X.env))) (AP X pins σ Q) X.xe s
noncomputable def PS (X:Cx) (st:Stmt) (t:TS):Prop:=
 ∀ (pins:List (Addr × Obj)) (s:Shared) (σ:St) (H:Hp) (D:Ends),Inv X pins σ H s->t D σ H->wpAny (model X.prog X.w) X.A (exec st X.env) (SP X pins D) X.xe s
noncomputable def PSs (X:Cx) (st:List Stmt) (t:TS):Prop:=
 ∀ (pins:List (Addr × Obj)) (s:Shared) (σ:St) (H:Hp) (D:Ends),Inv X pins σ H s->t D σ H->wpAny (model X.prog X.w) X.A (execs st X.env) (SP X pins D) X.xe s
theorem thn {α:Type} {t:Sem α} {Q Q':α->Shared->Prop} {M:Model} {A:Around} {E:Value->Shared->Prop} {s:Shared} (h:wpAny M A t Q E s) (hQ:∀ a s,Q a s->Q' a s):wpAny M A t Q' E s:=wpAny_mono h hQ fun _ _ x=>x
section
variable {X:Cx}
noncomputable def y0f (i:Nat):TE:=fun σ H Q=>∃ v,σ[i]? = some (some v)/\Q v H
noncomputable def tC (v:V):TE:=fun _ H Q=>Q v H
theorem z9z {i:Nat} {x:Str} {pos:Pos} (hN:X.N[i]? = some x) (hv:Vis X.env.scope x) (hd:(x == ("__debug__":Str))=false:=by decide) (hcd:(x == ("__classdict__":Str))=false:=by decide):PE X (.Name x pos) (y0f i):=by
 intro pins s σ H Q I h
 obtain⟨v,e,h⟩:=h
 obtain⟨m,hn,hl⟩:=I.loc
 obtain⟨u,r,l⟩:=hl i x v hN e hv
 have fin:EP X pins σ Q u s:=⟨v,H,I,r,h⟩
 rcases l with⟨hk,hm⟩ | ⟨hk,c,hc,hcell⟩
 ·exact wpAny_Name (wpAny_loadName_local I.ok.kind hk hn hm fin) hd
 ·rcases hk with hk | hk
  ·exact wpAny_Name (wpAny_loadName_cell I.ok.kind hk hc hcell fin) hd
  ·exact wpAny_Name (wpAny_loadName_free I.ok.kind hk hc hcell fin hcd) hd
theorem z3a {i j pos}:PE X (.Constant (.int i) j pos) (tC (.int i)):=fun _ _ _ H _ I h=>wpAny_Constant_int ⟨.int i,H,I.tok _,⟨_,rfl⟩,h⟩
theorem j25 {b j pos}:PE X (.Constant (.bool b) j pos) (tC (.bl b)):=fun _ _ _ H _ I h=>Constant_bool ⟨.bl b,H,I,rfl,h⟩
theorem z7x {j pos}:PE X (.Constant .none j pos) (tC .non):=fun _ _ _ H _ I h=>Constant_none ⟨.non,H,I,rfl,h⟩
theorem y7u {x j pos}:PE X (.Constant (.str x) j pos) (tC (.str x)):=fun _ _ _ H _ I h=>Calls.Constant_str ⟨.str x,H,I.tok _,⟨_,rfl⟩,h⟩
noncomputable def Gl (X:Cx) (x:Str):Prop:=X.env.kindOf x=some .globalImplicit
theorem y5h {E:Value->Shared->Prop} {pins:List (Addr × Obj)} {s:Shared} {σ:St} {H:Hp} {x:Str} {u:Value} {pos:Pos} {Q:Value->Shared->Prop} (I:Inv X pins σ H s) (hg:Gl X x) (hm:X.mg x=some u) (h:Q u s)
  (hd:(x == ("__debug__":Str))=false:=by decide):wpAny (model X.prog X.w) X.A (eval (.Name x pos) X.env) Q E s:=
 Calls.Name_function_global I.ok.kind hg (Calls.loadGlobal_global (by rw[I.ok.glob]; exact I.mod.glob.keeps I.bk) hm h) hd
theorem x9s {E:Value->Shared->Prop} {pins:List (Addr × Obj)} {s:Shared} {σ:St} {H:Hp} {x:Str} {u:Value} {pos:Pos} {Q:Value->Shared->Prop} (I:Inv X pins σ H s) (hg:Gl X x) (hm:X.mg x=none) (hv:bootBuiltins x=some u) (h:Q u s)
  (hn:x ≠ "__name__":=by decide) (hd:(x == ("__debug__":Str))=false:=by decide):wpAny (model X.prog X.w) X.A (eval (.Name x pos) X.env) Q E s:=by
 obtain⟨mb,h1,h2⟩:=I.mod.blt
 exact Calls.Name_function_global I.ok.kind hg (Calls.loadGlobal_builtin (by rw[I.ok.glob]; exact I.mod.glob.keeps I.bk) hm (by rw[I.ok.blt]; exact h1.keeps I.bk) ((h2 x hn).trans hv) h) hd
theorem z5r {x:Str} {v:V} {u:Value} {pos:Pos} (hg:Gl X x) (hm:X.mg x=some u) (r:x3i v u) (hd:(x == ("__debug__":Str))=false:=by decide):PE X (.Name x pos) (tC v):=
 fun _ _ _ H _ I h=>y5h I hg hm ⟨v,H,I,r,h⟩ hd
theorem z4z {x:Str} {v:V} {u:Value} {pos:Pos} (hg:Gl X x) (hm:X.mg x=none) (hv:bootBuiltins x=some u) (r:x3i v u) (hn:x ≠ "__name__":=by decide) (hd:(x == ("__debug__":Str))=false:=by decide):PE X (.Name x pos) (tC v):=
 fun _ _ _ H _ I h=>x9s I hg hm hv ⟨v,H,I,r,h⟩ hn hd
variable {a b:Expr} {ta tb:TE} {pos:Pos}
variable {tA tB':TT} {x2l:List Expr}
noncomputable def tOr (t u:TT):TT:=fun σ H Q=>t σ H fun c H1=>if c=true then Q true H1 else u σ H1 Q
noncomputable def j3k (t:TT):TT:=fun σ H Q=>t σ H fun c H1=>Q (!c) H1
theorem z7a (ha:PT X a tA):PW X (.BoolOp .Or [a] pos) tA:=by
 intro wh pins s σ H Q I h
 refine isTrue_or (thn (ha pins s σ H Q I h) fun c s1 e=>?_)
 cases c with
 | false=>exact isTrue_or_nil e
 | true=>exact e
theorem j1b (ha:PT X a tA) (hb:PW X (.BoolOp .Or (b::x2l) pos) tB'):PW X (.BoolOp .Or (a::b::x2l) pos) (tOr tA tB'):=by
 intro wh pins s σ H Q I h
 refine isTrue_or (thn (ha pins s σ H _ I h) fun c s1 hh0=>?_)
 obtain⟨H1,I1,q1⟩:=hh0
 cases c with
 | true=>exact⟨H1,I1,q1⟩
 | false=>exact hb wh pins s1 σ H1 Q I1 q1
theorem z91 (ha:PT X a tA):PT X (.UnaryOp .Not a pos) (j3k tA):=by
 intro pins s σ H Q I h
 exact isTrue_not (ha pins s σ H (fun c H1=>Q (!c) H1) I h)
noncomputable def j2a (ta tb:TE):TE:=fun σ H Q=>ta σ H fun x H1=>∃ c,x=.bl c/\if c=true then tb σ H1 Q else Q (.bl false) H1
noncomputable def j29 (ta:TE):TE:=fun σ H Q=>ta σ H fun x H1=>∃ c,x=.bl c/\Q (.bl (!c)) H1
theorem z94 {op} {t:TE} (h:PE X a t):PE X (.BoolOp op [a] pos) t:=fun pins s σ H Q I hw=>BoolOp_one (h pins s σ H Q I hw)
theorem j0b (ha:PE X a ta) (hb:PE X (.BoolOp .And (b::x2l) pos) tb):PE X (.BoolOp .And (a::b::x2l) pos) (j2a ta tb):=by
 intro pins s σ H Q I h
 refine BoolOp_and (thn (ha pins s σ H _ I h) fun v s1 hh0=>?_)
 obtain⟨x,H1,I1,r1,q1⟩:=hh0
 obtain⟨c,rfl,q1⟩:=q1
 cases r1
 refine wpAny_truthy_bool ?_
 cases c with
 | true=>exact hb pins s1 σ H1 Q I1 q1
 | false=>exact⟨.bl false,H1,I1,rfl,q1⟩
theorem z7q (ha:PE X a ta):PE X (.UnaryOp .Not a pos) (j29 ta):=by
 intro pins s σ H Q I h
 refine UnaryOp_ (thn (ha pins s σ H _ I h) fun v s1 hh0=>?_)
 obtain⟨x,H1,I1,r1,q1⟩:=hh0
 obtain⟨c,rfl,q1⟩:=q1
 cases r1
 exact not_of (wpAny_truthy_bool ⟨.bl (!c),H1,I1,rfl,q1⟩)
noncomputable def tIf (t:TT) (ta tb:TE):TE:=fun σ H Q=>t σ H fun c H1=>if c=true then ta σ H1 Q else tb σ H1 Q
theorem z2o {c:Expr} (hc:PT X c tA) (ha:PE X a ta) (hb:PE X b tb):PE X (.IfExp c a b pos) (tIf tA ta tb):=by
 intro pins s σ H Q I h
 refine wpAny_IfExp (thn (hc pins s σ H _ I h) fun d s1 hh0=>?_)
 obtain⟨H1,I1,q1⟩:=hh0
 cases d with
 | true=>exact ha pins s1 σ H1 Q I1 q1
 | false=>exact hb pins s1 σ H1 Q I1 q1
end
noncomputable def SqL (K:PySem.W.Frag) (H:Hp) (a:Addr) (xs:List V):Prop:=
 Rd H a (.lst xs) \/
  ∃ (o:Obj) (its:Array Value) (n:Nat),K.lookup a=some o/\o.cls=.type "list" /\ o.dict=none/\o.data=.seq its n/\its.size<=sizeLine/\x2j xs its.toList
noncomputable def SqT (K:PySem.W.Frag) (H:Hp) (a:Addr) (xs:List V):Prop:=
 Rd H a (.tup xs) \/
  ∃ (o:Obj) (its:Array Value) (n:Nat),K.lookup a=some o/\o.cls=.type "tuple" /\ o.data=.seq its n/\its.size<=sizeLine/\x2j xs its.toList
noncomputable def j38:Value->Option V
 | .none=>some .non
 | .bool b=>some (.bl b)
 | .int i _=>some (.int i)
 | .str x _=>some (.str x)
 | .bytes b _=>some (.byt b)
 | .float b _=>some (.flt b)
 | .ref a=>some (.ref a)
 | .type n=>some (.ty n)
 | _=>none
theorem x3i.abs {x:V} {u:Value} (r:x3i x u):j38 u=some x:=by
 cases x with
 | non=>cases r; rfl
 | bl _=>cases r; rfl
 | int _=>obtain⟨t,rfl⟩:=r; rfl
 | str _=>obtain⟨t,rfl⟩:=r; rfl
 | byt _=>obtain⟨t,rfl⟩:=r; rfl
 | flt _=>obtain⟨t,rfl⟩:=r; rfl
 | ref _=>cases r; rfl
 | ty _=>cases r; rfl
theorem x3i.inj {x y:V} {u:Value} (r:x3i x u) (q:x3i y u):x=y:=Option.some.inj (r.abs.symm.trans q.abs)
theorem x2j.inj:∀ {xs ys:List V} {us:List Value},x2j xs us->x2j ys us->xs=ys
 | _,_,_,.nil,.nil=>rfl
 | _,_,_,.cons r t,.cons r' t'=>by rw[r.inj r',x2j.inj t t']
section
variable {X:Cx} {pins:List (Addr × Obj)} {σ:St} {H:Hp} {s:Shared} {a:Addr} {xs ys:List V}
theorem SqL.of {K:PySem.W.Frag} (h:H a=some (.lst xs)):SqL K H a xs:=.inl (.inl h)
theorem SqT.of {K:PySem.W.Frag} (h:H a=some (.tup xs)):SqT K H a xs:=.inl (.inl h)
theorem Inv.list (I:Inv X pins σ H s) (h:SqL X.K H a xs):∃ its:List Value,x2j xs its/\PlainL s.heap a its.toArray/\xs.length<=sizeLine:=by
 rcases h with h | ⟨o,its,n,hk,hc,hd,hs,hz,r⟩
 ·obtain⟨z,its,n,r,e⟩:=h.ok I.hok
  exact⟨its,r,⟨_,n,e,rfl,rfl,rfl⟩,z⟩
 ·refine⟨its.toList,r,⟨o,n,I.kIn a o hk,hc,hd,by simpa using hs⟩,?_⟩
  have e:=r.length
  simp only[Array.length_toList]at e
  omega
theorem Inv.tuple (I:Inv X pins σ H s) (h:SqT X.K H a xs):∃ its:List Value,x2j xs its/\IsTup s.heap a its.toArray/\xs.length<=sizeLine:=by
 rcases h with h | ⟨o,its,n,hk,hc,hs,hz,r⟩
 ·obtain⟨z,its,r,p⟩:=h.ok I.hok
  exact⟨its,r,p.tup,z⟩
 ·refine⟨its.toList,r,⟨o,I.kIn a o hk,hc,n,by simpa using hs⟩,?_⟩
  have e:=r.length
  simp only[Array.length_toList]at e
  omega
theorem Inv.list_inj (I:Inv X pins σ H s) (h:SqL X.K H a xs) (h':SqL X.K H a ys):xs=ys:=by
 obtain⟨its,r,⟨o,n,e,_,_,d⟩,_⟩:=I.list h
 obtain⟨its',r',⟨o',n',e',_,_,d'⟩,_⟩:=I.list h'
 rw[e]at e'; cases e'
 rw[d]at d'
 injection d' with d1 _
 have:its=its':=by simpa using congrArg Array.toList d1
 subst this
 exact r.inj r'
theorem Inv.tuple_inj (I:Inv X pins σ H s) (h:SqT X.K H a xs) (h':SqT X.K H a ys):xs=ys:=by
 obtain⟨its,r,⟨o,e,_,n,d⟩,_⟩:=I.tuple h
 obtain⟨its',r',⟨o',e',_,n',d'⟩,_⟩:=I.tuple h'
 rw[e]at e'; cases e'
 rw[d]at d'
 injection d' with d1 _
 have:its=its':=by simpa using congrArg Array.toList d1
 subst this
 exact r.inj r'
end
noncomputable abbrev Cx.wish (X:Cx) (E:Value->Shared->Prop):Cx:={ X with xe:=E }
noncomputable abbrev Cx.nox (X:Cx):Cx:=X.wish fun _ _=>False
theorem Cx.Ok.wish {X:Cx} (ok:X.Ok) (E:Value->Shared->Prop):(X.wish E).Ok:=
 ⟨ok.mod,ok.kind,ok.glob,ok.blt,ok.above,ok.inj,ok.has,ok.cab,ok.hd,ok.frames,ok.stk,ok.exf,ok.bs,ok.bsz,ok.noex,ok.exfs,ok.funs,ok.frf⟩
theorem Cx.Ok.unwish {X:Cx} {E:Value->Shared->Prop} (ok:(X.wish E).Ok):X.Ok:=
 ⟨ok.mod,ok.kind,ok.glob,ok.blt,ok.above,ok.inj,ok.has,ok.cab,ok.hd,ok.frames,ok.stk,ok.exf,ok.bs,ok.bsz,ok.noex,ok.exfs,ok.funs,ok.frf⟩
section
variable {X:Cx} {pins:List (Addr × Obj)} {σ:St} {H:Hp} {s:Shared} {E:Value->Shared->Prop}
theorem Inv.wish (I:Inv X pins σ H s) (E:Value->Shared->Prop):Inv (X.wish E) pins σ H s:=⟨I.ok.wish E,I.os,I.bare,I.base,I.loc,I.cell,I.free,I.freeC,I.pin,I.hok,I.len⟩
theorem Inv.unwish (I:Inv (X.wish E) pins σ H s):Inv X pins σ H s:=⟨I.ok.unwish,I.os,I.bare,I.base,I.loc,I.cell,I.free,I.freeC,I.pin,I.hok,I.len⟩
theorem SP.unwish {D:Ends} {f:Flow} {s':Shared} (h:SP (X.wish E) pins D f s'):SP X pins D f s':=by
 cases f with
 | next=>obtain⟨σ',H',I,q⟩:=h; exact⟨σ',H',I.unwish,q⟩
 | brk=>obtain⟨σ',H',I,q⟩:=h; exact⟨σ',H',I.unwish,q⟩
 | cont=>obtain⟨σ',H',I,q⟩:=h; exact⟨σ',H',I.unwish,q⟩
 | ret u=>obtain⟨v,σ',H',I,r,q⟩:=h; exact⟨v,σ',H',I.unwish,r,q⟩
theorem PSs.nox {st:List Stmt} {t:TS} (h:PSs X.nox st t):PSs X st t:=fun pins s σ H D I hw=>
 wpAny_mono (h pins s σ H D (I.wish _) hw) (fun _ _ q=>q.unwish) fun _ _ z=>False.elim z
end
section
variable {X:Cx} {st:Stmt} {x2l:List Stmt} {t u:TS} {e:Expr} {te:TE} {pos:Pos}
noncomputable def j13:TS:=fun D σ H=>D.nx σ H
noncomputable def j3d (t u:TS):TS:=fun D σ H=>t { D with nx:=u D } σ H
theorem z6q:PSs X [] j13:=fun _ _ σ H _ I h=>wpAny_execs_nil ⟨σ,H,I,h⟩
theorem z0c (h1:PS X st t) (h2:PSs X x2l u):PSs X (st::x2l) (j3d t u):=by
 intro pins s σ H D I h
 refine wpAny_execs_cons (thn (h1 pins s σ H { D with nx:=u D } I h) fun f s1 q=>?_)
 cases f with
 | next=>
  obtain⟨σ',H',I',q⟩:=q
  exact h2 pins s1 σ' H' D I' q
 | ret v=>exact q
 | brk=>exact q
 | cont=>exact q
theorem z6y (h1:PS X st t):PSs X [st] t:=by
 intro pins s σ H D I h
 refine wpAny_execs_cons (thn (h1 pins s σ H D I h) fun f s1 q=>?_)
 cases f with
 | next=>exact wpAny_execs_nil q
 | ret v=>exact q
 | brk=>exact q
 | cont=>exact q
theorem Inv.quiet {pins:List (Addr × Obj)} {σ:St} {H:Hp} {s:Shared} (I:Inv X pins σ H s):interactive X.env=false:=by simp[interactive,I.ok.kind]
noncomputable def j20 (te:TE):TS:=fun D σ H=>te σ H fun _ H1=>D.nx σ H1
theorem z5l (he:PE X e te) (hs:swapsWith e none pos.line X.env=pure false:=by rfl):PS X (.Expr e pos) (j20 te):=by
 intro pins s σ H D I h
 exact wpAny_Expr_any (thn (he pins s σ H _ I h) fun v s1 ⟨x,H1,I1,r1,q1⟩=>⟨σ,H1,I1,q1⟩) I.quiet hs
noncomputable def j39 (te:TE):TS:=fun D σ H=>te σ H D.rt
theorem z7v (he:PE X e te):PS X (.Return (some e) pos) (j39 te):=by
 intro pins s σ H D I h
 exact wpAny_Return_some (thn (he pins s σ H _ I h) fun v s1 ⟨x,H1,I1,r1,q1⟩=>⟨x,σ,H1,I1,r1,q1⟩)
noncomputable def j2q (c:TT) (t u:TS):TS:=fun D σ H=>c σ H fun b H1=>if b=true then t D σ H1 else u D σ H1
theorem j10 {c:Expr} {a b:List Stmt} {tc:TT} (hc:PT X c tc) (ha:PSs X a t) (hb:PSs X b u):PS X (.If c a b pos) (j2q tc t u):=by
 intro pins s σ H D I h
 refine wpAny_If (thn (hc pins s σ H _ I h) fun d s1 hh0=>?_)
 obtain⟨H1,I1,q1⟩:=hh0
 cases d with
 | true=>exact ha pins s1 σ H1 D I1 q1
 | false=>exact hb pins s1 σ H1 D I1 q1
noncomputable def z86:TS:=fun _ _ _=>False
theorem z04:PS X st z86:=fun _ _ _ _ _ _ h=>h.elim
end
noncomputable abbrev TG:=V->St->Hp->(St->Hp->Prop)->Prop
noncomputable abbrev TGs:=List V->St->Hp->(St->Hp->Prop)->Prop
noncomputable def PG (X:Cx) (target:Expr) (t:TG):Prop:=
 ∀ (pins:List (Addr × Obj)) (s:Shared) (σ:St) (H:Hp) (v:V) (u:Value) (Q:St->Hp->Prop),Inv X pins σ H s->x3i v u->t v σ H Q->
  wpAny (model X.prog X.w) X.A (assign target X.env u) (fun _ s'=>∃ σ' H',Inv X pins σ' H' s'/\Q σ' H') X.xe s
noncomputable def PGs (X:Cx) (ts:List Expr) (t:TGs):Prop:=
 ∀ (pins:List (Addr × Obj)) (s:Shared) (σ:St) (H:Hp) (vs:List V) (us:List Value) (Q:St->Hp->Prop),Inv X pins σ H s->x2j vs us->t vs σ H Q->
  wpAny (model X.prog X.w) X.A (assignInOrder ((assignEach ts X.env).map (·.2)) us) (fun _ s'=>∃ σ' H',Inv X pins σ' H' s'/\Q σ' H') X.xe s
noncomputable abbrev j1o:=V->V->V->Hp->(Hp->Prop)->Prop
noncomputable def j2g (X:Cx) (t:j1o):Prop:=
 ∀ (pins:List (Addr × Obj)) (s:Shared) (σ:St) (H:Hp) (o i v:V) (ov iv u:Value) (Q:Hp->Prop),Inv X pins σ H s->x3i o ov->x3i i iv->x3i v u->t o i v H Q->
  wpAny (model X.prog X.w) X.A (setItem ov iv u) (fun _ s'=>∃ H',Inv X pins σ H' s'/\Q H') X.xe s
section
variable {X:Cx} {pos:Pos}
noncomputable def z6o (i:Nat):TG:=fun v σ H Q=>Q (σ.set i (some v)) H
theorem z5v {i:Nat} {x:Str} (hN:X.N.Nodup) (hi:X.N[i]? = some x) (hx:Loc X.env.scope x) (hf:X.fn x=true\/X.env.scope.names.lookup x=some .local:=by first | exact .inl rfl | exact .inr rfl | assumption):PG X (.Name x pos) (z6o i):=by
 intro pins s σ H v u Q I r h
 exact wpAny_assign_Name (y5w I hN hi hx r (fun s' I'=>⟨_,H,I',h⟩) hf)
noncomputable def j32:TGs:=fun vs σ H Q=>vs=[]/\Q σ H
noncomputable def j1t (t:TG) (u:TGs):TGs:=fun vs σ H Q=>∃ v r,vs=v::r/\t v σ H fun σ' H'=>u r σ' H' Q
theorem z5p:PGs X [] j32:=by
 intro pins s σ H vs us Q I r h
 obtain⟨e,h⟩:=h
 subst e
 cases r
 exact assignInOrder_nil ⟨σ,H,I,h⟩
theorem z1x {e:Expr} {es:List Expr} {t:TG} {u:TGs} (h1:PG X e t) (h2:PGs X es u)
  (hs:(assignEach (e::es) X.env).map (·.2)=assign e X.env::(assignEach es X.env).map (·.2):=by rfl):PGs X (e::es) (j1t t u):=by
 intro pins s σ H vs us Q I r h
 obtain⟨v,vr,e1,h⟩:=h
 subst e1
 cases r with
 | cons r rr=>
  rw[hs]
  refine assignInOrder_cons (thn (h1 pins s σ H _ _ _ I r h) fun _ s1 hh0=>?_)
  obtain⟨σ1,H1,I1,q1⟩:=hh0
  exact h2 pins s1 σ1 H1 _ _ Q I1 rr q1
noncomputable def j3c (K:PySem.W.Frag) (n:Nat) (t:TGs):TG:=fun v σ H Q=>∃ a xs,v=.ref a/\SqT K H a xs/\xs.length=n/\t xs σ H Q
theorem z7z {es:List Expr} {k:Nat} {t:TGs} {n:Nat} (hc:X.calm=true) (h:PGs X es t)
  (hn:(assignEach es X.env).length=n:=by rfl) (hst:(assignEach es X.env).findIdx? (·.1)=none:=by rfl):PG X (.Tuple es k pos) (j3c X.K n t):=by
 intro pins s σ H v u Q I r hw
 obtain⟨a,xs,e1,hq,hl,hw⟩:=hw
 subst e1
 cases r
 obtain⟨its,rv,ht,hz⟩:=I.tuple hq
 refine assign_Tuple_tuple (I.ok.hd hc) ht (by simp[hn,<- hl,rv.length]) hst fun h' hx=>?_
 have I1:Inv X pins σ H { s with heap:=h' }:=I.kept (t':=s.toks) fun b o e=>hx b o (Nat.ne_of_lt (Heap.lt_size e)) e
 exact h pins _ σ H xs _ Q I1 (by simpa using rv) hw
noncomputable def j2r (to ti:TE) (t:j1o):TG:=fun v σ H Q=>to σ H fun o H1=>ti σ H1 fun i H2=>t o i v H2 fun H3=>Q σ H3
theorem z8x {o i:Expr} {to ti:TE} {t:j1o} (ho:PE X o to) (hi:PE X i ti) (hs:j2g X t)
  (ha:∀ v,assign (.Subscript o i pos) X.env v=(do
    let ov <- holding [v] (eval o X.env)
    let iv <- holding [v,ov] (eval i X.env)
    standAt pos
    holding [v,ov,iv] (setItem ov iv v)
    release [v,ov,iv] []):=by intro _; rfl):PG X (.Subscript o i pos) (j2r to ti t):=by
 intro pins s σ H v u Q I r h
 rw[ha]
 refine wpAny_bind (wpAny_holding (thn (ho pins s σ H _ I h) fun ov s1 hh0=>?_))
 obtain⟨x,H1,I1,r1,q1⟩:=hh0
 refine wpAny_bind (wpAny_holding (thn (hi pins s1 σ H1 _ I1 q1) fun iv s2 hh0=>?_))
 obtain⟨y,H2,I2,r2,q2⟩:=hh0
 refine wpAny_bind (wpAny_standAt (wpAny_bind (wpAny_holding (thn (hs pins s2 σ H2 x y v ov iv u _ I2 r1 r2 r q2) fun _ s3 hh0=>?_))))
 obtain⟨H3,I3,q3⟩:=hh0
 exact wpAny_release ⟨σ,H3,I3,q3⟩
noncomputable def j27 (te:TE) (g:TG):TS:=fun D σ H=>te σ H fun x H1=>g x σ H1 D.nx
theorem z3o {tg e:Expr} {te:TE} {g:TG} (he:PE X e te) (hg:PG X tg g) (hs:swapsWithSole [tg] e pos.line X.env=pure false:=by rfl) (hw:swappedStores [tg] e X.env=pure none:=by rfl)
  (h1:(assignEach [tg] X.env).map (·.2)=[assign tg X.env]:=by rfl):PS X (.Assign [tg] e pos) (j27 te g):=by
 intro pins s σ H D I h
 refine wpAny_Assign_stores (thn (he pins s σ H _ I h) fun v s1 ⟨x,H1,I1,r1,q1⟩=>?_) hs hw
 rw[h1]
 exact thn (hg pins s1 σ H1 x v _ I1 r1 q1) fun _ s2 q=>q
theorem z82 {i:Nat} {x:Str} {e:Expr} {te:TE} {pos':Pos} (hN:X.N.Nodup) (hi:X.N[i]? = some x) (hx:Loc X.env.scope x) (he:PE X e te) (hs:swapsWith e (some (.Name x pos')) pos.line X.env=pure false:=by rfl) (hf:X.fn x=true\/X.env.scope.names.lookup x=some .local:=by first | exact .inl rfl | exact .inr rfl | assumption) :
  PS X (.Assign [.Name x pos'] e pos) (j27 te (z6o i)):=by
 intro pins s σ H D I h
 refine wpAny_Assign_Name (thn (he pins s σ H _ I h) fun v s1 ⟨y,H1,I1,r1,q1⟩=>?_) hs
 exact y5w I1 hN hi hx r1 (fun s2 I2=>⟨_,H1,I2,q1⟩) hf
end
section
variable {X:Cx} {pos:Pos}
noncomputable def z7i (c:TT) (tb:TS):TS:=fun D σ H=>∃ W:Nat->St->Hp->Prop,(∃ m,W m σ H)/\∀ m σ H,W m σ H->
 c σ H fun b H1=>if b=true then ∃ N:St->Hp->Prop,(∀ σ' H',N σ' H'->∃ m',m'<m/\W m' σ' H')/\tb { D with nx:=N,ct:=N,bk:=D.nx } σ H1 else D.nx σ H1
theorem z2y {c:Expr} {body:List Stmt} {tc:TT} {tb:TS} (hp:PassesOwn (model X.prog X.w) X.A X.env X.xe) (hc:PT X c tc) (hb:PSs X body tb):PS X (.While c body [] pos) (z7i tc tb):=by
 intro pins s σ H D I h
 obtain⟨W,⟨m0,w0⟩,turn⟩:=h
 refine wpAny_While (codeAny_whileLoop (fun n s'=>∃ σ' H',Inv X pins σ' H' s'/\W n σ' H') ?_ m0 ⟨σ,H,I,w0⟩)
 rintro n s1 ⟨σ1,H1,I1,w1⟩
 refine wpAny_passesOwn hp (thn (hc pins s1 σ1 H1 _ I1 (turn n σ1 H1 w1)) fun b s2 hh0=>?_)
 obtain⟨H2,I2,q2⟩:=hh0
 cases b with
 | true=>
  obtain⟨N,hN,q2⟩:=q2
  rw[if_pos rfl]
  refine wpAny_passesOwn hp (thn (hb pins s2 σ1 H2 _ I2 q2) fun f s3 q3=>?_)
  cases f with
  | next=>
   obtain⟨σ3,H3,I3,n3⟩:=q3
   obtain⟨m',hm,w3⟩:=hN σ3 H3 n3
   exact⟨m',hm,σ3,H3,I3,w3⟩
  | cont=>
   obtain⟨σ3,H3,I3,n3⟩:=q3
   obtain⟨m',hm,w3⟩:=hN σ3 H3 n3
   exact⟨m',hm,σ3,H3,I3,w3⟩
  | brk=>exact q3
  | ret v=>exact q3
 | false=>
  rw[if_neg Bool.false_ne_true]
  exact wpAny_execs_nil ⟨σ1,H2,I2,q2⟩
end
structure It where
 go:Nat->Hp->Prop
 yld:Nat->Hp->V->Hp->Prop
 stop:Nat->Hp->Prop
noncomputable def y98 (X:Cx) (pins:List (Addr × Obj)) (H:Hp) (b:Addr):Prop:=
 H b=none/\b≠X.env.locals/\b ∉ X.fs/\(b∈X.ex\/X.s₀.heap.objs.size<=b)/\(∀ x c,X.env.cells.lookup x=some c->c≠b)/\∀ p∈X.pn++pins,p.1≠b
theorem Inv.fpOk {X:Cx} {pins:List (Addr × Obj)} {σ:St} {H H':Hp} {s:Shared} {b:Addr} (I:Inv X pins σ H s) (hb:s.heap.objs.size<=b) (hn:H' b=none):y98 X pins H' b:=by
 refine⟨hn,Nat.ne_of_gt (Nat.lt_of_lt_of_le I.lt hb),I.nofs hb,.inr (Nat.le_trans I.sz hb),fun x c e z=>?_,fun p hp z=>?_⟩
 ·obtain⟨v,q⟩:=I.cell x c e
  exact absurd (Nat.lt_of_lt_of_le q.lt (by rw[z]; exact hb)) (Nat.lt_irrefl _)
 ·exact absurd (Nat.lt_of_lt_of_le (Heap.lt_size (I.pin p hp).1) (by rw[z]; exact hb)) (Nat.lt_irrefl _)
structure Turn (P:Program) (w:World) (K:PySem.W.Frag) (tg:Expr) (J:It) (fp:List Addr) (it:Addr) (tn:Nat->Heap->Prop):Prop where
 mem:it∈fp
 obj:∀ i h,tn i h->∀ b∈fp,∃ o,h.get? b=some o/\∀ v,o.data ≠ .cell v
 keep:∀ i h h',tn i h->(∀ b∈fp,∀ o,h.get? b=some o->h'.get? b=some o)->tn i h'
 item:∀ (X:Cx),X.prog=P->X.w=w->X.K=K->X.calm=true->∀ (i:Nat) (pins:List (Addr × Obj)) (s:Shared) (σ:St) (H:Hp) (E:Value->Shared->Prop),Inv X pins σ H s->(∀ b∈fp,y98 X pins H b)->tn i s.heap->J.go i H->
  wpAny (model P w) X.A (pyNext (.ref it)) (fun r s1=>∃ u,r=some u /\
   wpAny (model P w) X.A (letOwnedTupleGo tg (.ref it) u) (fun _ s2=>∃ x H',Inv X pins σ H' s2/\x3i x u/\J.yld i H x H'/\tn (i+1) s2.heap/\∀ b∈fp,H' b=none) E s1) E s
 done:∀ (X:Cx),X.prog=P->X.w=w->X.K=K->X.calm=true->∀ (i:Nat) (pins:List (Addr × Obj)) (s:Shared) (σ:St) (H:Hp) (E:Value->Shared->Prop),Inv X pins σ H s->(∀ b∈fp,y98 X pins H b)->tn i s.heap->J.stop i H->
  wpAny (model P w) X.A (pyNext (.ref it)) (fun r s1=>r=none/\Inv X pins σ H s1) E s
 self:∀ (A:Around) (i:Nat) (s:Shared) (Q:Value->Shared->Prop) (E:Value->Shared->Prop),tn i s.heap->Q (.ref it) s->wpAny (model P w) A (pyIter (.ref it)) Q E s
noncomputable abbrev TI:=St->Hp->(It->Hp->Prop)->Prop
noncomputable def PIE (X:Cx) (pins:List (Addr × Obj)) (σ:St) (tg:Expr) (R:It->Hp->Prop) (itv:Value) (s2:Shared):Prop:=
 ∃ (it:Addr) (fp:List Addr) (tn:Nat->Heap->Prop) (J:It) (H':Hp),itv=.ref it/\Inv X pins σ H' s2/\Turn X.prog X.w X.K tg J fp it tn/\tn 0 s2.heap/\(∀ b∈fp,y98 X pins H' b)/\R J H'
noncomputable def PI (X:Cx) (tg iter:Expr) (wi:TI):Prop:=
 ∀ (pins:List (Addr × Obj)) (s:Shared) (σ:St) (H:Hp) (R:It->Hp->Prop),Inv X pins σ H s->wi σ H R->
  wpAny (model X.prog X.w) X.A (eval iter X.env) (fun v s1=>wpAny (model X.prog X.w) X.A (pyIter v) (PIE X pins σ tg R) X.xe s1) X.xe s
theorem z5u {M:Model} {A:Around} {E:Value->Shared->Prop} {s:Shared} {tg:Expr} {it:Addr} {u:Value} {o:Obj} {n:String} {vs:Array Value} {Q:Unit->Shared->Prop} (ho:s.heap.get? it=some o) (hc:o.cls=.type n) (hd:o.data=.fields vs)
  (hn:["enumerate","zip","dict_itemiterator","dict_reverseitemiterator","odict_iterator","itertools.zip_longest","itertools.pairwise"].contains n=false) (hQ:Q () s):wpAny M A (letOwnedTupleGo tg (.ref it) u) Q E s:=by
 unfold letOwnedTupleGo
 cases tg <;> first
  | exact wpAny_pure hQ
  | (cases u <;> first
      | exact wpAny_pure hQ
      | (refine wpAny_bind (wpAny_load ho ?_)
         rw[hc,hd]
         show wpAny M A (if(["enumerate","zip","dict_itemiterator","dict_reverseitemiterator","odict_iterator","itertools.zip_longest","itertools.pairwise"].contains n && vs[0]? == some (rawInt _))=true then _ else _) Q E s
         rw[if_neg (by intro h; rw[hn,Bool.false_and]at h; cases h)]
         exact wpAny_pure hQ))
noncomputable def Itl (K:PySem.W.Frag) (a:Addr):It:=
 ⟨fun i H=>∃ xs x,SqL K H a xs/\xs[i]? = some x,fun i H x H'=>H'=H/\∀ xs,SqL K H a xs->xs[i]? = some x,fun i H=>∃ xs,SqL K H a xs/\xs.length<=i⟩
noncomputable def Itt (K:PySem.W.Frag) (a:Addr):It:=
 ⟨fun i H=>∃ xs x,SqT K H a xs/\xs[i]? = some x,fun i H x H'=>H'=H/\∀ xs,SqT K H a xs->xs[i]? = some x,fun i H=>∃ xs,SqT K H a xs/\xs.length<=i⟩
noncomputable def Itr (lo:Int) (n:Nat):It:=⟨fun i _=>i<n,fun i H x H'=>H'=H/\x=.int (lo+i),fun i _=>n<=i⟩
theorem y9w {P:Program} {w:World} {K:PySem.W.Frag} {tg:Expr} (a it:Addr):Turn P w K tg (Itl K a) [it] it (fun i h=>h.IsListIter it a i) where
 mem:=by simp
 obj:=fun i h st b hb=>by
  have e:b=it:=by simpa using hb
  subst e
  obtain⟨o,e,c,d⟩:=st
  exact⟨o,e,fun v z=>by rw[d]at z; cases z⟩
 keep:=fun i h h' st k=>st.at fun o e=>k it (by simp) o e
 item:=by
  intro X hP hw hK hc i pins s σ H E I hf st hg
  subst hP hw hK
  obtain⟨xs,x,hq,hx⟩:=hg
  obtain⟨its,rv,p,hz⟩:=I.list hq
  obtain⟨u,hu,ru⟩:=rv.get hx
  obtain⟨f0,f1,f2,f3,f4,f5⟩:=hf it (by simp)
  refine wpAny_pyNext_list_item st p.isList (x:=u) (by simpa using hu) fun h' st' sb=>?_
  have I1:Inv X pins σ H { s with heap:=h' }:=I.turned (t':=s.toks) (fun b o hb e=>(sb.2 b hb).trans e) f0 f1 f3 f4 f5
  obtain⟨o,e,c,d⟩:=id st'
  exact⟨u,rfl,z5u (s:={ s with heap:=h' }) e c d (by decide) ⟨x,H,I1,ru,⟨rfl,fun ys hy=>by rw[I.list_inj hy hq]; exact hx⟩,st',fun b hb=>(hf b hb).1⟩⟩
 done:=by
  intro X hP hw hK hc i pins s σ H E I hf st hg
  subst hP hw hK
  obtain⟨xs,hq,hx⟩:=hg
  obtain⟨its,rv,p,hz⟩:=I.list hq
  obtain⟨f0,f1,f2,f3,f4,f5⟩:=hf it (by simp)
  have hl:=rv.length
  exact wpAny_pyNext_list_end (I.ok.hd hc) st p.isList (by simp; omega) fun h' eb=>⟨rfl,I.turned (t':=s.toks) (fun b o hb e=>eb b o hb e) f0 f1 f3 f4 f5⟩
 self:=fun _ _ _ _ _ st h=>wpAny_pyIter_listiter st h
theorem y6x {P:Program} {w:World} {K:PySem.W.Frag} {tg:Expr} (a it:Addr):Turn P w K tg (Itt K a) [it] it (fun i h=>h.IsTupleIter it a i) where
 mem:=by simp
 obj:=fun i h st b hb=>by
  have e:b=it:=by simpa using hb
  subst e
  obtain⟨o,e,c,d⟩:=st
  exact⟨o,e,fun v z=>by rw[d]at z; cases z⟩
 keep:=fun i h h' st k=>st.at fun o e=>k it (by simp) o e
 item:=by
  intro X hP hw hK hc i pins s σ H E I hf st hg
  subst hP hw hK
  obtain⟨xs,x,hq,hx⟩:=hg
  obtain⟨its,rv,p,hz⟩:=I.tuple hq
  obtain⟨u,hu,ru⟩:=rv.get hx
  obtain⟨f0,f1,f2,f3,f4,f5⟩:=hf it (by simp)
  refine wpAny_pyNext_tuple_item st (show s.heap.IsTuple a its.toArray from p) (x:=u) (by simpa using hu) fun h' st' sb=>?_
  have I1:Inv X pins σ H { s with heap:=h' }:=I.turned (t':=s.toks) (fun b o hb e=>(sb.2 b hb).trans e) f0 f1 f3 f4 f5
  obtain⟨o,e,c,d⟩:=id st'
  exact⟨u,rfl,z5u (s:={ s with heap:=h' }) e c d (by decide) ⟨x,H,I1,ru,⟨rfl,fun ys hy=>by rw[I.tuple_inj hy hq]; exact hx⟩,st',fun b hb=>(hf b hb).1⟩⟩
 done:=by
  intro X hP hw hK hc i pins s σ H E I hf st hg
  subst hP hw hK
  obtain⟨xs,hq,hx⟩:=hg
  obtain⟨its,rv,p,hz⟩:=I.tuple hq
  obtain⟨f0,f1,f2,f3,f4,f5⟩:=hf it (by simp)
  have hl:=rv.length
  exact wpAny_pyNext_tuple_end (I.ok.hd hc) st (show s.heap.IsTuple a its.toArray from p) (by simp; omega) fun h' eb=>⟨rfl,I.turned (t':=s.toks) (fun b o hb e=>eb b o hb e) f0 f1 f3 f4 f5⟩
 self:=fun _ _ _ _ _ st h=>wpAny_pyIter_tupleiter st h
theorem y7a {P:Program} {w:World} {K:PySem.W.Frag} {tg:Expr} (it:Addr) (lo:Int) (n:Nat):Turn P w K tg (Itr lo n) [it] it (fun i h=>IsRangeIter h it (lo+(i:Nat)*1) ((n:Int)-(i:Nat)) 1) where
 mem:=by simp
 obj:=fun i h st b hb=>by
  have e:b=it:=by simpa using hb
  subst e
  exact⟨_,st,fun v z=>by
   have z':Data.fields _=Data.cell v:=z
   cases z'⟩
 keep:=fun i h h' st k=>k it (by simp) _ st
 item:=by
  intro X hP hw hK hc i pins s σ H E I hf st hg
  subst hP hw hK
  obtain⟨f0,f1,f2,f3,f4,f5⟩:=hf it (by simp)
  have W:=Walks.range (prog:=X.prog) (w:=X.w) (I.ok.hd hc) it lo 1 n
  refine W.item i s _ _ hg st fun v h' tk hv st' kk=>?_
  obtain⟨t,rfl⟩:=hv
  have I1:Inv X pins σ H { s with heap:=h',toks:=tk }:=I.turned (fun b o hb e=>kk b o (by simpa using hb) e) f0 f1 f3 f4 f5
  refine⟨_,rfl,z5u (s:={ s with heap:=h',toks:=tk }) (n:="range_iterator") st' rfl rfl (by decide) ⟨.int (lo+i),H,I1,⟨t,?_⟩,⟨rfl,rfl⟩,st',fun b hb=>(hf b hb).1⟩⟩
  rw[Int.mul_one]
 done:=by
  intro X hP hw hK hc i pins s σ H E I hf st hg
  subst hP hw hK
  obtain⟨f0,f1,f2,f3,f4,f5⟩:=hf it (by simp)
  exact wpAny_pyNext_range_end (I.ok.hd hc) st (by have:n<=i:=hg; omega) fun h' eb=>⟨rfl,I.turned (t':=s.toks) (fun b o hb e=>eb b o hb e) f0 f1 f3 f4 f5⟩
 self:=fun _ _ _ _ _ st h=>wpAny_pyIter_rangeiter st h
section
variable {X:Cx} {tg:Expr}
theorem z0m {pins:List (Addr × Obj)} {σ:St} {H:Hp} {s:Shared} {R:It->Hp->Prop} {E:Value->Shared->Prop} {lo hi:Int} {t u v:Tok} {tk:Nat} (I:Inv X pins σ H s) (h1:-(2 ^ 62)<=lo) (h2:lo<2 ^ 62) (h3:-(2 ^ 62)<=hi) (h4:hi<2 ^ 62)
  (q:R (Itr lo (hi-lo).toNat) H):wpAny (model X.prog X.w) X.A (pyIter (.ref s.heap.objs.size)) (PIE X pins σ tg R) E { s with heap:=s.heap.push { cls:=.type "range",data:=.fields #[.int lo t,.int hi u,.int 1 v] },toks:=tk }:=by
 refine wpAny_pyIter_range (IsRange.new ..) (small_one h1 h2 h3 h4) ?_
 have I1:Inv X pins σ H { s with heap:=s.heap.push { cls:=.type "range",data:=.fields #[.int lo t,.int hi u,.int 1 v] },toks:=tk }:=I.kept fun b o e=>Heap.get?_push_of_some _ e
 refine⟨(s.heap.push { cls:=.type "range",data:=.fields #[.int lo t,.int hi u,.int 1 v] }).objs.size,[(s.heap.push { cls:=.type "range",data:=.fields #[.int lo t,.int hi u,.int 1 v] }).objs.size],_,_,H,rfl,
  I1.kept (t':=tk) fun b o e=>Heap.get?_push_of_some _ e,y7a _ lo (hi-lo).toNat,?_,fun b hb=>?_,q⟩
 ·have e1:lo+((0:Nat):Int)*1=lo:=by simp
  have e2:(((hi-lo).toNat:Nat):Int)-((0:Nat):Int)=Builtin.Range.rangeSize lo hi 1:=by rw[rangeSize_one]; split <;> omega
  show IsRangeIter _ _ (lo+((0:Nat):Int)*1) ((((hi-lo).toNat:Nat):Int)-((0:Nat):Int)) 1
  rw[e1,e2]
  exact Heap.get?_push_size _ rfl
 ·have e:b=(s.heap.push { cls:=.type "range",data:=.fields #[.int lo t,.int hi u,.int 1 v] }).objs.size:=by simpa using hb
  subst e
  exact I1.fpOk (Nat.le_refl _) (I1.hok.fresh (Nat.le_refl _))
noncomputable def j15 (ta:TA):TI:=fun σ H R=>ta σ H fun vs H1=>∃ j:Int,vs=[.int j] /\ -(2 ^ 62)<=j/\j<2 ^ 62/\R (Itr 0 j.toNat) H1
theorem y81 {a:Expr} {ta:TA} {p pos:Pos} (hg:Gl X "range") (hm:X.mg "range" = none) (ha:PA X [a] ta) (hs:starEach [a] X.env=[(false,eval a X.env)]:=by rfl):PI X tg (.Call (.Name "range" p) [a] [] pos) (j15 ta):=by
 intro pins s σ H R I h
 refine Call_ (x9s I hg hm boot_range (PyProof.Rows.callWith_type1 (thn (ha pos pins s σ H _ I h) fun us s1 ⟨vs,H1,I1,r1,q1⟩=>?_) hs rfl))
 obtain⟨j,e,q1,q2,q⟩:=q1
 subst e
 cases r1 with
 | cons r rr=>
  cases rr
  obtain⟨t,rfl⟩:=r
  exact call_range_1 (z0m I1 (by omega) (by omega) q1 q2 (by simpa using q))
noncomputable def j34 (wi:TI) (g:TG) (tb:TS):TS:=fun D σ H=>wi σ H fun J H1=>∃ W:Nat->Nat->St->Hp->Prop,(∃ m,W 0 m σ H1)/\∀ i m σ H,W i m σ H->
 (J.stop i H/\D.nx σ H)\/(J.go i H/\∃ N:St->Hp->Prop,(∀ σ' H',N σ' H'->∃ m',m'<m/\W (i+1) m' σ' H')/\∀ x H',J.yld i H x H'->g x σ H' fun σ2 H2=>tb { D with nx:=N,ct:=N,bk:=D.nx } σ2 H2)
noncomputable def x8z (fp:List Addr) (h:Heap):List (Addr × Obj):=fp.filterMap fun b=>(h.get? b).map fun o=>(b,o)
theorem x6a {fp:List Addr} {h:Heap} {b:Addr} {o:Obj} (hb:b∈fp) (e:h.get? b=some o):(b,o)∈x8z fp h:=List.mem_filterMap.mpr ⟨b,hb,by rw[e]; rfl⟩
theorem y3d {fp:List Addr} {h:Heap} {p:Addr × Obj} (hp:p∈x8z fp h):p.1∈fp/\h.get? p.1=some p.2:=by
 obtain⟨b,hb,e⟩:=List.mem_filterMap.mp hp
 cases q:h.get? b with
 | none=>rw[q]at e; cases e
 | some o=>
  rw[q]at e
  have e':(b,o)=p:=Option.some.inj e
  subst e'
  exact⟨hb,q⟩
theorem Inv.pinned {pins:List (Addr × Obj)} {σ:St} {H:Hp} {s:Shared} {fp:List Addr} (I:Inv X pins σ H s) (hf:∀ b∈fp,y98 X pins H b) (ho:∀ b∈fp,∃ o,s.heap.get? b=some o/\∀ v,o.data ≠ .cell v):Inv X (pins++x8z fp s.heap) σ H s:=
 I.pins_of fun p hp=>(List.mem_append.mp hp).elim (fun z=>I.pin p (List.mem_append_right _ z)) fun z=>by
  obtain⟨hb,e⟩:=y3d z
  obtain⟨f0,f1,f2,_⟩:=hf p.1 hb
  obtain⟨o,e',d⟩:=ho p.1 hb
  rw[e]at e'; cases e'
  exact⟨e,f0,f1,f2,d⟩
theorem Inv.unpinned {pins pl:List (Addr × Obj)} {σ:St} {H:Hp} {s:Shared} (I:Inv X (pins++pl) σ H s):Inv X pins σ H s:=I.pins_of fun p hp=>I.pin p (List.mem_append_right _ (List.mem_append_left _ hp))
theorem z8k {iter:Expr} {body:List Stmt} {wi:TI} {g:TG} {tb:TS} {pos:Pos} (hp:PassesOwn (model X.prog X.w) X.A X.env X.xe) (hc:X.calm=true) (hi:PI X tg iter wi) (hg:PG X tg g) (hb:PSs X body tb)
  (hs:∀ x,foldedSetIterable iter X.env x=pure x:=by intro _; rfl):PS X (.For tg iter body [] pos) (j34 wi g tb):=by
 intro pins s σ H D I h
 refine wpAny_For (thn (hi pins s σ H _ I h) fun v s1 h1=>thn h1 fun itv s2 h2=>?_) hs
 obtain⟨it,fp,tn,J,H2,e,I2,T,st2,f2,W,⟨m0,w0⟩,turn⟩:=h2
 subst e
 -- what stays true of the iterator's objects through the loop
 have stat:∀ {H':Hp},(∀ b∈fp,H' b=none)->∀ b∈fp,y98 X pins H' b:=fun hn b hb=>⟨hn b hb,(f2 b hb).2⟩
 refine codeAny_forLoop_any (fun n s'=>∃ i σ' H',Inv X pins σ' H' s'/\tn i s'.heap/\(∀ b∈fp,H' b=none)/\W i n σ' H') ?_ m0 ⟨0,σ,H2,I2,st2,fun b hb=>(f2 b hb).1,w0⟩
 rintro n s3 ⟨i,σ3,H3,I3,st3,fr3,w3⟩
 rcases turn i n σ3 H3 w3 with⟨stop,qn⟩ | ⟨go,N,hN,step⟩
 ·refine wpAny_passesOwn hp (thn (T.done X rfl rfl rfl hc i pins s3 σ3 H3 X.xe I3 (stat fr3) st3 stop) fun r s4 ⟨hr,I4⟩=>?_)
  subst hr
  exact wpAny_execs_nil ⟨σ3,H3,I4,qn⟩
 ·refine wpAny_passesOwn hp (thn (T.item X rfl rfl rfl hc i pins s3 σ3 H3 X.xe I3 (stat fr3) st3 go) fun r s4 ⟨u,hr,h4⟩=>?_)
  subst hr
  refine wpAny_passesOwn hp (thn h4 fun _ s5 hh0=>?_)
  obtain⟨x,H5,I5,r5,y5,st5,fr5⟩:=hh0
  have I5':=I5.pinned (stat fr5) (T.obj _ _ st5)
  refine wpAny_passesOwn hp (thn (hg _ s5 σ3 H5 x u _ I5' r5 (step x H5 y5)) fun _ s6 hh0=>?_)
  obtain⟨σ6,H6,I6,q6⟩:=hh0
  refine wpAny_passesOwn hp (thn (hb _ s6 σ6 H6 _ I6 q6) fun f s7 q7=>?_)
  have again:∀ {σ7:St} {H7:Hp},Inv X (pins++x8z fp s5.heap) σ7 H7 s7->N σ7 H7->∃ m,m<n/\∃ i σ' H',Inv X pins σ' H' s7/\tn i s7.heap/\(∀ b∈fp,H' b=none)/\W i m σ' H':=fun {σ7 H7} I7 n7=>by
   obtain⟨m',hm,w7⟩:=hN σ7 H7 n7
   refine⟨m',hm,i+1,σ7,H7,I7.unpinned,T.keep _ _ _ st5 fun b hb o e=>(I7.pin (b,o) (List.mem_append_right _ (List.mem_append_right _ (x6a hb e)))).1,fun b hb=>?_,w7⟩
   obtain⟨o,e,d⟩:=T.obj _ _ st5 b hb
   exact(I7.pin (b,o) (List.mem_append_right _ (List.mem_append_right _ (x6a hb e)))).2.1
  cases f with
  | next=>obtain⟨σ7,H7,I7,n7⟩:=q7; exact again I7 n7
  | cont=>obtain⟨σ7,H7,I7,n7⟩:=q7; exact again I7 n7
  | brk=>obtain⟨σ7,H7,I7,q7⟩:=q7; exact⟨σ7,H7,I7.unpinned,q7⟩
  | ret v=>obtain⟨x7,σ7,H7,I7,r7,q7⟩:=q7; exact⟨x7,σ7,H7,I7.unpinned,r7,q7⟩
end
noncomputable abbrev R2:=V->V->Hp->VK->Prop
noncomputable def OpR (X:Cx) (f:Value->Value->Sem Value) (r:R2):Prop:=
 ∀ (pins:List (Addr × Obj)) (s:Shared) (σ:St) (H:Hp) (x y:V) (v u:Value) (Q:VK),Inv X pins σ H s->x3i x v->x3i y u->r x y H Q->
  wpAny (model X.prog X.w) X.A (f v u) (EP X pins σ Q) X.xe s
noncomputable def y0s (X:Cx) (f:Value) (r:List V->Hp->VK->Prop):Prop:=
 ∀ (pins:List (Addr × Obj)) (s:Shared) (σ:St) (H:Hp) (xs:List V) (us:List Value) (Q:VK),Inv X pins σ H s->x2j xs us->r xs H Q->
  wpAny (model X.prog X.w) X.A (call f us) (EP X pins σ Q) X.xe s
noncomputable def j2v (X:Cx) (r:V->Hp->(Bool->Hp->Prop)->Prop):Prop:=
 ∀ (pins:List (Addr × Obj)) (s:Shared) (σ:St) (H:Hp) (x:V) (v:Value) (Q:Bool->Hp->Prop),Inv X pins σ H s->x3i x v->r x H Q->
  wpAny (model X.prog X.w) X.A (truthy v) (TP X pins σ Q) X.xe s
noncomputable def tOp (r:R2) (ta tb:TE):TE:=fun σ H Q=>ta σ H fun x H1=>tb σ H1 fun y H2=>r x y H2 Q
noncomputable def rI (C:Int->Int->Prop) (g:Int->Int->V):R2:=fun x y H Q=>∃ i j,x=.int i/\y=.int j/\C i j/\Q (g i j) H
noncomputable def rI0 (g:Int->Int->V):R2:=fun x y H Q=>∃ i j,x=.int i/\y=.int j/\Q (g i j) H
section
variable {X:Cx} {a b c:Expr} {ta tb tc:TE} {pos:Pos}
theorem j1f (ha:PE X a ta) (hb:PE X b tb) {pins:List (Addr × Obj)} {s:Shared} {σ:St} {H:Hp} {R:V->V->Hp->Prop} (I:Inv X pins σ H s)
  (h:ta σ H fun x H1=>tb σ H1 fun y H2=>R x y H2) {Q:Value->Shared->Prop} {f:Value->Value->Sem Value}
  (hf:∀ v u s2 x y H2,Inv X pins σ H2 s2->x3i x v->x3i y u->R x y H2->wpAny (model X.prog X.w) X.A (f v u) Q X.xe s2) :
  wpAny (model X.prog X.w) X.A (eval a X.env) (fun v s₁=>wpAny (model X.prog X.w) X.A (eval b X.env) (fun u s₂=>wpAny (model X.prog X.w) X.A (f v u) Q X.xe s₂) X.xe s₁) X.xe s:=by
 refine thn (ha pins s σ H _ I h) fun v s1 hh0=>?_
 obtain⟨x,H1,I1,r1,q1⟩:=hh0
 refine thn (hb pins s1 σ H1 _ I1 q1) fun u s2 hh0=>?_
 obtain⟨y,H2,I2,r2,q2⟩:=hh0
 exact hf v u s2 x y H2 I2 r1 r2 q2
theorem y4f {op:Operator} {r:R2} (ho:OpR X (binaryOp op) r) (ha:PE X a ta) (hb:PE X b tb):PE X (.BinOp a op b pos) (tOp r ta tb):=by
 intro pins s σ H Q I h
 exact wpAny_BinOp (j1f ha hb I h fun v u s2 x y H2 I2 rx ry q=>ho pins s2 σ H2 x y v u Q I2 rx ry q)
theorem opI {f:Value->Value->Sem Value} {C:Int->Int->Prop} {g:Int->Int->Int}
  (rule:∀ (i j:Int) (t u:Tok) (s:Shared) (Q:Value->Shared->Prop) (E:Value->Shared->Prop),C i j->Q (.int (g i j) s.toks) { s with toks:=s.toks+1 }->wpAny (model X.prog X.w) X.A (f (.int i t) (.int j u)) Q E s) :
  OpR X f (rI C fun i j=>.int (g i j)):=by
 intro pins s σ H x y v u Q I rx ry h
 obtain⟨i,j,rfl,rfl,hc,q⟩:=h
 obtain⟨t,rfl⟩:=rx
 obtain⟨t',rfl⟩:=ry
 exact rule i j t t' s _ _ hc ⟨.int (g i j),H,I.tok _,⟨_,rfl⟩,q⟩
theorem j3i {f:Value->Value->Sem Value} {g:Int->Int->Int}
  (rule:∀ (i j:Int) (t u:Tok) (s:Shared) (Q:Value->Shared->Prop) (E:Value->Shared->Prop),Q (.int (g i j) s.toks) { s with toks:=s.toks+1 }->wpAny (model X.prog X.w) X.A (f (.int i t) (.int j u)) Q E s) :
  OpR X f (rI0 fun i j=>.int (g i j)):=by
 intro pins s σ H x y v u Q I rx ry h
 obtain⟨i,j,rfl,rfl,q⟩:=h
 obtain⟨t,rfl⟩:=rx
 obtain⟨t',rfl⟩:=ry
 exact rule i j t t' s _ _ ⟨.int (g i j),H,I.tok _,⟨_,rfl⟩,q⟩
theorem j1c {f:Value->Value->Sem Value} {g:Int->Int->Bool}
  (rule:∀ (i j:Int) (t u:Tok) (s:Shared) (Q:Value->Shared->Prop) (E:Value->Shared->Prop),Q (.bool (g i j)) s->wpAny (model X.prog X.w) X.A (f (.int i t) (.int j u)) Q E s) :
  OpR X f (rI0 fun i j=>.bl (g i j)):=by
 intro pins s σ H x y v u Q I rx ry h
 obtain⟨i,j,rfl,rfl,q⟩:=h
 obtain⟨t,rfl⟩:=rx
 obtain⟨t',rfl⟩:=ry
 exact rule i j t t' s _ _ ⟨.bl (g i j),H,I,rfl,q⟩
noncomputable def j31 (i j:Int):Prop:=0<j/\j<1073741824
noncomputable def j1y (i j:Int):Prop:=(-(2 ^ 64)<i/\i<2 ^ 64)\/(-(2 ^ 64)<j/\j<2 ^ 64)
theorem j1y.ok {i j:Int} (h:j1y i j):IntMulOk i j:=by
 rcases h with⟨h1,h2⟩ | ⟨h1,h2⟩
 ·exact .of_left (intBits_le_64 h1 h2)
 ·exact .of_right (intBits_le_64 h1 h2)
theorem z77:OpR X (binaryOp .Add) (rI0 fun i j=>.int (i+j)):=j3i fun _ _ _ _ _ _ _ q=>add_int q
theorem j0f:OpR X (binaryOp .Mult) (rI j1y fun i j=>.int (i*j)):=opI fun _ _ _ _ _ _ _ hc q=>mul_int q hc.ok
theorem z4h:OpR X (binaryOp .FloorDiv) (rI j31 fun i j=>.int (i / j)):=opI fun i j _ _ _ _ _ hc q=>by
 have h1:(0:Int)<j:=hc.1
 have h2:j<1073741824:=hc.2
 exact floordiv_int (by omega) (by rw[Int.fdiv_eq_ediv_of_nonneg i (by omega)]; exact q) (.inl (PyProof.noPylong_small (by omega)))
theorem z78:OpR X (binaryOp .Mod) (rI (fun _ j=>0<j) fun i j=>.int (i % j)):=opI fun i j _ _ _ _ _ hc q=>by
 have h1:(0:Int)<j:=hc
 exact mod_int' (by omega) (by rw[Int.fmod_eq_emod_of_nonneg i (by omega)]; exact q)
end
section
variable {X:Cx} {a b c:Expr} {ta tb tc:TE} {pos:Pos}
theorem z9c:OpR X (compareOp .Lt) (rI0 fun i j=>.bl (decide (i<j))):=j1c fun _ _ _ _ _ _ _ q=>lt_int q
theorem j26:OpR X (compareOp .LtE) (rI0 fun i j=>.bl (decide (i<=j))):=j1c fun _ _ _ _ _ _ _ q=>le_int q
theorem j1l:OpR X (compareOp .Gt) (rI0 fun i j=>.bl (decide (j<i))):=j1c fun _ _ _ _ _ _ _ q=>gt_int q
theorem OpR.or {f:Value->Value->Sem Value} {r r':R2} (h:OpR X f r) (h':OpR X f r'):OpR X f (fun x y H Q=>r x y H Q\/r' x y H Q):=by
 intro pins s σ H x y v u Q I rx ry q
 rcases q with q | q
 ·exact h pins s σ H x y v u Q I rx ry q
 ·exact h' pins s σ H x y v u Q I rx ry q
theorem y4j (b:Expr) {op:CmpOp} (h:op ≠ .In:=by decide) (h2:op ≠ .NotIn:=by decide):behindInMarks op b=false:=by
 have e1:(op == CmpOp.In)=false:=by cases op <;> first | rfl | exact absurd rfl h
 have e2:(op == CmpOp.NotIn)=false:=by cases op <;> first | rfl | exact absurd rfl h2
 cases b <;> simp[behindInMarks,e1,e2]
theorem z49 {op:CmpOp} {r:R2} (ho:OpR X (compareOp op) r) (ha:PE X a ta) (hb:PE X b tb) (hm:behindInMarks op b=false):PE X (.Compare a [op] [b] pos) (tOp r ta tb):=by
 intro pins s σ H Q I h
 exact wpAny_Compare1 (j1f ha hb I h fun v u s2 x y H2 I2 rx ry q=>ho pins s2 σ H2 x y v u Q I2 rx ry q) hm
noncomputable def z9j (t:TE):TT:=fun σ H Q=>t σ H fun x H'=>∃ k,x=.bl k/\Q k H'
theorem z47 {op:CmpOp} {r:R2} (ho:OpR X (compareOp op) r) (ha:PE X a ta) (hb:PE X b tb) (hm:behindInMarks op b=false):PT X (.Compare a [op] [b] pos) (z9j (tOp r ta tb)):=by
 intro pins s σ H Q I h
 refine wpAny_isTrue_Compare1 (thn (ha pins s σ H _ I h) fun v s1 ⟨x,H1,I1,r1,q1⟩=>thn (hb pins s1 σ H1 _ I1 q1) fun u s2 ⟨y,H2,I2,r2,q2⟩=>
  thn (ho pins s2 σ H2 x y v u _ I2 r1 r2 q2) fun c s3 ⟨z,H3,I3,r3,k,e,q3⟩=>?_) hm
 subst e
 cases r3
 exact wpAny_truthy_bool ⟨H3,I3,q3⟩
noncomputable def z80 (r r':R2) (ta tb tc:TE):TE:=fun σ H Q=>ta σ H fun x H1=>tb σ H1 fun y H2=>r x y H2 fun z H3=>∃ k,z=.bl k /\
 (if k=true then tc σ H3 fun w' H4=>r' y w' H4 Q else Q (.bl false) H3)
theorem z20 {op op':CmpOp} {r r':R2} (ho:OpR X (compareOp op) r) (ho':OpR X (compareOp op') r') (ha:PE X a ta) (hb:PE X b tb) (hc:PE X c tc)
  (hm:lastMarks [op,op'] [b,c]=false:=by with_unfolding_all rfl):PE X (.Compare a [op,op'] [b,c] pos) (z80 r r' ta tb tc):=by
 intro pins s σ H Q I h
 refine Compare_chain (thn (ha pins s σ H _ I h) fun v s1 ⟨x,H1,I1,r1,q1⟩=>chain_link (thn (hb pins s1 σ H1 _ I1 q1) fun u s2 ⟨y,H2,I2,r2,q2⟩=>
  thn (ho pins s2 σ H2 x y v u _ I2 r1 r2 q2) fun d s3 ⟨z,H3,I3,r3,k,e,q3⟩=>?_)) hm
 subst e
 cases r3
 refine wpAny_truthy_bool ?_
 cases k with
 | false=>exact ite_ff ⟨.bl false,H3,I3,rfl,q3⟩
 | true=>exact ite_tt (chain_last (thn (hc pins s3 σ H3 _ I3 q3) fun w' s4 ⟨z',H4,I4,r4,q4⟩=>ho' pins s4 σ H4 y z' u w' Q I4 r2 r4 q4))
noncomputable def j2d (K:PySem.W.Frag) (x:V) (H:Hp) (k:Bool):Prop:=
 match x with
 | .non=>k=false
 | .bl b=>k=b
 | .int i=>k=(i != 0)
 | .str y=>y.length<=sizeLine/\k=((y.length:Int) != 0)
 | .byt y=>y.size<=sizeLine/\k=((y.size:Int) != 0)
 | .ref p=>(∃ xs,SqL K H p xs/\k = !xs.isEmpty)\/(∃ xs,SqT K H p xs/\k = !xs.isEmpty)\/∃ kvs,H p=some (.dK kvs)/\k = !kvs.isEmpty
 | _=>False
theorem y6z {κ:Type} {kvs:List (κ × V)} {vs:List (κ × Value)} (r:KV kvs vs):(!vs.isEmpty) = !kvs.isEmpty:=by
 cases r <;> rfl
theorem y18 {xs:List V} {its:List Value} (r:x2j xs its):(!its.toArray.isEmpty) = !xs.isEmpty:=by
 cases r <;> simp
theorem y1i:(sizeLine:Nat)<2 ^ 63:=by rw[sizeLine_eq]; decide
theorem z8p:j2v X (fun x H Q=>∃ k,j2d X.K x H k/\Q k H):=by
 intro pins s σ H x v Q I rx h
 obtain⟨k,e,q⟩:=h
 have hl:=y1i
 have hs:sizeLine=16777216:=sizeLine_eq
 cases x with
 | non=>
  cases rx
  have e':k=false:=e
  subst e'
  exact truthy_none ⟨H,I,q⟩
 | bl b=>
  cases rx
  have e':k=b:=e
  subst e'
  exact wpAny_truthy_bool ⟨H,I,q⟩
 | int i=>
  obtain⟨t,rfl⟩:=rx
  have e':k=(i != 0):=e
  subst e'
  exact PySem.P.truthy_int ⟨H,I,q⟩
 | str y=>
  obtain⟨t,rfl⟩:=rx
  obtain⟨hy,e'⟩:y.length<=sizeLine/\k=((y.length:Int) != 0):=e
  subst e'
  exact PySem.P.truthy_str (by omega) ⟨H,I.tok _,q⟩
 | byt y=>
  obtain⟨t,rfl⟩:=rx
  obtain⟨hy,e'⟩:y.size<=sizeLine/\k=((y.size:Int) != 0):=e
  subst e'
  exact PySem.W.truthy_bytes (by omega) ⟨H,I.tok _,q⟩
 | ref p=>
  cases rx
  have e':(∃ xs,SqL X.K H p xs/\k = !xs.isEmpty)\/(∃ xs,SqT X.K H p xs/\k = !xs.isEmpty)\/∃ kvs,H p=some (.dK kvs)/\k = !kvs.isEmpty:=e
  rcases e' with⟨xs,hx,e'⟩ | ⟨xs,hx,e'⟩ | ⟨kvs,hx,e'⟩
  ·subst e'
   obtain⟨its,r,pl,hz⟩:=I.list hx
   have hlen:=r.length
   exact wpAny_truthy_list pl.isList (by simp only[List.size_toArray]; omega) ⟨H,I.tok _,by rw[y18 r]; exact q⟩
  ·subst e'
   obtain⟨its,r,pl,hz⟩:=I.tuple hx
   have hlen:=r.length
   exact truthy_tuple pl (by simp only[List.size_toArray]; omega) ⟨H,I.tok _,by rw[y18 r]; exact q⟩
  ·subst e'
   obtain⟨hz,hS,vs,r,m⟩:kvs.length<=sizeLine/\(p == sysModules)=false/\∃ vs,KV kvs vs/\s.heap.DictOf (x2r X.prog X.w) p vs:=I.hok p _ hx
   have hlen:kvs.length=vs.length:=Paired.length r
   exact wpAny_truthy_dict hS m (by omega) ⟨H,I.tok _,by rw[y6z r]; exact q⟩
 | _=>exact(show False from e).elim
theorem z1t (ha:PE X a ta) (he:∀ whole,isTrue a X.env whole=(do let v <- whole; standAt a.pos; holding [v] (truthy v))) :
  PT X a (fun σ H Q=>ta σ H fun x H'=>∃ k,j2d X.K x H' k/\Q k H'):=by
 intro pins s σ H Q I h
 exact isTrue_plain (thn (ha pins s σ H _ I h) fun v s1 ⟨x,H1,I1,r1,q1⟩=>z8p pins s1 σ H1 x v Q I1 r1 q1) (he _)
theorem y4u {x:V} {us:List Value} (r:x2j [x] us):∃ u,us=[u]/\x3i x u:=by
 cases r with
 | cons r1 r2=>cases r2; exact⟨_,rfl,r1⟩
theorem z75 {x y:V} {us:List Value} (r:x2j [x,y] us):∃ u w',us=[u,w']/\x3i x u/\x3i y w':=by
 cases r with
 | cons r1 r2=>
  cases r2 with
  | cons r3 r4=>cases r4; exact⟨_,_,rfl,r1,r3⟩
theorem y9j (hc:X.calm=true):y0s X (.builtin "max") (fun xs H Q=>∃ i j,xs=[.int i,.int j]/\Q (.int (if j > i then j else i)) H):=by
 intro pins s σ H xs us Q I r h
 obtain⟨i,j,rfl,q⟩:=h
 obtain⟨u,w',rfl,⟨t,rfl⟩,⟨t',rfl⟩⟩:=z75 r
 refine max_two_ints (I.ok.hd hc) fun h' tk k=>⟨_,H,I.kept k,?_,q⟩
 by_cases hj:j > i
 ·rw[if_pos hj,if_pos hj]; exact⟨_,rfl⟩
 ·rw[if_neg hj,if_neg hj]; exact⟨_,rfl⟩
end
structure ObjM (h:Heap) (x dx C:Addr) (mA:Str->Option Value):Prop where
 obj:h.get? x=some (PySem.W.instObj C dx)
 ns:h.Ns1 dx mA
 ne:dx≠x
theorem y7s {h:Heap} {dx:Addr} {mA:Str->Option Value} (n:h.Ns1 dx mA):∃ od,h.get? dx=some od/\∀ name,PySem.W.lookIn name od=some (mA name):=by
 obtain⟨o,es,ep,ho,hd,hk,_,hm⟩:=n
 refine⟨o,ho,fun name=>?_⟩
 have e:=hm name
 unfold nsFind findBy at e
 rw[<- Array.find?_toList]at e
 unfold PySem.W.lookIn
 rw[hd]
 dsimp only
 split
 ·rename_i y q
  rw[q]at e
  exact congrArg some e
 ·rename_i q
  rw[q]at e
  have a:es.toList.any (·.refKey)=false:=by
   rw[List.any_eq_false]
   intro y hy
   obtain⟨z,t,hkey⟩:=hk y (Array.mem_toList_iff.mp hy)
   simp[DictEntry.refKey,hkey]
  have a':¬ es.toList.any (·.refKey)=true:=by rw[a]; exact Bool.false_ne_true
  rw[if_neg a']
  exact congrArg some e
theorem ObjM.look {h:Heap} {x dx C:Addr} {mA:Str->Option Value} (I:ObjM h x dx C mA):∃ od,PySem.W.InstAt h x (PySem.W.instObj C dx) C (some od)/\∀ name,PySem.W.lookIn name od=some (mA name):=
 let ⟨od,ho,hl⟩:=y7s I.ns
 ⟨od,⟨I.obj,rfl,rfl,ho⟩,hl⟩
section
variable {prog:Program} {w:World} {A:Around} {E:Value->Shared->Prop} {s:Shared} {K:PySem.W.Frag} {x dx C f:Addr} {mA:Str->Option Value} {name:Str} {v:Value}
end
section
variable {P:Program} {w:World} {H H':Hp} {h h':Heap} {a C dx:Addr} {fs fs':List (Str × V)}
theorem z3v (hok:HOk P w H h) (e:H a=some (.ins C dx fs)):∃ mA,ObjM h a dx C mA/\(∀ f,z61 (fs.lookup f) (mA f))/\PySem.Within mA (fs.map (·.1))/\fs.length<=1000/\H dx=some (.own a):=by
 obtain⟨d,z,ne,ob,mA,n,r,q⟩:=(show x2a P w H h a (.ins C dx fs)from hok a _ e)
 exact⟨mA,⟨ob,n,ne⟩,r,q,z,d⟩
end
structure Cls (K:PySem.W.Frag) (C:Addr):Prop where
 pg:PySem.W.plainGet K C Str.empty=true
 hd:PySem.W.hasDictIn K C=true
 po:PySem.W.plainOver K C=true
 sa:PySem.W.findIn K (.ref C) "__setattr__" = some (some (.builtin "object.__setattr__"))
theorem Cls.get {K:PySem.W.Frag} {C:Addr} (c:Cls K C) (f:Str):PySem.W.plainGet K C f=true:=c.pg
section
variable {X:Cx} {pins:List (Addr × Obj)} {σ:St} {H:Hp} {s:Shared} {a C dx:Addr} {fs:List (Str × V)} {f:Str} {v:V} {A:Around} {E:Value->Shared->Prop}
end
section
variable {X:Cx} {pins:List (Addr × Obj)} {σ:St} {H:Hp} {s:Shared} {A:Around} {E:Value->Shared->Prop} {Q:Value->Shared->Prop} {c:Value} {b:Bool}
inductive TyOf (K:PySem.W.Frag) (H:Hp):V->Value->Prop where
 | non:TyOf K H .non (.type "NoneType")
 | bl (x:Bool):TyOf K H (.bl x) (.type "bool")
 | int (i:Int):TyOf K H (.int i) (.type "int")
 | str (x:Str):TyOf K H (.str x) (.type "str")
 | flt (x:UInt64):TyOf K H (.flt x) (.type "float")
 | lst {a:Addr} {xs:List V} (e:H a=some (.lst xs)):TyOf K H (.ref a) (.type "list")
 | frz {a:Addr} {o:Obj} {xs:List V} (e:H a=some (.frz o (.lst xs))):TyOf K H (.ref a) (.type "list")
 | tup {a:Addr} {xs:List V} (e:H a=some (.tup xs)):TyOf K H (.ref a) (.type "tuple")
 | dK {a:Addr} {kvs:List (Key × V)} (e:H a=some (.dK kvs)):TyOf K H (.ref a) (.type "dict")
 | dT {a:Addr} {kvs:List (List Key × V)} (e:H a=some (.dT kvs)):TyOf K H (.ref a) (.type "dict")
 | ins {a C dx:Addr} {fs:List (Str × V)} (e:H a=some (.ins C dx fs)) (cl:Cls K C) (ha:PySem.W.findIn K (.ref C) "__class__" = some (some (.builtin "object.__class__")))
   (hn:PySem.W.specialIn K (.builtin "object.__class__") "__get__" = some (some (.builtin "getset_descriptor.__get__"))) (htk:PySem.W.takesIn K (.builtin "object.__class__")=some true)
   (hm:PySem.W.mroIn K C (.type "object")=some true):TyOf K H (.ref a) (.ref C)
theorem x3f {x:V} {u t:Value} (I:Inv X pins σ H s) (rx:x3i x u) (ty:TyOf X.K H x t) (e:PySem.W.kitOne X.K t c=some b) (h:∀ tk,Q (.bool b) { s with toks:=tk }) :
  wpAny (model X.prog X.w) A (call (.builtin "isinstance") [u,c]) Q E s:=by
 cases ty with
 | non=>cases (show u=Value.none from rx); exact PySem.W.kia_one PySem.W.kitx_none I.kIn True.intro e (fun z=>nomatch z) h
 | bl y=>cases (show u=Value.bool y from rx); exact PySem.W.kia_one PySem.W.kitx_bool I.kIn True.intro e (fun z=>nomatch z) h
 | int i=>obtain⟨t,q⟩:=(show ∃ t,u=Value.int i t from rx); cases q; exact PySem.W.kia_one PySem.W.kitx_int I.kIn True.intro e (fun z=>nomatch z) h
 | str y=>obtain⟨t,q⟩:=(show ∃ t,u=Value.str y t from rx); cases q; exact PySem.W.kia_one PySem.W.kitx_str I.kIn True.intro e (fun z=>nomatch z) h
 | flt y=>obtain⟨t,q⟩:=(show ∃ t,u=Value.float y t from rx); cases q; exact PySem.W.kia_one PySem.W.kitx_float I.kIn True.intro e (fun z=>nomatch z) h
 | @lst a xs ea=>
  cases (show u=Value.ref a from rx)
  obtain⟨_,_,n,_,h1⟩:=(show x2a X.prog X.w H s.heap a (.lst xs)from I.hok a _ ea)
  exact PySem.W.kia_one PySem.W.kitx_list I.kIn ⟨_,h1,rfl⟩ e (fun z=>nomatch z) h
 | @frz a ob xs ea=>
  cases (show u=Value.ref a from rx)
  obtain⟨_,_,_,n,_,h1⟩:=(show x2a X.prog X.w H s.heap a (.frz ob (.lst xs))from I.hok a _ ea)
  exact PySem.W.kia_one PySem.W.kitx_list I.kIn ⟨_,h1,rfl⟩ e (fun z=>nomatch z) h
 | @tup a xs ea=>
  cases (show u=Value.ref a from rx)
  obtain⟨_,_,_,p⟩:=(show x2a X.prog X.w H s.heap a (.tup xs)from I.hok a _ ea)
  obtain⟨o,h1,h2,_⟩:=p
  exact PySem.W.kia_one PySem.W.kitx_tuple I.kIn ⟨o,h1,h2⟩ e (fun z=>nomatch z) h
 | @dK a kvs ea=>
  cases (show u=Value.ref a from rx)
  obtain⟨_,_,vs,_,p⟩:=(show x2a X.prog X.w H s.heap a (.dK kvs)from I.hok a _ ea)
  obtain⟨o,es,ep,h1,h2,_⟩:=p
  exact PySem.W.kia_one PySem.W.kitx_dict I.kIn ⟨o,h1,h2.1⟩ e (fun z=>nomatch z) h
 | @dT a kvs ea=>
  cases (show u=Value.ref a from rx)
  obtain⟨_,_,xs,_,o,es,ep,h1,h2,_⟩:=(show x2a X.prog X.w H s.heap a (.dT kvs)from I.hok a _ ea)
  exact PySem.W.kia_one PySem.W.kitx_dict I.kIn ⟨o,h1,h2.1⟩ e (fun z=>nomatch z) h
 | @ins a C dx fs ea cl ha hn htk hm=>
  cases (show u=Value.ref a from rx)
  obtain⟨mA,O,_⟩:=z3v I.hok ea
  obtain⟨od,J,_⟩:=O.look
  exact PySem.W.kia_one (PySem.W.kitx_own (cl.get _) cl.hd ha hn htk hm) I.kIn J e (fun z=>nomatch z) h
end
structure Room (k:Nat) (A:Around):Prop where
 hd:A.handled=none
 dp:A.depth+3*k+5<recursionLimit
 un:A.units+16*k+200<cLine
theorem Room.mono {j k:Nat} {A:Around} (r:Room k A) (h:j<=k):Room j A:=⟨r.hd,by have:=r.dp; omega,by have:=r.un; omega⟩
theorem Room.deeper {k:Nat} {A:Around} (r:Room (k+1) A) (env:Env):Room k (A.deeper env):=
 ⟨r.hd,by have:=r.dp; show A.depth+1+3*k+5<_; omega,by have:=r.un; show A.units+3+16*k+200<_; omega⟩
theorem Room.depth {k:Nat} {A:Around} (r:Room k A):A.depth<recursionLimit:=by have:=r.dp; omega
theorem Room.units {k:Nat} {A:Around} (r:Room k A):A.units+64<cLine:=by have:=r.un; omega
noncomputable def j2e:TA:=fun _ H Q=>Q [] H
noncomputable def j0c (ta:TE) (tr:TA):TA:=fun σ H Q=>ta σ H fun x H1=>tr σ H1 fun xs H2=>Q (x::xs) H2
section
variable {X:Cx} {e:Expr} {es:List Expr} {te:TE} {t:TA} {pos:Pos}
theorem y1n:PA X [] j2e:=fun _ _ _ _ H Q I h=>Calls.spliced_nil ⟨[],H,I,.nil,h⟩
theorem x6x (ha:PE X e te) (hr:PA X es t) (hs:starEach (e::es) X.env=(false,eval e X.env)::starEach es X.env:=by rfl):PA X (e::es) (j0c te t):=by
 intro pos pins s σ H Q I h
 rw[hs]
 show wpAny _ _ (spliced ((false,eval e X.env)::backTo pos (starEach es X.env))) _ _ s
 refine Calls.spliced_cons (thn (ha pins s σ H _ I h) fun u s1 hh0=>?_)
 obtain⟨x,H1,I1,r1,q1⟩:=hh0
 exact thn (hr pos pins s1 σ H1 _ I1 q1) fun us s2 ⟨xs,H2,I2,r2,q2⟩=>⟨x::xs,H2,I2,.cons r1 r2,q2⟩
noncomputable def j36 (t:TA):TE:=fun σ H Q=>t σ H fun xs H1=>xs.length<=sizeLine/\∀ p,H1 p=none->Q (.ref p) (upd H1 p (.tup xs))
noncomputable def j2u (t:TA):TE:=fun σ H Q=>t σ H fun xs H1=>xs.length<=sizeLine/\∀ p,H1 p=none->Q (.ref p) (upd H1 p (.lst xs))
theorem z81 {x1} (h:PA X es t):PE X (.Tuple es x1 pos) (j36 t):=by
 intro pins s σ H Q I hq
 refine wpAny_Tuple_spliced (thn (h pos pins s σ H _ I hq) fun us s1 ⟨xs,H1,I1,r,z,q⟩=>⟨by rw[<- r.length]; exact z,?_⟩)
 have hf:H1 s1.heap.objs.size=none:=I1.hok.fresh (Nat.le_refl _)
 refine⟨.ref s1.heap.objs.size,upd H1 s1.heap.objs.size (.tup xs),I1.laid (t':=s1.toks) (fun b u e=>Heap.get?_push_of_some _ e) (Nat.le_refl _) ?_,rfl,q _ hf⟩
 exact⟨z,us,r,⟨_,Heap.get?_push_size _ rfl,rfl,⟨_,rfl⟩,rfl⟩⟩
theorem z9n (h:PA X es t):PE X (.List es pos) (j2u t):=by
 intro pins s σ H Q I hq
 refine wpAny_List_spliced (thn (h pos pins s σ H _ I hq) fun us s1 ⟨xs,H1,I1,r,z,q⟩=>⟨by rw[<- r.length]; exact z,?_⟩)
 have hf:H1 s1.heap.objs.size=none:=I1.hok.fresh (Nat.le_refl _)
 refine⟨.ref s1.heap.objs.size,upd H1 s1.heap.objs.size (.lst xs),I1.laid (t':=s1.toks) (fun b u e=>Heap.get?_push_of_some _ e) (Nat.le_refl _) ?_,rfl,q _ hf⟩
 exact⟨z,us,0,r,Heap.get?_push_size _ rfl⟩
end
noncomputable abbrev Sp:=List V->Hp->VK->XK->Prop
noncomputable abbrev CXT:=List Env->Hp->Shared->XK->Value->Shared->Prop
structure Env0 (P:Program) (w:World) (K:PySem.W.Frag) (mg:Str->Option Value) (base:Heap) (A:Around) (outer:List Env) (s:Shared) (H:Hp):Prop where
 frames:A.frames=some outer
 mod:Mod K mg base
 bs:∀ b o,base.get? b=some o->s.heap.get? b=some o/\H b=none
 bsz:base.objs.size<=s.heap.objs.size
 funs:s.heap.FunFrames base outer
 frf:∀ b∈frs outer,H b=none
 hok:HOk P w H s.heap
 bare:AllBare s.gens
noncomputable def CE (outer:List Env) (P:Program) (w:World) (H:Hp) (s:Shared) (Q:VK) (u:Value) (s':Shared):Prop:=
 ∃ v H',s'.os=s.os/\AllBare s'.gens/\Un (frs outer) [] H H' s.heap s'.heap/\HOk P w H' s'.heap/\x3i v u/\Q v H'
noncomputable def CR (CX:CXT) (outer:List Env) (P:Program) (w:World) (H:Hp) (s:Shared) (Q:VK) (E:XK) (r:Result) (s':Shared):Prop:=
 match r with
 | .ok (.ret u)=>CE outer P w H s Q u s'
 | .ok _=>False
 | .error e=>CX outer H s E e s'
structure FnOk (P:Program) (w:World) (K:PySem.W.Frag) (mg:Str->Option Value) (base:Heap) (CX:CXT) (k:Nat) (f:Addr) (fd:FuncData) (ps:List Str) (sp:Sp):Prop where
 len:∀ vs H Q E,sp vs H Q E->vs.length=ps.length
 run:∀ (A:Around) (outer:List Env) (s:Shared) (H:Hp) (args:Args) (us:List Value) (vs:List V) (Q:VK) (E:XK),Room k A->Env0 P w K mg base A outer s H->BindsTo s fd args (ps.zip us)->x2j vs us->sp vs H Q E->
  codeAny (model P w) A (.call (.ref f) args) (CR CX outer P w H s Q E) s
section
variable {X:Cx} {pins:List (Addr × Obj)} {σ:St} {H:Hp} {s s':Shared}
theorem Inv.env0 (I:Inv X pins σ H s):Env0 X.prog X.w X.K X.mg X.base X.A X.stack s H:=
 ⟨I.ok.frames,I.ok.mod,I.bs,Nat.le_trans I.ok.bsz I.sz,I.stack,I.stkFree,I.hok,I.bare⟩
theorem Inv.after {Q:VK} {u:Value} (I:Inv X pins σ H s) (h:CE X.stack X.prog X.w H s Q u s'):EP X pins σ Q u s':=by
 obtain⟨v,H',os,bare,un,hok,r,q⟩:=h
 obtain⟨hh,g,d,t,os'⟩:=s'
 obtain rfl:os'=s.os:=os
 exact⟨v,H',I.call (h':=hh) (g':=g) (d':=d) (t':=t) (ch:=[]) un hok bare (fun b z=>absurd z (by simp)),r,q⟩
end
noncomputable def j0y (sp:Sp) (dvs:List V) (E:XK) (t:TA):TE:=fun σ H Q=>t σ H fun vs H1=>sp (vs++dvs) H1 Q E
noncomputable def y31 (K:PySem.W.Frag) (fd:FuncData) (ps:List Str) (ds:List Value):Prop:=
 ∀ (s:Shared) (us:List Value),K.In s.heap->(us++ds).length=ps.length->BindsTo s fd ⟨us,[]⟩ (ps.zip (us++ds))
theorem y31.all {K:PySem.W.Frag} {fd:FuncData} {ps:List Str} (h:∀ us:List Value,us.length=ps.length->bindArgs fd ⟨us,[]⟩=pure (ps.zip us)):y31 K fd ps []:=fun s us _ hl=>by
 rw[List.append_nil]at hl ⊢
 exact .of_eq (h us hl)
noncomputable def y5y (CX:CXT) (X:Cx) (E:XK):Prop:=∀ (pins:List (Addr × Obj)) (σ:St) (H:Hp) (s:Shared) (e:Value) (s':Shared),Inv X pins σ H s->CX X.stack H s E e s'->X.xe e s'
section
variable {X:Cx} {CX:CXT} {k:Nat} {f C:Addr} {fd:FuncData} {ps:List Str} {sp:Sp} {dvs:List V} {ds:List Value} {E:XK} {x m:Str} {p pos apos:Pos} {e o:Expr} {es:List Expr} {ta:TE} {t:TA}
theorem z8q {pins:List (Addr × Obj)} {σ:St} {H:Hp} {s:Shared} {Q:VK} {us:List Value} {vs:List V} (F:FnOk X.prog X.w X.K X.mg X.base CX k f fd ps sp) (hr:Room k X.A) (hb:y31 X.K fd ps ds) (hd:x2j dvs ds) (hx:y5y CX X E)
  (I:Inv X pins σ H s) (r:x2j vs us) (h:sp (vs++dvs) H Q E):wpAny (model X.prog X.w) X.A (call (.ref f) us) (EP X pins σ Q) X.xe s:=by
 have r2:x2j (vs++dvs) (us++ds):=r.append hd
 have hl:(us++ds).length=ps.length:=by rw[<- r2.length]; exact F.len _ _ _ _ h
 refine wpAny_call (codeAny_mono (F.run X.A X.stack s H ⟨us,[]⟩ (us++ds) (vs++dvs) Q E hr I.env0 (hb s us I.kIn hl) r2 h) fun r s' hq=>?_)
 cases r with
 | error e=>exact hx pins σ H s e s' I hq
 | ok fl=>
  cases fl with
  | ret u=>exact I.after hq
  | next=>exact False.elim hq
  | brk=>exact False.elim hq
  | cont=>exact False.elim hq
theorem z6s (F:FnOk X.prog X.w X.K X.mg X.base CX k f fd ps sp) (hr:Room k X.A) (hg:Gl X x) (hm:X.mg x=some (.ref f)) (hk:PySem.W.keepIn X.K (.ref f)=true) (hb:y31 X.K fd ps ds) (hd:x2j dvs ds) (hx:y5y CX X E)
  (ha:PA X (e::es) t) (hdb:(x == ("__debug__":Str))=false:=by decide) (he:starEach (e::es) X.env=(false,eval e X.env)::starEach es X.env:=by rfl) (hpl:(backTo pos (starEach es X.env)).any (·.1)=false:=by rfl) :
  PE X (.Call (.Name x p) (e::es) [] pos) (j0y sp dvs E t):=by
 intro pins s σ H Q I h
 refine wpAny_Call_Name_kw (y5h I hg hm ?_ hdb)
 refine PySem.W.callWith_K (h₀:=X.base) I.ok.mod.kin hk (thn (ha pos pins s σ H _ I h) fun us s1 ⟨vs,H1,I1,r,q⟩=>⟨I1.kIn,?_⟩) he hpl
 exact z8q F hr hb hd hx I1 r q
end
structure FnScope (N P:List Str) (sc:Scope):Prop where
 kind:sc.kind=.function
 co:sc.isCoroutine=false
 gen:sc.isGenerator=false
 nd:N.Nodup
 pre:N.take P.length=P
 par:∀ x∈P,sc.names.lookup x=some .local\/sc.names.lookup x=some .cell
 nofree:∀ y∈sc.names,y.2 ≠ .free
theorem y4b {kindOf:Str->Option NameKind} {x:Str}:∀ {binds:List (Str × Value)} {m:Str->Option Value},(∀ v,(x,v) ∉ binds)->bindL kindOf binds m x=m x
 | [],_,_=>rfl
 | (n,v)::r,m,h=>by
  unfold bindL
  rw[y4b fun w hw=>h w (List.mem_cons_of_mem _ hw)]
  split
  ·have:x≠n:=by rintro rfl; exact h v List.mem_cons_self
   simp[this]
  ·rfl
theorem y4h {kindOf:Str->Option NameKind} {x:Str}:∀ {binds:List (Str × Value)} {m:Str->Option Value},(∀ v,(x,v) ∉ binds)->bindC kindOf binds m x=m x
 | [],_,_=>rfl
 | (n,v)::r,m,h=>by
  unfold bindC
  rw[y4h fun w hw=>h w (List.mem_cons_of_mem _ hw)]
  split
  ·rfl
  ·have:x≠n:=by rintro rfl; exact h v List.mem_cons_self
   simp[this]
theorem y3y {kindOf:Str->Option NameKind} {x:Str} {v:Value}:∀ {P:List Str} {vs:List Value} {i:Nat} {m:Str->Option Value},P.Nodup->P[i]? = some x->vs[i]? = some v->kindOf x=some .local->
  bindL kindOf (P.zip vs) m x=some v
 | [],_,_,_,_,h,_,_=>by simp at h
 | _::_,[],_,_,_,_,h,_=>by simp at h
 | p::P,w::vs,0,m,nd,h1,h2,hk=>by
  simp at h1 h2; subst h1; subst h2
  show bindL kindOf ((p,w)::P.zip vs) m p=_
  unfold bindL
  rw[y4b fun v hv=>(List.nodup_cons.mp nd).1 (List.of_mem_zip hv).1,if_pos hk]
  simp
 | p::P,w::vs,i+1,m,nd,h1,h2,hk=>by
  show bindL kindOf ((p,w)::P.zip vs) m x=_
  unfold bindL
  exact y3y (i:=i) (List.nodup_cons.mp nd).2 (by simpa using h1) (by simpa using h2) hk
theorem y3n {kindOf:Str->Option NameKind} {x:Str} {v:Value}:∀ {P:List Str} {vs:List Value} {i:Nat} {m:Str->Option Value},P.Nodup->P[i]? = some x->vs[i]? = some v->kindOf x≠some .local->
  bindC kindOf (P.zip vs) m x=some v
 | [],_,_,_,_,h,_,_=>by simp at h
 | _::_,[],_,_,_,_,h,_=>by simp at h
 | p::P,w::vs,0,m,nd,h1,h2,hk=>by
  simp at h1 h2; subst h1; subst h2
  show bindC kindOf ((p,w)::P.zip vs) m p=_
  unfold bindC
  rw[y4h fun v hv=>(List.nodup_cons.mp nd).1 (List.of_mem_zip hv).1,if_neg hk]
  simp
 | p::P,w::vs,i+1,m,nd,h1,h2,hk=>by
  show bindC kindOf ((p,w)::P.zip vs) m x=_
  unfold bindC
  exact y3n (i:=i) (List.nodup_cons.mp nd).2 (by simpa using h1) (by simpa using h2) hk
noncomputable def y0v (N:List Str) (vs:List V):St:=vs.map some++List.replicate (N.length-vs.length) none
noncomputable def y26 (CX:CXT) (P:Program) (w:World) (K:PySem.W.Frag) (mg:Str->Option Value) (base:Heap) (N:List Str) (qual:Str) (scope:Scope) (f:Addr) (cd:Value) (A:Around) (outer:List Env) (s:Shared) (H:Hp) (E:XK):Cx where
 prog:=P
 w:=w
 K:=K
 mg:=mg
 base:=base
 A:=A.deeper (envOfC qual scope s.heap.objs.size f cd)
 N:=N
 s₀:=s
 H₀:=H
 env:=envOfC qual scope s.heap.objs.size f cd
 outer:=outer
 stack:=envOfC qual scope s.heap.objs.size f cd::outer
 ex:=[]
 calm:=true
 fn:=fun _=>true
 pn:=[]
 xe:=fun e s'=>wpAny (model P w) (A.deeper (envOfC qual scope s.heap.objs.size f cd)) (leaving (envOfC qual scope s.heap.objs.size f cd) e) (fun _ s''=>CX outer H s E e s'') (fun e' s''=>CX outer H s E e' s'') s'
theorem y5v {sc:Scope} {n:Nat} {x:Str} (h:sc.names.lookup x=some .cell):∃ c,(cellsFrom n sc.names []).lookup x=some c:=by
 have q:=PySem.W.cellsFrom_some sc.names n [] (.inl h)
 exact Option.isSome_iff_exists.mp q
theorem y8a {CX:CXT} {P:Program} {w:World} {K:PySem.W.Frag} {mg:Str->Option Value} {base:Heap} {N ps:List Str} {qual:Str} {scope:Scope} {f:Addr} {cd:Value} {A:Around} {outer:List Env} {s s1:Shared} {H:Hp} {E:XK} {us:List Value} {vs:List V}
  (S:FnScope N ps scope) (hd:A.handled=none) (e0:Env0 P w K mg base A outer s H) (hl:vs.length=ps.length) (r:x2j vs us)
  (x:InCallC s s.heap.objs.size (bindL (envOfC qual scope s.heap.objs.size f cd).kindOf (ps.zip us) fun _=>none) (cellsFrom (s.heap.objs.size+1) scope.names []) (bindC (envOfC qual scope s.heap.objs.size f cd).kindOf (ps.zip us) fun _=>none) s1) :
  Inv (y26 CX P w K mg base N qual scope f cd A outer s H E) [] (y0v N vs) H s1:=by
 have hpl:ps.length<=N.length:=by have:=congrArg List.length S.pre; rw[List.length_take]at this; omega
 obtain⟨h1,tk,rfl,hk⟩:=x.done
 have noA:∀ b:Addr,b ∉ (y26 CX P w K mg base N qual scope f cd A outer s H E).ex:=fun b z=>absurd (show b∈([]:List Addr)from z) (by simp)
 refine⟨⟨e0.mod,S.kind,rfl,rfl,Nat.le_refl _,fun y z c h1 h2=>?_,fun y hy=>?_,fun y c _ h=>?_,fun _=>hd,Around.frames_deeper e0.frames,.inr ⟨rfl,rfl⟩,fun b z=>absurd z (noA b),e0.bs,e0.bsz,fun b _ _=>noA b,fun b z=>absurd z (noA b),e0.funs,e0.frf⟩,
  rfl,e0.bare,Un.kept hk,⟨_,x.toInCall.ns,fun i y v h1 h2 h3=>?_⟩,fun y c h=>⟨_,x.cell y c h⟩,e0.hok.fresh (Nat.le_refl _),fun y c h=>?_,fun p hp=>absurd (show p∈([]:List (Addr × Obj))from hp) (by simp),e0.hok.kept hk,?_⟩
 ·exact name_of_addr x.apart (PySem.mem_of_lookup h1) (PySem.mem_of_lookup h2)
 ·have hy:scope.names.lookup y=some .cell\/scope.names.lookup y=some .free:=hy
  rcases hy with hy | hy
  ·exact y5v hy
  ·exact absurd rfl (S.nofree _ (PySem.mem_of_lookup hy))
 ·exact Nat.le_of_lt (x.above y c (PySem.mem_of_lookup h))
 ·have hi:i<vs.length:=by
   unfold y0v at h2
   by_cases hi:i<vs.length
   ·exact hi
   ·rw[List.getElem?_append_right (by simpa using hi)]at h2
    rw[List.getElem?_replicate]at h2
    split at h2 <;> cases h2
  have ha:vs[i]? = some v:=by
   unfold y0v at h2
   rw[List.getElem?_append_left (by simpa using hi),List.getElem?_map]at h2
   cases e:vs[i]? with
   | none=>rw[e]at h2; cases h2
   | some a=>rw[e]at h2; cases h2; rfl
  obtain⟨u,hu,rv⟩:=r.get ha
  have hp:ps[i]? = some y:=by
   rw[<- S.pre,List.getElem?_take_of_lt (by omega)]; exact h1
  have ndP:ps.Nodup:=by rw[<- S.pre]; exact S.nd.sublist (List.take_sublist _ _)
  refine⟨u,rv,?_⟩
  rcases S.par y (List.mem_of_getElem? hp)with k | k
  ·exact .inl ⟨k,y3y ndP hp hu k⟩
  ·obtain⟨c,e⟩:=y5v (n:=s.heap.objs.size+1) k
   refine .inr ⟨.inl k,c,e,?_⟩
   have q:=x.cell y c e
   rw[y3n ndP hp hu (by show scope.names.lookup y≠_; rw[k]; decide)]at q
   exact q
 ·exact e0.hok.fresh (Nat.le_of_lt (x.above y c (PySem.mem_of_lookup h)))
 ·unfold y0v
  show _=N.length
  rw[List.length_append,List.length_map,List.length_replicate]
  omega
theorem z7r {CX:CXT} {P:Program} {w:World} {K:PySem.W.Frag} {mg:Str->Option Value} {base:Heap} {k:Nat} {f:Addr} {name qual:Str} {params:Arguments} {body:List Stmt} {scope:Scope} {dV kV doc pm cdv ct oc:Value} {an od:Option Addr}
  {osl:Array (Option Value)} {N ps:List Str} {sp:Sp} (lk:K.lookup f=some ⟨oc,od,.func (PySem.W.fnOf name qual params body scope dV kV doc pm an cdv ct),osl⟩) (hcd:PySem.W.codeIn K cdv qual=true) (S:FnScope N ps scope)
  (len:∀ vs H Q E,sp vs H Q E->vs.length=ps.length)
  (hbody:∀ (A:Around) (outer:List Env) (s:Shared) (H:Hp) (vs:List V) (Q:VK) (E:XK),Room k (A.deeper (envOfC qual scope s.heap.objs.size f cdv))->sp vs H Q E->
    ∃ t,PSs (y26 CX P w K mg base N qual scope f cdv A outer s H E) body t/\t { nx:=fun _ H'=>Q .non H',rt:=Q } (y0v N vs) H) :
  FnOk P w K mg base CX (k+1) f (PySem.W.fnOf name qual params body scope dV kV doc pm an cdv ct) ps sp:=by
 refine⟨len,fun A outer s H args us vs Q E hr e0 hb r hsp=>?_⟩
 have hl:=len _ _ _ _ hsp
 have KX:K.In s.heap:=e0.mod.kin.keeps fun b o e=>(e0.bs b o e).1
 have lim:s.heap.NoLimit:=e0.mod.nolimit.keeps fun b o e=>(e0.bs b o e).1
 have hkind:∀ y∈ps.zip us,scope.names.lookup y.1=some .local\/(scope.names.lookup y.1=some .cell/\((cellsFrom (s.heap.objs.size+1) scope.names []).lookup y.1).isSome=true):=fun⟨n,v⟩ hy=>by
  rcases S.par n (List.of_mem_zip hy).1 with q | q
  ·exact .inl q
  ·exact .inr ⟨q,PySem.W.cellsFrom_some _ _ _ (.inl q)⟩
 refine codeAny_call_function hr.depth (KX _ _ lk) rfl S.co S.gen rfl (PySem.W.codeRec_of KX hcd) (hb _ _ _ _ ?_)
 refine wpAny_newFunctionEnv_cells S.kind hkind fun env he s1 x=>?_
 subst he
 refine⟨lim.keeps x.toInCall.keep,codeAny_func ?_⟩
 obtain⟨t,ht,hq⟩:=hbody A outer s H vs Q E (hr.deeper _) hsp
 have I:Inv (y26 CX P w K mg base N qual scope f cdv A outer s H E) [] (y0v N vs) H s1:=y8a S hr.hd e0 hl r x
 refine wpAny_mono (ht [] s1 (y0v N vs) H _ I hq) (fun fl s' hs=>?_) fun e s' hs=>hs
 have fin:∀ {σ':St} {H':Hp} {v:V} {u:Value},Inv (y26 CX P w K mg base N qual scope f cdv A outer s H E) [] σ' H' s'->x3i v u->Q v H'->CE outer P w H s Q u s':=
  fun {σ' H' v u} J rv q=>⟨v,H',J.os,J.bare,J.base,J.hok,rv,q⟩
 cases fl with
 | ret u=>
  obtain⟨v,σ',H',J,rv,q⟩:=hs
  exact fin J rv q
 | next=>
  obtain⟨σ',H',J,q⟩:=hs
  exact fin (v:=V.non) (u:=Value.none) J rfl q
 | brk=>
  obtain⟨_,_,_,q⟩:=hs
  exact False.elim q
 | cont=>
  obtain⟨_,_,_,q⟩:=hs
  exact False.elim q
section
variable {X:Cx} {x:Str} {p pos:Pos} {e:Expr} {es:List Expr} {t:TA} {id T:String} {r:List V->Hp->VK->Prop}
noncomputable def tCB (r:List V->Hp->VK->Prop) (t:TA):TE:=fun σ H Q=>t σ H fun vs H1=>r vs H1 Q
theorem x6h (hc:y0s X (.builtin id) r) (hg:Gl X x) (hm:X.mg x=none) (hv:bootBuiltins x=some (.builtin id)) (ha:PA X (e::es) t) (hn:x ≠ "__name__":=by decide) (hdb:(x == ("__debug__":Str))=false:=by decide)
  (he:starEach (e::es) X.env=(false,eval e X.env)::starEach es X.env:=by rfl) (hpl:(backTo pos (starEach es X.env)).any (·.1)=false:=by rfl):PE X (.Call (.Name x p) (e::es) [] pos) (tCB r t):=by
 intro pins s σ H Q I h
 refine wpAny_Call_Name_kw (x9s I hg hm hv ?_ hn hdb)
 exact PyProof.Rows.callWith_builtin1 (thn (ha pos pins s σ H _ I h) fun us s1 ⟨vs,H1,I1,r1,q1⟩=>hc pins s1 σ H1 vs us Q I1 r1 q1) he hpl
theorem x86 (hc:y0s X (.type T) r) (hg:Gl X x) (hm:X.mg x=none) (hv:bootBuiltins x=some (.type T)) (ha:PA X (e::es) t) (hn:x ≠ "__name__":=by decide) (hdb:(x == ("__debug__":Str))=false:=by decide)
  (he:starEach (e::es) X.env=(false,eval e X.env)::starEach es X.env:=by rfl) (hpl:(backTo pos (starEach es X.env)).any (·.1)=false:=by rfl):PE X (.Call (.Name x p) (e::es) [] pos) (tCB r t):=by
 intro pins s σ H Q I h
 refine wpAny_Call_Name_kw (x9s I hg hm hv ?_ hn hdb)
 exact PyProof.Rows.callWith_type1 (thn (ha pos pins s σ H _ I h) fun us s1 ⟨vs,H1,I1,r1,q1⟩=>hc pins s1 σ H1 vs us Q I1 r1 q1) he hpl
end
end L2
namespace HT
open PySem PyProof.Rows
section
open PySem.SeqAt
open PySem.AutoSeq1 (wpAny_loadPart')
open PySem.MeetsSeq PySem.MeetsSeq2 PySem.MeetsSeq3
end
section
variable {prog:Program} {w:World} {A:Around} {E:Value->Shared->Prop} {s:Shared}
theorem j1v {t b:Addr} {vs ws:List Value} {Q:Value->Shared->Prop} (ht:IsTup s.heap t vs.toArray) (hb:IsTup s.heap b ws.toArray) (hv:vs ≠ [])
  (h1:ws=[]->Q (.ref t) s) (h2:ws ≠ []->Q (.ref s.heap.objs.size) { s with heap:=s.heap.push { cls:=.type "tuple",data:=.seq (vs++ws).toArray } })
  (hsz:vs.length+ws.length<=sizeLine):wpAny (model prog w) A (binaryOp .Add (.ref t) (.ref b)) Q E s:=by
 obtain⟨⟨cls,dd,data,sl⟩,ho,hc,n,hd⟩:=id ht
 obtain⟨⟨cls2,dd2,data2,sl2⟩,ho2,hc2,n2,hd2⟩:=id hb
 simp only at hc hd hc2 hd2
 subst hc hd hc2 hd2
 have e:vs.toArray++ws.toArray=(vs++ws).toArray:=by simp
 by_cases hw:ws=[]
 ·exact concat_meets ⟨_,ho,rfl⟩ ⟨_,ho2,rfl⟩ noFill_tuple_add seq_tuple_add PySem.F.slot_tuple_add PySem.F.entry_tuple_add (PySem.F.args_tuple_add_2 _ _)
   (tuple_addW1 t b vs.toArray ws.toArray n n2 dd dd2 sl sl2 (by simpa using hv) (by simp[hw])) ⟨ho,ho2,h1 hw⟩
 ·refine concat_meets ⟨_,ho,rfl⟩ ⟨_,ho2,rfl⟩ noFill_tuple_add seq_tuple_add PySem.F.slot_tuple_add PySem.F.entry_tuple_add (PySem.F.args_tuple_add_2 _ _)
   (tuple_addW2 t b vs.toArray ws.toArray n n2 dd dd2 sl sl2 (by simpa using hv) (by simpa using hw) (by rw[List.size_toArray,List.size_toArray]; exact hsz)) ⟨ho,ho2,?_⟩
  rw[e]
  exact h2 hw
noncomputable def sIx (n d:Nat):Option Int->Nat
 | none=>d
 | some v=>if v<0 then(v+(n:Int)).toNat else min v.toNat n
theorem z7n (n d:Nat) (hd:d<=n) (o:Option Int):sIx n d o<=n:=by
 cases o with
 | none=>exact hd
 | some v=>
  show(if v<0 then(v+(n:Int)).toNat else min v.toNat n)<=n
  by_cases hv:v<0
  ·rw[if_pos hv]; omega
  ·rw[if_neg hv]; exact Nat.min_le_right _ _
theorem y7t (v:Int) (n d:Nat):(if v<0 then max (v+(n:Int)) 0 else min v (n:Int))=((sIx n d (some v):Nat):Int):=by
 show(if v<0 then max (v+(n:Int)) 0 else min v (n:Int))=(((if v<0 then(v+(n:Int)).toNat else min v.toNat n):Nat):Int)
 by_cases hv:v<0
 ·simp only[if_pos hv]; omega
 ·simp only[if_neg hv]; omega
theorem y75 (lo hi:Option Int) (n:Nat):Builtin.Slice.sliceAdjust lo hi 1 (n:Int)=(((sIx n 0 lo:Nat):Int),((sIx n n hi:Nat):Int)):=by
 have h1:¬ ((1:Int)<0):=by omega
 unfold Builtin.Slice.sliceAdjust
 simp only[h1,if_false]
 refine Prod.ext ?_ ?_
 ·cases lo with
  | none=>rfl
  | some v=>exact y7t v n 0
 ·cases hi with
  | none=>rfl
  | some v=>exact y7t v n n
theorem y7c (i j:Nat):Builtin.Slice.slicePlaces (i:Int) (j:Int) 1=j-i:=by
 unfold Builtin.Slice.slicePlaces
 have h1:(1:Int) > 0:=by omega
 simp only[h1,if_true,Int.ediv_one]
 split <;> omega
theorem y1p {v:Value} {o:Option Int} {Q:Option Int->Shared->Prop} (p:IsPart v o) (h:Q o s):wpAny (model prog w) A (Builtin.Slice.slicePartIndex v) Q E s:=by
 cases p with
 | none=>exact slicePart_none h
 | int i t=>exact slicePart_int h
theorem x98 {sl:Addr} {vl vu:Value} {lo hi:Option Int} {n:Nat} {Q:Int × Int × Nat->Shared->Prop} (hs:s.heap.IsSliceOf sl vl vu .none) (pl:IsPart vl lo) (pu:IsPart vu hi)
  (h:Q (((sIx n 0 lo:Nat):Int),1,sIx n n hi-sIx n 0 lo) s):wpAny (model prog w) A (Builtin.Slice.sliceApplied (.ref sl) (pure (n:Int))) Q E s:=by
 obtain⟨os,hos,hcs,hds⟩:=id hs
 unfold Builtin.Slice.sliceApplied Builtin.Slice.sliceFields
 refine wpAny_bind (wpAny_bind (wpAny_field hos hds (x:=vl) rfl (wpAny_bind (wpAny_field hos hds (x:=vu) rfl (wpAny_bind (wpAny_field hos hds (x:=.none) rfl (wpAny_pure ?_)))))))
 refine wpAny_bind (slicePart_none ?_)
 show wpAny _ _ (if((1:Int) == 0)=true then _ else _) _ _ s
 rw[if_neg (by decide)]
 refine wpAny_bind (y1p pl (wpAny_bind (y1p pu (wpAny_bind (wpAny_pure ?_)))))
 show wpAny _ _ (match Builtin.Slice.sliceAdjust lo hi 1 (n:Int)with | (lo,hi)=>pure (lo,(1:Int),Builtin.Slice.slicePlaces lo hi 1)) _ _ s
 rw[y75 lo hi n]
 show wpAny _ _ (pure (((sIx n 0 lo:Nat):Int),(1:Int),Builtin.Slice.slicePlaces ((sIx n 0 lo:Nat):Int) ((sIx n n hi:Nat):Int) 1)) _ _ s
 rw[y7c]
 exact wpAny_pure h
theorem z23 (xs:Array Value) (i k:Nat):((List.range k).filterMap fun(m:Nat)=>xs[((i:Int)+(m:Int)*1).toNat]?).toArray=((xs.toList.drop i).take k).toArray:=by
 have e:(fun(m:Nat)=>xs[((i:Int)+(m:Int)*1).toNat]?)=fun m=>xs[i+m]?:=by
  funext m
  have:((i:Int)+(m:Int)*1).toNat=i+m:=by omega
  rw[this]
 rw[e]
 have:=pick_run xs i k
 rw[List.filterMap_map]at this
 have e2:((fun x=>xs[x]?) ∘ fun x=>i+x)=fun m=>xs[i+m]?:=rfl
 rw[e2]at this
 rw[this]
theorem y6v {t sl:Addr} {items:Array Value} {vl vu:Value} {lo hi:Option Int} {Q:Value->Shared->Prop} (ht:IsTup s.heap t items) (hs:s.heap.IsSliceOf sl vl vu .none) (pl:IsPart vl lo) (pu:IsPart vu hi)
  (hw:¬ (sIx items.size 0 lo=0/\sIx items.size items.size hi=items.size))
  (h:Q (.ref s.heap.objs.size) { s with heap:=s.heap.push { cls:=.type "tuple",data:=.seq ((items.toList.drop (sIx items.size 0 lo)).take (sIx items.size items.size hi-sIx items.size 0 lo)).toArray } })
  (hsz:items.size<=sizeLine):wpAny (model prog w) A (getItem (.ref t) (.ref sl)) Q E s:=by
 have htake:sizeOk (.seq ((items.toList.drop (sIx items.size 0 lo)).take (sIx items.size items.size hi-sIx items.size 0 lo)).toArray):=by
  show((items.toList.drop (sIx items.size 0 lo)).take (sIx items.size items.size hi-sIx items.size 0 lo)).toArray.size<=sizeLine
  rw[List.size_toArray,List.length_take,List.length_drop,Array.length_toList]
  omega
 have hj:sIx items.size items.size hi<=items.size:=z7n _ _ (Nat.le_refl _) hi
 obtain⟨os,hos,hcs,hds⟩:=id hs
 have hTs:s.TypeIs (.ref sl) "slice":=⟨os,hos,hcs⟩
 unfold getItem
 try with_reducible refine wpAny_holding ?_
 first | refine wpAny_bind (wpAny_pure ?_) | skip
 refine wpAny_bind (wpAny_sequenceKey ht.typeIs (by decide) ?_)
 refine wpAny_bind (wpAny_callSpecial?_slot (name:=Str.ofString "__getitem__") ht.typeIs PyProof.Rows.slot_tuple_getitem
  (wpAny_call_entry PyProof.Rows.slot_tuple_getitem ht.typeIs entry_tuple_getitem ?_ (args_tuple_getitem _ _)))
 show wpAny _ _ (Builtin.Tuple.tupleItemsOf (.ref t) >>= _) _ _ s
 refine wpAny_bind (tupleItemsOf_ ht ?_)
 refine wpAny_bind (wpAny_typeOf hTs ?_)
 rw[if_pos (by decide)]
 refine wpAny_bind (x98 hs pl pu ?_)
 have hno:¬ ((((sIx items.size 0 lo:Nat):Int) == 0 && (1:Int) == 1 && (sIx items.size items.size hi-sIx items.size 0 lo) == items.size)=true):=by
  intro q
  rw[Bool.and_eq_true,Bool.and_eq_true]at q
  have q1:((sIx items.size 0 lo:Nat):Int)=0:=eq_of_beq q.1.1
  have q2:sIx items.size items.size hi-sIx items.size 0 lo=items.size:=eq_of_beq q.2
  exact hw ⟨by omega,by omega⟩
 show wpAny _ _ (if(((sIx items.size 0 lo:Nat):Int) == 0 && (1:Int) == 1 && (sIx items.size items.size hi-sIx items.size 0 lo) == items.size)=true then _ else _) _ _ s
 rw[if_neg hno,z23]
 first
  | exact wpAny_bind (m:=Builtin.Tuple.tupleExact _) (wpAny_newObj_type (wpAny_pure ⟨_,rfl,wpAny_pure h⟩) htake)
  | exact wpAny_bind (m:=Builtin.Tuple.tupleExact _) (wpAny_newObj_type (wpAny_bind (wpAny_pure (wpAny_pure ⟨_,rfl,wpAny_pure h⟩))) htake)
  | exact wpAny_bind (wpAny_bind (m:=Builtin.Tuple.tupleExact _) (wpAny_newObj_type (wpAny_pure (wpAny_pure ⟨_,rfl,wpAny_pure h⟩)) htake))
  | exact wpAny_bind (wpAny_bind (m:=Builtin.Tuple.tupleExact _) (wpAny_newObj_type (wpAny_pure ⟨_,rfl,wpAny_pure h⟩) htake))
end
end HT
namespace L2
open PySem PySem.Spec PyProof.Rows
noncomputable abbrev TO:=St->Hp->(Option Int->Hp->Prop)->Prop
noncomputable def PO (X:Cx) (e:Option Expr) (t:TO):Prop:=
 ∀ (pins:List (Addr × Obj)) (s:Shared) (σ:St) (H:Hp) (Q:Option Int->Hp->Prop),Inv X pins σ H s->t σ H Q->
  wpAny (model X.prog X.w) X.A (evalPart e X.env) (fun u s'=>∃ o H',Inv X pins σ H' s'/\IsPart u o/\Q o H') X.xe s
noncomputable def z4m:TO:=fun _ H Q=>Q none H
noncomputable def j1p (t:TE):TO:=fun σ H Q=>t σ H fun x H1=>∃ i,x=.int i/\Q (some i) H1
section
variable {X:Cx} {e:Expr} {te:TE} {lo hi:Option Expr} {tl th:TO} {pos p2:Pos}
theorem z3x:PO X none z4m:=by
 intro pins s σ H Q I h
 rw[evalPart_none]
 exact wpAny_pure ⟨none,H,I,.none,h⟩
theorem z4n (h:PE X e te):PO X (some e) (j1p te):=by
 intro pins s σ H Q I hw
 rw[evalPart_some]
 refine thn (h pins s σ H _ I hw) fun u s1 hh0=>?_
 obtain⟨x,H1,I1,r1,q1⟩:=hh0
 obtain⟨i,rfl,q⟩:=q1
 obtain⟨t,rfl⟩:=r1
 exact⟨some i,H1,I1,.int i t,q⟩
noncomputable def SlR (X:Cx) (r:V->Option Int->Option Int->Hp->VK->Prop):Prop:=
 ∀ (pins:List (Addr × Obj)) (s:Shared) (σ:St) (H:Hp) (x:V) (v vl vu:Value) (lo hi:Option Int) (sl:Addr) (Q:VK),Inv X pins σ H s->x3i x v->s.heap.IsSliceOf sl vl vu .none->IsPart vl lo->IsPart vu hi->r x lo hi H Q->
  ∃ T id,typeLookup (.type T) "__getitem__" = pure (some (.builtin id))/\s.TypeIs v T/\wpAny (model X.prog X.w) X.A (getItem v (.ref sl)) (EP X pins σ Q) X.xe s
theorem SlR.or {r r':V->Option Int->Option Int->Hp->VK->Prop} (h:SlR X r) (h':SlR X r'):SlR X (fun x lo hi H Q=>r x lo hi H Q\/r' x lo hi H Q):=by
 intro pins s σ H x v vl vu lo hi sl Q I rx hs pl pu q
 rcases q with q | q
 ·exact h pins s σ H x v vl vu lo hi sl Q I rx hs pl pu q
 ·exact h' pins s σ H x v vl vu lo hi sl Q I rx hs pl pu q
noncomputable def tSl (r:V->Option Int->Option Int->Hp->VK->Prop) (te:TE) (tl th:TO):TE:=fun σ H Q=>te σ H fun x H1=>tl σ H1 fun l H2=>th σ H2 fun u H3=>r x l u H3 Q
theorem z1u {r:V->Option Int->Option Int->Hp->VK->Prop} (hr:SlR X r) (he:PE X e te) (hl:PO X lo tl) (hu:PO X hi th):PE X (.Subscript e (.Slice lo hi none p2) pos) (tSl r te tl th):=by
 intro pins s σ H Q I h
 refine Subscript_ (thn (he pins s σ H _ I h) fun v s1 hh0=>?_)
 obtain⟨x,H1,I1,r1,q1⟩:=hh0
 refine wpAny_Slice (thn (hl pins s1 σ H1 _ I1 q1) fun vl s2 ⟨l,H2,I2,pl,q2⟩=>thn (hu pins s2 σ H2 _ I2 q2) fun vu s3 hh0=>?_)
 obtain⟨u,H3,I3,pu,q3⟩:=hh0
 rw[evalPart_none]
 refine wpAny_pure ?_
 have I4:Inv X pins σ H3 { s3 with heap:=s3.heap.push { cls:=.type "slice",data:=.fields #[vl,vu,.none] } }:=I3.kept (t':=s3.toks) fun b ob q=>Heap.get?_push_of_some _ q
 obtain⟨T,id,hT,ht,hg⟩:=hr pins { s3 with heap:=s3.heap.push { cls:=.type "slice",data:=.fields #[vl,vu,.none] } } σ H3 x v vl vu l u s3.heap.objs.size Q I4 r1 (Heap.IsSliceOf.new ..) pl pu q3
 show wpAny (model X.prog X.w) X.A (subscriptTail e (.Slice lo hi none p2) v (.ref s3.heap.objs.size)) (EP X pins σ Q) X.xe { s3 with heap:=s3.heap.push { cls:=.type "slice",data:=.fields #[vl,vu,.none] } }
 exact tail_any (ops:=[.ref s3.heap.objs.size,v]) ht hT hg (by with_unfolding_all rfl)
noncomputable def z3r (xs:List V) (lo hi:Option Int):List V:=(xs.drop (HT.sIx xs.length 0 lo)).take (HT.sIx xs.length xs.length hi-HT.sIx xs.length 0 lo)
theorem x9o (xs:List V) (lo hi:Option Int):(z3r xs lo hi).length<=xs.length:=by
 unfold z3r
 rw[List.length_take,List.length_drop]
 omega
noncomputable def j33 (K:PySem.W.Frag):V->Option Int->Option Int->Hp->VK->Prop:=fun x lo hi H Q=>∃ a xs,x=.ref a/\SqT K H a xs /\
 ¬ (HT.sIx xs.length 0 lo=0/\HT.sIx xs.length xs.length hi=xs.length)/\∀ p,H p=none->Q (.ref p) (upd H p (.tup (z3r xs lo hi)))
theorem z7f:SlR X (j33 X.K):=by
 intro pins s σ H x v vl vu lo hi sl Q I rx hs pl pu h
 obtain⟨a,xs,rfl,hx,hw,q⟩:=h
 cases rx
 obtain⟨its,r,ht,hz⟩:=I.tuple hx
 have hlen:its.toArray.size=xs.length:=by rw[List.size_toArray]; exact r.length.symm
 refine⟨"tuple",_,PyProof.Rows.slot_tuple_getitem.lookup,ht.typeIs,?_⟩
 refine HT.y6v ht hs pl pu (by rw[hlen]; exact hw) ?_ (by rw[hlen]; exact hz)
 rw[hlen]
 refine⟨.ref s.heap.objs.size,_,I.laid (t':=s.toks) (o:=.tup (z3r xs lo hi)) (fun b ob q=>Heap.get?_push_of_some _ q) (Nat.le_refl _) ?_,rfl,q _ (I.hok.fresh (Nat.le_refl _))⟩
 exact⟨Nat.le_trans (x9o xs lo hi) hz,_,(r.drop (HT.sIx xs.length 0 lo)).take (HT.sIx xs.length xs.length hi-HT.sIx xs.length 0 lo),x4f.new _ _⟩
noncomputable def j24 (K:PySem.W.Frag):R2:=fun x y H Q=>∃ a b xs ys,x=.ref a/\y=.ref b/\SqT K H a xs/\SqT K H b ys/\xs ≠ []/\xs.length+ys.length<=sizeLine /\
 (ys=[]->Q (.ref a) H)/\(ys ≠ []->∀ p,H p=none->Q (.ref p) (upd H p (.tup (xs++ys))))
theorem x2j.nil_iff {xs:List V} {us:List Value} (r:x2j xs us):us=[] ↔ xs=[]:=by
 cases r with
 | nil=>simp
 | cons _ _=>simp
theorem z4l:OpR X (binaryOp .Add) (j24 X.K):=by
 intro pins s σ H x y v u Q I rx ry h
 obtain⟨a,b,xs,ys,rfl,rfl,ha,hb,hx,hz,q1,q2⟩:=h
 cases rx
 cases ry
 obtain⟨its,r1,p1,_⟩:=I.tuple ha
 obtain⟨its2,r2,p2,_⟩:=I.tuple hb
 refine HT.j1v p1 p2 (fun z=>hx (r1.nil_iff.mp z)) (fun z=>⟨.ref a,H,I,rfl,q1 (r2.nil_iff.mp z)⟩) (fun z=>?_) (by rw[<- r1.length,<- r2.length]; exact hz)
 refine⟨.ref s.heap.objs.size,_,I.laid (t':=s.toks) (o:=.tup (xs++ys)) (fun b ob q=>Heap.get?_push_of_some _ q) (Nat.le_refl _) ?_,rfl,q2 (fun w=>z (r2.nil_iff.mpr w)) _ (I.hok.fresh (Nat.le_refl _))⟩
 exact⟨by rw[List.length_append]; exact hz,_,r1.append r2,x4f.new _ _⟩
end
noncomputable def ixN (n:Nat) (i:Int):Option Nat:=if 0<=i then(if i<n then some i.toNat else none)else if -(n:Int)<=i then some (i+n).toNat else none
noncomputable def atI {α:Type} (xs:List α) (i:Int):Option α:=(ixN xs.length i).bind fun j=>xs[j]?
theorem y58 {n:Nat} {i:Int} {j:Nat} (h:ixN n i=some j):seqIndex? i n=some j/\j<n /\ -(n:Int)<=i/\i<n:=by
 unfold ixN at h
 by_cases h0:0<=i
 ·rw[if_pos h0]at h
  by_cases h1:i<n
  ·rw[if_pos h1]at h
   have e:i.toNat=j:=Option.some.inj h
   exact⟨by rw[seqIndex_of h0 h1,e],by omega,by omega,h1⟩
  ·rw[if_neg h1]at h; cases h
 ·rw[if_neg h0]at h
  by_cases h1:-(n:Int)<=i
  ·rw[if_pos h1]at h
   have e:(i+n).toNat=j:=Option.some.inj h
   exact⟨by rw[seqIndex_neg (by omega) h1,e],by omega,h1,by omega⟩
  ·rw[if_neg h1]at h; cases h
theorem y50 {α:Type} {xs:List α} {i:Int} {v:α} (h:atI xs i=some v):∃ j,seqIndex? i xs.length=some j/\xs[j]? = some v/\j<xs.length /\ -(xs.length:Int)<=i/\i<xs.length:=by
 unfold atI at h
 cases e:ixN xs.length i with
 | none=>rw[e]at h; cases h
 | some j=>
  rw[e]at h
  obtain⟨h1,h2,h3,h4⟩:=y58 e
  exact⟨j,h1,h,h2,h3,h4⟩
noncomputable def x41 (b:Expr):Prop:=∀ o i,subscripted b false o i=operate [o,i] (getItem o i)
noncomputable def IxR (X:Cx) (r:R2):Prop:=
 ∀ (value slice:Expr) (pins:List (Addr × Obj)) (s:Shared) (σ:St) (H:Hp) (x y:V) (v u:Value) (Q:VK),Inv X pins σ H s->x3i x v->x3i y u->r x y H Q->
  subscripted slice false v u=operate [v,u] (getItem v u)->wpAny (model X.prog X.w) X.A (subscriptTail value slice v u) (EP X pins σ Q) X.xe s
noncomputable def MtR (X:Cx) (id:String) (r:V->List V->Hp->VK->Prop):Prop:=
 ∀ (pins:List (Addr × Obj)) (s:Shared) (σ:St) (H:Hp) (x:V) (xs:List V) (v:Value) (us:List Value) (Q:VK),Inv X pins σ H s->x3i x v->x2j xs us->r x xs H Q->
  wpAny (model X.prog X.w) X.A (call (.builtin id) (v::us)) (EP X pins σ Q) X.xe s
section
variable {X:Cx} {a b:Expr} {ta tb:TE} {pos:Pos}
theorem IxR.or {r r':R2} (h:IxR X r) (h':IxR X r'):IxR X (fun x y H Q=>r x y H Q\/r' x y H Q):=by
 intro value slice pins s σ H x y v u Q I rx ry q hs
 rcases q with q | q
 ·exact h value slice pins s σ H x y v u Q I rx ry q hs
 ·exact h' value slice pins s σ H x y v u Q I rx ry q hs
theorem y7v {r:R2} (hr:IxR X r) (ha:PE X a ta) (hb:PE X b tb) (hs:x41 b):PE X (.Subscript a b pos) (tOp r ta tb):=by
 intro pins s σ H Q I h
 exact Subscript_ (j1f ha hb I h fun v u s2 x y H2 I2 rx ry q=>hr a b pins s2 σ H2 x y v u Q I2 rx ry q (hs _ _))
noncomputable def j2m (K:PySem.W.Frag):R2:=fun x y H Q=>∃ p xs i v,x=.ref p/\y=.int i/\SqL K H p xs/\atI xs i=some v/\Q v H
noncomputable def j2f (K:PySem.W.Frag):R2:=fun x y H Q=>∃ p xs i v,x=.ref p/\y=.int i/\SqT K H p xs/\atI xs i=some v/\Q v H
noncomputable def j2l:R2:=fun x y H Q=>∃ z i c,x=.str z/\y=.int i/\z.length<=sizeLine/\atI z.cps.toList i=some c/\Q (.str ⟨#[c]⟩) H
theorem z4o:IxR X (j2m X.K):=by
 intro value slice pins s σ H x y v u Q I rx ry h hs
 obtain⟨p,xs,i,z,rfl,rfl,hq,he,q⟩:=h
 cases rx
 obtain⟨t,rfl⟩:=ry
 obtain⟨its,r,pl,hz⟩:=I.list hq
 obtain⟨j,h1,h2,h3,h4,h5⟩:=y50 he
 obtain⟨w,ew,rw'⟩:=r.get h2
 have hl:=r.length
 have hn:=y1i
 have fin:EP X pins σ Q w s:=⟨z,H,I,rw',q⟩
 by_cases h0:0<=i
 ·have hj:i.toNat=j:=by
   rw[seqIndex_of h0 h5]at h1
   exact Option.some.inj h1
  exact item_listR pl.isList h0 (by omega) (by rw[hj]; simpa using ew) fin hs
 ·have hj:(i+(its.toArray.size:Int)).toNat=j:=by
   rw[seqIndex_neg (by omega) h4]at h1
   rw[List.size_toArray,<- hl]
   exact Option.some.inj h1
  exact subscriptTail_builtinR (x:=w) pl.isList.typeIs slot_list_getitem.lookup
   (wpAny_getItem_list_neg (Q:=fun r s'=>r=w/\EP X pins σ Q r s') pl.isList (by omega) (by rw[List.size_toArray] <;> omega) (by omega) (by rw[hj]; simpa using ew) ⟨rfl,fin⟩) hs
theorem j0g:IxR X (j2f X.K):=by
 intro value slice pins s σ H x y v u Q I rx ry h hs
 obtain⟨p,xs,i,z,rfl,rfl,hq,he,q⟩:=h
 cases rx
 obtain⟨t,rfl⟩:=ry
 obtain⟨its,r,pl,hz⟩:=I.tuple hq
 obtain⟨j,h1,h2,h3,h4,h5⟩:=y50 he
 obtain⟨w,ew,rw'⟩:=r.get h2
 have hl:=r.length
 have hn:=y1i
 have fin:EP X pins σ Q w s:=⟨z,H,I,rw',q⟩
 exact subscriptTail_builtinR (x:=w) pl.typeIs slot_tuple_getitem.lookup
  (getItem_tuple (j:=j) (Q:=fun r s'=>r=w/\EP X pins σ Q r s') pl (by omega) (by omega) (by rw[List.size_toArray,<- hl]; exact h1) (by simpa using ew) ⟨rfl,fin⟩) hs
theorem z7w:IxR X j2l:=by
 intro value slice pins s σ H x y v u Q I rx ry h hs
 obtain⟨z,i,c,rfl,rfl,hz,he,q⟩:=h
 obtain⟨t,rfl⟩:=rx
 obtain⟨t',rfl⟩:=ry
 obtain⟨j,h1,h2,h3,h4,h5⟩:=y50 he
 have hl:z.cps.toList.length=z.length:=by simp[Str.length]
 rw[hl]at h1 h4 h5
 have hn:=y1i
 exact tail_any (typeIs_str s z t) slot_str_getitem.lookup (getItem_str (c:=c) (by
  have e1:decide (i < -(2 ^ 63:Int))=false:=decide_eq_false (by omega)
  have e2:decide (i ≥ 2 ^ 63)=false:=decide_eq_false (by omega)
  rw[e1,e2,Bool.or_false]) (by rw[h1]; simpa using h2) ⟨.str ⟨#[c]⟩,H,I.tok _,⟨_,rfl⟩,q⟩) hs
noncomputable def rIx (K:PySem.W.Frag):R2:=fun x y H Q=>j2m K x y H Q\/j2f K x y H Q\/j2l x y H Q
theorem y2z:IxR X (rIx X.K):=z4o.or (j0g.or z7w)
theorem y78 (its:List Value) (n j:Nat) (u:Value):Obj.mapSeq (·.setIfInBounds j u) { cls:=.type "list",data:=.seq its.toArray n }={ cls:=.type "list",data:=.seq (its.set j u).toArray n }:=by
 simp[Obj.mapSeq]
theorem Inv.lst {pins:List (Addr × Obj)} {σ:St} {H:Hp} {s:Shared} {p:Addr} {xs:List V} (I:Inv X pins σ H s) (h:H p=some (.lst xs)) :
  ∃ (its:List Value) (n:Nat),x2j xs its/\s.heap.get? p=some { cls:=.type "list",data:=.seq its.toArray n }/\xs.length<=sizeLine:=by
 obtain⟨z,its,n,r,e⟩:=I.hok p _ h
 exact⟨its,n,r,e,z⟩
theorem Inv.lstUpd {pins:List (Addr × Obj)} {σ:St} {H:Hp} {s:Shared} {p:Addr} {xs ys:List V} {its its':List Value} {n n':Nat} {f:Obj->Obj} (I:Inv X pins σ H s) (h:H p=some (.lst xs))
  (ho:s.heap.get? p=some { cls:=.type "list",data:=.seq its.toArray n }) (hf:f { cls:=.type "list",data:=.seq its.toArray n }={ cls:=.type "list",data:=.seq its'.toArray n' }) (r:x2j ys its') (hz:ys.length<=sizeLine) (t:Nat) :
  Inv X pins σ (upd H p (.lst ys)) { s with heap:=s.heap.update p f,toks:=t }:=by
 have e:(s.heap.update p f).get? p=some { cls:=.type "list",data:=.seq its'.toArray n' }:=by
  rw[Heap.get?_update_self f ho (by rw[hf] <;> rfl),hf]
 refine I.write (x:=p) (e:=p) (by rw[h]; trivial) (.inl rfl) (fun b u hb q=>(Heap.get?_update_other _ _ (Ne.symm hb)).trans q) ⟨_,e⟩ ?_
 exact⟨hz,its',n',r,e⟩
noncomputable def j1z:V->V->V->Hp->(Hp->Prop)->Prop:=fun o i v H Q=>∃ p xs k j,o=.ref p/\i=.int k/\H p=some (.lst xs)/\ixN xs.length k=some j/\Q (upd H p (.lst (xs.set j v)))
theorem z0y:j2g X j1z:=by
 intro pins s σ H o i v ov iv u Q I ro ri rv h
 obtain⟨p,xs,k,j,rfl,rfl,hp,hj,q⟩:=h
 cases ro
 obtain⟨t,rfl⟩:=ri
 obtain⟨its,n,r,ho,hz⟩:=I.lst hp
 obtain⟨h1,h2,h3,h4⟩:=y58 hj
 have hl:=r.length
 have hn:=y1i
 have I':Inv X pins σ (upd H p (.lst (xs.set j v))) { s with heap:=s.heap.update p (Obj.mapSeq (·.setIfInBounds j u)) }:=
  I.lstUpd hp ho (y78 its n j u) (r.set rv j) (by rw[List.length_set]; exact hz) s.toks
 by_cases h0:0<=k
 ·have hk:k.toNat=j:=by
   rw[seqIndex_of h0 h4]at h1
   exact Option.some.inj h1
  exact PySem.W.ki_setAt ho h0 (by omega) (by rw[List.size_toArray,<- hl]; exact h4) (by rw[hk]; exact⟨_,I',q⟩)
 ·have hk:(k+(its.toArray.size:Int)).toNat=j:=by
   rw[seqIndex_neg (by omega) h3]at h1
   rw[List.size_toArray,<- hl]
   exact Option.some.inj h1
  exact PySem.W.ki_setBack ho (by omega) (by rw[List.size_toArray,<- hl]; exact h3) (by omega) (by rw[hk]; exact⟨_,I',q⟩)
theorem y39 (lo hi:Option Int) (n:Nat):(sliceBounds lo hi none n).1=((HT.sIx n 0 lo:Nat):Int)/\(sliceBounds lo hi none n).2.1=((HT.sIx n n hi:Nat):Int)/\(sliceBounds lo hi none n).2.2=1:=by
 refine⟨?_,?_,rfl⟩
 ·cases lo with
  | none=>simp[sliceBounds,HT.sIx]
  | some i=>
   simp only[sliceBounds,HT.sIx,Option.getD_none,show(1:Int) > 0 by decide,if_true]
   by_cases h:i<0
   ·simp only[h,if_true] <;> omega
   ·simp only[h,if_false] <;> omega
 ·cases hi with
  | none=>simp[sliceBounds,HT.sIx]
  | some i=>
   simp only[sliceBounds,HT.sIx,Option.getD_none,show(1:Int) > 0 by decide,if_true]
   by_cases h:i<0
   ·simp only[h,if_true] <;> omega
   ·simp only[h,if_false] <;> omega
theorem y2o (its:List Value) (lo hi:Option Int):slicePick its.toArray lo hi none=((its.drop (HT.sIx its.length 0 lo)).take (HT.sIx its.length its.length hi-HT.sIx its.length 0 lo)).toArray:=by
 obtain⟨h1,h2,h3⟩:=y39 lo hi its.toArray.size
 unfold slicePick
 rw[h1,h2,h3]
 simp only[sliceRange_one,pick_run,List.size_toArray] <;> rfl
noncomputable def j3e (K:PySem.W.Frag):V->Option Int->Option Int->Hp->VK->Prop:=fun x lo hi H Q=>∃ a xs,x=.ref a/\SqL K H a xs/\∀ p,H p=none->Q (.ref p) (upd H p (.lst (z3r xs lo hi)))
theorem j1h:SlR X (j3e X.K):=by
 intro pins s σ H x v vl vu lo hi sl Q I rx hs pl pu h
 obtain⟨a,xs,rfl,hx,q⟩:=h
 cases rx
 obtain⟨its,r,ht,hz⟩:=I.list hx
 have hlen:=r.length
 refine⟨"list",_,slot_list_getitem.lookup,ht.isList.typeIs,?_⟩
 refine wpAny_getItem_list_slice ht.isList hs pl pu .none (by simp) ?_ (by rw[List.size_toArray] <;> omega)
 rw[y2o,<- hlen]
 refine⟨.ref s.heap.objs.size,_,I.laid (t':=s.toks) (o:=.lst (z3r xs lo hi)) (fun b ob q=>Heap.get?_push_of_some _ q) (Nat.le_refl _) ?_,rfl,q _ (I.hok.fresh (Nat.le_refl _))⟩
 exact⟨Nat.le_trans (x9o xs lo hi) hz,_,0,(r.drop (HT.sIx xs.length 0 lo)).take (HT.sIx xs.length xs.length hi-HT.sIx xs.length 0 lo),Heap.get?_push_size _ rfl⟩
theorem x5u:y0s X (.builtin "len") (fun xs H Q=>∃ p ys,xs=[.ref p]/\(SqL X.K H p ys\/SqT X.K H p ys)/\Q (.int ys.length) H):=by
 intro pins s σ H xs us Q I r h
 obtain⟨p,ys,rfl,hq,q⟩:=h
 obtain⟨u,rfl,rx⟩:=y4u r
 cases rx
 have hn:=y1i
 rcases hq with hq | hq
 ·obtain⟨its,r',pl,hz⟩:=I.list hq
  have hlen:=r'.length
  exact Calls.call_len_list pl.isList (by simp only[List.size_toArray] <;> omega) ⟨.int ys.length,H,I.tok _,⟨s.toks+1,by rw[List.size_toArray,hlen]⟩,q⟩
 ·obtain⟨its,r',pl,hz⟩:=I.tuple hq
  have hlen:=r'.length
  exact len_tuple pl (by simp only[List.size_toArray] <;> omega) ⟨.int ys.length,H,I.tok _,⟨s.toks+1,by rw[List.size_toArray,hlen]⟩,q⟩
theorem y35:y0s X (.type "list") (fun xs H Q=>∃ p ys,xs=[.ref p]/\(SqL X.K H p ys\/SqT X.K H p ys)/\∀ l,H l=none->Q (.ref l) (upd H l (.lst ys))):=by
 intro pins s σ H xs us Q I r h
 obtain⟨p,ys,rfl,hq,q⟩:=h
 obtain⟨u,rfl,rx⟩:=y4u r
 cases rx
 have fin:∀ (its:List Value),x2j ys its->ys.length<=sizeLine->∀ (h':Heap) (c':Nat),(∀ b o',s.heap.get? b=some o'->h'.get? b=some o')->
   h'.get? s.heap.objs.size=some { cls:=.type "list",dict:=none,data:=.seq its.toArray c',slots:=#[] }->EP X pins σ Q (.ref s.heap.objs.size) { s with heap:=h' }:=fun its r' hz h' c' kp e=>
  ⟨.ref s.heap.objs.size,_,I.laid (t':=s.toks) kp (Nat.le_refl _) (show x2a X.prog X.w _ h' _ (.lst ys)from⟨hz,its,c',r',e⟩),rfl,q _ (I.hok.fresh (Nat.le_refl _))⟩
 rcases hq with hq | hq
 ·obtain⟨its,r',pl,hz⟩:=I.list hq
  have hlen:=r'.length
  obtain⟨o,ho,hc,n,hd⟩:=pl.isList
  exact call_list_seq p (.inl rfl) ho hc hd (fun h' c' kp e=>fin its r' hz h' c' kp e) (by simp only[List.size_toArray] <;> omega)
 ·obtain⟨its,r',pl,hz⟩:=I.tuple hq
  have hlen:=r'.length
  obtain⟨o,ho,hc,n,hd⟩:=pl
  exact call_list_seq p (.inr rfl) ho hc hd (fun h' c' kp e=>fin its r' hz h' c' kp e) (by simp only[List.size_toArray] <;> omega)
theorem y2a:y0s X (.type "tuple") (fun xs H Q=>∃ p ys,xs=[.ref p]/\((SqL X.K H p ys/\∀ l,H l=none->Q (.ref l) (upd H l (.tup ys)))\/(SqT X.K H p ys/\Q (.ref p) H))):=by
 intro pins s σ H xs us Q I r h
 obtain⟨p,ys,rfl,h⟩:=h
 obtain⟨u,rfl,rx⟩:=y4u r
 cases rx
 rcases h with⟨hq,q⟩ | ⟨hq,q⟩
 ·obtain⟨its,r',pl,hz⟩:=I.list hq
  have hlen:=r'.length
  refine call_tuple_list pl.isList (fun h' kp=>?_) (by simp only[List.size_toArray] <;> omega)
  have I1:Inv X pins σ H { s with heap:=h' }:=I.kept (t':=s.toks) kp
  have I2:Inv X pins σ (upd H h'.objs.size (.tup ys)) { s with heap:=h'.push { cls:=.type "tuple",data:=.seq its.toArray } }:=
   I1.laid (t':=s.toks) (fun b o e=>Heap.get?_push_of_some _ e) (Nat.le_refl _) (show x2a X.prog X.w _ _ _ (.tup ys)from⟨hz,its,r',x4f.new _ _⟩)
  exact⟨.ref h'.objs.size,_,I2,rfl,q _ (I1.hok.fresh (Nat.le_refl _))⟩
 ·obtain⟨its,r',pl,hz⟩:=I.tuple hq
  exact call_tuple_same pl ⟨.ref p,H,I,rfl,q⟩
noncomputable def tyV (K:PySem.W.Frag) (T:String) (x:V) (H:Hp):Prop:=match x with
 | .str _=>T = "str"
 | .int _=>T = "int"
 | .ref p=>(T = "list" /\ ∃ xs,SqL K H p xs)\/(T = "tuple" /\ ((∃ o,K.lookup p=some o/\o.cls=.type "tuple" /\ o.dict=none)\/∃ xs,H p=some (.tup xs))) \/
   (T = "dict" /\ ((∃ kvs,H p=some (.dK kvs))\/∃ kvs,H p=some (.dT kvs)))\/(T = "set" /\ ∃ S n,H p=some (.set S n))
 | _=>False
theorem z8r {pins:List (Addr × Obj)} {σ:St} {H:Hp} {s:Shared} {T:String} {x:V} {v:Value} (I:Inv X pins σ H s) (r:x3i x v) (ty:tyV X.K T x H) :
  s.TypeIs v T/\∀ a,v=.ref a->∃ ob,s.heap.get? a=some ob/\ob.dict=none:=by
 cases x with
 | str z=>
  obtain⟨t,rfl⟩:=r
  cases (show T = "str" from ty)
  exact⟨typeIs_str s z t,fun _ e=>nomatch e⟩
 | int i=>
  obtain⟨t,rfl⟩:=r
  cases (show T = "int" from ty)
  exact⟨typeIs_int s i t,fun _ e=>nomatch e⟩
 | ref p=>
  cases r
  rcases ty with⟨rfl,xs,hq⟩ | ⟨rfl,⟨o,hk,hc,hd⟩ | ⟨xs,hk⟩⟩ | ⟨rfl,hk⟩ | ⟨rfl,S,n,hk⟩
  ·obtain⟨its,_,pl,_⟩:=I.list hq
   refine⟨pl.isList.typeIs,fun a e=>?_⟩
   cases e
   obtain⟨o,n,e,c,hd,_⟩:=pl
   exact⟨o,e,hd⟩
  ·refine⟨⟨o,I.kIn p o hk,hc⟩,fun a e=>?_⟩
   cases e
   exact⟨o,I.kIn _ o hk,hd⟩
  ·obtain⟨_,its,_,o,e,c,_,hd⟩:=(show x2a X.prog X.w H s.heap p (.tup xs)from I.hok p _ hk)
   refine⟨⟨o,e,c⟩,fun a e2=>?_⟩
   cases e2
   exact⟨o,e,hd⟩
  ·have z:∃ o,s.heap.get? p=some o/\o.ExactDict:=by
    rcases hk with⟨kvs,hk⟩ | ⟨kvs,hk⟩
    ·obtain⟨_,_,_,_,o,_,_,e,ex,_⟩:=I.hok p _ hk
     exact⟨o,e,ex⟩
    ·obtain⟨_,_,_,_,o,_,_,e,ex,_⟩:=I.hok p _ hk
     exact⟨o,e,ex⟩
   obtain⟨o,e,ex⟩:=z
   refine⟨⟨o,e,ex.1⟩,fun a e2=>?_⟩
   cases e2
   exact⟨o,e,ex.2.1⟩
  ·obtain⟨o,_,_,_,e,ex,_⟩:=I.hok p _ hk
   refine⟨⟨o,e,ex.1⟩,fun a e2=>?_⟩
   cases e2
   exact⟨o,e,ex.2.1⟩
 | _=>exact False.elim ty
noncomputable def tBM (K:PySem.W.Frag) (T:String) (r:V->List V->Hp->VK->Prop) (to:TE) (t:TA):TE:=fun σ H Q=>to σ H fun x H1=>tyV K T x H1/\t σ H1 fun xs H2=>r x xs H2 Q
variable {o e:Expr} {es:List Expr} {to:TE} {t:TA} {name:Str} {apos cpos:Pos} {T id:String} {r:V->List V->Hp->VK->Prop}
theorem z66 (pa:PlainAttrs T) (slot:Slot T name id) (hty:typeOf (.builtin id)=pure (.type "method_descriptor")) (hm:MtR X id r) (ho:PE X o to) (ha:PA X (e::es) t)
  (hbase:attributeBase o name X.env (eval o X.env)=eval o X.env:=by rfl)
  (hfew:((backTo cpos (starEach (e::es) X.env)).all (fun x=>!x.1) && (backToKw cpos (keywordEach [] X.env)).all (fun x=>x.1.isSome)
    && decide ((e::es).length+([]:List Keyword).length+(if([]:List Keyword).isEmpty then 0 else 1)<30))=true:=by rfl)
  (hline:(apos.endLine == cpos.line)=true:=by rfl) (hs:starEach (e::es) X.env=(false,eval e X.env)::starEach es X.env:=by rfl) (hplain:(backTo cpos (starEach es X.env)).any (·.1)=false:=by rfl) :
  PE X (.Call (.Attribute o name apos) (e::es) [] cpos) (tBM X.K T r to t):=by
 intro pins s σ H Q I h
 refine wpAny_Call_method_late hbase hfew hline rfl (thn (ho pins s σ H _ I h) fun v s1 hh0=>?_)
 obtain⟨x,H1,I1,r1,ty,q1⟩:=hh0
 obtain⟨h1,h2⟩:=z8r I1 r1 ty
 refine⟨T,id,pa,slot,hty,h1,h2,?_⟩
 have hA:=ha cpos pins s1 σ H1 _ I1 q1
 rw[hs]at hA ⊢
 refine Calls.callWith_builtin (by show(false || (backTo cpos (starEach es X.env)).any (·.1))=false; rw[hplain] <;> rfl) (Calls.evalArgs_plain ?_)
 exact thn hA fun us s2 ⟨vs,H2,I2,r2,q2⟩=>hm pins s2 σ H2 x vs v us Q I2 r1 r2 q2
end
noncomputable def MtM (X:Cx) (id:String) (r:V->List V->Hp->VK->Prop):Prop:=
 ∀ (pins:List (Addr × Obj)) (s:Shared) (σ:St) (H:Hp) (x:V) (xs:List V) (v:Value) (us:List Value) (Q:VK),Inv X pins σ H s->x3i x v->x2j xs us->r x xs H Q->
  wpAny (model X.prog X.w) X.A (call (.builtin id) (v::us)) (EP X pins σ Q) X.xe s
theorem x2j.one:∀ {x:V} {us:List Value},x2j [x] us->∃ u,us=[u]/\x3i x u
 | _,_,.cons r .nil=>⟨_,rfl,r⟩
theorem x2j.eraseIdx:∀ {xs:List V} {us:List Value} (i:Nat),x2j xs us->x2j (xs.eraseIdx i) (us.eraseIdx i)
 | _,_,_,.nil=>.nil
 | _,_,0,.cons _ t=>t
 | _,_,i+1,.cons r t=>.cons r (x2j.eraseIdx i t)
theorem x2j.rep {xs:List V} {us:List Value} (h:x2j xs us):∀ k:Nat,x2j (List.replicate k xs).flatten (List.replicate k us).flatten
 | 0=>.nil
 | k+1=>by
  rw[List.replicate_succ,List.replicate_succ,List.flatten_cons,List.flatten_cons]
  exact x2j.append h (x2j.rep h k)
theorem y33 {α:Type}:∀ (l:List α) (i:Nat),(l.eraseIdx i).length<=l.length
 | [],_=>Nat.le_refl _
 | _::_,0=>Nat.le_succ _
 | _::r,i+1=>Nat.succ_le_succ (y33 r i)
theorem y0j (its:List Value):∀ (k:Nat) (acc:List Value),
  List.foldl (fun x1 x2=>x1++x2) acc.toArray (List.replicate k its.toArray)=(acc++(List.replicate k its).flatten).toArray
 | 0,acc=>by simp
 | k+1,acc=>by
  have e:acc.toArray++its.toArray=(acc++its).toArray:=by simp
  have e2:(acc++its)++(List.replicate k its).flatten=acc++(List.replicate (k+1) its).flatten:=by
   rw[List.replicate_succ,List.flatten_cons,List.append_assoc]
  rw[<- e2,<- y0j its k (acc++its),<- e,List.replicate_succ,List.foldl_cons]
section
variable {X:Cx} {pins:List (Addr × Obj)} {σ:St} {H:Hp} {s:Shared} {l b:Addr} {xs ys zs:List V}
theorem Inv.lset {its its':List Value} {n:Nat} {f:Array Value->Array Value} {t':Nat} (I:Inv X pins σ H s) (hH:H l=some (.lst xs))
  (e:s.heap.get? l=some { cls:=.type "list",data:=.seq its.toArray n }) (hf:f its.toArray=its'.toArray) (hv:x2j ys its') (hz:ys.length<=sizeLine) :
  Inv X pins σ (upd H l (.lst ys)) { s with heap:=s.heap.update l (Obj.mapSeq f),toks:=t' }:=by
 have q:=PySem.IsL.update e f
 rw[hf]at q
 refine I.write (x:=l) (e:=l) (by rw[hH]; exact trivial) (.inl rfl) (fun b' u hb hu=>(Heap.get?_update_other s.heap (Obj.mapSeq f) (Ne.symm hb)).trans hu) ⟨_,q⟩ ?_
 exact⟨hz,its',_,hv,q⟩
theorem Inv.lnew {its:List Value} {t':Nat} (I:Inv X pins σ H s) (hv:x2j ys its) (hz:ys.length<=sizeLine) :
  Inv X pins σ (upd H s.heap.objs.size (.lst ys)) { s with heap:=s.heap.push { cls:=.type "list",data:=.seq its.toArray },toks:=t' }:=
 I.laid (fun _ _ q=>Heap.get?_push_of_some _ q) (Nat.le_refl _) ⟨hz,its,0,hv,Heap.get?_push_size _ rfl⟩
theorem Inv.fresh (I:Inv X pins σ H s):H s.heap.objs.size=none:=I.hok.fresh (Nat.le_refl _)
theorem Inv.lstM (I:Inv X pins σ H s) (hH:H l=some (.lst xs)):xs.length<=sizeLine/\∃ (its:List Value) (n:Nat),x2j xs its/\xs.length=its.length/\s.heap.get? l=some { cls:=.type "list",data:=.seq its.toArray n }:=by
 obtain⟨z,its,n,r,e⟩:=I.hok l _ hH
 exact⟨z,its,n,r,r.length,e⟩
theorem z0o {n:Nat} (h:n<=sizeLine):Builtin.List.listTooLong n=false:=by
 unfold Builtin.List.listTooLong
 exact decide_eq_false (by omega)
end
section
variable {X:Cx}
noncomputable def z52:V->List V->Hp->VK->Prop:=fun x vs H Q=>∃ l xs y,x=.ref l/\vs=[y]/\H l=some (.lst xs)/\xs.length<sizeLine/\Q .non (upd H l (.lst (xs++[y])))
theorem y8n:MtM X "list.append" z52:=by
 intro pins s σ H x vs v us Q I rx rv h
 obtain⟨l,xs,y,rfl,rfl,hH,hz,q⟩:=h
 cases rx
 obtain⟨u,rfl,ru⟩:=rv.one
 obtain⟨z,its,n,r,hl,e⟩:=I.lstM hH
 refine call_meets F.slot_list_append ⟨_,e,rfl⟩ F.entry_list_append (F.args_list_append_2 _ _) (PySem.list_append l its.toArray n u (by rw[List.size_toArray]; omega)) ⟨e,?_⟩
 refine⟨.non,_,I.lset (its':=its++[u]) hH e (by simp) (r.append (.cons ru .nil)) ?_,rfl,q⟩
 rw[List.length_append,List.length_singleton]
 omega
noncomputable def z9p:V->List V->Hp->VK->Prop:=fun x vs H Q=>∃ l xs i k y,x=.ref l/\vs=[.int i]/\H l=some (.lst xs) /\ -(2 ^ 63)<=i/\i<2 ^ 63/\seqIndex? i xs.length=some k/\xs[k]? = some y/\Q y (upd H l (.lst (xs.eraseIdx k)))
theorem z0q:MtM X "list.pop" z9p:=by
 intro pins s σ H x vs v us Q I rx rv h
 obtain⟨l,xs,i,k,y,rfl,rfl,hH,h1,h2,hk,hy,q⟩:=h
 cases rx
 obtain⟨u,rfl,ru⟩:=rv.one
 obtain⟨t,rfl⟩:=ru
 obtain⟨z,its,n,r,hl,e⟩:=I.lstM hH
 obtain⟨w,hw,rw'⟩:=r.get hy
 refine call_meets F.slot_list_pop ⟨_,e,rfl⟩ F.entry_list_pop (F.args_list_pop_2 _ _)
  (MeetsSeq.list_pop_at l its.toArray n i t k w (fitsIndex_both h1 h2) (by rw[List.size_toArray,<- hl]; exact hk) (by rw[<- Array.getElem?_toList]; exact hw) (by rw[List.size_toArray]; omega)) ⟨e,?_⟩
 refine⟨y,_,I.lset (its':=its.eraseIdx k) hH e ?_ (r.eraseIdx k) ?_,rw',q⟩
 ·show its.toArray.eraseIdxIfInBounds k=(its.eraseIdx k).toArray
  rw[List.eraseIdxIfInBounds_toArray]
 ·have:=y33 xs k
  omega
noncomputable def j2t:R2:=fun x y H Q=>∃ l k xs,x=.ref l/\y=.int k/\H l=some (.lst xs) /\ -(2 ^ 63)<=k/\k<2 ^ 63/\xs.length*k.toNat<=sizeLine /\
 ∀ p,H p=none->Q (.ref p) (upd H p (.lst (List.replicate k.toNat xs).flatten))
theorem y5b {α:Type} (xs:List α) (k:Nat):(List.replicate k xs).flatten.length=k*xs.length:=by
 induction k with
 | zero=>simp
 | succ k ih=>rw[List.replicate_succ,List.flatten_cons,List.length_append,ih,Nat.succ_mul,Nat.add_comm]
theorem z8j:OpR X (binaryOp .Mult) j2t:=by
 intro pins s σ H x y v u Q I rx ry h
 obtain⟨l,k,xs,rfl,rfl,hH,h1,h2,hz,q⟩:=h
 cases rx
 obtain⟨t,rfl⟩:=ry
 obtain⟨z,its,n,r,hl,e⟩:=I.lstM hH
 have hlen:its.toArray.size*k.toNat<=sizeLine:=by rw[List.size_toArray,<- hl]; exact hz
 have hcap:¬ its.toArray.size*k.toNat > (2 ^ 63-1) / 8:=by
  have:(sizeLine:Nat)<=(2 ^ 63-1) / 8:=by decide
  omega
 have hfit:¬ (!Builtin.List.listFitsIndex k)=true:=by
  rw[fitsIndex_both h1 h2]
  exact Bool.false_ne_true
 have hlong:¬ Builtin.List.listTooLong (its.toArray.size*k.toNat)=true:=by
  rw[z0o hlen]
  exact Bool.false_ne_true
 have hnew:List.foldl (fun x1 x2=>x1++x2) #[] (List.replicate (if its.toArray.isEmpty=true then 0 else k.toNat) its.toArray)=(List.replicate k.toNat its).flatten.toArray:=by
  have f0:∀ m:Nat,List.foldl (fun x1 x2=>x1++x2) #[] (List.replicate m its.toArray)=(List.replicate m its).flatten.toArray:=fun m=>by
   have:=y0j its m []
   rw[List.nil_append]at this
   exact this
  rw[f0]
  cases its with
  | nil=>simp
  | cons a r'=>rw[if_neg (by simp)]
 refine wpAny_binaryOp_repeat_ref (T:="list") (U:="int") (by decide) ⟨_,e,rfl⟩ (fun s'=>typeIs_int s' k t) noFill_list_mul F.fills_int_mul F.slot_int_rmul repeat_list F.slot_int_index.lookup
  (call_meets F.slot_int_rmul (typeIs_int s k t) F.entry_int_rmul (F.args_int_rmul_2 _ _) (int___rmul___int_list k t l its.toArray n)
    ⟨e,rfl,⟨_,e,rfl⟩,call_meets F.slot_list_mul ⟨_,e,rfl⟩ F.entry_list_mul (F.args_list_mul_2 _ _) (AutoListH.list___mul___list_int_3 l its.toArray n k t hfit hcap hlong) ⟨e,?_⟩⟩)
 rw[hnew]
 exact⟨.ref _,_,I.lnew (t':=s.toks) (r.rep k.toNat) (by rw[y5b,Nat.mul_comm]; exact hz),rfl,q _ I.fresh⟩
end
end L2
namespace Att
open PySem PySem.W PySem.Calls PyProof.Rows
theorem x9k {P:Params} {h:Heap}:∀ (ns:List Int) (vs:List Value),WellAll P h vs (ns.map WData.int)->IntsAre vs ns:=by
 intro ns
 induction ns with
 | nil=>
  intro vs w
  rw[List.map_nil]at w
  cases w
  exact .nil
 | cons n ns ih=>
  intro vs w
  rw[List.map_cons]at w
  cases w with
  | cons a b=>
   cases a
   exact .cons _ _ (ih _ b)
theorem y90 {l:OpenLaw} {n:Nat} (hn:l.most=some n) {P:Params} {h:Heap} {args:List WData} {vals:List Value}
  (hpre:l.row.toRowW.claim.pre args=true) (hwl:WellAll P h vals args) :
  ∃ a vs ns,vals=[Value.ref a]/\args=[WData.list (ns.map WData.int)]/\h.get? a=some { cls:=.type "list",data:=.seq vs.toArray }/\IntsAre vs ns/\ns.length<=n:=by
 have hsh:WShape.hasAll [] args [.list .int]=true:=(pre_splitW hpre).1
 have hc:l.pre.holds [] { args:=args }=true:=(pre_splitW hpre).2
 obtain⟨d,r,rfl,h1,h2⟩:=hasAllW_cons hsh
 obtain rfl:=hasAllW_nil h2
 obtain⟨xs,rfl,h3⟩:=hasW_list h1
 obtain⟨ns,rfl⟩:=items_int h3
 have hlen:ns.length<=n:=by
  unfold OpenLaw.pre at hc
  have h4:(WTm.not (.lt (.lit (.int (n:Int))) (.len (.arg 0)))).holds [] { args:=[.list (ns.map .int)] }=true:=by
   have h4:=(holds_andW hc).1
   rw[hn]at h4
   exact h4
  have h5:=condW_of h4 (w_not (w_lt w_lit (w_len_list (w_arg rfl))))
  rw[List.length_map]at h5
  refine Nat.le_of_not_lt fun q=>?_
  have q':(n:Int)<((ns.length:Nat):Int):=by omega
  first
   | (rw[decide_eq_true q']at h5; exact absurd h5 (by decide))
   | (simp at h5; omega)
 cases hwl with
 | cons w1 w2=>
  cases w2
  cases w1 with
  | list ho hall=>exact⟨_,_,ns,rfl,rfl,ho,x9k ns _ hall,hlen⟩
theorem y9o (l:OpenLaw) (args:List WData):l.row.toRowW.claim.post args (.bool true) args=true:=
 postW_of (r:=l.row.toRowW) (X:=(true == true))
  (show WShape.has [] (.bool true) .bool=true by first | rfl | decide | simp[WShape.has,WShape.arms,WShape.armsAll])
  (show(WTm.eq .res (.lit (.bool true))).value [] { args:=args,res:=some (.bool true),after:=args }=some (.bool (true == true))from w_eq_bool (w_res rfl) w_lit) rfl
theorem z6b {l:OpenLaw} {n:Nat} {q:Program} {loose:List Str} {XP:(Str->Option Value)->Heap->Prop} {YP:World->Heap->Prop} {d:DefRec}
  (hn:l.most=some n) (hdf:d.params.defaults=[])
  (call:∀ (w:World) (s₀ s₁:Shared) (mg mb:Str->Option Value) (fa:Addr) (o:Obj) (pm cd doc:Value) (a:Addr) (vs:List Value) (ns:List Int),
    Ground q loose [] XP w s₀ mg mb s₁.heap->YP w s₁.heap->
    s₁.heap.get? fa=some o->o.data=.func (docDef d.name d.params d.body d.scope pm cd doc)->s₁.heap.CodeRec cd d.name->mg d.name=some (.ref fa)->
    s₁.heap.get? a=some { cls:=.type "list",data:=.seq vs.toArray }->IntsAre vs ns->ns.length<=n->s₁.gens = #[]->
    codeAny (model l.prog w) callerA (.call (.ref fa) ⟨[.ref a],[]⟩) (fun r s'=>r=.ok (.ret (.bool true))/\OldK s₁.heap s'.heap/\s'.os=s₁.os/\AllBare s'.gens) s₁) :
  WalkO q loose XP YP l.row.toRowW d [] (fun f vs=>PySem.call f vs):=by
 intro w s₀ s₁ mg mb G Y fa o pm cd doc dV kV ho hd hcd hD hmg hg args vals as hpre hlay hrd hwl hlo
 obtain rfl:dV=.none:=Dflts.none hD hdf
 obtain rfl:kV=.none:=Dflts.noKw hD
 obtain⟨a,vs,ns,rfl,rfl,hobj,hints,hlen⟩:=y90 hn hpre hwl
 refine enter_call (codeAny_mono (call w s₀ s₁ mg mb fa o pm cd doc a vs ns G Y ho (fd_plain hd) hcd hmg hobj hints hlen hg) fun r s' hq=>?_)
 obtain⟨rfl,h2,h3,h4⟩:=hq
 exact⟨.inl ⟨.bool true,.bool true,[],rfl,fun _=>rfl,.bool true,y9o l _,fun _=>⟨List.Pairwise.nil,fun _ hm=>(nomatch hm)⟩⟩,h2,h3,h4⟩
section
variable {prog:Program} {w:World} {A:Around} {E:Value->Shared->Prop} {s:Shared} {K:Frag}
end
end Att
namespace L2
open PySem PySem.Spec PyProof.Rows
theorem y4c:∀ {vs:List Value} {ns:List Int},IntsAre vs ns->x2j (ns.map V.int) vs
 | _,_,.nil=>.nil
 | _,_,.cons n t h=>.cons ⟨t,rfl⟩ (y4c h)
end L2
namespace L2
open PySem PySem.Spec PyProof.Rows
end L2
namespace L2
open PySem PySem.Spec PyProof.Rows
noncomputable def x64 (s:Stmt):Arguments:=match s with
 | .FunctionDef _ a _ _ _ _ _ _ _ _=>a
 | _=>{ posonlyargs:=[],args:=[],vararg:=none,kwonlyargs:=[],kw_defaults:=[],kwarg:=none,defaults:=[] }
noncomputable def x35 (s:Stmt):List Stmt:=match s with
 | .FunctionDef _ _ b _ _ _ _ _ _ _=>b
 | _=>[]
noncomputable def x0e (s:Stmt):Scope:=match s with
 | .FunctionDef _ _ _ _ _ _ sc _ _ _=>sc
 | _=>{ kind:=.function,names:=[],isGenerator:=false,isCoroutine:=false }
noncomputable abbrev CX0:CXT:=fun _ _ _ _ _ _=>False
noncomputable abbrev E0:XK:=fun _ _ _=>False
theorem j1a {X:Cx}:y5y CX0 X E0:=fun _ _ _ _ _ _ _ h=>h.elim
structure Fun (K:PySem.W.Frag) (x qual:Str) (st:Stmt) (f:Addr) (fd:FuncData):Prop where
 ex:∃ (oc:Value) (od:Option Addr) (kV doc pm:Value) (an:Option Addr) (cdv ct:Value) (osl:Array (Option Value)),
  fd=PySem.W.fnOf x qual (x64 st) (x35 st) (x0e st) .none kV doc pm an cdv ct/\K.lookup f=some ⟨oc,od,.func fd,osl⟩/\PySem.W.codeIn K cdv qual=true
 kp:PySem.W.keepIn K (.ref f)=true
section
variable {P:Program} {w:World} {K:PySem.W.Frag} {mg:Str->Option Value} {base:Heap}
theorem Fun.ok {x qual:Str} {st:Stmt} {f:Addr} {fd:FuncData} {N ps:List Str} {k:Nat} {sp:Sp} (F:Fun K x qual st f fd) (S:FnScope N ps (x0e st)) (len:∀ vs H Q E,sp vs H Q E->vs.length=ps.length)
  (hbody:∀ (cdv:Value) (A:Around) (outer:List Env) (s:Shared) (H:Hp) (vs:List V) (Q:VK) (E:XK),Room k (A.deeper (envOfC qual (x0e st) s.heap.objs.size f cdv))->sp vs H Q E->
    ∃ t,PSs (y26 CX0 P w K mg base N qual (x0e st) f cdv A outer s H E).nox (x35 st) t/\t { nx:=fun _ H'=>Q .non H',rt:=Q } (y0v N vs) H):FnOk P w K mg base CX0 (k+1) f fd ps sp:=by
 obtain⟨oc,od,kV,doc,pm,an,cdv,ct,osl,rfl,lk,hcd⟩:=F.ex
 refine z7r lk hcd S len fun A outer s H vs Q E hr hsp=>?_
 obtain⟨t,h,q⟩:=hbody cdv A outer s H vs Q E hr hsp
 exact⟨t,h.nox,q⟩
theorem Fun.binds {x qual:Str} {st:Stmt} {f:Addr} {fd:FuncData} {ps:List Str} (F:Fun K x qual st f fd)
  (h:∀ (kV doc pm:Value) (an:Option Addr) (cdv ct:Value) (us:List Value),us.length=ps.length->bindArgs (PySem.W.fnOf x qual (x64 st) (x35 st) (x0e st) .none kV doc pm an cdv ct) ⟨us,[]⟩=pure (ps.zip us)):y31 K fd ps []:=by
 obtain⟨oc,od,kV,doc,pm,an,cdv,ct,osl,rfl,lk,hcd⟩:=F.ex
 exact .all (h kV doc pm an cdv ct)
theorem z33 {x qual:Str} {st:Stmt} {f:Addr} {oc:Value} {od an:Option Addr} {osl:Array (Option Value)} {kV doc pm cdv ct:Value} (l:K.lookup f=some ⟨oc,od,.func (PySem.W.fnOf x qual (x64 st) (x35 st) (x0e st) .none kV doc pm an cdv ct),osl⟩)
  (c:PySem.W.codeIn K cdv qual=true) (k:PySem.W.keepIn K (.ref f)=true):Fun K x qual st f (PySem.W.fnOf x qual (x64 st) (x35 st) (x0e st) .none kV doc pm an cdv ct):=⟨⟨oc,od,kV,doc,pm,an,cdv,ct,osl,rfl,l,c⟩,k⟩
end
theorem j1g {A:Around} {k:Nat} (hr:Room k A):A.units+1<cLine:=Nat.lt_of_le_of_lt (Nat.add_le_add_left (by decide:1<=64) _) hr.units
theorem x3g {n:Nat} (h:n<=1000):n<sizeLine:=Nat.lt_of_le_of_lt h (by decide)
section
variable {X:Cx}
theorem pv (i:Nat) {x:Str} {pos:Pos} (hN:X.N[i]? = some x:=by rfl) (hv:Vis X.env.scope x:=by first | exact Or.inl rfl | exact Or.inr (Or.inl rfl) | exact Or.inr (Or.inr rfl)) (hd:(x == ("__debug__":Str))=false:=by decide)
  (hcd:(x == ("__classdict__":Str))=false:=by decide):PE X (.Name x pos) (y0f i):=z9z hN hv hd hcd
end
section
variable {κ:Type} [DecidableEq κ]
noncomputable def y5x (kvs:List (κ × V)) (k:κ):Option V:=(kvs.find? fun kv=>decide (kv.1=k)).map (·.2)
noncomputable def z14 (kvs:List (κ × V)) (k:κ) (v:V):List (κ × V):=
 if(kvs.any fun kv=>decide (kv.1=k))=true then kvs.map (fun kv=>if kv.1=k then(kv.1,v)else kv)else kvs++[(k,v)]
theorem y2c {p:κ × V} {r:List (κ × V)} {k:κ} (e:p.1=k):y5x (p::r) k=some p.2:=by simp[y5x,List.find?_cons,e]
theorem y2m {p:κ × V} {r:List (κ × V)} {k:κ} (e:¬ p.1=k):y5x (p::r) k=y5x r k:=by simp[y5x,List.find?_cons,e]
theorem y59 (kvs:List (κ × V)) (k:κ) (v:V):(z14 kvs k v).length<=kvs.length+1:=by
 unfold z14
 split
 ·rw[List.length_map]; omega
 ·rw[List.length_append,List.length_cons,List.length_nil]; omega
theorem z61.getD {o:Option V} {u:Option Value} {d:V} {d':Value} (r:z61 o u) (rd:x3i d d'):x3i (o.getD d) (u.getD d'):=by
 cases o with
 | none=>cases u with
  | none=>exact rd
  | some _=>exact(show False from r).elim
 | some _=>cases u with
  | none=>exact(show False from r).elim
  | some _=>exact r
theorem KV.val {kvs:List (κ × V)} {vs:List (κ × Value)} (r:KV kvs vs) (k:κ):z61 (y5x kvs k) (valueAt vs k):=by
 unfold KV at r
 induction r with
 | nil=>exact True.intro
 | @cons p q ps qs h t ih=>
  obtain⟨h1,h2⟩:=h
  by_cases e:p.1=k
  ·have e':q.1=k:=h1.symm.trans e
   have b:valueAt (q::qs) k=some q.2:=by simp[valueAt,List.find?_cons,e']
   rw[y2c e,b]; exact h2
  ·have e':¬ q.1=k:=fun z=>e (h1.trans z)
   have b:valueAt (q::qs) k=valueAt qs k:=by simp[valueAt,List.find?_cons,e']
   rw[y2m e,b]; exact ih
theorem KV.any {kvs:List (κ × V)} {vs:List (κ × Value)} (r:KV kvs vs) (k:κ):(kvs.any fun kv=>decide (kv.1=k))=vs.any fun kv=>decide (kv.1=k):=by
 unfold KV at r
 induction r with
 | nil=>rfl
 | cons h t ih=>rw[List.any_cons,List.any_cons,ih,h.1]
theorem KV.repl {kvs:List (κ × V)} {vs:List (κ × Value)} (r:KV kvs vs) (k:κ) {y:V} {u:Value} (ry:x3i y u) :
  KV (kvs.map fun kv=>if kv.1=k then(kv.1,y)else kv) (vs.map fun kv=>if kv.1=k then(kv.1,u)else kv):=by
 unfold KV at r ⊢
 induction r with
 | nil=>exact .nil
 | @cons p q ps qs h t ih=>
  rw[List.map_cons,List.map_cons]
  refine .cons ?_ ih
  obtain⟨h1,h2⟩:=h
  by_cases e:p.1=k
  ·rw[if_pos e,if_pos (h1.symm.trans e)]; exact⟨h1,ry⟩
  ·rw[if_neg e,if_neg (fun z=>e (h1.trans z))]; exact⟨h1,h2⟩
theorem KV.put {kvs:List (κ × V)} {vs:List (κ × Value)} (r:KV kvs vs) (k:κ) {y:V} {u:Value} (ry:x3i y u):KV (z14 kvs k y) (stored vs k u):=by
 unfold z14 stored
 rw[r.any k]
 by_cases e:(vs.any fun kv=>decide (kv.1=k))=true
 ·rw[if_pos e,if_pos e]; exact r.repl k ry
 ·rw[if_neg e,if_neg e]; exact Paired.snoc r ⟨rfl,ry⟩
end
theorem z6l {P:Program} {w:World} {k:Key} {u:Value} (r:x3i (kV k) u):(x2r P w).is k u=true:=by
 cases k with
 | inl i=>obtain⟨t,e⟩:=(show ∃ t,u=Value.int i t from r); subst e; exact y5p P w i t
 | inr x=>obtain⟨t,e⟩:=(show ∃ t,u=Value.str x t from r); subst e; exact y5g P w x t
theorem y3l {P:Program} {w:World}:∀ {ks:List Key} {us:List Value},x2j (ks.map kV) us->ItemsAre (x2r P w) ks us
 | [],_,r=>by rw[List.map_nil]at r; cases r; exact .nil
 | k::ks,_,r=>by
  rw[List.map_cons]at r
  cases r with
  | cons h t=>exact .cons (z6l h) (y3l t)
noncomputable abbrev KT (H:Hp):List (List Key × V)->List (List Key × Addr × Value)->Prop:=Paired fun p q=>p.1=q.1/\H q.2.1=some (.tup (p.1.map kV))/\x3i p.2 q.2.2
theorem KT.val {H:Hp} {kvs:List (List Key × V)} {xs:List (List Key × Addr × Value)} (r:KT H kvs xs) (k:List Key):z61 (y5x kvs k) ((atKey xs k).map (·.2)):=by
 induction r with
 | nil=>exact True.intro
 | @cons p q ps qs h t ih=>
  obtain⟨h1,_,h2⟩:=h
  by_cases e:p.1=k
  ·have e':q.1=k:=h1.symm.trans e
   have b:atKey (q::qs) k=some q.2:=by simp[atKey,List.find?_cons,e']
   rw[y2c e,b]; exact h2
  ·have e':¬ q.1=k:=fun z=>e (h1.trans z)
   have b:atKey (q::qs) k=atKey qs k:=by simp[atKey,List.find?_cons,e']
   rw[y2m e,b]; exact ih
section
variable {P:Program} {w:World} {H:Hp} {h:Heap} {a:Addr}
theorem z89 {u:HO} (ok:HOk P w H h) (e:Rd H a u):x2a P w H h a u:=e.ok ok
theorem z4q {kvs:List (Key × V)} (ok:HOk P w H h) (e:Rd H a (.dK kvs)):kvs.length<=sizeLine/\(a == sysModules)=false/\∃ vs,KV kvs vs/\h.DictOf (x2r P w) a vs:=
 show x2a P w H h a (.dK kvs)from z89 ok e
theorem j0z {kvs:List (Key × V)} (ok:HOk P w H h) (e:H a=some (.dK kvs)):kvs.length<=sizeLine/\(a == sysModules)=false/\∃ vs,KV kvs vs/\h.DictOf (x2r P w) a vs:=z4q ok (.inl e)
theorem z3p {ks:List Key} (ok:HOk P w H h) (e:H a=some (.tup (ks.map kV))):(tupleKind (x2r P w)).is h ks a:=by
 obtain⟨_,its,r,o,h1,h2,⟨n,h3⟩,_⟩:=(show x2a P w H h a (.tup (ks.map kV))from ok a _ e)
 exact⟨o,its.toArray,n,h1,h2,h3,by simpa using y3l r⟩
theorem z9w {kvs:List (List Key × V)} (ok:HOk P w H h) (e:Rd H a (.dT kvs)):kvs.length<=sizeLine/\(a == sysModules)=false /\
  ∃ xs,KT H kvs xs/\h.DictOfH (tupleKind (x2r P w)) a xs:=by
 obtain⟨z,y,xs,r,o,es,ep,h1,h2,h3,h4,h5⟩:=(show x2a P w H h a (.dT kvs)from z89 ok e)
 refine⟨z,y,xs,r,o,es,ep,h1,h2,h3,h4,fun x hx=>?_,h5⟩
 have all:∀ {l:List (List Key × V)} {m:List (List Key × Addr × Value)},KT H l m->∀ x∈m,(tupleKind (x2r P w)).is h x.1 x.2.1:=by
  intro l m q
  induction q with
  | nil=>intro x hx; exact nomatch hx
  | @cons p q ps qs hq t ih=>
   intro x hx
   rcases List.mem_cons.mp hx with e | hx
   ·subst e
    exact z3p ok (by rw[<- hq.1]; exact hq.2.1)
   ·exact ih x hx
 exact all r x hx
end
noncomputable def z88 (H:Hp) (a:Addr) (y:V) (r:Option V):Prop:=
 (∃ kvs k,Rd H a (.dK kvs)/\y=kV k/\r=y5x kvs k)\/∃ kvs k b,Rd H a (.dT kvs)/\y=.ref b/\H b=some (.tup (k.map kV))/\r=y5x kvs k
theorem z88.k {H:Hp} {a:Addr} {kvs:List (Key × V)} {k:Key} (e:H a=some (.dK kvs)):z88 H a (kV k) (y5x kvs k):=.inl ⟨kvs,k,.inl e,rfl,rfl⟩
section
variable {X:Cx} {pins:List (Addr × Obj)} {σ:St} {H:Hp} {s:Shared} {a:Addr} {y v:V} {u r:Value} {o:Option V} {A:Around} {E:Value->Shared->Prop}
theorem Inv.big (I:Inv X pins σ H s):sysModules<s.heap.objs.size:=by
 have h:mainGlobals<s.heap.objs.size:=(I.mod.glob.keeps I.bk).lt
 exact Nat.lt_trans (by decide) h
theorem z6d {h':Heap} {t':Nat} {ob:HO} (I:Inv X pins σ H s) (mu:Mut (H a)) (hs:Heap.SameBut a s.heap h') (he:∃ q,h'.get? a=some q) (new:x2a X.prog X.w (upd H a ob) h' a ob) :
  Inv X pins σ (upd H a ob) { s with heap:=h',toks:=t' }:=
 I.write (x:=a) (e:=a) mu (.inl rfl) (fun b q hb z=>(hs.2 b hb).trans z) he new
theorem z7j {P:Program} {w:World} {H':Hp} {h':Heap} {kvs:List (Key × V)} {vs:List (Key × Value)} (z:kvs.length<=sizeLine) (hd:(a == sysModules)=false) (rel:KV kvs vs) (dd:h'.DictOf (x2r P w) a vs) :
  x2a P w H' h' a (.dK kvs):=⟨z,hd,vs,rel,dd⟩
end
theorem z0p {P:Program} {w:World} {H:Hp} (h:Heap) (hb:sysModules<h.objs.size):x2a P w H (h.push { cls:=.type "dict",data:=.dict #[] }) h.objs.size (.dK []):=
 ⟨Nat.zero_le _,beq_eq_false_iff_ne.mpr (Ne.symm (Nat.ne_of_lt hb)),[],.nil,Heap.DictOf.new h⟩
noncomputable def y9i:List (TE × TE)->St->Hp->(List (V × V)->Hp->Prop)->Prop
 | [],_,H,Q=>Q [] H
 | (tk,tv)::r,σ,H,Q=>tk σ H fun x H1=>tv σ H1 fun y H2=>y9i r σ H2 fun ps H3=>Q ((x,y)::ps) H3
noncomputable abbrev VV:List (V × V)->List (Value × Value)->Prop:=Paired fun p q=>x3i p.1 q.1/\x3i p.2 q.2
noncomputable def PPs (X:Cx) (pos:Pos) (keys:List (Option Expr)) (values:List Expr) (trs:List (TE × TE)):Prop:=
 ∀ (pins:List (Addr × Obj)) (s:Shared) (σ:St) (H:Hp) (Q:List (V × V)->Hp->Prop),Inv X pins σ H s->y9i trs σ H Q->
  wpAny (model X.prog X.w) X.A (evalPairs (pairTrees keys values X.env pos)) (fun vs s'=>∃ ps H',Inv X pins σ H' s'/\VV ps vs/\Q ps H') X.xe s
theorem z4a {X:Cx} {pos:Pos}:PPs X pos [] [] []:=fun pins s σ H Q I h=>pairTrees_nil_walk ⟨[],H,I,.nil,h⟩
theorem y66 {X:Cx} {pos:Pos} {k v:Expr} {ks:List (Option Expr)} {vs:List Expr} {tk tv:TE} {trs:List (TE × TE)} (hk:PE X k tk) (hv:PE X v tv) (hr:PPs X pos ks vs trs) :
  PPs X pos (some k::ks) (v::vs) ((tk,tv)::trs):=fun pins s σ H Q I h=>
 pairTrees_cons_walk (thn (hk pins s σ H _ I h) fun u s1 ⟨x,H1,I1,rx,q1⟩=>thn (hv pins s1 σ H1 _ I1 q1) fun w2 s2 ⟨y,H2,I2,ry,q2⟩=>
  thn (hr pins s2 σ H2 _ I2 q2) fun ws s3 ⟨ps,H3,I3,rel,q3⟩=>⟨(x,y)::ps,H3,I3,.cons ⟨rx,ry⟩ rel,q3⟩)
noncomputable def y03 (kvs more:List (Key × V)):List (Key × V):=more.foldl (fun acc kv=>z14 acc kv.1 kv.2) kvs
theorem KV.merge:∀ {more:List (Key × V)} {rs:List (Key × Value)} {kvs:List (Key × V)} {vs:List (Key × Value)},KV more rs->KV kvs vs->KV (y03 kvs more) (merged vs rs):=by
 intro more rs kvs vs r
 unfold KV at r
 induction r generalizing kvs vs with
 | nil=>intro q; exact q
 | @cons p q ps qs h t ih=>
  intro r0
  have e:KV (z14 kvs p.1 p.2) (stored vs q.1 q.2):=by
   have:=r0.put p.1 h.2
   rw[<- h.1]; exact this
  exact ih e
theorem x7u:∀ (more kvs:List (Key × V)),(y03 kvs more).length<=kvs.length+more.length
 | [],kvs=>by show kvs.length<=kvs.length+0; omega
 | p::r,kvs=>by
  have h1:=x7u r (z14 kvs p.1 p.2)
  have h2:=y59 kvs p.1 p.2
  show(y03 (z14 kvs p.1 p.2) r).length<=_
  rw[List.length_cons]; omega
theorem y1e {P:Program} {w:World}:∀ {kvs:List (Key × V)} {ws:List (Value × Value)},VV (kvs.map fun kv=>(kV kv.1,kv.2)) ws->∃ rs,Carries (x2r P w) ws rs/\KV kvs rs
 | [],_,r=>by rw[List.map_nil]at r; cases r; exact⟨[],True.intro,.nil⟩
 | p::kvs,_,r=>by
  rw[List.map_cons]at r
  cases r with
  | @cons a b as bs h t=>
   obtain⟨rs,c,q⟩:=y1e (P:=P) (w:=w) t
   obtain⟨b1,b2⟩:=b
   exact⟨(p.1,b2)::rs,⟨z6l h.1,rfl,c⟩,.cons ⟨rfl,h.2⟩ q⟩
noncomputable def j14 (trs:List (TE × TE)):TE:=fun σ H Q=>∀ p,H p=none->y9i trs σ (upd H p (.dK [])) fun ps H2=>H2 p=some (.dK [])/\∃ kvs:List (Key × V),ps=kvs.map (fun kv=>(kV kv.1,kv.2))/\kvs.length<=15/\Q (.ref p) (upd H2 p (.dK (y03 [] kvs)))
theorem z6x {X:Cx} {pos:Pos} {keys:List (Option Expr)} {values:List Expr} {trs:List (TE × TE)} (h:PPs X pos keys values trs) (hall:keys.all (·.isSome)=true) (hl:keys.length=values.length) (h0:keys ≠ [])
  (h15:keys.length<=15):PE X (.Dict keys values pos) (j14 trs):=by
 intro pins s σ H Q I q
 have hn:=I.hok.fresh (Nat.le_refl s.heap.objs.size)
 have I1:=I.laid (a:=s.heap.objs.size) (o:=.dK []) (h':=s.heap.push { cls:=.type "dict",data:=.dict #[] }) (t':=s.toks) (fun _ _ q=>Heap.get?_push_of_some _ q) (Nat.le_refl _) (z0p s.heap I.big)
 refine wpAny_Dict_walk (knd:=x2r X.prog X.w) hall hl h0 h15 (thn (h pins _ σ _ _ I1 (q _ hn)) fun ws s2 hh0=>?_)
 obtain⟨ps,H2,I2,rel,e,kvs,ep,lk,q2⟩:=hh0
 subst ep
 obtain⟨rs,c,rk⟩:=y1e (P:=X.prog) (w:=X.w) rel
 obtain⟨z,hd,vs0,r0,dd⟩:=j0z I2.hok e
 cases r0
 refine⟨rs,c,dd,fun h' dd' hs=>⟨.ref s.heap.objs.size,_,?_,rfl,q2⟩⟩
 have hz:(y03 [] kvs).length<=sizeLine:=by
  have h1:=x7u kvs []
  rw[List.length_nil]at h1
  rw[sizeLine_eq]; omega
 have he:∃ q,h'.get? s.heap.objs.size=some q:=let ⟨q,_,_,hq,_⟩:=dd'; ⟨q,hq⟩
 exact z6d I2 (by rw[e]; exact True.intro) hs he (z7j hz hd (rk.merge .nil) dd')
structure M2 (X:Cx) (o:Expr) (m:Str) (apos:Pos) (e f:Expr) (cpos:Pos):Prop where
 base:attributeBase o m X.env (eval o X.env)=eval o X.env
 few:((backTo cpos (starEach [e,f] X.env)).all (fun x=>!x.1) && (backToKw cpos (keywordEach [] X.env)).all (fun x=>x.1.isSome)
  && decide (([e,f]:List Expr).length+([]:List Keyword).length+(if([]:List Keyword).isEmpty then 0 else 1)<30))=true
 line:(apos.endLine == cpos.line)=true
 trees:backTo cpos (starEach [e,f] X.env)=[(false,eval e X.env),(false,eval f X.env)]
noncomputable def IsD (H:Hp) (a:Addr):Prop:=(∃ kvs,Rd H a (.dK kvs))\/∃ kvs,Rd H a (.dT kvs)
theorem z9y {X:Cx} {pins:List (Addr × Obj)} {σ:St} {H:Hp} {s:Shared} {a:Addr} (I:Inv X pins σ H s) (d:IsD H a) :
  s.TypeIs (.ref a) "dict" /\ (∀ b,Value.ref a=.ref b->∃ ob,s.heap.get? b=some ob/\ob.dict=none)/\(a == sysModules)=false:=by
 rcases d with⟨kvs,e⟩ | ⟨kvs,e⟩
 ·obtain⟨_,hd,vs,_,dd⟩:=z4q I.hok e
  refine⟨dd.typeIs,fun b q=>?_,hd⟩
  cases q
  obtain⟨ob,_,_,h1,h2,_⟩:=dd
  exact⟨ob,h1,h2.2.1⟩
 ·obtain⟨_,hd,xs,_,dd⟩:=z9w I.hok e
  refine⟨dd.typeIs,fun b q=>?_,hd⟩
  cases q
  obtain⟨ob,_,_,h1,h2,_⟩:=dd
  exact⟨ob,h1,h2.2.1⟩
section
variable {X:Cx} {pins:List (Addr × Obj)} {σ:St} {H:Hp} {s:Shared} {a:Addr} {y d:V} {u r:Value} {o:Option V} {A:Around} {E:Value->Shared->Prop}
theorem j07 {Q:Value->Shared->Prop} (hu:A.units+1<cLine) (I:Inv X pins σ H s) (g:z88 H a y o) (ry:x3i y u) (rd:x3i d r) (h:∀ w' s',Inv X pins σ H s'->x3i (o.getD d) w'->Q w' s') :
  wpAny (model X.prog X.w) A (call (.builtin "dict.get") [.ref a,u,r]) Q E s:=by
 rcases g with⟨kvs,k,e,ey,l⟩ | ⟨kvs,k,b,e,ey,eb,l⟩
 ·subst ey
  obtain⟨z,hd,vs,rel,dd⟩:=z4q I.hok e
  refine call_meetsIn PySem.F.slot_dict_get dd.typeIs PySem.F.entry_dict_get (PySem.F.args_dict_get_3 _ _ _) (meets_dict_get_default (x2r X.prog X.w) a (z6l ry) hd r) ⟨_,dd.mapOf,h _ _ (I.tok _) ?_⟩
  rw[l]
  exact(rel.val k).getD rd
 ·subst ey
  cases (show u=Value.ref b from ry)
  obtain⟨z,hd,xs,rel,dd⟩:=z9w I.hok e
  refine call_meetsIn PySem.F.slot_dict_get dd.typeIs PySem.F.entry_dict_get (PySem.F.args_dict_get_3 _ _ _) (meetsH_dict_get_default (tupleKind (x2r X.prog X.w)) a b hd r) ⟨tupleKind_room_in1 hu,k,xs,z3p I.hok eb,dd,h _ _ (I.tok _) ?_⟩
  rw[l]
  exact(rel.val k).getD rd
end
noncomputable def j0k (td ty tx:TE):TE:=fun σ H Q=>td σ H fun x H1=>∃ a,x=.ref a/\IsD H1 a/\ty σ H1 fun y H2=>tx σ H2 fun z H3=>∃ o,z88 H3 a y o/\Q (o.getD z) H3
section
variable {X:Cx} {o e f:Expr} {apos cpos:Pos} {td ty tx:TE}
theorem z2a (hu:X.A.units+1<cLine) (ho:PE X o td) (he:PE X e ty) (hf:PE X f tx) (m:M2 X o "get" apos e f cpos):PE X (.Call (.Attribute o "get" apos) [e,f] [] cpos) (j0k td ty tx):=by
 intro pins s σ H Q I h
 refine wpAny_Call_method m.base m.few m.line PySem.F.plainAttrs_dict PySem.F.slot_dict_get PySem.F.type_dict_get (thn (ho pins s σ H _ I h) fun u s1 hh0=>?_)
 obtain⟨x,H1,I1,rx,a,ex,d,q1⟩:=hh0
 subst ex
 obtain rfl:u=Value.ref a:=rx
 obtain⟨t1,t2,_⟩:=z9y I1 d
 refine⟨t1,t2,?_⟩
 rw[m.trees]
 refine Calls.callWith_builtin rfl (Calls.evalArgs_plain (Calls.spliced_cons (thn (he pins s1 σ H1 _ I1 q1) fun iv s2 ⟨y,H2,I2,ry,q2⟩=>
  Calls.spliced_cons (thn (hf pins s2 σ H2 _ I2 q2) fun fv s3 ⟨z,H3,I3,rz,ov,g,q3⟩=>Calls.spliced_nil ?_))))
 exact j07 hu I3 g ry rz fun w' s4 I4 rw'=>⟨_,H3,I4,rw',q3⟩
end
theorem y4a {prog:Program} {w:World} {A:Around} {R:Result->Shared->Prop} {s:Shared} {elt target iter:Expr} {ifs:List Expr} {scope:Scope} {pos:Pos} {it acc:Value} {env:Env} (I:Nat->Shared->Prop)
  (turn:∀ n s,I n s->wpAny (model prog w) A (pyNext it) (fun r s₁=>match r with
    | none=>R (.ok .next) s₁
    | some v=>wpAny (model prog w) A (letOwnedTupleGo target it v) (fun _ s₁'=>wpAny (model prog w) A (assign target env v) (fun _ s₂=>
      wpAny (model prog w) A (forIn ifs true fun c r=>if r=true then do let ok <- isTrue c env (eval c env); pure (ForInStep.yield ok)else pure (ForInStep.yield r)) (fun ok s₃=>
       if ok=true then wpAny (model prog w) A (eval elt env) (fun x s₄=>
        wpAny (model prog w) A (call (.builtin "list.append") [acc,x]) (fun _ s₅=>∃ m,m<n/\I m s₅) (fun _ _=>False) s₄) (fun _ _=>False) s₃
       else ∃ m,m<n/\I m s₃) (fun _ _=>False) s₂) (fun _ _=>False) s₁') (fun _ _=>False) s₁) (fun _ _=>False) s)
  (n:Nat) (h:I n s):codeAny (model prog w) A (.compLoop (.ListComp elt [⟨target,iter,ifs,0⟩] scope pos) 0 it acc env) R s:=by
 refine codeAny_loop rfl I (fun n s hI=>?_) n h
 show wpAny _ A ((compTurn (.ListComp elt [⟨target,iter,ifs,0⟩] scope pos) 0 it acc env).onRaise (fun x=>do noteFrame x env; theTreesLotGoes x)) _ _ s
 refine wpAny_noted ?_
 rw[compTurn_list]
 refine wpAny_bind (wpAny_standAt (wpAny_bind (wpAny_mono (turn n s hI) (fun r s₁ h₁=>?_) fun _ _ h'=>h'.elim)))
 cases r with
 | none=>exact wpAny_pure h₁
 | some v=>
  refine wpAny_bind (wpAny_mono h₁ (fun _ s₁' h₁'=>?_) fun _ _ h'=>h'.elim)
  refine wpAny_bind (wpAny_mono h₁' (fun _ s₂ h₂=>wpAny_bind (wpAny_mono h₂ (fun ok s₃ h₃=>?_) fun _ _ h'=>h'.elim)) fun _ _ h'=>h'.elim)
  cases ok with
  | false=>exact wpAny_pure ⟨rfl,h₃⟩
  | true=>
   exact wpAny_bind (wpAny_bind (wpAny_mono h₃ (fun x s₄ h₄=>wpAny_bind (wpAny_mono h₄ (fun _ s₅ h₅=>wpAny_pure (wpAny_pure ⟨rfl,h₅⟩)) fun _ _ h'=>h'.elim)) fun _ _ h'=>h'.elim))
theorem y5e {M:Model} {A:Around} {E:Value->Shared->Prop} {s:Shared} {scope:Scope} {globals:Addr} {cl:List (Str × Addr)} {qual:Str} {outer:Env} {Q:Env->Shared->Prop}
  (hQ:Q (newEnv scope s.heap.objs.size globals (cellsFrom (s.heap.objs.size+1) scope.names cl) qual none .none (some outer) builtinsNs)
    { s with heap:=pushCells (s.heap.push { cls:=.type "dict",data:=.dict #[] }) scope.names }) :
  wpAny M A (newFunctionEnv scope globals cl [] qual none .none (some outer)) Q E s:=by
 simp only[newFunctionEnv,Option.isSome_some,if_true]
 refine wpAny_bind (wpAny_alloc ?_)
 refine wpAny_bind (wpAny_layCells _ (fun name kind cells=>by cases hkc:kind == NameKind.cell <;> simp[hkc]) _ _ _ _ ?_)
 rw[show({ s with heap:=s.heap.push { cls:=.type "dict",data:=.dict #[] } }:Shared).heap.objs.size=s.heap.objs.size+1 from Heap.size_push ..]
 refine wpAny_bind ?_
 rw[List.forIn_nil]
 exact wpAny_pure (wpAny_pure hQ)
noncomputable def x27 (cells:List (Str × Addr)):List (Str × NameKind)->List (Str × Addr)->List (Str × Addr)
 | [],acc=>acc
 | (n,k)::r,acc=>if k == .free then(match cells.lookup n with
   | some c=>x27 cells r ((n,c)::acc)
   | none=>x27 cells r acc)else x27 cells r acc
theorem x7p {scope:Scope} {env:Env} (h:∀ y∈scope.names,y.2=.free->∃ c,env.cells.lookup y.1=some c):closureFor scope env=pure (x27 env.cells scope.names []):=by
 unfold closureFor
 have key:∀ (names:List (Str × NameKind)) (acc:List (Str × Addr)),(∀ y∈names,y.2=.free->∃ c,env.cells.lookup y.1=some c)->
   (forIn names acc (fun(x:Str × NameKind) (r:List (Str × Addr))=>(match x with
     | (name,kind)=>if(kind == NameKind.free)=true then do
       let c <- cellOf env name
       pure (ForInStep.yield ((name,c)::r))
      else pure (ForInStep.yield r):Sem (ForInStep (List (Str × Addr))))))=(pure (x27 env.cells names acc):Sem (List (Str × Addr))):=by
  intro names
  induction names with
  | nil=>intro acc _; rfl
  | cons y r ih=>
   intro acc hh
   obtain⟨n,kd⟩:=y
   rw[List.forIn_cons]
   unfold x27
   by_cases hk:(kd == NameKind.free)=true
   ·obtain⟨c,hc⟩:=hh (n,kd) List.mem_cons_self (by simpa using hk)
    have hc':env.cells.lookup n=some c:=hc
    simp only[hk,if_true,hc']
    have e:cellOf env n=pure c:=by unfold cellOf; rw[hc']
    rw[e]
    exact ih ((n,c)::acc) fun z hz=>hh z (List.mem_cons_of_mem _ hz)
   ·simp only[hk]
    exact ih acc fun z hz=>hh z (List.mem_cons_of_mem _ hz)
 exact(congrArg (fun m=>m >>= fun cs=>(pure cs:Sem (List (Str × Addr)))) (key scope.names [] h)).trans rfl
theorem x5a {cells:List (Str × Addr)}:∀ {names:List (Str × NameKind)} {acc:List (Str × Addr)},(∀ y c,(y,c)∈acc->cells.lookup y=some c)->∀ y c,(y,c)∈x27 cells names acc->cells.lookup y=some c
 | [],_,h,y,c,m=>h y c m
 | (n,k)::r,acc,h,y,c,m=>by
  unfold x27 at m
  split at m
  ·split at m
   ·rename_i c' e
    refine x5a (acc:=(n,c')::acc) (fun z d hz=>?_) y c m
    rcases List.mem_cons.mp hz with q | q
    ·cases q; exact e
    ·exact h z d q
   ·exact x5a h y c m
  ·exact x5a h y c m
theorem x59 {cells:List (Str × Addr)}:∀ {names:List (Str × NameKind)} {acc:List (Str × Addr)} {y:Str},(acc.lookup y).isSome=true->((x27 cells names acc).lookup y).isSome=true
 | [],_,_,h=>h
 | (n,k)::r,acc,y,h=>by
  unfold x27
  split
  ·split
   ·refine x59 ?_
    rw[List.lookup_cons]
    split
    ·rfl
    ·exact h
   ·exact x59 h
  ·exact x59 h
theorem x4b {cells:List (Str × Addr)} {y:Str} {c:Addr} (hc:cells.lookup y=some c):∀ {names:List (Str × NameKind)} {acc:List (Str × Addr)},(y,NameKind.free)∈names->((x27 cells names acc).lookup y).isSome=true
 | (n,k)::r,acc,h=>by
  unfold x27
  rcases List.mem_cons.mp h with q | q
  ·cases q
   simp only[hc]
   rw[if_pos (by rfl)]
   refine x59 ?_
   rw[List.lookup_cons,beq_self_eq_true]
   rfl
  ·split
   ·split
    ·exact x4b hc q
    ·exact x4b hc q
   ·exact x4b hc q
theorem x56:∀ {names:List (Str × NameKind)} {h:Heap} {acc:List (Str × Addr)} {y:Str} {c:Addr},(y,c)∈cellsFrom h.objs.size names acc->(y,c)∈acc\/(h.objs.size<=c/\(pushCells h names).IsCell c none)
 | [],_,_,_,_,m=>.inl m
 | (n,k)::r,h,acc,y,c,m=>by
  unfold cellsFrom at m
  unfold pushCells
  split at m
  ·rename_i hk
   rw[if_pos hk]
   have m':(y,c)∈cellsFrom (h.push { cls:=.type "cell",data:=.cell none }).objs.size r ((n,h.objs.size)::acc):=by rw[Heap.size_push]; exact m
   rcases x56 m' with q | ⟨q1,q2⟩
   ·rcases List.mem_cons.mp q with e | q
    ·cases e
     refine .inr ⟨Nat.le_refl _,_,pushCells_keeps _ _ _ _ (Heap.get?_push_size _ rfl),rfl⟩
    ·exact .inl q
   ·rw[Heap.size_push]at q1
    exact .inr ⟨by omega,q2⟩
  ·rename_i hk
   rw[if_neg hk]
   exact x56 m
theorem x51:∀ {names:List (Str × NameKind)} {n:Nat} {acc:List (Str × Addr)},(∀ y c,(y,c)∈acc->c<n)->(∀ x y c,(x,c)∈acc->(y,c)∈acc->x=y)->∀ x y c,(x,c)∈cellsFrom n names acc->(y,c)∈cellsFrom n names acc->x=y
 | [],_,_,_,h=>h
 | (nm,k)::r,n,acc,hlt,h=>by
  unfold cellsFrom
  split
  ·refine x51 (n:=n+1) (acc:=(nm,n)::acc) (fun y c m=>?_) (fun x y c m1 m2=>?_)
   ·rcases List.mem_cons.mp m with e | m
    ·cases e; exact Nat.lt_succ_self _
    ·exact Nat.lt_succ_of_lt (hlt y c m)
   ·rcases List.mem_cons.mp m1 with e1 | m1 <;> rcases List.mem_cons.mp m2 with e2 | m2
    ·cases e1; cases e2; rfl
    ·cases e1; exact absurd (hlt y _ m2) (Nat.lt_irrefl _)
    ·cases e2; exact absurd (hlt x _ m1) (Nat.lt_irrefl _)
    ·exact h x y c m1 m2
  ·exact x51 hlt h
theorem x57 {lo:Nat} {y:Str}:∀ {names:List (Str × NameKind)} {n:Nat} {acc:List (Str × Addr)},lo<=n->(∀ c,acc.lookup y=some c->lo<=c)->∀ c,(cellsFrom n names acc).lookup y=some c->lo<=c
 | [],_,_,_,h=>h
 | (nm,k)::r,n,acc,hn,h=>by
  unfold cellsFrom
  split
  ·refine x57 (n:=n+1) (by omega) fun c e=>?_
   rw[List.lookup_cons]at e
   split at e
   ·cases e; exact hn
   ·exact h c e
  ·exact x57 hn h
theorem x5x {lo:Nat} {y:Str}:∀ {names:List (Str × NameKind)} {n:Nat} {acc:List (Str × Addr)},lo<=n->(y,NameKind.cell)∈names->∀ c,(cellsFrom n names acc).lookup y=some c->lo<=c
 | (nm,k)::r,n,acc,hn,h=>by
  unfold cellsFrom
  rcases List.mem_cons.mp h with q | q
  ·cases q
   rw[if_pos (by rfl)]
   refine x57 (n:=n+1) (by omega) fun c e=>?_
   rw[List.lookup_cons,beq_self_eq_true]at e
   cases e; exact hn
  ·split
   ·exact x5x (n:=n+1) (by omega) q
   ·exact x5x hn q
theorem x40 {y:Str}:∀ {names:List (Str × NameKind)} {n:Nat} {acc:List (Str × Addr)},(y,NameKind.cell) ∉ names->(cellsFrom n names acc).lookup y=acc.lookup y
 | [],_,_,_=>rfl
 | (nm,k)::r,n,acc,h=>by
  unfold cellsFrom
  split
  ·rename_i hk
   rw[x40 (fun z=>h (List.mem_cons_of_mem _ z)),List.lookup_cons]
   have hne:(y == nm)=false:=by
    cases e:y == nm with
    | false=>rfl
    | true=>
     have e1:y=nm:=beq_iff_eq.mp e
     have e2:k=NameKind.cell:=by simpa using hk
     exact absurd (by rw[e1,<- e2]; exact List.mem_cons_self) h
   rw[hne]
  ·exact x40 fun z=>h (List.mem_cons_of_mem _ z)
noncomputable def y3k (env:Env) (y:Str) (k:NameKind):NameKind:=if(k == NameKind.free && env.scope.kind == .function && env.kindOf y == some .cell)then .cell else k
theorem x4m {env:Env} {y:Str}:∀ (names:List (Str × NameKind)),(names.map fun(n,k)=>if(k == NameKind.free && env.scope.kind == .function && env.kindOf n == some .cell)then(n,NameKind.cell)else(n,k)).lookup y=(names.lookup y).map (y3k env y)
 | []=>rfl
 | (n,k)::r=>by
  have ih:=x4m (env:=env) (y:=y) r
  show List.lookup y ((if(k == NameKind.free && env.scope.kind == .function && env.kindOf n == some .cell)=true then(n,NameKind.cell)else(n,k))::_)=_
  cases hx:y == n with
  | true=>
   have e:=beq_iff_eq.mp hx
   subst e
   rw[List.lookup_cons,List.lookup_cons]
   by_cases hc:(k == NameKind.free && env.scope.kind == .function && env.kindOf y == some .cell)=true
   ·simp only[y3k,hc,if_true,beq_self_eq_true,Option.map_some]
   ·simp only[y3k,hc,beq_self_eq_true,Option.map_some]
    simp
  | false=>
   by_cases hc:(k == NameKind.free && env.scope.kind == .function && env.kindOf n == some .cell)=true
   ·rw[if_pos hc,List.lookup_cons,List.lookup_cons]; simp only[hx]; exact ih
   ·rw[if_neg hc,List.lookup_cons,List.lookup_cons]; simp only[hx]; exact ih
theorem y3q {l:List (Str × NameKind)} (hn:(l.map (·.1)).Nodup) {y:Str} {k:NameKind} (h:(y,k)∈l):l.lookup y=some k:=by
 induction l with
 | nil=>cases h
 | cons p r ih=>
  rw[List.lookup_cons]
  rcases List.mem_cons.mp h with e | h
  ·rw[<- e,beq_self_eq_true]
  ·have hne:y≠p.1:=fun e=>by
    have:=(List.nodup_cons.mp hn).1
    exact this (by show p.1∈_; rw[<- e]; exact List.mem_map.mpr ⟨(y,k),h,rfl⟩)
   have:(y == p.1)=false:=by simpa using hne
   rw[this]
   exact ih (List.nodup_cons.mp hn).2 h
noncomputable def y86 (scope:Scope) (env:Env) (C:Addr):Env:=
 { newEnv scope C env.globals (cellsFrom (C+1) scope.names (x27 env.cells scope.names [])) env.qual none .none (some env) builtinsNs with scope:=relabel scope env }
noncomputable def x1z (X:Cx) (N':List Str) (scope:Scope) (C:Addr) (s:Shared) (H:Hp) (fp:List Addr):Cx where
 prog:=X.prog
 w:=X.w
 K:=X.K
 mg:=X.mg
 base:=X.base
 A:=X.A
 N:=N'
 s₀:=s
 H₀:=H
 env:=y86 scope X.env C
 outer:=X.stack
 stack:=X.stack
 ex:=fp
 fn:=fun y=>scope.names.lookup y == some .cell
 calm:=X.calm
 pn:=[]
 xe:=fun _ _=>False
structure CompOk (X:Cx) (k:Nat) (N':List Str) (scope:Scope):Prop where
 kind:scope.kind=.function
 names:(scope.names.map (·.1)).Nodup
 len:N'.length=X.N.length+k
 frees:(scope.names.all fun y=>y.2 != .free || X.env.kindOf y.1 == some .cell || X.env.kindOf y.1 == some .free)=true
 outs:((N'.zip X.N).all fun p=>(p.1 == p.2 && scope.names.lookup p.1 == some .free) || scope.names.lookup p.1 == none || scope.names.lookup p.1 == some .globalImplicit)=true
theorem CompOk.free {X:Cx} {k:Nat} {N':List Str} {scope:Scope} (S:CompOk X k N' scope) {y:Str} (h:(y,NameKind.free)∈scope.names):X.env.kindOf y=some .cell\/X.env.kindOf y=some .free:=by
 have:=List.all_eq_true.mp S.frees (y,NameKind.free) h
 simp only[Bool.or_eq_true,bne_iff_ne,ne_eq,beq_iff_eq]at this
 rcases this with(h1 | h1) | h1
 ·exact absurd trivial h1
 ·exact .inl h1
 ·exact .inr h1
theorem CompOk.out {X:Cx} {k:Nat} {N':List Str} {scope:Scope} (S:CompOk X k N' scope) {i:Nat} {y:Str} (hi':i<X.N.length) (h:N'[i]? = some y) (hv:Vis (relabel scope X.env) y):X.N[i]? = some y/\scope.names.lookup y=some .free:=by
 have e2:X.N[i]? = some X.N[i]:=by simp[hi']
 have m:(y,X.N[i])∈N'.zip X.N:=List.mem_of_getElem? (i:=i) (by rw[List.getElem?_zip_eq_some]; exact⟨h,e2⟩)
 have:=List.all_eq_true.mp S.outs _ m
 simp only[Bool.or_eq_true,Bool.and_eq_true,beq_iff_eq]at this
 have hl:(relabel scope X.env).names.lookup y=(scope.names.lookup y).map (y3k X.env y):=x4m _
 rcases this with(⟨h1,h2⟩ | h1) | h1
 ·exact⟨by rw[e2,<- h1],h2⟩
 ·rw[h1]at hl
  rcases hv with z | z | z <;> (rw[hl]at z; cases z)
 ·rw[h1]at hl
  have hr:y3k X.env y .globalImplicit=.globalImplicit:=rfl
  rw[Option.map_some,hr]at hl
  rcases hv with z | z | z <;> (rw[hl]at z; cases z)
theorem Un.updNew {fs ex:List Addr} {P:Program} {w:World} {H H':Hp} {h h':Heap} {D:Addr} {o:HO} (u:Un fs ex H H' h h') (hok:HOk P w H h) (hD:h.objs.size<=D):Un fs ex H (upd H' D o) h h':=by
 have ne:∀ b ob,h.get? b=some ob->b≠D:=fun b ob e z=>absurd (Nat.lt_of_lt_of_le (Heap.lt_size e) hD) (by rw[z]; exact Nat.lt_irrefl _)
 have ne':∀ b x,H b=some x->b≠D:=fun b x e z=>absurd (Nat.lt_of_lt_of_le (hok.lt e) hD) (by rw[z]; exact Nat.lt_irrefl _)
 refine⟨u.keep,u.slot,fun b ob e n hx=>?_,u.there,fun b xs e=>?_,fun b ob x e=>?_,fun b ps e=>?_⟩
 ·rw[x0i (ne b ob e)]; exact u.free b ob e n hx
 ·rw[x0i (ne' b _ e)]; exact u.tups b xs e
 ·rw[x0i (ne' b _ e)]; exact u.frzs b ob x e
 ·rw[x0i (ne' b _ e)]; exact u.tbls b ps e
theorem HOk.add {P:Program} {w:World} {H:Hp} {h:Heap} {D:Addr} {o:HO} (x:HOk P w H h) (hn:H D=none) (new:x2a P w (upd H D o) h D o):HOk P w (upd H D o) h:=fun b u e=>by
 by_cases hb:b=D
 ·subst hb; rw[x0y]at e; cases e; exact new
 ·rw[x0i hb]at e
  exact(x b u e).stay (fun c v _ q=>q) (fun c q=>by rw[x0i (x0u q hn)]; exact q) fun c xs q=>by rw[x0i (x0u q hn)]; exact q
noncomputable def PTs (X:Cx) (ifs:List Expr) (t:TT):Prop:=
 ∀ (pins:List (Addr × Obj)) (s:Shared) (σ:St) (H:Hp) (Q:Bool->Hp->Prop),Inv X pins σ H s->t σ H Q->
  wpAny (model X.prog X.w) X.A (forIn ifs true fun c r=>if r=true then do let ok <- isTrue c X.env (eval c X.env); pure (ForInStep.yield ok)else pure (ForInStep.yield r)) (TP X pins σ Q) X.xe s
noncomputable def j2y:TT:=fun _ H Q=>Q true H
theorem z6f {X:Cx}:PTs X [] j2y:=fun pins s σ H Q I h=>wpAny_tests_nil ⟨H,I,h⟩
theorem z4v {X:Cx} {c:Expr} {t:TT} (h:PT X c t):PTs X [c] t:=fun pins s σ H Q I q=>wpAny_tests_one (h pins s σ H Q I q)
noncomputable def z9f (k:Nat) (g:TG) (tt:TT) (te:TE) (σ:St) (J:It) (H:Hp) (Fin:List V->Hp->Prop):Prop:=
 ∃ W:Nat->Nat->List V->Hp->Prop,(∃ m,W 0 m [] H)/\∀ i m ys H2,W i m ys H2->ys.length<=sizeLine /\
  ((J.stop i H2/\Fin ys H2)\/(J.go i H2/\ys.length<sizeLine/\∀ x H3,J.yld i H2 x H3->g x (σ++List.replicate k none) H3 fun σ4 H4=>(∃ τ,σ4=σ++τ/\τ.length=k) /\
    tt σ4 H4 fun b H5=>if b=true then te σ4 H5 fun v H6=>∃ m',m'<m/\W (i+1) m' (ys++[v]) H6 else ∃ m',m'<m/\W (i+1) m' ys H5))
noncomputable def z0k (k:Nat) (wi:TI) (g:TG) (tt:TT) (te:TE):TE:=fun σ H Q=>wi σ H fun J H1=>z9f k g tt te σ J H1 fun ys H2=>∀ p,H2 p=none->Q (.ref p) (upd H2 p (.lst ys))
noncomputable def lsO (us:List Value) (n:Nat):Obj:={ cls:=.type "list",data:=.seq us.toArray n }
theorem z9l {X:Cx} {pins:List (Addr × Obj)} {τ σ:St} {H:Hp} {s:Shared} (I:Inv X pins (σ++τ) H s):Inv X pins (σ++List.replicate τ.length none) H s:=
 I.weak (by simp) fun i v e=>by
  by_cases hi:i<σ.length
  ·rw[List.getElem?_append_left hi]at e ⊢
   exact e
  ·rw[List.getElem?_append_right (by omega),List.getElem?_replicate]at e
   split at e <;> cases e
section
variable {X:Cx} {k:Nat} {N':List Str} {scope:Scope} {pins:List (Addr × Obj)} {σ:St} {H2:Hp} {s2:Shared} {fp:List Addr}
noncomputable abbrev x7o (scope:Scope) (s2:Shared):Heap:=pushCells ((s2.heap.push (lsO [] 0)).push { cls:=.type "dict",data:=.dict #[] }) scope.names
theorem z2g (S:CompOk X k N' scope) (I2:Inv X pins σ H2 s2) (f2:∀ b∈fp,y98 X pins H2 b) (hfp:∀ b∈fp,b<s2.heap.objs.size) :
  Inv (x1z X N' scope (s2.heap.objs.size+1) s2 H2 fp) [(s2.heap.objs.size,lsO [] 0)] (σ++List.replicate k none) H2 { s2 with heap:=x7o scope s2 }:=by
 have e1:(s2.heap.push (lsO [] 0)).objs.size=s2.heap.objs.size+1:=Heap.size_push ..
 have e2:((s2.heap.push (lsO [] 0)).push { cls:=.type "dict",data:=.dict #[] }).objs.size=s2.heap.objs.size+1+1:=by rw[Heap.size_push,e1]
 have keep:∀ b o,s2.heap.get? b=some o->(x7o scope s2).get? b=some o:=fun b o e=>pushCells_keeps _ _ b o (Heap.get?_push_of_some _ (Heap.get?_push_of_some _ e))
 have hsub:∀ y c,(y,c)∈x27 X.env.cells scope.names []->X.env.cells.lookup y=some c:=x5a (fun _ _ m=>nomatch m)
 have cmem:∀ y c,(y,c)∈cellsFrom (s2.heap.objs.size+1+1) scope.names (x27 X.env.cells scope.names [])->X.env.cells.lookup y=some c\/(s2.heap.objs.size+1+1<=c/\(x7o scope s2).IsCell c none):=fun y c m=>by
  have m':(y,c)∈cellsFrom ((s2.heap.push (lsO [] 0)).push { cls:=.type "dict",data:=.dict #[] }).objs.size scope.names (x27 X.env.cells scope.names []):=by rw[e2]; exact m
  rcases x56 m' with q | ⟨q1,q2⟩
  ·exact .inl (hsub y c q)
  ·rw[e2]at q1; exact .inr ⟨q1,q2⟩
 have clt:∀ y c,X.env.cells.lookup y=some c->c<s2.heap.objs.size:=fun y c e=>by obtain⟨v,z⟩:=I2.cell y c e; exact z.lt
 have hl:∀ y,(relabel scope X.env).names.lookup y=(scope.names.lookup y).map (y3k X.env y):=fun y=>x4m _
 have ok:(x1z X N' scope (s2.heap.objs.size+1) s2 H2 fp).Ok:=by
  refine⟨I2.ok.mod,S.kind,I2.ok.glob,I2.ok.blt,Nat.le_succ _,fun x y c h1 h2=>?_,fun x hx=>?_,fun x c hf h=>?_,I2.ok.hd,I2.ok.frames,.inl rfl,fun b hb=>⟨?_,fun x c h z=>?_⟩,I2.bs,Nat.le_trans I2.ok.bsz I2.sz,fun b o e hb=>?_,fun b hb z=>?_,I2.stack,I2.stkFree⟩
  ·refine x51 (n:=s2.heap.objs.size+1+1) (names:=scope.names) (acc:=x27 X.env.cells scope.names []) (fun y c m=>?_) (fun x y c m1 m2=>?_) x y c (PySem.mem_of_lookup h1) (PySem.mem_of_lookup h2)
   ·exact Nat.lt_of_lt_of_le (clt y c (hsub y c m)) (by omega)
   ·exact I2.ok.inj x y c (hsub x c m1) (hsub y c m2)
  ·have hx':(relabel scope X.env).names.lookup x=some .cell\/(relabel scope X.env).names.lookup x=some .free:=hx
   rw[hl x]at hx'
   have:scope.names.lookup x=some .cell\/scope.names.lookup x=some .free:=by
    cases e:scope.names.lookup x with
    | none=>rw[e]at hx'; rcases hx' with z | z <;> cases z
    | some kd=>
     rw[e,Option.map_some]at hx'
     cases kd <;> first
      | exact .inl rfl
      | exact .inr rfl
      | (rcases hx' with z | z <;> (have z':=Option.some.inj z; unfold y3k at z'; simp at z'))
   rcases this with q | q
   ·exact Option.isSome_iff_exists.mp (PySem.W.cellsFrom_some scope.names (s2.heap.objs.size+1+1) _ (.inl q))
   ·have qm:=PySem.mem_of_lookup q
    have hk:=S.free qm
    obtain⟨c,hc⟩:=I2.ok.has x hk
    exact Option.isSome_iff_exists.mp (PySem.W.cellsFrom_some scope.names (s2.heap.objs.size+1+1) _ (.inr (x4b hc qm)))
  ·have hf':(scope.names.lookup x == some .cell)=true:=hf
   have:=x5x (lo:=s2.heap.objs.size) (n:=s2.heap.objs.size+1+1) (acc:=x27 X.env.cells scope.names []) (by omega) (PySem.mem_of_lookup (beq_iff_eq.mp hf')) c h
   exact this
  ·have:=hfp b hb
   show b≠s2.heap.objs.size+1
   exact Nat.ne_of_lt (Nat.lt_of_lt_of_le this (Nat.le_succ _))
  ·have q:=hfp b hb
   rcases cmem x c (PySem.mem_of_lookup h)with w | ⟨w,_⟩
   ·exact(f2 b hb).2.2.2.2.1 x c w z
   ·subst z; exact absurd (Nat.lt_of_lt_of_le q (Nat.le_trans (by omega) w)) (Nat.lt_irrefl _)
  ·rcases(f2 b hb).2.2.2.1 with z | z
   ·exact I2.ok.noex b o e z
   ·have:=Heap.lt_size e
    have:=I2.ok.bsz
    exact absurd (Nat.lt_of_lt_of_le (Heap.lt_size e) (Nat.le_trans I2.ok.bsz z)) (Nat.lt_irrefl _)
  ·rcases List.mem_cons.mp (I2.stkSub b z)with q | q
   ·exact(f2 b hb).2.1 q
   ·exact(f2 b hb).2.2.1 q
 obtain⟨m,hn,hloc⟩:=id I2.loc
 refine⟨ok,rfl,I2.bare,Un.kept keep,⟨fun _=>none,?_,fun i y v h1 h2 h3=>?_⟩,fun y c h=>?_,I2.hok.fresh (Nat.le_succ _),fun y c h=>?_,fun p hp=>?_,I2.hok.kept keep,?_⟩
 ·have:=(Heap.Ns.new (s2.heap.push (lsO [] 0)) (.type "dict")).keeps (pushCells_keeps scope.names _)
  rw[e1]at this
  exact this
 ·by_cases hi:i<σ.length
  ·have h3':Vis (relabel scope X.env) y:=h3
   obtain⟨o1,o2⟩:=S.out (by rw[<- I2.len]; exact hi) h1 h3'
   have hk:=S.free (PySem.mem_of_lookup o2)
   have hs:σ[i]? = some (some v):=by
    rw[List.getElem?_append_left hi]at h2
    exact h2
   obtain⟨u,r,l⟩:=hloc i y v o1 hs (.inr hk)
   refine⟨u,r,?_⟩
   rcases l with⟨l,_⟩ | ⟨_,c,hc,hcell⟩
   ·rcases hk with z | z <;> (rw[l]at z; cases z)
   ·refine .inr ⟨?_,c,?_,hcell.keeps keep⟩
    ·show(relabel scope X.env).names.lookup y=some .cell\/(relabel scope X.env).names.lookup y=some .free
     rw[hl y,o2,Option.map_some]
     unfold y3k
     split
     ·exact .inl rfl
     ·exact .inr rfl
    ·show(cellsFrom (s2.heap.objs.size+1+1) scope.names (x27 X.env.cells scope.names [])).lookup y=some c
     rw[x40 (fun z=>by have:=y3q S.names z; rw[o2]at this; cases this)]
     obtain⟨c',hc'⟩:=Option.isSome_iff_exists.mp (x4b (acc:=[]) hc (PySem.mem_of_lookup o2))
     have:=hsub y c' (PySem.mem_of_lookup hc')
     rw[hc]at this; cases this
     exact hc'
  ·rw[List.getElem?_append_right (by omega),List.getElem?_replicate]at h2
   split at h2 <;> cases h2
 ·rcases cmem y c (PySem.mem_of_lookup h)with w | ⟨_,w⟩
  ·obtain⟨v,z⟩:=I2.cell y c w
   exact⟨v,z.keeps keep⟩
  ·exact⟨_,w⟩
 ·rcases cmem y c (PySem.mem_of_lookup h)with w | ⟨w,_⟩
  ·exact I2.freeC y c w
  ·exact I2.hok.fresh (by omega)
 ·have e:p=(s2.heap.objs.size,lsO [] 0):=by
   have:p ∈ [(s2.heap.objs.size,lsO [] 0)]:=hp
   simpa using this
  subst e
  refine⟨pushCells_keeps _ _ _ _ (Heap.get?_push_of_some _ (Heap.get?_push_size _ rfl)),I2.hok.fresh (Nat.le_refl _),?_,fun z=>?_,fun v z=>nomatch z⟩
  ·show s2.heap.objs.size≠s2.heap.objs.size+1
   omega
  ·have z':s2.heap.objs.size∈frs X.stack:=z
   rcases List.mem_cons.mp (I2.stkSub _ z')with q | q
   ·exact absurd I2.lt (by rw[<- q]; exact Nat.lt_irrefl _)
   ·exact I2.nofs (Nat.le_refl _) q
 ·rw[List.length_append,List.length_replicate,I2.len]
  exact S.len.symm
theorem z06 {us:List Value} {n:Nat} {ys:List V} {H':Hp} {s':Shared} {σ':St} {C:Addr} (I2:Inv X pins σ H2 s2) (f2:∀ b∈fp,y98 X pins H2 b)
  (I3:Inv (x1z X N' scope C s2 H2 fp) [(s2.heap.objs.size,lsO us n)] σ' H' s') (r:x2j ys us) (hz:ys.length<=sizeLine):Inv X pins σ (upd H' s2.heap.objs.size (.lst ys)) s':=by
 obtain⟨e,hn,_⟩:=I3.pin (s2.heap.objs.size,lsO us n) (List.mem_append_right _ (List.mem_singleton.mpr rfl))
 have u:Un (frs X.stack) fp H2 H' s2.heap s'.heap:=I3.base
 exact I2.call' (ch:=fp) I3.os (u.updNew I2.hok (Nat.le_refl _)) (I3.hok.add hn ⟨hz,us,n,r,e⟩) I3.bare fun b hb=>⟨(f2 b hb).2.2.2.1,(f2 b hb).2.1,(f2 b hb).2.2.2.2⟩
end
theorem y64 {X:Cx} {k:Nat} {N':List Str} {scope:Scope} {pins:List (Addr × Obj)} {σ:St} {H2:Hp} {s2:Shared} {fp:List Addr} {elt tg iter:Expr} {ifs:List Expr} {pos:Pos} {it:Addr} {tn:Nat->Heap->Prop} {J:It} {g:TG} {tt:TT} {te:TE} {Fin:List V->Hp->Prop} {E:Value->Shared->Prop} {RR:Value->Addr->Result->Shared->Prop}
  (hc:X.calm=true) (S:CompOk X k N' scope) (hg:∀ C s H fp,PG (x1z X N' scope C s H fp) tg g) (ht:∀ C s H fp,PTs (x1z X N' scope C s H fp) ifs tt) (he:∀ C s H fp,PE (x1z X N' scope C s H fp) elt te)
  (I2:Inv X pins σ H2 s2) (T:Turn X.prog X.w X.K tg J fp it tn) (st2:tn 0 s2.heap) (f2:∀ b∈fp,y98 X pins H2 b) (R:z9f k g tt te σ J H2 Fin)
  (hRR:∀ C ys H' s' m',Inv X pins σ (upd H' s2.heap.objs.size (.lst ys)) s'->s'.heap.Ns C m'->H' s2.heap.objs.size=none->upd H' s2.heap.objs.size (.lst ys) C=none->C≠X.env.locals->X.s₀.heap.objs.size<=C->s2.heap.objs.size<C->
    Fin ys H'->RR (.ref s2.heap.objs.size) C (.ok .next) s') :
  wpAny (model X.prog X.w) X.A (newList []) (fun acc s₃=>wpAny (model X.prog X.w) X.A (newFunctionEnv scope X.env.globals (x27 X.env.cells scope.names []) [] X.env.qual none .none (some X.env)) (fun cenv s₄=>
   codeAny (model X.prog X.w) X.A (.compStart (.ListComp elt [⟨tg,iter,ifs,0⟩] scope pos) 0 (.ref it) acc { cenv with scope:=relabel scope X.env }) (RR acc cenv.locals) s₄) E s₃) E s2:=by
 refine wpAny_newObj_type (y5e ?_)
 have e1:(s2.heap.push (lsO [] 0)).objs.size=s2.heap.objs.size+1:=Heap.size_push ..
 have hfp:∀ b∈fp,b<s2.heap.objs.size:=fun b hb=>by obtain⟨o,e,_⟩:=T.obj _ _ st2 b hb; exact Heap.lt_size e
 obtain⟨W,⟨m0,w0⟩,turn⟩:=R
 have I3:=z2g S I2 f2 hfp
 have st3:tn 0 (x7o scope s2):=T.keep _ _ _ st2 fun b hb o e=>pushCells_keeps _ _ b o (Heap.get?_push_of_some _ (Heap.get?_push_of_some _ e))
 have hDC:s2.heap.objs.size≠s2.heap.objs.size+1:=by omega
 -- what stays true of the iterator's objects
 have stat:∀ {H':Hp} {us:List Value} {n:Nat},(∀ b∈fp,H' b=none)->∀ b∈fp,y98 (x1z X N' scope (s2.heap.objs.size+1) s2 H2 fp) [(s2.heap.objs.size,lsO us n)] H' b:=fun {H' us n} hn b hb=>by
  have q:=I3.ok.exf b hb
  refine⟨hn b hb,q.1,I3.ok.exfs b hb,.inl hb,q.2,fun p hp z=>?_⟩
  have hp':p ∈ [(s2.heap.objs.size,lsO us n)]:=hp
  have e:p=(s2.heap.objs.size,lsO us n):=by simpa using hp'
  subst e
  have:=hfp b hb
  have z':s2.heap.objs.size=b:=z
  exact absurd this (by rw[z']; exact Nat.lt_irrefl _)
 have loop:∀ it',it'=Value.ref it->codeAny (model X.prog X.w) X.A (.compLoop (.ListComp elt [⟨tg,iter,ifs,0⟩] scope pos) 0 it' (.ref s2.heap.objs.size) (y86 scope X.env (s2.heap.objs.size+1))) (RR (.ref s2.heap.objs.size) (s2.heap.objs.size+1)) { s2 with heap:=x7o scope s2 }:=by
  rintro _ rfl
  refine y4a (fun n s'=>∃ i ys us cnt H',Inv (x1z X N' scope (s2.heap.objs.size+1) s2 H2 fp) [(s2.heap.objs.size,lsO us cnt)] (σ++List.replicate k none) H' s'/\tn i s'.heap/\(∀ b∈fp,H' b=none)/\x2j ys us/\W i n ys H') ?_ m0
   ⟨0,[],[],0,H2,I3,st3,fun b hb=>(f2 b hb).1,.nil,w0⟩
  rintro n s3 ⟨i,ys,us,cnt,H3,J3,st,fr,r3,w3⟩
  obtain⟨hz,hw⟩:=turn i n ys H3 w3
  rcases hw with⟨stop,fin⟩ | ⟨go,hlt,step⟩
  ·refine thn (T.done (x1z X N' scope (s2.heap.objs.size+1) s2 H2 fp) rfl rfl rfl hc i _ s3 _ H3 _ J3 (stat fr) st stop) fun rr s4 ⟨hr,I4⟩=>?_
   subst hr
   obtain⟨m',hn',_⟩:=id I4.loc
   obtain⟨eD,nD,_⟩:=I4.pin (s2.heap.objs.size,lsO us cnt) (List.mem_append_right _ (List.mem_singleton.mpr rfl))
   refine hRR (s2.heap.objs.size+1) ys H3 s4 m' (z06 I2 f2 I4 r3 hz) hn' nD ?_ ?_ ?_ (Nat.lt_succ_self _) fin
   ·rw[x0i (Ne.symm hDC)]; exact I4.free
   ·exact Ne.symm (Nat.ne_of_lt (Nat.lt_of_lt_of_le I2.lt (Nat.le_succ _)))
   ·have:=I2.sz; omega
  ·refine thn (T.item (x1z X N' scope (s2.heap.objs.size+1) s2 H2 fp) rfl rfl rfl hc i _ s3 _ H3 _ J3 (stat fr) st go) fun rr s4 ⟨u,hr,h4⟩=>?_
   subst hr
   refine thn h4 fun _ s5 hh0=>?_
   obtain⟨x,H5,I5,r5,y5,st5,fr5⟩:=hh0
   have I5':=I5.pinned (stat fr5) (T.obj _ _ st5)
   refine thn (hg _ _ _ _ _ s5 _ H5 x u _ I5' r5 (step x H5 y5)) fun _ s6 ⟨σ6,H6,I6,⟨τ,e6,l6⟩,q6⟩=>?_
   subst e6
   refine thn (ht _ _ _ _ _ s6 _ H6 _ I6 q6) fun ok s7 hh0=>?_
   obtain⟨H7,I7,q7⟩:=hh0
   have kept:∀ {s':Shared} {H':Hp} {σ':St},Inv (x1z X N' scope (s2.heap.objs.size+1) s2 H2 fp) ([(s2.heap.objs.size,lsO us cnt)]++x8z fp s5.heap) σ' H' s'->tn (i+1) s'.heap/\∀ b∈fp,H' b=none:=fun {s' H' σ'} I'=>by
    refine⟨T.keep _ _ _ st5 fun b hb o e=>(I'.pin (b,o) (List.mem_append_right _ (List.mem_append_right _ (x6a hb e)))).1,fun b hb=>?_⟩
    obtain⟨o,e,d⟩:=T.obj _ _ st5 b hb
    exact(I'.pin (b,o) (List.mem_append_right _ (List.mem_append_right _ (x6a hb e)))).2.1
   cases ok with
   | false=>
    rw[if_neg (by decide)]at q7 ⊢
    obtain⟨m',hm,w7⟩:=q7
    have:=z9l I7.unpinned
    rw[l6]at this
    exact⟨m',hm,i+1,ys,us,cnt,H7,this,(kept I7).1,(kept I7).2,r3,w7⟩
   | true=>
    rw[if_pos rfl]at q7 ⊢
    refine thn (he _ _ _ _ _ s7 _ H7 _ I7 q7) fun u8 s8 hh0=>?_
    obtain⟨v,H8,I8,r8,m',hm,w8⟩:=hh0
    obtain⟨eD,nD,neD,nfD,dD⟩:=I8.pin (s2.heap.objs.size,lsO us cnt) (List.mem_append_right _ (List.mem_append_left _ (List.mem_singleton.mpr rfl)))
    refine append_at eD (fun h9 hs9 hD9=>?_) (hsz:=by rw[List.size_toArray,<- r3.length]; exact Nat.le_of_lt hlt)
    have Ia:=I8.pins_of (pins':=x8z fp s5.heap) fun p hp=>I8.pin p (List.mem_append_right _ (List.mem_append_right _ hp))
    have nfp:∀ p∈x8z fp s5.heap,p.1≠s2.heap.objs.size:=fun p hp z=>by
     have:=hfp p.1 (y3d hp).1
     exact absurd this (by rw[z]; exact Nat.lt_irrefl _)
    have Ib:=Ia.turned (h':=h9) (t':=s8.toks) (it:=s2.heap.objs.size) (fun b o hb e=>hs9.extBut b o hb e) nD neD (.inr (Nat.le_refl _)) (fun y c h z=>by
      obtain⟨vv,o,ho,hd⟩:=I8.cell y c h
      rw[z,eD]at ho
      cases ho
      cases hd) (fun p hp=>nfp p (by
      have hp':p ∈ []++x8z fp s5.heap:=hp
      simpa using hp'))
    have Ic:=Ib.pins_of (pins':=[(s2.heap.objs.size,lsO (us++[u8]) (cnt+1))]) fun p hp=>by
     have e:p=(s2.heap.objs.size,lsO (us++[u8]) (cnt+1)):=by simpa using hp
     subst e
     refine⟨?_,nD,neD,nfD,fun v z=>nomatch z⟩
     show h9.get? s2.heap.objs.size=_
     rw[hD9]
     unfold lsO
     simp
    have Id:=z9l Ic
    rw[l6]at Id
    have kp:=kept I8
    refine⟨m',hm,i+1,ys++[v],us++[u8],cnt+1,H8,Id,T.keep _ _ _ kp.1 fun b hb o e=>hs9.extBut b o (fun z=>by
     have:=hfp b hb
     have z':b=s2.heap.objs.size:=z
     exact absurd this (by rw[z']; exact Nat.lt_irrefl _)) e,kp.2,x2j.append r3 (.cons r8 .nil),w8⟩
 have hC:(s2.heap.push { cls:=.type "list",dict:=none,data:=.seq ([]:List Value).toArray }).objs.size=s2.heap.objs.size+1:=Heap.size_push ..
 have fin:=codeAny_compStart_list (loop _ rfl) (T.self X.A 0 _ _ _ st3 (loop _ rfl))
 dsimp only at fin ⊢
 rw[hC]
 exact fin
theorem CompOk.locs {X:Cx} {k:Nat} {N':List Str} {scope:Scope} (S:CompOk X k N' scope):∀ y∈scope.names,y.2=.local->scope.names.lookup y.1=some .local:=fun y hy e=>by
 obtain⟨n,kd⟩:=y
 have e':kd=.local:=e
 subst e'
 exact y3q S.names hy
theorem x8s {h:Heap} {C c:Addr} {m:Str->Option Value} {v:Option Value} (hn:h.Ns C m) (hc:h.IsCell c v):c≠C:=fun z=>by
 obtain⟨o,es,ep,ho,hd,_⟩:=hn
 obtain⟨o',ho',hd'⟩:=hc
 rw[z,ho]at ho'
 cases ho'
 rw[hd]at hd'
 cases hd'
section
variable {X:Cx} {k:Nat} {N':List Str} {scope:Scope} {elt tg iter:Expr} {ifs:List Expr} {pos:Pos} {wi:TI} {g:TG} {tt:TT} {te:TE}
theorem z6e (hc:X.calm=true) (S:CompOk X k N' scope) (hi:PI X tg iter wi) (hg:∀ C s H fp,PG (x1z X N' scope C s H fp) tg g) (ht:∀ C s H fp,PTs (x1z X N' scope C s H fp) ifs tt) (he:∀ C s H fp,PE (x1z X N' scope C s H fp) elt te)
  (hs:∀ x,foldedSetIterable iter X.env x=pure x:=by intro _; rfl):PE X (.ListComp elt [⟨tg,iter,ifs,0⟩] scope pos) (z0k k wi g tt te):=by
 intro pins s σ H Q I h
 rw[eval_ListComp]
 refine wpAny_comprehension_free (use:=none) rfl hs (x7p fun y hy e=>?_) S.kind S.locs (thn (hi pins s σ H _ I h) fun v s1 h1=>thn h1 fun itv s2 h2=>?_)
 ·obtain⟨n,kd⟩:=y
  have e':kd=.free:=e
  subst e'
  exact I.ok.has n (S.free hy)
 ·obtain⟨it,fp,tn,J,H2,e,I2,T,st2,f2,R⟩:=h2
  subst e
  refine y64 hc S hg ht he I2 T st2 f2 R ?_
  intro C ys H' s' m' I' hn hD hCn hCL hCs hCD fin
  refine⟨m',hn,fun h' hs'=>⟨.ref s2.heap.objs.size,_,I'.turned (h':=h') (t':=s'.toks) (it:=C) (fun b o hb e=>hs'.extBut b o hb e) hCn hCL (.inr hCs) (fun x c h=>?_) (fun p hp z=>?_),rfl,fin _ hD⟩⟩
  ·obtain⟨v,q⟩:=I'.cell x c h
   exact x8s hn q
  ·have:=Heap.lt_size (I2.pin p hp).1
   exact absurd (Nat.lt_trans this hCD) (by rw[z]; exact Nat.lt_irrefl _)
theorem z56 {i:Nat} {y:Str} {py spos:Pos} (hN:X.N.Nodup) (hy:X.N[i]? = some y) (hx:Loc X.env.scope y) (hsw:swapsWith (.ListComp elt [⟨tg,iter,ifs,0⟩] scope pos) (some (.Name y py)) spos.line X.env=pure true)
  (hc:X.calm=true) (S:CompOk X k N' scope) (hi:PI X tg iter wi) (hg:∀ C s H fp,PG (x1z X N' scope C s H fp) tg g) (ht:∀ C s H fp,PTs (x1z X N' scope C s H fp) ifs tt) (he:∀ C s H fp,PE (x1z X N' scope C s H fp) elt te)
  (hs:∀ x,foldedSetIterable iter X.env x=pure x:=by intro _; rfl) (hf:X.fn y=true\/X.env.scope.names.lookup y=some .local:=by first | exact .inl rfl | exact .inr rfl | assumption) :
  PS X (.Assign [.Name y py] (.ListComp elt [⟨tg,iter,ifs,0⟩] scope pos) spos) (j27 (z0k k wi g tt te) (z6o i)):=by
 intro pins s σ H D I h
 rw[exec_Assign_Name_used _ _ _ _ hsw]
 refine wpAny_bind (wpAny_standAt (wpAny_bind ?_))
 show wpAny _ X.A (do let _ <- comprehension (.ListComp elt [⟨tg,iter,ifs,0⟩] scope pos) scope X.env _ (newList []) false (eval iter X.env) (some (assign (.Name y py) X.env))) _ _ s
 refine wpAny_bind (wpAny_mono (wpAny_comprehension_free (use:=some (assign (.Name y py) X.env)) (Q:=fun _ s'=>SP X pins D .next s') rfl hs (x7p fun z hz e=>?_) S.kind S.locs
  (thn (hi pins s σ H _ I h) fun v s1 h1=>thn h1 fun itv s2 h2=>?_)) (fun _ s' hq=>wpAny_pure (wpAny_pure hq)) fun _ _ e=>e)
 ·obtain⟨n,kd⟩:=z
  have e':kd=.free:=e
  subst e'
  exact I.ok.has n (S.free hz)
 ·obtain⟨it,fp,tn,J,H2,e,I2,T,st2,f2,R⟩:=h2
  subst e
  refine y64 hc S hg ht he I2 T st2 f2 R ?_
  intro C ys H' s' m' I' hn hD hCn hCL hCs hCD fin
  show wpAny _ X.A (assign (.Name y py) X.env (.ref s2.heap.objs.size)) _ _ _
  refine wpAny_assign_Name (y38 I' hN hy hx (v:=.ref s2.heap.objs.size) rfl (fun s'' I'' ⟨a,sb,ha⟩=>?_) hf)
  have hCa:C≠a:=fun z=>by
   rcases ha with q | q
   ·exact hCL (z.trans q)
   ·obtain⟨v,w⟩:=I'.cell y a q
    exact x8s hn w z.symm
  have hn2:=hn.sameBut sb hCa
  refine⟨m',hn2,fun h' hs'=>⟨_,_,I''.turned (h':=h') (t':=s''.toks) (it:=C) (fun b o hb e=>hs'.extBut b o hb e) hCn hCL (.inr hCs) (fun x c h=>?_) (fun p hp z=>?_),fin _ hD⟩⟩
  ·obtain⟨v,q⟩:=I''.cell x c h
   exact x8s hn2 q
  ·have:=Heap.lt_size (I2.pin p hp).1
   exact absurd (Nat.lt_trans this hCD) (by rw[z]; exact Nat.lt_irrefl _)
end
end L2
namespace L3
open PySem PySem.Spec PyProof.Rows PySem.W L2
section
variable {prog:Program} {w:World} {A:Around} {E:Value->Shared->Prop} {s:Shared} {K:Frag} {x C:Addr} {ox:Obj}
structure XAt (h:Heap) (x:Addr) (ox:Obj) (C:Addr):Prop where
 at_:h.get? x=some ox
 cls:ox.cls=.ref C
theorem XAt.type {M:Model} {h:Heap} (I:XAt h x ox C):Looks M h (typeOf (.ref x)) (.ref C):=I.cls ▸ (Looks.ld I.at_).andThen .now
structure XCls (K:Frag) (C:Addr):Prop where
 ci:(clsIn K C).isSome=true
 ga:findIn K (.ref C) "__getattribute__" = some (some (.builtin "BaseException.__getattribute__"))
 gt:findIn K (.ref C) "__getattr__" = some none
 cl:findIn K (.ref C) "__class__" = some (some (.builtin "object.__class__"))
 cg:specialIn K (.builtin "object.__class__") "__get__" = some (some (.builtin "getset_descriptor.__get__"))
 ct:takesIn K (.builtin "object.__class__")=some true
 mo:mroIn K C (.type "object")=some true
 mb:mroIn K C (.type "BaseException")=some true
theorem z3t {M:Model} {h:Heap} (X:K.In h) (I:XAt h x ox C) (XC:XCls K C):Looks M h (Builtin.ObjectAttr.find (.ref x) (.ref C) "__class__") (.bind (.builtin "getset_descriptor.__get__") (.builtin "object.__class__")):=by
 have L1:=looks_findIn (M:=M) X XC.cl
 have L2:Looks M h (Builtin.ObjectAttr.getOf (some (.builtin "object.__class__"))) _:=looks_specialIn (M:=M) X XC.cg
 have L3:=looks_takesIn (M:=M) X XC.ct
 exact L1.andThen (L2.andThen ((show Looks M h (Builtin.ObjectAttr.dataDescriptor? (some (.builtin "object.__class__")) (some (.builtin "getset_descriptor.__get__"))) (some ((.builtin "getset_descriptor.__get__"),(.builtin "object.__class__")))from L3.andThen .now).andThen (Looks.tag .now)))
theorem y57 {tp:Value} {R:Result->Shared->Prop} (X:K.In s.heap) (I:XAt s.heap x ox C) (hm:mroIn K C (.type "object")=some true)
  (h:R (.ok (.ret (.ref C))) s):codeAny (model prog w) A (.call (.builtin "getset_descriptor.__get__") ⟨[.builtin "object.__class__",.ref x,tp],[]⟩) R s:=by
 obtain⟨hh,g,dr,t,os⟩:=s
 have L0:=I.type (M:=model prog w)
 have L1:=looks_mroIn (M:=model prog w) X hm
 refine codeAny_call_builtin KF.slot_gs.plain KF.entry_gs (KF.slot_gs.check _ _ _ _ _ _ _ _ KF.type_class (KF.args_gs _ _ _) ?_)
 unfold Builtin.«getset_descriptor.__get__» Builtin.Getset_descriptor.descrGet
 rw[dga_obj]
 refine wpAny_bind (wpAny_pure ?_)
 unfold Builtin.Getset_descriptor.descrGetter Builtin.Getset_descriptor.descrCheckInstance Builtin.Getset_descriptor.descrNameAndClass isInstance
 simp only[KF.owner_class]
 repeat lk
 refine⟨Code.quiet_builtin _ (by decide +kernel),codeAny_builtin KF.entry_class ?_⟩
 unfold Builtin.«object.__class__» shownTypeOf
 repeat lk
 exact h
theorem z1z {M:Model} {nameV:Value} {Q:Unit->Shared->Prop} (X:K.In s.heap) (I:XAt s.heap x ox C) (XC:XCls K C) (hq:Q () s):wpAny M A (checkBuiltinCall "BaseException.__getattribute__" ⟨[.ref x,nameV],[]⟩) Q E s:=by
 obtain⟨hh,g,d,t,os⟩:=s
 have L0:=I.type (M:=M)
 have L1:=looks_mroIn (M:=M) X XC.mb
 have hk:builtinKind "BaseException.__getattribute__" = some .slot:=by decide +kernel
 have hsplit:splitId "BaseException.__getattribute__" = some ("BaseException","__getattribute__"):=by decide +kernel
 have ha:=PySem.F.args_bexc_ga (.ref x) nameV
 simp only[checkBuiltinCall,hk,hsplit]
 unfold isInstance
 repeat lk
 exact hq
theorem j16 {tk:Tok} {R:Result->Shared->Prop} (X:K.In s.heap) (I:XAt s.heap x ox C) (XC:XCls K C) (h:R (.ok (.ret (.ref C))) s) :
  codeAny (model prog w) A (.call (.builtin "BaseException.__getattribute__") ⟨[.ref x,.str "__class__" tk],[]⟩) R s:=by
 refine codeAny_call_builtin PySem.F.excAttr_ValueError.ga.plain PySem.F.entry_bexc_ga (z1z X I XC ?_)
 obtain⟨hh,g,d,t,os⟩:=s
 have L0:=I.type (M:=model prog w)
 have L1:=z3t (M:=model prog w) X I XC
 show wpAny _ _ (Builtin.«object.__getattribute__» ⟨[.ref x,.str "__class__" tk],[]⟩) _ _ _
 refine wpAny_bind (wpAny_pure ?_)
 refine wpAny_bind (wpAny_pure ?_)
 refine wpAny_bind (L0.at (wpAny_bind (L1.at ?_)))
 show wpAny _ _ (holding [.builtin "object.__class__"] (call (.builtin "getset_descriptor.__get__") [.builtin "object.__class__",.ref x,.ref C]) >>= ret) _ _ _
 exact wpAny_bind (wpAny_holding (wpAny_call (y57 X I XC.mo (wpAny_pure h))))
theorem z1p {Q:Option Value->Shared->Prop} (X:K.In s.heap) (I:XAt s.heap x ox C) (XC:XCls K C) (h:Q (some (.ref C)) { s with toks:=s.toks+1 }):wpAny (model prog w) A (getAttr? (.ref x) "__class__") Q E s:=by
 obtain⟨hh,g,d,t,os⟩:=s
 have L0:=I.type (M:=model prog w)
 have L1:=looks_findIn (M:=model prog w) X XC.ga
 have L2:=looks_findIn (M:=model prog w) X XC.gt
 have f3:=PySem.F.excAttr_ValueError.ga.bind (.ref x)
 unfold getAttr? getAttrBy? getAttrBy
 refine wpAny_bind (wpAny_mkText (wpAny_bind (wpAny_attempt (wpAny_holding (wpAny_bind (L0.at (wpAny_bind (L1.at ?_))))))))
 show wpAny _ _ (getAttrByItsOwn _ _ _ _ _ _) _ _ _
 unfold getAttrByItsOwn
 refine wpAny_bind (L2.at ?_)
 refine wpAny_bind (wpAny_attempt (wpAny_holding ?_))
 show wpAny _ _ (boundAndCalled _ _ _) _ _ _
 unfold boundAndCalled
 rw[f3]
 refine wpAny_bind (wpAny_pure ?_)
 show wpAny _ _ (call (.builtin "BaseException.__getattribute__") [.ref x,.str "__class__" t]) _ _ _
 refine wpAny_call (j16 (s:=⟨hh,g,d,t+1,os⟩) X I XC ?_)
 exact handed_on rfl (wpAny_pure h)
theorem y2y {M:Model} {h:Heap} {D:Addr} (X:K.In h) (e:(clsIn K D).isSome=true):Looks M h (isType (.ref D)) true:=by
 unfold clsIn at e
 split at e
 ·rename_i c' d' cd' sl' ho
  intro A' Q' E' s' k q
  unfold isType loadHead
  exact wpAny_bind (wpAny_loadPart (k _ _ (X _ _ ho)) (wpAny_pure q))
 ·cases e
theorem y9z {c:Value} {dep:Int} {tk:Tok} {Q:Fin->Shared->Prop} (X:K.In s.heap) (I:XAt s.heap x ox C) (XC:XCls K C) (hty:Looks (model prog w) s.heap (typeOf c) (.type "type")) (his:Looks (model prog w) s.heap (isType c) true)
  (hne:(Value.ref C == c)=false) (hsub:Looks (model prog w) s.heap (isSubtype (.ref C) c) false) (h:Q (.done (.ret (.bool false))) { s with toks:=s.toks+1 }) :
  wpAny (model prog w) A (Builtin.«isinstance.nested» ⟨[.ref x,c,.int dep tk],[]⟩) Q E s:=by
 have hisD:=y2y (M:=model prog w) X XC.ci
 obtain⟨h0,g,d,tt,os⟩:=s
 have L0:=I.type (M:=model prog w)
 have LI:Looks (model prog w) h0 (isInstance (.ref x) c) false:=L0.andThen hsub
 unfold Builtin.«isinstance.nested»
 refine wpAny_bind (L0.at ?_)
 rw[if_neg (fun q=>by rw[hne]at q; exact Bool.noConfusion q)]
 refine wpAny_bind (hty.at ?_)
 rw[if_pos (by decide)]
 k_delta "plainIsInstance"
 refine wpAny_bind (wpAny_bind (his.at ?_))
 simp only[Bool.not_true,Bool.false_eq_true,if_false]
 refine wpAny_bind (LI.at ?_)
 simp only[Bool.false_eq_true,if_false]
 refine wpAny_bind (z1p X I XC ?_)
 refine wpAny_bind (hisD.at ?_)
 simp only[Bool.not_true,Bool.false_eq_true,if_false]
 refine wpAny_bind (wpAny_rule ?_)
 refine hsub.at ?_
 first
  | exact wpAny_pure h
  | exact wpAny_pure (wpAny_pure h)
  | exact wpAny_bind (wpAny_pure (wpAny_pure h))
theorem z8w {T:String} {Q:Value->Shared->Prop} (X:K.In s.heap) (I:XAt s.heap x ox C) (XC:XCls K C) (hty:typeOf (.type T)=pure (.type "type")) (e:subIn K (.ref C) (.type T)=some false) (h:Q (.bool false) { s with toks:=s.toks+1 }):wpAny (model prog w) A (call (.builtin "isinstance") [.ref x,.type T]) Q E s:=
 call_isinstance (S:=fun _ R s=>(K.In s.heap/\XAt s.heap x ox C)/\R (.ok (.ret (.bool false))) { s with toks:=s.toks+1 })
  (fun _ _ _ _ _ hs=>isinstance_outer (y9z hs.1.1 hs.1.2 XC (Looks.of_pure hty) (Looks.of_pure rfl) (Bool.eq_false_iff.mpr fun q=>by cases beq_iff_eq.mp q) (looks_subIn hs.1.1 e) hs.2) (by intro q; cases q)) ⟨⟨X,I⟩,h⟩
end
def bmV:List Value:=[.type "ValueError",.type "Exception",.type "BaseException",.type "object"]
structure XKls (K:Frag) (nm:Str) (C:Addr):Prop where
 ns:nsIn K mainGlobals nm=some (some (.ref C))
 xc:XCls K C
 ex:excIn K C bmV "ValueError.__new__" = true
 ve:subIn K (.ref C) (.type "ValueError")=some true
 no:∀ T ∈ ["int","bool","tuple","list","str"],subIn K (.ref C) (.type T)=some false
noncomputable def XO (K:Frag) (nm:Str) (ob:Obj):Prop:=∃ C,ob.cls=.ref C/\XKls K nm C
end L3
namespace L3
open PySem PySem.Spec PyProof.Rows L2
theorem y1y:Slot "function" "__getattribute__" "object.__getattribute__" :=
 .of (owner:="object") (n:="__getattribute__") (by rw[typeLookup_type,builtinLookup_eq_fast]; kernel_rfl) (by decide +kernel) (by decide +kernel) (by decide +kernel)
  (by first | exact .inl (by decide +kernel) | exact .inr (by decide +kernel)) (by rw[isSubtype_type]; kernel_rfl)
theorem z5b:typeLookup (.type "function") "__class__" = pure (some (.builtin "object.__class__")):=by rw[typeLookup_type,builtinLookup_eq_fast]; kernel_rfl
theorem z8d:isSubtype (.type "function") (.type (".".intercalate ("object.__class__".cutAt '.').dropLast))=pure true:=by
 rw[PySem.F.owner_object_class,isSubtype_type]; kernel_rfl
theorem z2l:entryFor table "object.__getattribute__" = some Builtin.«object.__getattribute__»:=entryFor_of_tree (by kernel_rfl)
theorem z4b (a b:Value):argsOk "object.__getattribute__" ⟨[a,b],[]⟩:=by unfold argsOk; kernel_rfl
section
variable {prog:Program} {w:World} {A:Around} {E:Value->Shared->Prop} {s:Shared} {a:Addr}
theorem z9h {R:Result->Shared->Prop} (hT:s.TypeIs (.ref a) "function") (hq:R (.ok (.ret (.type "function"))) s) :
  codeAny (model prog w) A (.call (.builtin "getset_descriptor.__get__") ⟨[.builtin "object.__class__",.ref a,.type "function"],[]⟩) R s:=by
 obtain⟨h,g,d,t,os⟩:=s
 have h5:(⟨h,g,d,t,os⟩:Shared).TypeIs (.builtin "object.__class__") "getset_descriptor":=PySem.F.typeOf_object_class
 have f8:=z8d
 refine codeAny_call_builtin PySem.F.slot_gs_get.plain PySem.F.entry_gs_get (PySem.F.slot_gs_get.check _ _ _ _ _ _ _ _ h5 (PySem.F.args_gs_get _ _ _) ?_)
 repeat (any_goals (first | assumption | wp_step))
 refine⟨Code.quiet_builtin _ (by decide +kernel),codeAny_builtin PySem.F.entry_object_class ?_⟩
 repeat (any_goals (first | assumption | wp_step))
theorem z08 {Q:Option Value->Shared->Prop} (hT:s.TypeIs (.ref a) "function") (hq:Q (some (.type "function")) { s with toks:=s.toks+1 }):wpAny (model prog w) A (getAttr? (.ref a) "__class__") Q E s:=by
 obtain⟨h,g,d,t,os⟩:=s
 have hT1:∀ t',(⟨h,g,d,t',os⟩:Shared).TypeIs (.ref a) "function":=fun _=>hT
 have en:∀ {tk:Tok} {t':Nat} {Q:Fin->Shared->Prop} {E:Value->Shared->Prop} {A:Around},Q (.done (.ret (.type "function"))) ⟨h,g,d,t',os⟩->
   wpAny (model prog w) A (Builtin.«object.__getattribute__» ⟨[.ref a,.str "__class__" tk],[]⟩) Q E ⟨h,g,d,t',os⟩:=by
  intro tk t' Q E A hq
  have hT:=hT1 t'
  have h5:(⟨h,g,d,t',os⟩:Shared).TypeIs (.builtin "object.__class__") "getset_descriptor":=PySem.F.typeOf_object_class
  have f4:=z5b
  have f5:=PySem.F.typeOf_object_class
  have f6:=PySem.F.slot_gs_get.lookup
  have f7:=PySem.F.slot_gs_set.lookup
  repeat (any_goals (first | assumption | wp_step))
  refine z9h hT ?_
  repeat (any_goals (first | assumption | wp_step))
 have by':∀ {tk:Tok} {t':Nat} {Q:Value->Shared->Prop} {E:Value->Shared->Prop} {A:Around},Q (.type "function") ⟨h,g,d,t',os⟩->wpAny (model prog w) A (getAttrBy (.ref a) (.str "__class__" tk) false) Q E ⟨h,g,d,t',os⟩:=by
  intro tk t' Q E A hq
  have hT:=hT1 t'
  have f2:=y1y.lookup
  have f3:=y1y.bind (.ref a)
  repeat (any_goals (first | assumption | wp_step))
  refine codeAny_call_builtin y1y.plain z2l (y1y.check _ _ _ _ _ _ _ _ hT (z4b _ _) (en ?_))
  repeat (any_goals (first | assumption | wp_step))
 unfold getAttr? getAttrBy?
 repeat (any_goals (first | assumption | with_reducible apply by' | wp_step))
theorem z17 {K:PySem.W.Frag}:PySem.W.KitX K (.ref a) (.type "function") (PySem.W.KitAt a "function"):=PySem.W.kitx_of PySem.W.kitAt_ty (fun {_ _ _ _ _ s} p k=>z08 (by obtain⟨o,h1,h2⟩:=p; exact⟨o,h1,h2⟩) k)
end
inductive D where
 | non | bl (b:Bool) | int (i:Int) | str (x:Str) | tup (ds:List D) | lst (ds:List D)
 /-- a dict that is not changed,its keys texts -/
 | dic (ks:List Str) (ds:List D)
 /-- an exception,by its class's name -/
 | exc (nm:Str)
 /-- a function made here: its place,its object,what it keeps of the names around it -/
 | ob (f:Addr) (fo:Obj) (vs:List V) (ds:List D)
noncomputable abbrev St:=L2.St
inductive Ow where
 | s (i:Nat) | t (i:Nat) | f
 deriving DecidableEq
noncomputable abbrev Wn:=Addr->Option Ow
noncomputable def KL (K:PySem.W.Frag) (a:Addr) (xs:List V):Prop:=
 ∃ (o:Obj) (its:Array Value) (n:Nat),K.lookup a=some o/\o.cls=.type "list" /\ o.dict=none/\o.data=.seq its n/\its.size<=sizeLine/\x2j xs its.toList
theorem SqL.cases {K:PySem.W.Frag} {H:Hp} {a:Addr} {xs:List V} (h:SqL K H a xs):Rd H a (.lst xs)\/KL K a xs:=h
theorem KL.sq {K:PySem.W.Frag} {H:Hp} {a:Addr} {xs:List V} (h:KL K a xs):SqL K H a xs:=.inr h
noncomputable def kvL (ks:List Str) (vs:List V):List (Key × V):=(ks.map fun x=>(Sum.inr x:Key)).zip vs
noncomputable def Clo (fo:Obj) (c:Addr) (oc:Obj):Prop:=fo.cls=.type "function" /\ (∃ fd,fo.data=.func fd/\fd.code=.ref c)/\∃ fs q t,oc.data=.fields fs/\fs[1]? = some (.str q t)
mutual
/-- q: how deep the lists are owned -/
inductive Rep (K:PySem.W.Frag) (H:Hp) (w:Wn) (o:Ow):Nat->D->V->List Addr->Prop
 | non {q}:Rep K H w o q .non .non []
 | bl {q} (b:Bool):Rep K H w o q (.bl b) (.bl b) []
 | int {q} (i:Int):Rep K H w o q (.int i) (.int i) []
 | str {q} (x:Str):Rep K H w o q (.str x) (.str x) []
 | tup {q} {a:Addr} {vs:List V} {ds:List D}:H a=some (.tup vs)->Reps K H w o 0 ds vs []->Rep K H w o q (.tup ds) (.ref a) []
 | dic {q} {a:Addr} {ks:List Str} {vs:List V} {ds:List D}:H a=some (.dK (kvL ks vs))->Reps K H w o 0 ds vs []->Rep K H w o q (.dic ks ds) (.ref a) []
 | exc {q} {a:Addr} {nm:Str} {ob:Obj} {u:HO}:H a=some (.frz ob u)->XO K nm ob->(∀ xs,u ≠ .lst xs)->Rep K H w o q (.exc nm) (.ref a) []
 | ob {q} {f c:Addr} {fo oc:Obj} {u u':HO} {vs:List V} {ds:List D}:H f=some (.frz fo u)->H c=some (.frz oc u')->Clo fo c oc->Reps K H w o 0 ds vs []->Rep K H w o q (.ob f fo vs ds) (.ref f) []
 | kl {a:Addr} {vs:List V} {ds:List D}:KL K a vs->Reps K H w o 0 ds vs []->Rep K H w o 0 (.lst ds) (.ref a) []
 | shr {a:Addr} {vs:List V} {ds:List D}:Rd H a (.lst vs)->w a=none->Reps K H w o 0 ds vs []->Rep K H w o 0 (.lst ds) (.ref a) []
 | own {q} {a:Addr} {vs:List V} {ds:List D} {F:List Addr}:H a=some (.lst vs)->w a=some o->Reps K H w o q ds vs F->a ∉ F->Rep K H w o (q+1) (.lst ds) (.ref a) (a::F)
inductive Reps (K:PySem.W.Frag) (H:Hp) (w:Wn) (o:Ow):Nat->List D->List V->List Addr->Prop
 | nil {q}:Reps K H w o q [] [] []
 | cons {q} {d:D} {v:V} {ds:List D} {vs:List V} {F G:List Addr}:Rep K H w o q d v F->Reps K H w o q ds vs G->(∀ a∈F,a ∉ G)->Reps K H w o q (d::ds) (v::vs) (F++G)
end
noncomputable def z9a:HO->Bool
 | .tbl _=>true
 | _=>false
noncomputable def Sm (x:HO) (y:Option HO):Prop:=match x with
 | .tbl _=>∃ ps,y=some (.tbl ps)
 | x=>y=some x
theorem sm {x:HO} {y:Option HO} (h:y=some x):Sm x y:=by cases x <;> first | exact h | exact⟨_,h⟩
theorem Sm.is {x:HO} {y:Option HO} (h:Sm x y):∃ z,y=some z/\z9a z=z9a x:=by
 cases x <;> first | exact⟨_,h,rfl⟩ | (obtain⟨ps,e⟩:=h; exact⟨_,e,rfl⟩)
theorem Sm.eq {x:HO} {y:Option HO} (h:Sm x y) (n:z9a x=false):y=some x:=by cases x <;> first | exact h | cases n
noncomputable def x6t:List Str:=["turned","chain_ladder","flat_ladder","paired"]
structure TB (K:PySem.W.Frag) (H:Hp):Prop where
 tr:∀ P ps,H P=some (.tbl ps)->PySem.TriplesOk ps.toList
 cd:∀ P ps,H P=some (.tbl ps)->∀ pos cv,PySem.codeAmong pos ps.toList=some cv->∃ c oc u vs q t,cv=.ref c/\H c=some (.frz oc u)/\oc.data=.fields vs/\vs[1]? = some (.str q t)/\∀ xs,u ≠ .lst xs
 is:∀ x∈x6t,∀ c P,PySem.W.tabIn K x=some (c,P)->∃ ps,H P=some (.tbl ps)
structure WL (K:PySem.W.Frag) (w:Wn) (H:Hp):Prop where
 own:∀ a o,w a=some o->∃ vs,H a=some (.lst vs)
 tb:TB K H
instance {K:PySem.W.Frag} {w:Wn} {H:Hp}:CoeFun (WL K w H) (fun _=>∀ a o,w a=some o->∃ vs,H a=some (.lst vs)):=⟨WL.own⟩
theorem TB.upd {K:PySem.W.Frag} {H:Hp} (t:TB K H) {p:Addr} {x:HO} (hx:z9a x=false) (hp:H p=none\/∃ vs,H p=some (.lst vs)):TB K (L2.upd H p x):=by
 have ne:∀ a y,H a=some y->(∀ vs,y ≠ .lst vs)->a≠p:=fun a y e h z=>by
  subst z
  rcases hp with q | ⟨vs,q⟩
  ·rw[e]at q; cases q
  ·rw[e]at q; cases q; exact h _ rfl
 refine⟨fun P ps e=>?_,fun P ps e pos cv hc=>?_,fun x hx c P hP=>by
  obtain⟨ps,e⟩:=t.is x hx c P hP
  exact⟨ps,by rw[x0i (ne P _ e fun _ z=>nomatch z)]; exact e⟩⟩
 ·by_cases hP:P=p
  ·subst hP; rw[x0y]at e; cases e; cases hx
  ·rw[x0i hP]at e; exact t.tr P ps e
 ·by_cases hP:P=p
  ·subst hP; rw[x0y]at e; cases e; cases hx
  ·rw[x0i hP]at e
   obtain⟨c,oc,u,vs,q,tt,h1,h2,h3,h4,h5⟩:=t.cd P ps e pos cv hc
   exact⟨c,oc,u,vs,q,tt,h1,by rw[x0i (ne c _ h2 fun _ z=>nomatch z)]; exact h2,h3,h4,h5⟩
noncomputable def x6n (H:Hp) (w:Wn) (H':Hp) (w':Wn):Prop:=∀ a x,H a=some x->w a=none->Sm x (H' a)/\w' a=none
theorem x6n.trans {H H1 H2:Hp} {w w1 w2:Wn} (a:x6n H w H1 w1) (b:x6n H1 w1 H2 w2):x6n H w H2 w2:=fun c x h n=>by
 obtain⟨s1,n1⟩:=a c x h n
 cases ht:z9a x with
 | false=>exact b c x (s1.eq ht) n1
 | true=>
  obtain⟨y,e,hy⟩:=s1.is
  obtain⟨s2,n2⟩:=b c y e n1
  refine⟨?_,n2⟩
  rw[ht]at hy
  cases x with
  | tbl ps=>
   cases y with
   | tbl ps'=>exact s2
   | _=>cases hy
  | _=>cases ht
theorem WL.rdT {K:PySem.W.Frag} {w:Wn} {H:Hp} (wl:WL K w H) {a:Addr} {x:HO} (e:H a=some x) (h:∀ vs,x ≠ .lst vs):w a=none:=by
 cases q:w a with
 | none=>rfl
 | some o=>
  obtain⟨vs,e'⟩:=wl a o q
  rw[e]at e'
  exact absurd (Option.some.inj e') (h vs)
theorem SqT.go {K:PySem.W.Frag} {H H':Hp} {w w':Wn} (wl:WL K w H) (st:x6n H w H' w') {a:Addr} {vs:List V} (h:SqT K H a vs):SqT K H' a vs:=by
 rcases h with(h | ⟨o,h⟩) | h
 ·exact .inl (.inl (st a _ h (wl.rdT h (fun _ z=>nomatch z))).1)
 ·exact .inl (.inr ⟨o,(st a _ h (wl.rdT h (fun _ z=>nomatch z))).1⟩)
 ·exact .inr h
theorem RdL.go {H H':Hp} {w w':Wn} (st:x6n H w H' w') {a:Addr} {vs:List V} (n:w a=none) (h:Rd H a (.lst vs)):Rd H' a (.lst vs)/\w' a=none:=by
 rcases h with h | ⟨o,h⟩
 ·exact⟨.inl (st a _ h n).1,(st a _ h n).2⟩
 ·exact⟨.inr ⟨o,(st a _ h n).1⟩,(st a _ h n).2⟩
theorem Rep.go {K:PySem.W.Frag} {H H':Hp} {w w':Wn} {o o':Ow} (wl:WL K w H) (st:x6n H w H' w'):∀ {q:Nat} {d:D} {v:V} {F:List Addr},Rep K H w o q d v F->(∀ a∈F,H' a=H a/\w' a=some o')->Rep K H' w' o' q d v F:=by
 intro q d v F r
 refine Rep.rec (motive_1:=fun q d v F _=>(∀ a∈F,H' a=H a/\w' a=some o')->Rep K H' w' o' q d v F) (motive_2:=fun q ds vs F _=>(∀ a∈F,H' a=H a/\w' a=some o')->Reps K H' w' o' q ds vs F) ?_ ?_ ?_ ?_ ?_ ?_ ?_ ?_ ?_ ?_ ?_ ?_ ?_ r
 ·intro q _; exact .non
 ·intro q b _; exact .bl b
 ·intro q i _; exact .int i
 ·intro q x _; exact .str x
 ·intro q a vs ds h r ih _; exact .tup (st _ _ h (wl.rdT h (fun _ z=>by cases z))).1 (ih (fun _ z=>(List.not_mem_nil z).elim))
 ·intro q a ks vs ds h r ih _; exact .dic (st _ _ h (wl.rdT h (fun _ z=>by cases z))).1 (ih (fun _ z=>(List.not_mem_nil z).elim))
 ·intro q a nm ob u h x n _; exact .exc (st _ _ h (wl.rdT h (fun _ z=>by cases z))).1 x n
 ·intro q f c fo oc u u' vs ds h1 h2 x r ih _; exact .ob (st _ _ h1 (wl.rdT h1 (fun _ z=>by cases z))).1 (st _ _ h2 (wl.rdT h2 (fun _ z=>by cases z))).1 x (ih (fun _ z=>(List.not_mem_nil z).elim))
 ·intro a vs ds h r ih _; exact .kl h (ih (fun _ z=>(List.not_mem_nil z).elim))
 ·intro a vs ds h n r ih _; exact .shr (RdL.go st n h).1 (RdL.go st n h).2 (ih (fun _ z=>(List.not_mem_nil z).elim))
 ·intro q a vs ds F h e r ne ih k; exact .own ((k _ List.mem_cons_self).1.trans h) (k _ List.mem_cons_self).2 (ih fun a m=>k a (List.mem_cons_of_mem _ m)) ne
 ·intro q _; exact .nil
 ·intro q d v ds vs F G r s ne ih1 ih2 k; exact .cons (ih1 fun a m=>k a (List.mem_append_left _ m)) (ih2 fun a m=>k a (List.mem_append_right _ m)) ne
theorem Reps.go {K:PySem.W.Frag} {H H':Hp} {w w':Wn} {o o':Ow} (wl:WL K w H) (st:x6n H w H' w'):∀ {q:Nat} {ds:List D} {vs:List V} {F:List Addr},Reps K H w o q ds vs F->(∀ a∈F,H' a=H a/\w' a=some o')->Reps K H' w' o' q ds vs F:=by
 intro q ds vs F r
 refine Reps.rec (motive_1:=fun q d v F _=>(∀ a∈F,H' a=H a/\w' a=some o')->Rep K H' w' o' q d v F) (motive_2:=fun q ds vs F _=>(∀ a∈F,H' a=H a/\w' a=some o')->Reps K H' w' o' q ds vs F) ?_ ?_ ?_ ?_ ?_ ?_ ?_ ?_ ?_ ?_ ?_ ?_ ?_ r
 ·intro q _; exact .non
 ·intro q b _; exact .bl b
 ·intro q i _; exact .int i
 ·intro q x _; exact .str x
 ·intro q a vs ds h r ih _; exact .tup (st _ _ h (wl.rdT h (fun _ z=>by cases z))).1 (ih (fun _ z=>(List.not_mem_nil z).elim))
 ·intro q a ks vs ds h r ih _; exact .dic (st _ _ h (wl.rdT h (fun _ z=>by cases z))).1 (ih (fun _ z=>(List.not_mem_nil z).elim))
 ·intro q a nm ob u h x n _; exact .exc (st _ _ h (wl.rdT h (fun _ z=>by cases z))).1 x n
 ·intro q f c fo oc u u' vs ds h1 h2 x r ih _; exact .ob (st _ _ h1 (wl.rdT h1 (fun _ z=>by cases z))).1 (st _ _ h2 (wl.rdT h2 (fun _ z=>by cases z))).1 x (ih (fun _ z=>(List.not_mem_nil z).elim))
 ·intro a vs ds h r ih _; exact .kl h (ih (fun _ z=>(List.not_mem_nil z).elim))
 ·intro a vs ds h n r ih _; exact .shr (RdL.go st n h).1 (RdL.go st n h).2 (ih (fun _ z=>(List.not_mem_nil z).elim))
 ·intro q a vs ds F h e r ne ih k; exact .own ((k _ List.mem_cons_self).1.trans h) (k _ List.mem_cons_self).2 (ih fun a m=>k a (List.mem_cons_of_mem _ m)) ne
 ·intro q _; exact .nil
 ·intro q d v ds vs F G r s ne ih1 ih2 k; exact .cons (ih1 fun a m=>k a (List.mem_append_left _ m)) (ih2 fun a m=>k a (List.mem_append_right _ m)) ne
theorem Rep.freeze {K:PySem.W.Frag} {H:Hp} {w w':Wn} {o o':Ow} (n:∀ a,w a=none->w' a=none):∀ {q:Nat} {d:D} {v:V} {F:List Addr},Rep K H w o q d v F->(∀ a∈F,w' a=none)->Rep K H w' o' 0 d v []:=by
 intro q d v F r
 refine Rep.rec (motive_1:=fun q d v F _=>(∀ a∈F,w' a=none)->Rep K H w' o' 0 d v []) (motive_2:=fun q ds vs F _=>(∀ a∈F,w' a=none)->Reps K H w' o' 0 ds vs []) ?_ ?_ ?_ ?_ ?_ ?_ ?_ ?_ ?_ ?_ ?_ ?_ ?_ r
 ·intro q _; exact .non
 ·intro q b _; exact .bl b
 ·intro q i _; exact .int i
 ·intro q x _; exact .str x
 ·intro q a vs ds h r ih _; exact .tup h (ih (fun _ z=>(List.not_mem_nil z).elim))
 ·intro q a ks vs ds h r ih _; exact .dic h (ih (fun _ z=>(List.not_mem_nil z).elim))
 ·intro q a nm ob u h x n _; exact .exc h x n
 ·intro q f c fo oc u u' vs ds h1 h2 x r ih _; exact .ob h1 h2 x (ih (fun _ z=>(List.not_mem_nil z).elim))
 ·intro a vs ds h r ih _; exact .kl h (ih (fun _ z=>(List.not_mem_nil z).elim))
 ·intro a vs ds h e r ih _; exact .shr h (n _ e) (ih (fun _ z=>(List.not_mem_nil z).elim))
 ·intro q a vs ds F h e r ne ih k; exact .shr (Rd.of h) (k _ List.mem_cons_self) (ih fun a m=>k a (List.mem_cons_of_mem _ m))
 ·intro q _; exact .nil
 ·intro q d v ds vs F G r s ne ih1 ih2 k; exact .cons (F:=[]) (G:=[]) (ih1 fun a m=>k a (List.mem_append_left _ m)) (ih2 fun a m=>k a (List.mem_append_right _ m)) (fun _ z=>(List.not_mem_nil z).elim)
theorem Reps.freeze {K:PySem.W.Frag} {H:Hp} {w w':Wn} {o o':Ow} (n:∀ a,w a=none->w' a=none):∀ {q:Nat} {ds:List D} {vs:List V} {F:List Addr},Reps K H w o q ds vs F->(∀ a∈F,w' a=none)->Reps K H w' o' 0 ds vs []:=by
 intro q ds vs F r
 refine Reps.rec (motive_1:=fun q d v F _=>(∀ a∈F,w' a=none)->Rep K H w' o' 0 d v []) (motive_2:=fun q ds vs F _=>(∀ a∈F,w' a=none)->Reps K H w' o' 0 ds vs []) ?_ ?_ ?_ ?_ ?_ ?_ ?_ ?_ ?_ ?_ ?_ ?_ ?_ r
 ·intro q _; exact .non
 ·intro q b _; exact .bl b
 ·intro q i _; exact .int i
 ·intro q x _; exact .str x
 ·intro q a vs ds h r ih _; exact .tup h (ih (fun _ z=>(List.not_mem_nil z).elim))
 ·intro q a ks vs ds h r ih _; exact .dic h (ih (fun _ z=>(List.not_mem_nil z).elim))
 ·intro q a nm ob u h x n _; exact .exc h x n
 ·intro q f c fo oc u u' vs ds h1 h2 x r ih _; exact .ob h1 h2 x (ih (fun _ z=>(List.not_mem_nil z).elim))
 ·intro a vs ds h r ih _; exact .kl h (ih (fun _ z=>(List.not_mem_nil z).elim))
 ·intro a vs ds h e r ih _; exact .shr h (n _ e) (ih (fun _ z=>(List.not_mem_nil z).elim))
 ·intro q a vs ds F h e r ne ih k; exact .shr (Rd.of h) (k _ List.mem_cons_self) (ih fun a m=>k a (List.mem_cons_of_mem _ m))
 ·intro q _; exact .nil
 ·intro q d v ds vs F G r s ne ih1 ih2 k; exact .cons (F:=[]) (G:=[]) (ih1 fun a m=>k a (List.mem_append_left _ m)) (ih2 fun a m=>k a (List.mem_append_right _ m)) (fun _ z=>(List.not_mem_nil z).elim)
theorem Rep.owns {K:PySem.W.Frag} {H:Hp} {w:Wn} {o:Ow}:∀ {q:Nat} {d:D} {v:V} {F:List Addr},Rep K H w o q d v F->∀ a∈F,w a=some o:=by
 intro q d v F r
 refine Rep.rec (motive_1:=fun q d v F _=>∀ a∈F,w a=some o) (motive_2:=fun q ds vs F _=>∀ a∈F,w a=some o) ?_ ?_ ?_ ?_ ?_ ?_ ?_ ?_ ?_ ?_ ?_ ?_ ?_ r
 ·intro q a m; exact(List.not_mem_nil m).elim
 ·intro q b a m; exact(List.not_mem_nil m).elim
 ·intro q i a m; exact(List.not_mem_nil m).elim
 ·intro q x a m; exact(List.not_mem_nil m).elim
 ·intro q a vs ds h r ih b m; exact(List.not_mem_nil m).elim
 ·intro q a ks vs ds h r ih b m; exact(List.not_mem_nil m).elim
 ·intro q a nm ob u h x n b m; exact(List.not_mem_nil m).elim
 ·intro q f c fo oc u u' vs ds h1 h2 x r ih b m; exact(List.not_mem_nil m).elim
 ·intro a vs ds h r ih b m; exact(List.not_mem_nil m).elim
 ·intro a vs ds h e r ih b m; exact(List.not_mem_nil m).elim
 ·intro q a vs ds F h e r ne ih b m
  rcases List.mem_cons.mp m with z | z
  ·rw[z]; exact e
  ·exact ih b z
 ·intro q a m; exact(List.not_mem_nil m).elim
 ·intro q d v ds vs F G r s ne ih1 ih2 a m
  rcases List.mem_append.mp m with z | z
  ·exact ih1 a z
  ·exact ih2 a z
theorem Reps.owns {K:PySem.W.Frag} {H:Hp} {w:Wn} {o:Ow}:∀ {q:Nat} {ds:List D} {vs:List V} {F:List Addr},Reps K H w o q ds vs F->∀ a∈F,w a=some o:=by
 intro q ds vs F r
 refine Reps.rec (motive_1:=fun q d v F _=>∀ a∈F,w a=some o) (motive_2:=fun q ds vs F _=>∀ a∈F,w a=some o) ?_ ?_ ?_ ?_ ?_ ?_ ?_ ?_ ?_ ?_ ?_ ?_ ?_ r
 ·intro q a m; exact(List.not_mem_nil m).elim
 ·intro q b a m; exact(List.not_mem_nil m).elim
 ·intro q i a m; exact(List.not_mem_nil m).elim
 ·intro q x a m; exact(List.not_mem_nil m).elim
 ·intro q a vs ds h r ih b m; exact(List.not_mem_nil m).elim
 ·intro q a ks vs ds h r ih b m; exact(List.not_mem_nil m).elim
 ·intro q a nm ob u h x n b m; exact(List.not_mem_nil m).elim
 ·intro q f c fo oc u u' vs ds h1 h2 x r ih b m; exact(List.not_mem_nil m).elim
 ·intro a vs ds h r ih b m; exact(List.not_mem_nil m).elim
 ·intro a vs ds h e r ih b m; exact(List.not_mem_nil m).elim
 ·intro q a vs ds F h e r ne ih b m
  rcases List.mem_cons.mp m with z | z
  ·rw[z]; exact e
  ·exact ih b z
 ·intro q a m; exact(List.not_mem_nil m).elim
 ·intro q d v ds vs F G r s ne ih1 ih2 a m
  rcases List.mem_append.mp m with z | z
  ·exact ih1 a z
  ·exact ih2 a z
noncomputable def D.isL:D->Bool
 | .lst _=>true
 | _=>false
@[simp] theorem D.isL_non:D.isL .non=false:=rfl
@[simp] theorem D.isL_bl (b:Bool):D.isL (.bl b)=false:=rfl
@[simp] theorem D.isL_int (i:Int):D.isL (.int i)=false:=rfl
@[simp] theorem D.isL_str (x:Str):D.isL (.str x)=false:=rfl
@[simp] theorem D.isL_tup (ds:List D):D.isL (.tup ds)=false:=rfl
@[simp] theorem D.isL_dic (ks:List Str) (ds:List D):D.isL (.dic ks ds)=false:=rfl
@[simp] theorem D.isL_exc (nm:Str):D.isL (.exc nm)=false:=rfl
@[simp] theorem D.isL_ob (f:Addr) (fo:Obj) (vs:List V) (ds:List D):D.isL (.ob f fo vs ds)=false:=rfl
@[simp] theorem D.isL_lst (ds:List D):D.isL (.lst ds)=true:=rfl
theorem Rep.nolist {K:PySem.W.Frag} {H:Hp} {w:Wn} {o:Ow} {q:Nat} {d:D} {v:V} {F:List Addr} (r:Rep K H w o q d v F) (h:d.isL=false):F=[]/\∀ q',Rep K H w o q' d v []:=by
 cases r with
 | non=>exact⟨rfl,fun _=>.non⟩
 | bl b=>exact⟨rfl,fun _=>.bl b⟩
 | int i=>exact⟨rfl,fun _=>.int i⟩
 | str x=>exact⟨rfl,fun _=>.str x⟩
 | tup h' r'=>exact⟨rfl,fun _=>.tup h' r'⟩
 | dic h' r'=>exact⟨rfl,fun _=>.dic h' r'⟩
 | exc h' x n=>exact⟨rfl,fun _=>.exc h' x n⟩
 | ob h1 h2 x r=>exact⟨rfl,fun _=>.ob h1 h2 x r⟩
 | kl=>cases h
 | shr=>cases h
 | own=>cases h
theorem Rep.zero {K:PySem.W.Frag} {H:Hp} {w:Wn} {o:Ow} {d:D} {v:V} {F:List Addr} (r:Rep K H w o 0 d v F):F=[]:=by
 cases r <;> rfl
theorem Reps.zero {K:PySem.W.Frag} {H:Hp} {w:Wn} {o:Ow}:∀ {ds:List D} {vs:List V} {F:List Addr},Reps K H w o 0 ds vs F->F=[]
 | _,_,_,.nil=>rfl
 | _,_,_,.cons r s _=>by rw[r.zero,s.zero]; rfl
theorem Reps.length {K:PySem.W.Frag} {H:Hp} {w:Wn} {o:Ow} {q:Nat}:∀ {ds:List D} {vs:List V} {F:List Addr},Reps K H w o q ds vs F->ds.length=vs.length
 | _,_,_,.nil=>rfl
 | _,_,_,.cons _ s _=>by simp[s.length]
theorem Rep.any {K:PySem.W.Frag} {H:Hp} {w:Wn} {o o':Ow} {q:Nat} {d:D} {v:V} (r:Rep K H w o q d v []) (wl:WL K w H):Rep K H w o' q d v []:=
 Rep.go wl (fun a x h n=>⟨sm h,n⟩) r (fun _ z=>nomatch z)
theorem Reps.any {K:PySem.W.Frag} {H:Hp} {w:Wn} {o o':Ow} {q:Nat} {d:List D} {v:List V} (r:Reps K H w o q d v []) (wl:WL K w H):Reps K H w o' q d v []:=
 Reps.go wl (fun a x h n=>⟨sm h,n⟩) r (fun _ z=>nomatch z)
theorem Reps.get {K:PySem.W.Frag} {H:Hp} {w:Wn} {o:Ow}:∀ {ds:List D} {vs:List V} {i:Nat} {d:D},Reps K H w o 0 ds vs []->ds[i]? = some d->∃ v,vs[i]? = some v/\Rep K H w o 0 d v []
 | ds,vs,i,d,r,e=>by
  generalize hF:([]:List Addr)=F at r
  cases r with
  | nil=>simp at e
  | @cons _ d' v' ds' vs' F' G' r s _=>
   have h1:F'=[]:=r.zero
   have h2:G'=[]:=s.zero
   subst h1 h2
   cases i with
   | zero=>simp at e; subst e; exact⟨v',rfl,r⟩
   | succ j=>
    obtain⟨v,h1,h2⟩:=Reps.get (i:=j) (d:=d) s (by simpa using e)
    exact⟨v,by simpa using h1,h2⟩
theorem Reps.snoc {K:PySem.W.Frag} {H:Hp} {w:Wn} {o:Ow} {q:Nat} {d:D} {v:V} {G:List Addr} (r':Rep K H w o q d v G):∀ {ds:List D} {vs:List V} {F:List Addr},Reps K H w o q ds vs F->(∀ a∈F,a ∉ G)->Reps K H w o q (ds++[d]) (vs++[v]) (F++G)
 | _,_,_,.nil,_=>by
  have:Reps K H w o q [d] [v] (G++[]):=.cons r' .nil (fun a _ z=>nomatch z)
  simpa using this
 | _,_,_,.cons (F:=F) (G:=F') r s ne,k=>by
  rw[List.append_assoc]
  refine .cons r (Reps.snoc r' s fun a m=>k a (List.mem_append_right _ m)) fun a m z=>?_
  rcases List.mem_append.mp z with z | z
  ·exact ne a m z
  ·exact k a (List.mem_append_left _ m) z
noncomputable abbrev Rho:=List (Option (D × Nat))
structure Good (K:PySem.W.Frag) (ρ:Rho) (σ:St) (H:Hp) (w:Wn) (t:Nat):Prop where
 wl:WL K w H
 ws:∀ a i,w a=some (.s i)->i<σ.length
 wt:∀ a i,w a=some (.t i)->i<t
 len:ρ.length=σ.length
 slot:∀ (i:Nat) d q,ρ[i]? = some (some (d,q))->∃ v F,σ[i]? = some (some v)/\Rep K H w (.s i) q d v F
structure Go (H:Hp) (w:Wn) (H':Hp) (w':Wn):Prop where
 stab:x6n H w H' w'
 keep:∀ a o,w a=some o->(∀ i,o ≠ .s i)->H' a=H a/\w' a=some o
theorem Go.refl {H:Hp} {w:Wn}:Go H w H w:=⟨fun a x h n=>⟨sm h,n⟩,fun a o e _=>⟨rfl,e⟩⟩
theorem Go.trans {H H1 H2:Hp} {w w1 w2:Wn} (a:Go H w H1 w1) (b:Go H1 w1 H2 w2):Go H w H2 w2:=
 ⟨a.stab.trans b.stab,fun c o e h=>by
   obtain⟨h1,w1⟩:=a.keep c o e h
   obtain⟨h2,w2⟩:=b.keep c o w1 h
   exact⟨h2.trans h1,w2⟩⟩
theorem Rep.gone {K:PySem.W.Frag} {H H':Hp} {w w':Wn} {q:Nat} {d:D} {v:V} {F:List Addr} {i:Nat} (r:Rep K H w (.t i) q d v F) (wl:WL K w H) (g:Go H w H' w'):Rep K H' w' (.t i) q d v F:=
 Rep.go wl g.stab r fun a m=>g.keep a _ (r.owns a m) (fun _ z=>nomatch z)
theorem Reps.gone {K:PySem.W.Frag} {H H':Hp} {w w':Wn} {q:Nat} {d:List D} {v:List V} {F:List Addr} {i:Nat} (r:Reps K H w (.t i) q d v F) (wl:WL K w H) (g:Go H w H' w'):Reps K H' w' (.t i) q d v F:=
 Reps.go wl g.stab r fun a m=>g.keep a _ (r.owns a m) (fun _ z=>nomatch z)
noncomputable def x1v (t:Nat) (w:Wn):Wn:=fun a=>match w a with
 | some (.t i)=>if t<=i then none else some (.t i)
 | x=>x
theorem x6g {t:Nat} {w:Wn} {a:Addr} (h:w a=none):x1v t w a=none:=by unfold x1v; rw[h]
theorem z5c {t:Nat} {w:Wn} {a:Addr} {i:Nat} (h:w a=some (.s i)):x1v t w a=some (.s i):=by unfold x1v; rw[h]
theorem z4i {t:Nat} {w:Wn} {a:Addr} (h:w a=some .f):x1v t w a=some .f:=by unfold x1v; rw[h]
theorem z2h {t:Nat} {w:Wn} {a:Addr} {i:Nat} (h:w a=some (.t i)) (hi:i<t):x1v t w a=some (.t i):=by unfold x1v; rw[h]; exact if_neg (by omega)
theorem z2b {t:Nat} {w:Wn} {a:Addr} {i:Nat} (h:w a=some (.t i)) (hi:t<=i):x1v t w a=none:=by unfold x1v; rw[h]; exact if_pos hi
theorem x8f {t:Nat} {w:Wn} {a:Addr} {o:Ow} (h:x1v t w a=some o):w a=some o/\∀ i,o=.t i->i<t:=by
 unfold x1v at h
 cases e:w a with
 | none=>rw[e]at h; cases h
 | some o'=>
  rw[e]at h
  cases o' with
  | s i=>cases h; exact⟨rfl,fun i z=>nomatch z⟩
  | f=>cases h; exact⟨rfl,fun i z=>nomatch z⟩
  | t i=>
   dsimp only at h
   split at h
   ·cases h
   ·cases h; exact⟨rfl,fun j z=>by cases z; omega⟩
theorem Good.drop {K:PySem.W.Frag} {ρ:Rho} {σ:St} {H:Hp} {w:Wn} {t t':Nat} (g:Good K ρ σ H w t):Good K ρ σ H (x1v t' w) t':=by
 refine⟨⟨fun a o e=>g.wl a o (x8f e).1,g.wl.tb⟩,fun a i e=>g.ws a i (x8f e).1,fun a i e=>(x8f e).2 i rfl,g.len,fun i d q e=>?_⟩
 obtain⟨v,F,h1,h2⟩:=g.slot i d q e
 exact⟨v,F,h1,Rep.go g.wl (fun a x h n=>⟨sm h,x6g n⟩) h2 fun a m=>⟨rfl,z5c (h2.owns a m)⟩⟩
theorem Go.drop {H H':Hp} {w w':Wn} {t:Nat} (g:Go H w H' w') (wt:∀ a i,w a=some (.t i)->i<t):Go H w H' (x1v t w'):=
 ⟨fun a x h n=>⟨(g.stab a x h n).1,x6g (g.stab a x h n).2⟩,fun a o e h=>by
   obtain⟨h1,h2⟩:=g.keep a o e h
   refine⟨h1,?_⟩
   cases o with
   | s i=>exact absurd rfl (h i)
   | f=>exact z4i h2
   | t i=>exact z2h h2 (wt a i e)⟩
theorem Rep.drop {K:PySem.W.Frag} {H:Hp} {w:Wn} {q:Nat} {d:D} {v:V} {F:List Addr} {t:Nat} {o:Ow} (r:Rep K H w (.t t) q d v F) {t':Nat} (h:t'<=t):Rep K H (x1v t' w) o 0 d v []:=
 Rep.freeze (fun a n=>x6g n) r fun a m=>z2b (r.owns a m) h
noncomputable abbrev Den:=Rho->Option (D × Nat × Rho)
noncomputable def tD (K:PySem.W.Frag) (f:Den):TE:=fun σ H Q=>∃ ρ w t r q ρ',Good K ρ σ H w t/\f ρ=some (r,q,ρ')/\∀ v H' w' F,Good K ρ' σ H' w' (t+1)->Go H w H' w'->Rep K H' w' (.t t) q r v F->Q v H'
theorem PE.imp {X:Cx} {e:Expr} {t t':TE} (h:PE X e t) (i:∀ σ H Q,t' σ H Q->t σ H Q):PE X e t':=fun pins s σ H Q I q=>h pins s σ H Q I (i σ H Q q)
noncomputable abbrev PD (X:Cx) (e:Expr) (f:Den):Prop:=PE X e (tD X.K f)
theorem Good.up {K:PySem.W.Frag} {ρ:Rho} {σ:St} {H:Hp} {w:Wn} {t:Nat} (g:Good K ρ σ H w t):Good K ρ σ H w (t+1):=⟨g.wl,g.ws,fun a i e=>Nat.lt_succ_of_lt (g.wt a i e),g.len,g.slot⟩
@[simp] noncomputable def x4o (d:D):Nat:=if d.isL then 0 else 9
theorem Rep.dep {K:PySem.W.Frag} {H:Hp} {w:Wn} {o:Ow} {d:D} {v:V} (r:Rep K H w o 0 d v []):Rep K H w o (x4o d) d v []:=by
 unfold x4o
 cases e:d.isL with
 | true=>exact r
 | false=>exact(r.nolist e).2 9
section
variable {K:PySem.W.Frag} {σ:St} {H:Hp} {ρ ρ' ρ1 ρ2:Rho} {w:Wn} {t:Nat} {Q:VK}
theorem z6i {fa fb:Den} {R:V->V->Hp->Prop} (g:Good K ρ σ H w t) {d1 d2:D} {q1 q2:Nat} (e1:fa ρ=some (d1,q1,ρ1)) (e2:fb ρ1=some (d2,q2,ρ2))
  (k:∀ x y H2 w2 F1 F2,Good K ρ2 σ H2 w2 (t+2)->Go H w H2 w2->Rep K H2 w2 (.t t) q1 d1 x F1->Rep K H2 w2 (.t (t+1)) q2 d2 y F2->R x y H2) :
  tD K fa σ H fun x H1=>tD K fb σ H1 fun y H2=>R x y H2:=
 ⟨ρ,w,t,d1,q1,ρ1,g,e1,fun x H1 w1 F1 g1 go1 r1=>⟨ρ1,w1,t+1,d2,q2,ρ2,g1,e2,fun y H2 w2 F2 g2 go2 r2=>k x y H2 w2 F1 F2 g2 (go1.trans go2) (r1.gone g1.wl go2) r2⟩⟩
theorem z4x {r:D} {q:Nat} {v:V} {H2:Hp} {w2:Wn} {t2:Nat} (k:∀ v H' w' F,Good K ρ' σ H' w' (t+1)->Go H w H' w'->Rep K H' w' (.t t) q r v F->Q v H') (g:Good K ρ σ H w t) (g2:Good K ρ' σ H2 w2 t2) (go:Go H w H2 w2)
  (rr:Rep K H2 (x1v t w2) (.t t) q r v []):Q v H2:=k v H2 (x1v t w2) [] g2.drop.up (go.drop g.wt) rr
noncomputable def z01 (p:Addr) (o:Ow) (w:Wn):Wn:=fun a=>if a=p then some o else w a
theorem x4s {p:Addr} {o:Ow} {w:Wn}:z01 p o w p=some o:=if_pos rfl
theorem x3n {p a:Addr} {o:Ow} {w:Wn} (h:a≠p):z01 p o w a=w a:=if_neg h
theorem y76 {H1:Hp} {p:Addr} {vs:List V} {ds:List D} {w1:Wn} (g:Good K ρ σ H1 w1 t) (hp:H1 p=none) (r:Reps K H1 w1 .f 0 ds vs []) :
  Good K ρ σ (upd H1 p (.lst vs)) (z01 p (.t t) w1) (t+1)/\Go H1 w1 (upd H1 p (.lst vs)) (z01 p (.t t) w1)/\Rep K (upd H1 p (.lst vs)) (z01 p (.t t) w1) (.t t) 1 (.lst ds) (.ref p) [p]:=by
 have ne:∀ a x,H1 a=some x->a≠p:=fun a x e=>x0u e hp
 have nw:∀ a o,w1 a=some o->a≠p:=fun a o e=>by obtain⟨vs,q⟩:=g.wl a o e; exact ne a _ q
 have st:x6n H1 w1 (upd H1 p (.lst vs)) (z01 p (.t t) w1):=fun a x e n=>⟨sm (by rw[x0i (ne a x e)]; exact e),by rw[x3n (ne a x e)]; exact n⟩
 refine⟨⟨⟨fun a o e=>?_,g.wl.tb.upd rfl (.inl hp)⟩,fun a i e=>?_,fun a i e=>?_,g.len,fun i d q e=>?_⟩,⟨st,fun a o e _=>⟨x0i (nw a o e),(x3n (nw a o e)).trans e⟩⟩,?_⟩
 ·by_cases h:a=p
  ·subst h; exact⟨vs,x0y⟩
  ·rw[x3n h]at e
   obtain⟨us,q⟩:=g.wl a o e
   exact⟨us,by rw[x0i h]; exact q⟩
 ·by_cases h:a=p
  ·subst h; rw[x4s]at e; cases e
  ·rw[x3n h]at e; exact g.ws a i e
 ·by_cases h:a=p
  ·subst h; rw[x4s]at e; cases e; exact Nat.lt_succ_self _
  ·rw[x3n h]at e; exact Nat.lt_succ_of_lt (g.wt a i e)
 ·obtain⟨v,F,h1,h2⟩:=g.slot i d q e
  exact⟨v,F,h1,Rep.go g.wl st h2 fun a m=>⟨x0i (nw a _ (h2.owns a m)),(x3n (nw a _ (h2.owns a m))).trans (h2.owns a m)⟩⟩
 ·exact .own x0y x4s (Reps.go g.wl st r (fun _ z=>nomatch z)) (fun z=>nomatch z)
theorem y1r {H1:Hp} {p:Addr} {vs:List V} {ds:List D} {w1:Wn} (g:Good K ρ σ H1 w1 t) (hp:H1 p=none) (r:Reps K H1 w1 .f 0 ds vs []) :
  Good K ρ σ (upd H1 p (.tup vs)) w1 (t+1)/\Go H1 w1 (upd H1 p (.tup vs)) w1/\Rep K (upd H1 p (.tup vs)) w1 (.t t) 9 (.tup ds) (.ref p) []:=by
 have ne:∀ a x,H1 a=some x->a≠p:=fun a x e=>x0u e hp
 have nw:∀ a o,w1 a=some o->a≠p:=fun a o e=>by obtain⟨vs,q⟩:=g.wl a o e; exact ne a _ q
 have st:x6n H1 w1 (upd H1 p (.tup vs)) w1:=fun a x e n=>⟨sm (by rw[x0i (ne a x e)]; exact e),n⟩
 refine⟨⟨⟨fun a o e=>?_,g.wl.tb.upd rfl (.inl hp)⟩,g.ws,fun a i e=>Nat.lt_succ_of_lt (g.wt a i e),g.len,fun i d q e=>?_⟩,⟨st,fun a o e _=>⟨x0i (nw a o e),e⟩⟩,?_⟩
 ·obtain⟨us,q⟩:=g.wl a o e
  exact⟨us,by rw[x0i (nw a o e)]; exact q⟩
 ·obtain⟨v,F,h1,h2⟩:=g.slot i d q e
  exact⟨v,F,h1,Rep.go g.wl st h2 fun a m=>⟨x0i (nw a _ (h2.owns a m)),h2.owns a m⟩⟩
 ·exact .tup x0y (Reps.go g.wl st r (fun _ z=>nomatch z))
end
@[simp] noncomputable def eC (d:D):Den:=fun ρ=>some (d,9,ρ)
@[simp] noncomputable def x05 (i:Nat):Den:=fun ρ=>match ρ[i]? with
 | some (some (d,q))=>if d.isL=false then some (d,9,ρ)else if q=0 then some (d,0,ρ)else some (d,0,ρ.set i (some (d,0)))
 | _=>none
section
variable {X:Cx} {a b c e:Expr} {fa fb fc f:Den} {pos:Pos}
theorem x7t {v:V} {d:D} (h:PE X e (tC v)) (r:∀ K H w o q,Rep K H w o q d v []):PD X e (eC d):=PE.imp h fun σ H Q hh0=>by
 obtain⟨ρ,w,t,r',q,ρ',g,ee,k⟩:=hh0
 cases ee
 exact k v H w [] g.up Go.refl (r _ _ _ _ _)
theorem z8b {i j}:PD X (.Constant (.int i) j pos) (eC (.int i)):=x7t z3a fun _ _ _ _ _=>.int i
theorem j1s {i j}:PD X (.Constant (.bool i) j pos) (eC (.bl i)):=x7t j25 fun _ _ _ _ _=>.bl i
theorem j0i {j}:PD X (.Constant .none j pos) (eC .non):=x7t z7x fun _ _ _ _ _=>.non
theorem j0h {x j}:PD X (.Constant (.str x) j pos) (eC (.str x)):=x7t y7u fun _ _ _ _ _=>.str x
noncomputable def x6o (i:Nat) (w:Wn):Wn:=fun a=>if w a=some (.s i)then none else w a
theorem x6e {i:Nat} {w:Wn} {a:Addr} (h:w a=none):x6o i w a=none:=by unfold x6o; rw[h]; rfl
theorem y19 {i:Nat} {w:Wn} {a:Addr} (h:w a=some (.s i)):x6o i w a=none:=by unfold x6o; rw[if_pos h]
theorem x9e {i:Nat} {w:Wn} {a:Addr} {o:Ow} (h:w a=some o) (n:o ≠ .s i):x6o i w a=some o:=by unfold x6o; rw[if_neg (by rw[h]; exact fun z=>n (Option.some.inj z))]; exact h
theorem x3x {i:Nat} {w:Wn} {a:Addr} {o:Ow} (h:x6o i w a=some o):w a=some o/\o ≠ .s i:=by
 unfold x6o at h
 split at h
 ·cases h
 ·rename_i n; exact⟨h,fun z=>n (by rw[h,z])⟩
theorem Good.give {K:PySem.W.Frag} {ρ:Rho} {σ:St} {H:Hp} {w:Wn} {t i:Nat} {d:D} {q:Nat} (g:Good K ρ σ H w t) (e:ρ[i]? = some (some (d,q))):Good K (ρ.set i (some (d,0))) σ H (x6o i w) t/\Go H w H (x6o i w):=by
 have st:x6n H w H (x6o i w):=fun a x h n=>⟨sm h,x6e n⟩
 refine⟨⟨⟨fun a o h=>g.wl a o (x3x h).1,g.wl.tb⟩,fun a j h=>g.ws a j (x3x h).1,fun a j h=>g.wt a j (x3x h).1,by rw[List.length_set]; exact g.len,fun j d' q' e'=>?_⟩,⟨st,fun a o h n=>⟨rfl,x9e h (n i)⟩⟩⟩
 by_cases hj:i=j
 ·subst hj
  rw[List.getElem?_set_self (List.getElem?_eq_some_iff.mp e).1]at e'
  cases e'
  obtain⟨v,F,h1,h2⟩:=g.slot i d q e
  exact⟨v,[],h1,Rep.freeze (fun a n=>x6e n) h2 fun a m=>y19 (h2.owns a m)⟩
 ·rw[List.getElem?_set_ne hj]at e'
  obtain⟨v,F,h1,h2⟩:=g.slot j d' q' e'
  exact⟨v,F,h1,Rep.go g.wl st h2 fun a m=>⟨rfl,x9e (h2.owns a m) (fun z=>hj (by cases z; rfl))⟩⟩
theorem j02 {i:Nat} {x:Str} (h:PE X (.Name x pos) (y0f i)):PD X (.Name x pos) (x05 i):=PE.imp h fun σ H Q hh0=>by
 obtain⟨ρ,w,t,r',q,ρ',g,ee,k⟩:=hh0
 unfold x05 at ee
 split at ee
 ·rename_i d q0 e0
  obtain⟨v,F,h1,h2⟩:=g.slot i d q0 e0
  refine⟨v,h1,?_⟩
  split at ee
  ·rename_i hl
   cases ee
   obtain⟨hF,hr⟩:=h2.nolist hl
   exact k v H w [] g.up Go.refl ((hr 9).any g.wl)
  ·split at ee
   ·rename_i hq
    subst hq
    cases ee
    have:=h2.zero
    subst this
    exact k v H w [] g.up Go.refl (h2.any g.wl)
   ·cases ee
    obtain⟨g',go'⟩:=g.give e0
    refine k v H (x6o i w) [] g'.up go' ?_
    exact Rep.freeze (fun a n=>x6e n) h2 fun a m=>y19 (h2.owns a m)
 ·cases ee
noncomputable def y1v:D->Option V
 | .non=>some .non
 | .bl b=>some (.bl b)
 | .int i=>some (.int i)
 | .str x=>some (.str x)
 | _=>none
theorem y22 {K:PySem.W.Frag} {H:Hp} {w:Wn} {o:Ow} {q:Nat} {d:D} {v:V} (h:y1v d=some v):Rep K H w o q d v []:=by
 cases d <;> cases h
 ·exact .non
 ·exact .bl _
 ·exact .int _
 ·exact .str _
@[simp] noncomputable def e2 (g:D->D->Option D) (fa fb:Den):Den:=fun ρ=>match fa ρ with
 | some (x,_,ρ1)=>match fb ρ1 with
  | some (y,_,ρ2)=>match g x y with
   | some d=>some (d,9,ρ2)
   | none=>none
  | none=>none
 | none=>none
theorem z6j {g:D->D->Option D} {ρ ρ':Rho} {r:D} {q:Nat} (h:e2 g fa fb ρ=some (r,q,ρ')):∃ x q1 ρ1 y q2,fa ρ=some (x,q1,ρ1)/\fb ρ1=some (y,q2,ρ')/\g x y=some r/\q=9:=by
 unfold e2 at h
 split at h
 ·rename_i x q1 ρ1 h1
  split at h
  ·rename_i y q2 ρ2 h2
   split at h
   ·rename_i d hd
    cases h
    exact⟨x,q1,ρ1,y,q2,h1,h2,hd,rfl⟩
   ·cases h
  ·cases h
 ·cases h
theorem y30 {K:PySem.W.Frag} {g:D->D->Option D} {r:R2} (hg:∀ x y d,g x y=some d->∃ v,y1v d=some v/\∀ H w o o' q q' u u' F F',Rep K H w o q x u F->Rep K H w o' q' y u' F'->WL K w H->∀ Q:VK,Q v H->r u u' H Q) :
  ∀ σ H Q,tD K (e2 g fa fb) σ H Q->tOp r (tD K fa) (tD K fb) σ H Q:=fun σ H Q hh0=>by
 obtain⟨ρ,w,t,r',q,ρ',gd,ee,k⟩:=hh0
 obtain⟨x,q1,ρ1,y,q2,h1,h2,h3,rfl⟩:=z6j ee
 obtain⟨v,hv,hr⟩:=hg x y r' h3
 exact z6i gd h1 h2 fun u u' H2 w2 F1 F2 g2 go r1 r2=>hr H2 w2 _ _ _ _ u u' F1 F2 r1 r2 g2.wl Q (z4x k gd g2 go (y22 hv))
@[simp] noncomputable def gI (f:Int->Int->Option D):D->D->Option D
 | .int i,.int j=>f i j
 | _,_=>none
theorem y07 {f:Int->Int->Option D} {x y d:D} (h:gI f x y=some d):∃ i j,x=.int i/\y=.int j/\f i j=some d:=by
 unfold gI at h
 split at h
 ·exact⟨_,_,rfl,rfl,h⟩
 ·cases h
theorem x42 {K:PySem.W.Frag} {H:Hp} {w:Wn} {o:Ow} {q:Nat} {i:Int} {v:V} {F:List Addr} (r:Rep K H w o q (.int i) v F):v=.int i:=by cases r; rfl
theorem y5q {K:PySem.W.Frag} {f:Int->Int->Option D} {C:Int->Int->Prop} {h:Int->Int->V} (hf:∀ i j d,f i j=some d->C i j/\y1v d=some (h i j)) :
  ∀ σ H Q,tD K (e2 (gI f) fa fb) σ H Q->tOp (rI C h) (tD K fa) (tD K fb) σ H Q:=
 y30 fun x y d e=>by
  obtain⟨i,j,rfl,rfl,e⟩:=y07 e
  obtain⟨c,s⟩:=hf i j d e
  exact⟨_,s,fun H w o o' q q' u u' F F' r1 r2 _ Q hq=>⟨i,j,x42 r1,x42 r2,c,hq⟩⟩
theorem y2n {K:PySem.W.Frag} {f:Int->Int->Option D} {h:Int->Int->V} (hf:∀ i j d,f i j=some d->y1v d=some (h i j)) :
  ∀ σ H Q,tD K (e2 (gI f) fa fb) σ H Q->tOp (rI0 h) (tD K fa) (tD K fb) σ H Q:=
 y30 fun x y d e=>by
  obtain⟨i,j,rfl,rfl,e⟩:=y07 e
  exact⟨_,hf i j d e,fun H w o o' q q' u u' F F' r1 r2 _ Q hq=>⟨i,j,x42 r1,x42 r2,hq⟩⟩
end
section
variable {X:Cx} {a b c e:Expr} {fa fb fc f:Den} {pos:Pos}
@[simp] noncomputable def x2p:D->D->Option D:=gI fun i j=>some (.int (i+j))
@[simp] noncomputable def x62:D->D->Option D:=gI fun i j=>if(-(2 ^ 64)<i/\i<2 ^ 64)\/(-(2 ^ 64)<j/\j<2 ^ 64)then some (.int (i*j))else none
@[simp] noncomputable def y5o:D->D->Option D:=gI fun i j=>if 0<j/\j<1073741824 then some (.int (i / j))else none
@[simp] noncomputable def y2x:D->D->Option D:=gI fun i j=>if 0<j then some (.int (i % j))else none
theorem z8v (ha:PD X a fa) (hb:PD X b fb):PD X (.BinOp a .Add b pos) (e2 x2p fa fb):=PE.imp (y4f z77 ha hb) (y2n fun i j d h=>by cases h; rfl)
theorem z8t (ha:PD X a fa) (hb:PD X b fb):PD X (.BinOp a .Mult b pos) (e2 x62 fa fb):=PE.imp (y4f j0f ha hb) (y5q fun i j d h=>by
 split at h
 ·cases h; exact⟨by assumption,rfl⟩
 ·cases h)
theorem z9s (ha:PD X a fa) (hb:PD X b fb):PD X (.BinOp a .FloorDiv b pos) (e2 y5o fa fb):=PE.imp (y4f z4h ha hb) (y5q fun i j d h=>by
 split at h
 ·cases h; exact⟨by assumption,rfl⟩
 ·cases h)
theorem z9q (ha:PD X a fa) (hb:PD X b fb):PD X (.BinOp a .Mod b pos) (e2 y2x fa fb):=PE.imp (y4f z78 ha hb) (y5q fun i j d h=>by
 split at h
 ·cases h; exact⟨by assumption,rfl⟩
 ·cases h)
noncomputable def atD:D->Int->Option D
 | .lst ds,i=>atI ds i
 | .tup ds,i=>atI ds i
 | _,_=>none
@[simp] noncomputable def eIx (fa fb:Den):Den:=fun ρ=>match fa ρ with
 | some (x,_,ρ1)=>match fb ρ1 with
  | some (.int i,_,ρ2)=>match atD x i with
   | some d=>some (d,x4o d,ρ2)
   | none=>none
  | _=>none
 | none=>none
theorem Rep.seqL {K:PySem.W.Frag} {H:Hp} {w:Wn} {o:Ow} {q:Nat} {ds:List D} {v:V} {F:List Addr} (r:Rep K H w o q (.lst ds) v F):∃ a vs q' G,v=.ref a/\SqL K H a vs/\Reps K H w o q' ds vs G:=by
 cases r with
 | kl h r=>exact⟨_,_,_,_,rfl,h.sq,r⟩
 | shr h n r=>exact⟨_,_,_,_,rfl,.inl h,r⟩
 | own h n r _=>exact⟨_,_,_,_,rfl,SqL.of h,r⟩
theorem Rep.seqL0 {K:PySem.W.Frag} {H:Hp} {w:Wn} {o:Ow} {ds:List D} {v:V} {F:List Addr} (r:Rep K H w o 0 (.lst ds) v F):∃ a vs,v=.ref a/\SqL K H a vs/\Reps K H w o 0 ds vs []:=by
 cases r with
 | kl h r=>exact⟨_,_,rfl,h.sq,r⟩
 | shr h n r=>exact⟨_,_,rfl,.inl h,r⟩
theorem Rep.seqT {K:PySem.W.Frag} {H:Hp} {w:Wn} {o:Ow} {q:Nat} {ds:List D} {v:V} {F:List Addr} (r:Rep K H w o q (.tup ds) v F):∃ a vs,v=.ref a/\SqT K H a vs/\Reps K H w o 0 ds vs []:=by
 cases r with
 | tup h r=>exact⟨_,_,rfl,SqT.of h,r⟩
theorem Rep.tupAt {K:PySem.W.Frag} {H:Hp} {w:Wn} {o:Ow} {q:Nat} {ds:List D} {v:V} {F:List Addr} (r:Rep K H w o q (.tup ds) v F):∃ a vs,v=.ref a/\H a=some (.tup vs)/\Reps K H w o 0 ds vs []:=by
 cases r with
 | tup h r=>exact⟨_,_,rfl,h,r⟩
theorem Reps.atI {K:PySem.W.Frag} {H:Hp} {w:Wn} {o:Ow} {ds:List D} {vs:List V} {i:Int} {d:D} (r:Reps K H w o 0 ds vs []) (h:L2.atI ds i=some d):∃ v,L2.atI vs i=some v/\Rep K H w o 0 d v []:=by
 unfold L2.atI at h ⊢
 rw[<- r.length]
 cases e:ixN ds.length i with
 | none=>rw[e]at h; cases h
 | some j=>
  rw[e]at h
  exact r.get h
theorem j17 (ha:PD X a fa) (hb:PD X b fb) (hs:x41 b:=by exact fun _ _=>rfl):PD X (.Subscript a b pos) (eIx fa fb):=PE.imp (y7v y2z ha hb hs) fun σ H Q hh0=>by
 obtain⟨ρ,w,t,r',q,ρ',gd,ee,k⟩:=hh0
 unfold eIx at ee
 split at ee
 ·rename_i x q1 ρ1 h1
  split at ee
  ·rename_i i q2 ρ2 h2
   split at ee
   ·rename_i d hd
    cases ee
    refine z6i gd h1 h2 fun u u' H2 w2 F1 F2 g2 go r1 r2=>?_
    have hu':=x42 r2
    subst hu'
    have r0:=r1.drop (o:=.t t) (Nat.le_refl t)
    cases x with
    | lst ds=>
     obtain⟨p,vs,rfl,hq,rs⟩:=r0.seqL0
     obtain⟨v,hv,rv⟩:=rs.atI hd
     exact .inl ⟨p,vs,i,v,rfl,rfl,hq,hv,z4x k gd g2 go rv.dep⟩
    | tup ds=>
     obtain⟨p,vs,rfl,hq,rs⟩:=r0.seqT
     obtain⟨v,hv,rv⟩:=rs.atI hd
     exact .inr (.inl ⟨p,vs,i,v,rfl,rfl,hq,hv,z4x k gd g2 go rv.dep⟩)
    | _=>cases hd
   ·cases ee
  ·cases ee
 ·cases ee
noncomputable abbrev x21:=Rho->Option (List D × Rho)
noncomputable def tDA (K:PySem.W.Frag) (f:x21):TA:=fun σ H Q=>∃ ρ w t ds ρ',Good K ρ σ H w t/\f ρ=some (ds,ρ')/\∀ vs H' w',Good K ρ' σ H' w' t->Go H w H' w'->Reps K H' w' .f 0 ds vs []->Q vs H'
noncomputable abbrev PDA (X:Cx) (es:List Expr) (f:x21):Prop:=PA X es (tDA X.K f)
theorem PA.imp {X:Cx} {e:List Expr} {t t':TA} (h:PA X e t) (i:∀ σ H Q,t' σ H Q->t σ H Q):PA X e t':=fun pos pins s σ H Q I q=>h pos pins s σ H Q I (i σ H Q q)
@[simp] noncomputable def x0g:x21:=fun ρ=>some ([],ρ)
@[simp] noncomputable def x01 (f:Den) (g:x21):x21:=fun ρ=>match f ρ with
 | some (d,_,ρ1)=>match g ρ1 with
  | some (ds,ρ2)=>some (d::ds,ρ2)
  | none=>none
 | none=>none
theorem z6k:PDA X [] x0g:=PA.imp y1n fun σ H Q hh0=>by
 obtain⟨ρ,w,t,ds,ρ',gd,ee,k⟩:=hh0
 cases ee
 exact k [] H w gd Go.refl .nil
theorem z1n {es:List Expr} {g:x21} (ha:PD X e f) (hr:PDA X es g) (hs:starEach (e::es) X.env=(false,eval e X.env)::starEach es X.env:=by rfl):PDA X (e::es) (x01 f g):=PA.imp (x6x ha hr hs) fun σ H Q hh0=>by
 obtain⟨ρ,w,t,ds,ρ',gd,ee,k⟩:=hh0
 unfold x01 at ee
 split at ee
 ·rename_i d q ρ1 h1
  split at ee
  ·rename_i ds' ρ2 h2
   cases ee
   refine⟨ρ,w,t,d,q,ρ1,gd,h1,fun x H1 w1 F1 g1 go1 r1=>⟨ρ1,x1v t w1,t,ds',_,g1.drop,h2,fun vs H2 w2 g2 go2 r2=>?_⟩⟩
   have gl:=(g1.drop (t':=t)).wl
   have r0:Rep X.K H2 w2 .f 0 d x []:=Rep.go gl go2.stab (r1.drop (o:=.f) (Nat.le_refl t)) (fun _ z=>nomatch z)
   exact k (x::vs) H2 w2 g2 ((go1.drop gd.wt).trans go2) (.cons (F:=[]) (G:=[]) r0 r2 (fun _ z=>nomatch z))
  ·cases ee
 ·cases ee
@[simp] noncomputable def x79 (g:x21):Den:=fun ρ=>match g ρ with
 | some (ds,ρ1)=>if ds.length<=1000 then some (.lst ds,1,ρ1)else none
 | none=>none
@[simp] noncomputable def x75 (g:x21):Den:=fun ρ=>match g ρ with
 | some (ds,ρ1)=>if ds.length<=1000 then some (.tup ds,9,ρ1)else none
 | none=>none
theorem y01 {n:Nat} (h:n<=1000):n<=sizeLine:=Nat.le_of_lt (x3g h)
theorem z7p {es:List Expr} {g:x21} (h:PDA X es g):PD X (.List es pos) (x79 g):=PE.imp (z9n h) fun σ H Q hh0=>by
 obtain⟨ρ,w,t,r',q,ρ',gd,ee,k⟩:=hh0
 unfold x79 at ee
 split at ee
 ·rename_i ds ρ1 h1
  split at ee
  ·rename_i hl
   cases ee
   refine⟨ρ,w,t,ds,_,gd,h1,fun vs H1 w1 g1 go1 r1=>⟨by rw[<- r1.length]; exact y01 hl,fun p hp=>?_⟩⟩
   obtain⟨a1,a2,a3⟩:=y76 g1 hp r1
   exact k _ _ _ _ a1 (go1.trans a2) a3
  ·cases ee
 ·cases ee
theorem z96 {es:List Expr} {g:x21} {x1} (h:PDA X es g):PD X (.Tuple es x1 pos) (x75 g):=PE.imp (z81 h) fun σ H Q hh0=>by
 obtain⟨ρ,w,t,r',q,ρ',gd,ee,k⟩:=hh0
 unfold x75 at ee
 split at ee
 ·rename_i ds ρ1 h1
  split at ee
  ·rename_i hl
   cases ee
   refine⟨ρ,w,t,ds,_,gd,h1,fun vs H1 w1 g1 go1 r1=>⟨by rw[<- r1.length]; exact y01 hl,fun p hp=>?_⟩⟩
   obtain⟨a1,a2,a3⟩:=y1r g1 hp r1
   exact k _ _ _ _ a1 (go1.trans a2) a3
  ·cases ee
 ·cases ee
noncomputable def spD (K:PySem.W.Frag) (n:Nat) (F:List D->Option (D × Nat)):Sp:=fun vs H Q _=>vs.length=n/\∃ ds w r q,(∀ a o,w a=some o->o=.f)/\WL K w H/\Reps K H w .f 0 ds vs []/\F ds=some (r,q) /\
 ∀ v H' w' Fo,Go H w H' w'->WL K w' H'->Rep K H' w' (.t 0) q r v Fo->Q v H'
@[simp] noncomputable def x0p (F:List D->Option (D × Nat)) (n:Nat) (g:x21):Den:=fun ρ=>match g ρ with
 | some (ds,ρ1)=>if ds.length=n then match F ds with
  | some (r,q)=>some (r,q,ρ1)
  | none=>none
  else none
 | none=>none
theorem j1q {K:PySem.W.Frag} {ρ:Rho} {σ:St} {H H':Hp} {w w':Wn} {t q:Nat} {d:D} {v:V} {Fo:List Addr} (g:Good K ρ σ H w t)
  (go:Go H (fun a=>(w a).map fun _=>Ow.f) H' w') (wl':WL K w' H') (r:Rep K H' w' (.t 0) q d v Fo) :
  Good K ρ σ H' (fun a=>if a∈Fo then some (.t t)else w a) (t+1)/\Go H w H' (fun a=>if a∈Fo then some (.t t)else w a)/\Rep K H' (fun a=>if a∈Fo then some (.t t)else w a) (.t t) q d v Fo:=by
 have kf:∀ a o,w a=some o->H' a=H a/\w' a=some .f:=fun a o e=>go.keep a .f (by show(w a).map _=_; rw[e]; rfl) (fun _ z=>nomatch z)
 have nf:∀ a x,H a=some x->a ∉ Fo:=fun a x e m=>by
  have h1:=r.owns a m
  cases ew:w a with
  | none=>
   have:=(go.stab a x e (by show(w a).map _=_; rw[ew]; rfl)).2
   rw[h1]at this; cases this
  | some o=>rw[(kf a o ew).2]at h1; cases h1
 have nw:∀ a o,w a=some o->a ∉ Fo:=fun a o e=>by obtain⟨vs,q⟩:=g.wl a o e; exact nf a _ q
 have st:x6n H w H' (fun a=>if a∈Fo then some (.t t)else w a):=fun a x e n=>⟨(go.stab a x e (by show(w a).map _=_; rw[n]; rfl)).1,by show(if a∈Fo then _ else _)=_; rw[if_neg (nf a x e)]; exact n⟩
 have wv:∀ a o,(if a∈Fo then some (Ow.t t)else w a)=some o->(a∈Fo/\o=.t t)\/w a=some o:=fun a o e=>by
  split at e
  ·cases e; exact .inl ⟨by assumption,rfl⟩
  ·exact .inr e
 refine⟨⟨⟨fun a o e=>?_,wl'.tb⟩,fun a i e=>?_,fun a i e=>?_,g.len,fun i d q e=>?_⟩,⟨st,fun a o e _=>⟨(kf a o e).1,by show(if a∈Fo then _ else _)=_; rw[if_neg (nw a o e)]; exact e⟩⟩,?_⟩
 ·rcases wv a o e with⟨m,_⟩ | z
  ·exact wl' a _ (r.owns a m)
  ·obtain⟨vs,h⟩:=g.wl a o z
   exact⟨vs,(kf a o z).1.trans h⟩
 ·rcases wv a _ e with⟨_,z⟩ | z
  ·cases z
  ·exact g.ws a i z
 ·rcases wv a _ e with⟨_,z⟩ | z
  ·cases z; exact Nat.lt_succ_self _
  ·exact Nat.lt_succ_of_lt (g.wt a i z)
 ·obtain⟨v,F,h1,h2⟩:=g.slot i d q e
  refine⟨v,F,h1,Rep.go g.wl st h2 fun a m=>⟨(kf a _ (h2.owns a m)).1,?_⟩⟩
  show(if a∈Fo then _ else _)=_
  rw[if_neg (nw a _ (h2.owns a m))]
  exact h2.owns a m
 ·refine Rep.go wl' (fun a x e n=>⟨sm e,?_⟩) r fun a m=>⟨rfl,if_pos m⟩
  show(if a∈Fo then _ else _)=_
  rw[if_neg (fun m=>by have:=r.owns a m; rw[n]at this; cases this)]
  cases ew:w a with
  | none=>rfl
  | some o=>have:=(kf a o ew).2; rw[n]at this; cases this
theorem z2q {CX:CXT} {k n:Nat} {fn:Addr} {fd:FuncData} {ps:List Str} {x:Str} {p:Pos} {es:List Expr} {F:List D->Option (D × Nat)} {g:x21} {E:XK} (Fk:FnOk X.prog X.w X.K X.mg X.base CX k fn fd ps (spD X.K n F)) (hr:Room k X.A) (hm:X.mg x=some (.ref fn)) (hk:PySem.W.keepIn X.K (.ref fn)=true) (hb:y31 X.K fd ps [])
  (hx:y5y CX X E) (ha:PDA X (e::es) g) (hg:Gl X x:=by rfl) (hdb:(x == ("__debug__":Str))=false:=by decide) (he:starEach (e::es) X.env=(false,eval e X.env)::starEach es X.env:=by rfl) (hpl:(backTo pos (starEach es X.env)).any (·.1)=false:=by rfl) :
  PD X (.Call (.Name x p) (e::es) [] pos) (x0p F n g):=PE.imp (z6s Fk hr hg hm hk hb .nil hx ha hdb he hpl) fun σ H Q hh0=>by
 obtain⟨ρ,w,t,r',q,ρ',gd,ee,k⟩:=hh0
 unfold x0p at ee
 split at ee
 ·rename_i ds ρ1 h1
  split at ee
  ·rename_i hn
   split at ee
   ·rename_i r0 q0 h2
    cases ee
    refine⟨ρ,w,t,ds,_,gd,h1,fun vs H1 w1 g1 go1 r1=>?_⟩
    show spD X.K n F (vs++[]) H1 Q E
    rw[List.append_nil]
    refine⟨by rw[<- r1.length]; exact hn,ds,fun a=>(w1 a).map fun _=>Ow.f,r',q,fun a o e=>?_,⟨fun a o e=>?_,g1.wl.tb⟩,?_,h2,fun v H2 w2 Fo go2 wl2 rr=>?_⟩
    ·dsimp only at e
     cases ew:w1 a with
     | none=>rw[ew]at e; cases e
     | some o'=>rw[ew]at e; cases e; rfl
    ·try dsimp only at e
     cases ew:w1 a with
     | none=>rw[ew]at e; cases e
     | some o'=>exact g1.wl a o' ew
    ·exact Reps.freeze (fun a n=>by show(w1 a).map _=_; rw[n]; rfl) r1 (fun _ z=>nomatch z)
    ·obtain⟨b1,b2,b3⟩:=j1q g1 go2 wl2 rr
     exact k _ _ _ _ b1 (go1.trans b2) b3
   ·cases ee
  ·cases ee
 ·cases ee
end
noncomputable abbrev x2m:=Rho->Option (Bool × Rho)
noncomputable def tDT (K:PySem.W.Frag) (f:x2m):TT:=fun σ H Q=>∃ ρ w t b ρ',Good K ρ σ H w t/\f ρ=some (b,ρ')/\∀ H' w',Good K ρ' σ H' w' t->Go H w H' w'->Q b H'
theorem PT.imp {X:Cx} {e:Expr} {t t':TT} (h:PT X e t) (i:∀ σ H Q,t' σ H Q->t σ H Q):PT X e t':=fun pins s σ H Q I q=>h pins s σ H Q I (i σ H Q q)
theorem PW.imp {X:Cx} {e:Expr} {t t':TT} (h:PW X e t) (i:∀ σ H Q,t' σ H Q->t σ H Q):PW X e t':=fun whole pins s σ H Q I q=>h whole pins s σ H Q I (i σ H Q q)
noncomputable abbrev PDT (X:Cx) (e:Expr) (f:x2m):Prop:=PT X e (tDT X.K f)
noncomputable abbrev PDW (X:Cx) (e:Expr) (f:x2m):Prop:=PW X e (tDT X.K f)
@[simp] noncomputable def j35:D->Option Bool
 | .non=>some false
 | .bl b=>some b
 | .int i=>some (i != 0)
 | .tup ds=>some (!ds.isEmpty)
 | .lst ds=>some (!ds.isEmpty)
 | .str _=>none
 | .dic _ _=>none
 | .exc _=>none
 | .ob _ _ _ _=>none
@[simp] noncomputable def y0r (f:Den):x2m:=fun ρ=>match f ρ with
 | some (d,_,ρ1)=>match j35 d with
  | some b=>some (b,ρ1)
  | none=>none
 | none=>none
section
variable {X:Cx} {a b c e:Expr} {fa fb fc f:Den} {ga gb gc:x2m} {pos:Pos}
theorem x9f {α β:Type} {l:List α} {l':List β} (h:l.length=l'.length):(!l.isEmpty) = !l'.isEmpty:=by
 cases l <;> cases l' <;> first | rfl | cases h
theorem z5j (ha:PD X a fa) (he:∀ whole,isTrue a X.env whole=(do let v <- whole; standAt a.pos; holding [v] (truthy v)):=by exact fun _=>rfl):PDT X a (y0r fa):=PT.imp (z1t ha he) fun σ H Q hh0=>by
 obtain⟨ρ,w,t,b,ρ',gd,ee,k⟩:=hh0
 unfold y0r at ee
 split at ee
 ·rename_i d q ρ1 h1
  split at ee
  ·rename_i b' hb
   cases ee
   refine⟨ρ,w,t,d,q,_,gd,h1,fun v H1 w1 F g1 go1 r1=>⟨b,?_,k H1 (x1v t w1) g1.drop (go1.drop gd.wt)⟩⟩
   cases r1 with
   | non=>cases hb; rfl
   | bl x=>cases hb; rfl
   | int i=>cases hb; rfl
   | str x=>cases hb
   | tup h r=>cases hb; exact .inr (.inl ⟨_,SqT.of h,x9f r.length⟩)
   | dic h r=>cases hb
   | exc h x n=>cases hb
   | ob h1 h2 x r=>cases hb
   | kl h r=>cases hb; exact .inl ⟨_,h.sq,x9f r.length⟩
   | shr h _ r=>cases hb; exact .inl ⟨_,.inl h,x9f r.length⟩
   | own h _ r _=>cases hb; exact .inl ⟨_,SqL.of h,x9f r.length⟩
  ·cases ee
 ·cases ee
@[simp] noncomputable def x3u (f:Den):x2m:=fun ρ=>match f ρ with
 | some (.bl b,_,ρ1)=>some (b,ρ1)
 | _=>none
theorem z1q {K:PySem.W.Frag} {te:TE} (h:∀ σ H Q,tD K f σ H Q->te σ H Q):∀ σ H Q,tDT K (x3u f) σ H Q->z9j te σ H Q:=fun σ H Q hh0=>by
 obtain⟨ρ,w,t,b,ρ',gd,ee,k⟩:=hh0
 unfold x3u at ee
 split at ee
 ·rename_i b' q ρ1 h1
  cases ee
  refine h σ H _ ⟨ρ,w,t,.bl b,q,_,gd,h1,fun v H1 w1 F g1 go1 r1=>?_⟩
  cases r1
  exact⟨b,rfl,k H1 (x1v t w1) g1.drop (go1.drop gd.wt)⟩
 ·cases ee
theorem y0h {op:CmpOp} {g:D->D->Option D} {r:R2} (ho:OpR X (compareOp op) r) (hr:∀ σ H Q,tD X.K (e2 g fa fb) σ H Q->tOp r (tD X.K fa) (tD X.K fb) σ H Q) (ha:PD X a fa) (hb:PD X b fb) (hm:behindInMarks op b=false) :
  PDT X (.Compare a [op] [b] pos) (x3u (e2 g fa fb)):=PT.imp (z47 ho ha hb hm) (z1q hr)
theorem z85 {op:CmpOp} {g:D->D->Option D} {r:R2} (ho:OpR X (compareOp op) r) (hr:∀ σ H Q,tD X.K (e2 g fa fb) σ H Q->tOp r (tD X.K fa) (tD X.K fb) σ H Q) (ha:PD X a fa) (hb:PD X b fb) (hm:behindInMarks op b=false) :
  PD X (.Compare a [op] [b] pos) (e2 g fa fb):=PE.imp (z49 ho ha hb hm) hr
@[simp] noncomputable def dLt:D->D->Option D:=gI fun i j=>some (.bl (decide (i<j)))
@[simp] noncomputable def dLe:D->D->Option D:=gI fun i j=>some (.bl (decide (i<=j)))
@[simp] noncomputable def dGt:D->D->Option D:=gI fun i j=>some (.bl (decide (j<i)))
theorem hLt {K:PySem.W.Frag}:∀ σ H Q,tD K (e2 dLt fa fb) σ H Q->tOp (rI0 fun i j=>.bl (decide (i<j))) (tD K fa) (tD K fb) σ H Q:=y2n fun i j d h=>by cases h; rfl
theorem hGt {K:PySem.W.Frag}:∀ σ H Q,tD K (e2 dGt fa fb) σ H Q->tOp (rI0 fun i j=>.bl (decide (j<i))) (tD K fa) (tD K fb) σ H Q:=y2n fun i j d h=>by cases h; rfl
theorem z8l (ha:PD X a fa) (hb:PD X b fb):PDT X (.Compare a [.Lt] [b] pos) (x3u (e2 dLt fa fb)):=y0h z9c hLt ha hb (y4j _)
theorem z9e (ha:PD X a fa) (hb:PD X b fb):PDT X (.Compare a [.Gt] [b] pos) (x3u (e2 dGt fa fb)):=y0h j1l hGt ha hb (y4j _)
@[simp] noncomputable def x61 (g:x2m):x2m:=fun ρ=>match g ρ with
 | some (b,ρ1)=>some (!b,ρ1)
 | none=>none
theorem z6v (ha:PDT X a ga):PDT X (.UnaryOp .Not a pos) (x61 ga):=PT.imp (z91 ha) fun σ H Q hh0=>by
 obtain⟨ρ,w,t,b,ρ',gd,ee,k⟩:=hh0
 unfold x61 at ee
 split at ee
 ·rename_i b' ρ1 h1
  cases ee
  exact⟨ρ,w,t,b',_,gd,h1,fun H1 w1 g1 go1=>k H1 w1 g1 go1⟩
 ·cases ee
@[simp] noncomputable def y8k (g h:x2m):x2m:=fun ρ=>match g ρ with
 | some (b,ρ1)=>if b=true then some (true,ρ1)else h ρ1
 | none=>none
variable {x2l:List Expr}
theorem z4r (ha:PDT X a ga):PDW X (.BoolOp .Or [a] pos) ga:=z7a ha
theorem z9b (ha:PDT X a ga) (hb:PDW X (.BoolOp .Or (b::x2l) pos) gb):PDW X (.BoolOp .Or (a::b::x2l) pos) (y8k ga gb):=PW.imp (j1b ha hb) fun σ H Q hh0=>by
 obtain⟨ρ,w,t,b,ρ',gd,ee,k⟩:=hh0
 unfold y8k at ee
 split at ee
 ·rename_i b' ρ1 h1
  refine⟨ρ,w,t,b',ρ1,gd,h1,fun H1 w1 g1 go1=>?_⟩
  split at ee
  ·rename_i hb; rw[if_pos hb]
   cases ee
   exact k H1 w1 g1 go1
  ·rename_i hb; rw[if_neg hb]
   exact⟨ρ1,w1,t,b,ρ',g1,ee,fun H2 w2 g2 go2=>k H2 w2 g2 (go1.trans go2)⟩
 ·cases ee
@[simp] noncomputable def eIf (g:x2m) (fa fb:Den):Den:=fun ρ=>match g ρ with
 | some (b,ρ1)=>if b=true then fa ρ1 else fb ρ1
 | none=>none
theorem z0a (hc:PDT X c gc) (ha:PD X a fa) (hb:PD X b fb):PD X (.IfExp c a b pos) (eIf gc fa fb):=PE.imp (z2o hc ha hb) fun σ H Q hh0=>by
 obtain⟨ρ,w,t,r',q,ρ',gd,ee,k⟩:=hh0
 unfold eIf at ee
 split at ee
 ·rename_i b' ρ1 h1
  refine⟨ρ,w,t,b',ρ1,gd,h1,fun H1 w1 g1 go1=>?_⟩
  split at ee
  ·rename_i hb; rw[if_pos hb]
   exact⟨ρ1,w1,t,r',q,ρ',g1,ee,fun v H2 w2 F g2 go2=>k v H2 w2 F g2 (go1.trans go2)⟩
  ·rename_i hb; rw[if_neg hb]
   exact⟨ρ1,w1,t,r',q,ρ',g1,ee,fun v H2 w2 F g2 go2=>k v H2 w2 F g2 (go1.trans go2)⟩
 ·cases ee
end
inductive Out where
 | nx (ρ:Rho) | rt (d:D) (q:Nat) | bk (ρ:Rho) | ct (ρ:Rho)
noncomputable abbrev x1l:=Rho->Option Out
noncomputable def y0w (K:PySem.W.Frag) (Dn:Ends) (n:Nat) (H:Hp) (w:Wn):Out->Prop
 | .nx ρ'=>∀ σ' H' w',σ'.length=n->Good K ρ' σ' H' w' 0->Go H w H' w'->Dn.nx σ' H'
 | .bk ρ'=>∀ σ' H' w',σ'.length=n->Good K ρ' σ' H' w' 0->Go H w H' w'->Dn.bk σ' H'
 | .ct ρ'=>∀ σ' H' w',σ'.length=n->Good K ρ' σ' H' w' 0->Go H w H' w'->Dn.ct σ' H'
 | .rt d q=>∀ v H' w' F,WL K w' H'->Go H w H' w'->Rep K H' w' (.t 0) q d v F->Dn.rt v H'
noncomputable def tDS (K:PySem.W.Frag) (f:x1l):TS:=fun Dn σ H=>∃ ρ w o,Good K ρ σ H w 0/\f ρ=some o/\y0w K Dn σ.length H w o
theorem PS.imp {X:Cx} {e:Stmt} {t t':TS} (h:PS X e t) (i:∀ D σ H,t' D σ H->t D σ H):PS X e t':=fun pins s σ H D I q=>h pins s σ H D I (i D σ H q)
theorem PSs.imp {X:Cx} {e:List Stmt} {t t':TS} (h:PSs X e t) (i:∀ D σ H,t' D σ H->t D σ H):PSs X e t':=fun pins s σ H D I q=>h pins s σ H D I (i D σ H q)
noncomputable abbrev PDS (X:Cx) (st:Stmt) (f:x1l):Prop:=PS X st (tDS X.K f)
noncomputable abbrev y7l (X:Cx) (st:List Stmt) (f:x1l):Prop:=PSs X st (tDS X.K f)
@[simp] noncomputable def x6b:x1l:=fun ρ=>some (.nx ρ)
@[simp] noncomputable def x1g (f g:x1l):x1l:=fun ρ=>match f ρ with
 | some (.nx ρ1)=>g ρ1
 | o=>o
theorem y0w.trans {K:PySem.W.Frag} {Dn:Ends} {n:Nat} {H H1:Hp} {w w1:Wn} (go:Go H w H1 w1):∀ {o:Out},y0w K Dn n H w o->y0w K Dn n H1 w1 o
 | .nx _,h=>fun σ' H' w' e g go'=>h σ' H' w' e g (go.trans go')
 | .bk _,h=>fun σ' H' w' e g go'=>h σ' H' w' e g (go.trans go')
 | .ct _,h=>fun σ' H' w' e g go'=>h σ' H' w' e g (go.trans go')
 | .rt _ _,h=>fun v H' w' F wl go'=>h v H' w' F wl (go.trans go')
section
variable {X:Cx} {a b c e:Expr} {fa fb fc f:Den} {ga gb gc:x2m} {pos:Pos} {st:Stmt} {x2l sa sb:List Stmt} {s s':x1l}
theorem z4y:y7l X [] x6b:=PSs.imp z6q fun D σ H hh0=>by
 obtain⟨ρ,w,o,g,ee,k⟩:=hh0
 cases ee
 exact k σ H w rfl g Go.refl
theorem z15 (h1:PDS X st s) (h2:y7l X x2l s'):y7l X (st::x2l) (x1g s s'):=PSs.imp (z0c h1 h2) fun D σ H hh0=>by
 obtain⟨ρ,w,o,g,ee,k⟩:=hh0
 unfold x1g at ee
 split at ee
 ·rename_i ρ1 h1
  exact⟨ρ,w,.nx ρ1,g,h1,fun σ' H' w' e g' go'=>⟨ρ1,w',o,g',ee,by rw[e]; exact k.trans go'⟩⟩
 ·rename_i hne
  refine⟨ρ,w,o,g,ee,?_⟩
  cases o with
  | nx ρ1=>exact absurd ee (hne ρ1)
  | bk ρ1=>exact k
  | ct ρ1=>exact k
  | rt d q=>exact k
theorem z4s (h1:PDS X st s):y7l X [st] s:=z6y h1
@[simp] noncomputable def x2u (f:Den):x1l:=fun ρ=>match f ρ with
 | some (d,q,_)=>some (.rt d q)
 | none=>none
theorem z4c (h:PD X e f):PDS X (.Return (some e) pos) (x2u f):=PS.imp (z7v h) fun D σ H hh0=>by
 obtain⟨ρ,w,o,g,ee,k⟩:=hh0
 unfold x2u at ee
 split at ee
 ·rename_i d q ρ1 h1
  cases ee
  exact⟨ρ,w,0,d,q,ρ1,g,h1,fun v H' w' F g' go' r=>k v H' w' F g'.wl go' r⟩
 ·cases ee
@[simp] noncomputable def sIf (g:x2m) (s s':x1l):x1l:=fun ρ=>match g ρ with
 | some (b,ρ1)=>if b=true then s ρ1 else s' ρ1
 | none=>none
theorem z9i (hc:PDT X c gc) (ha:y7l X sa s) (hb:y7l X sb s'):PDS X (.If c sa sb pos) (sIf gc s s'):=PS.imp (j10 hc ha hb) fun D σ H hh0=>by
 obtain⟨ρ,w,o,g,ee,k⟩:=hh0
 unfold sIf at ee
 split at ee
 ·rename_i b' ρ1 h1
  refine⟨ρ,w,0,b',ρ1,g,h1,fun H1 w1 g1 go1=>?_⟩
  split at ee
  ·rename_i hb; rw[if_pos hb]
   exact⟨ρ1,w1,o,g1,ee,k.trans go1⟩
  ·rename_i hb; rw[if_neg hb]
   exact⟨ρ1,w1,o,g1,ee,k.trans go1⟩
 ·cases ee
noncomputable def x8j (t i:Nat) (w:Wn):Wn:=fun a=>if w a=some (.t t)then some (.s i)else if w a=some (.s i)then none else w a
theorem Good.set {K:PySem.W.Frag} {ρ:Rho} {σ:St} {H:Hp} {w:Wn} {i q:Nat} {d:D} {v:V} {F:List Addr} (g:Good K ρ σ H w 1) (hi:i<σ.length) (r:Rep K H w (.t 0) q d v F) :
  Good K (ρ.set i (some (d,q))) (σ.set i (some v)) H (x8j 0 i w) 0/\∀ H₀ w₀,Go H₀ w₀ H w->(∀ a j,w₀ a=some (.t j)->j<0)->Go H₀ w₀ H (x8j 0 i w):=by
 have mN:∀ a,w a=none->x8j 0 i w a=none:=fun a e=>by unfold x8j; rw[e]; rfl
 have mT:∀ a,w a=some (.t 0)->x8j 0 i w a=some (.s i):=fun a e=>by unfold x8j; rw[if_pos e]
 have mS:∀ a j,w a=some (.s j)->j≠i->x8j 0 i w a=some (.s j):=fun a j e n=>by
  unfold x8j
  rw[if_neg (by rw[e]; exact fun z=>nomatch z),if_neg (by rw[e]; intro z; cases z; exact n rfl)]
  exact e
 have mF:∀ a,w a=some .f->x8j 0 i w a=some .f:=fun a e=>by
  unfold x8j
  rw[if_neg (by rw[e]; exact fun z=>nomatch z),if_neg (by rw[e]; exact fun z=>nomatch z)]
  exact e
 have mI:∀ a o,x8j 0 i w a=some o->(w a=some (.t 0)/\o=.s i)\/(w a=some o/\o ≠ .s i/\o ≠ .t 0):=fun a o e=>by
  unfold x8j at e
  split at e
  ·cases e; exact .inl ⟨by assumption,rfl⟩
  ·rename_i n1
   split at e
   ·cases e
   ·rename_i n2; exact .inr ⟨e,fun z=>n2 (by rw[e,z]),fun z=>n1 (by rw[e,z])⟩
 have st:x6n H w H (x8j 0 i w):=fun a x h n=>⟨sm h,mN a n⟩
 refine⟨⟨⟨fun a o e=>?_,g.wl.tb⟩,fun a j e=>?_,fun a j e=>?_,by rw[List.length_set,List.length_set]; exact g.len,fun j d' q' e'=>?_⟩,fun H₀ w₀ go hw=>⟨fun a x h n=>⟨(go.stab a x h n).1,mN a (go.stab a x h n).2⟩,fun a o e n=>?_⟩⟩
 ·rcases mI a o e with⟨z,_⟩ | ⟨z,_⟩
  ·exact g.wl a _ z
  ·exact g.wl a _ z
 ·rw[List.length_set]
  rcases mI a _ e with⟨_,z⟩ | ⟨z,_⟩
  ·cases z; exact hi
  ·exact g.ws a j z
 ·rcases mI a _ e with⟨_,z⟩ | ⟨z,_,n⟩
  ·cases z
  ·have:=g.wt a j z
   have:j=0:=by omega
   subst this
   exact absurd rfl n
 ·by_cases hj:i=j
  ·subst hj
   rw[List.getElem?_set_self (by rw[g.len]; exact hi)]at e'
   cases e'
   exact⟨v,F,List.getElem?_set_self hi,Rep.go g.wl st r fun a m=>⟨rfl,mT a (r.owns a m)⟩⟩
  ·rw[List.getElem?_set_ne hj]at e'
   obtain⟨v',F',h1,h2⟩:=g.slot j d' q' e'
   exact⟨v',F',by rw[List.getElem?_set_ne hj]; exact h1,Rep.go g.wl st h2 fun a m=>⟨rfl,mS a j (h2.owns a m) (fun z=>hj z.symm)⟩⟩
 ·obtain⟨h1,h2⟩:=go.keep a o e n
  refine⟨h1,?_⟩
  cases o with
  | s j=>exact absurd rfl (n j)
  | f=>exact mF a h2
  | t j=>exact absurd (hw a j e) (Nat.not_lt_zero _)
@[simp] noncomputable def x2i (i:Nat) (f:Den):x1l:=fun ρ=>match f ρ with
 | some (d,q,ρ1)=>some (.nx (ρ1.set i (some (d,q))))
 | none=>none
theorem y9e {K:PySem.W.Frag} {i:Nat} {D:Ends} {σ:St} {H:Hp} {te:TE} (hi:i<σ.length) (he:∀ Q,tD K f σ H Q->te σ H Q) (h:tDS K (x2i i f) D σ H):te σ H fun x H1=>D.nx (σ.set i (some x)) H1:=by
 obtain⟨ρ,w,o,g,ee,k⟩:=h
 unfold x2i at ee
 split at ee
 ·rename_i d q ρ1 h1
  cases ee
  refine he _ ⟨ρ,w,0,d,q,ρ1,g,h1,fun v H' w' F g' go' r=>?_⟩
  obtain⟨a1,a2⟩:=g'.set hi r
  exact k _ _ _ (by rw[List.length_set]) a1 (a2 _ _ go' g.wt)
 ·cases ee
theorem z63 {i:Nat} {x:Str} {pos':Pos} (hN:X.N.Nodup) (hi:X.N[i]? = some x) (hx:Loc X.env.scope x) (he:PD X e f) (hs:swapsWith e (some (.Name x pos')) pos.line X.env=pure false:=by rfl) (hf:X.fn x=true\/X.env.scope.names.lookup x=some .local:=by first | exact .inl rfl | exact .inr rfl) :
  PDS X (.Assign [.Name x pos'] e pos) (x2i i f):=by
 intro pins s σ H D I h
 have hl:i<σ.length:=by rw[I.len]; exact(List.getElem?_eq_some_iff.mp hi).1
 exact z82 (te:=tD X.K f) hN hi hx he hs hf pins s σ H D I (y9e hl (fun _ z=>z) h)
@[simp] noncomputable def x3w (f:Den):x1l:=fun ρ=>match f ρ with
 | some (_,_,ρ1)=>some (.nx ρ1)
 | none=>none
theorem z30 (he:PD X e f) (hs:swapsWith e none pos.line X.env=pure false:=by rfl):PDS X (.Expr e pos) (x3w f):=PS.imp (z5l he hs) fun D σ H hh0=>by
 obtain⟨ρ,w,o,g,ee,k⟩:=hh0
 unfold x3w at ee
 split at ee
 ·rename_i d q ρ1 h1
  cases ee
  exact⟨ρ,w,0,d,q,ρ1,g,h1,fun v H' w' F g' go' r=>k σ H' (x1v 0 w') rfl g'.drop (go'.drop g.wt)⟩
 ·cases ee
end
structure Mo (K:PySem.W.Frag) (H H':Hp):Prop where
 mo:∀ a o,H a=some o->H' a=some o
 tb:TB K H->TB K H'
theorem Mo.rfl' {K:PySem.W.Frag} {H:Hp}:Mo K H H:=⟨fun _ _ e=>e,fun t=>t⟩
structure ItOk (K:PySem.W.Frag) (J:It) (ds:List D) (P:Hp->Wn->Prop):Prop where
 go:∀ i H w,P H w->i<ds.length->J.go i H
 yld:∀ i H w x H' d,P H w->WL K w H->ds[i]? = some d->J.yld i H x H'->Mo K H H'/\Rep K H' w .f 0 d x []/\P H' w
 stop:∀ H w,P H w->J.stop ds.length H
 st:∀ H w H' w',P H w->WL K w H->x6n H w H' w'->P H' w'
noncomputable abbrev y1k:=Rho->Option (List D × Rho)
noncomputable def tDI (K:PySem.W.Frag) (f:y1k):TI:=fun σ H R=>∃ ρ w t ds ρ',Good K ρ σ H w t/\f ρ=some (ds,ρ') /\
 ∀ J P H' w',Good K ρ' σ H' w' t->Go H w H' w'->ItOk K J ds P->P H' w'->ds.length<sizeLine->R J H'
theorem PI.imp {X:Cx} {tg e:Expr} {t t':TI} (h:PI X tg e t) (i:∀ σ H R,t' σ H R->t σ H R):PI X tg e t':=fun pins s σ H R I q=>h pins s σ H R I (i σ H R q)
noncomputable abbrev PDI (X:Cx) (tg e:Expr) (f:y1k):Prop:=PI X tg e (tDI X.K f)
theorem It.list {K:PySem.W.Frag} {a:Addr} {vs:List V} {ds:List D} (hl:ds.length=vs.length):ItOk K (Itl K a) ds fun H w=>(KL K a vs\/(Rd H a (.lst vs)/\w a=none))/\Reps K H w .f 0 ds vs []:=by
 have sq:∀ {H:Hp} {w:Wn},KL K a vs\/(Rd H a (.lst vs)/\w a=none)->SqL K H a vs:=fun h=>h.elim (fun z=>z.sq) fun z=>.inl z.1
 refine⟨fun i H w p hi=>⟨vs,vs[i],sq p.1,by simp[hl ▸ hi]⟩,fun i H w x H' d p wl hd y=>?_,fun H w p=>⟨vs,sq p.1,by omega⟩,fun H w H' w' p wl st=>?_⟩
 ·obtain⟨rfl,hx⟩:=y
  obtain⟨v,hv,rv⟩:=p.2.get hd
  have:=hx vs (sq p.1)
  rw[hv]at this
  cases this
  exact⟨Mo.rfl',rv,p⟩
 ·refine⟨?_,Reps.go wl st p.2 (fun _ z=>nomatch z)⟩
  rcases p.1 with p | ⟨p,n⟩
  ·exact .inl p
  ·exact .inr (RdL.go st n p)
theorem It.tup {K:PySem.W.Frag} {a:Addr} {vs:List V} {ds:List D} (hl:ds.length=vs.length):ItOk K (Itt K a) ds fun H w=>SqT K H a vs/\Reps K H w .f 0 ds vs []:=
 ⟨fun i H w p hi=>⟨vs,vs[i],p.1,by simp[hl ▸ hi]⟩,fun i H w x H' d p wl hd y=>by
   obtain⟨rfl,hx⟩:=y
   obtain⟨v,hv,rv⟩:=p.2.get hd
   have:=hx vs p.1
   rw[hv]at this
   cases this
   exact⟨Mo.rfl',rv,p⟩,fun H w p=>⟨vs,p.1,by omega⟩,fun H w H' w' p wl st=>⟨SqT.go wl st p.1,Reps.go wl st p.2 (fun _ z=>nomatch z)⟩⟩
noncomputable def x8y (n:Nat):List V:=(List.range n).map fun i=>.int (Int.ofNat i)
noncomputable def x0c (n:Nat):List D:=(List.range n).map fun i=>.int (Int.ofNat i)
theorem x0r (n:Nat):(x0c n).length=n:=by simp[x0c]
theorem y17 (n:Nat):(x8y n).length=n:=by simp[x8y]
theorem It.range {K:PySem.W.Frag} {n:Nat}:ItOk K (Itr 0 n) (x0c n) fun _ _=>True:=by
 refine⟨fun i H w _ hi=>by rw[x0r]at hi; exact hi,fun i H w x H' d _ _ hd y=>?_,fun H w _=>by rw[x0r]; exact Nat.le_refl _,fun _ _ _ _ _ _ _=>trivial⟩
 have hi:i<n:=by have:=(List.getElem?_eq_some_iff.mp hd).1; rw[x0r]at this; exact this
 have e:x=.int (0+(i:Int)):=y.2
 have ed:d=.int (Int.ofNat i):=by
  have:(x0c n)[i]? = some (.int (Int.ofNat i)):=by simp[x0c,hi]
  rw[hd]at this
  exact Option.some.inj this
 obtain⟨rfl,_⟩:=y
 subst ed
 rw[e,Int.zero_add]
 exact⟨Mo.rfl',.int _,trivial⟩
theorem x89 {K:PySem.W.Frag} {H:Hp} {w:Wn} {o:Ow}:∀ (ns:List Int),Reps K H w o 0 (ns.map D.int) (ns.map V.int) []
 | []=>.nil
 | n::r=>.cons (F:=[]) (G:=[]) (.int n) (x89 r) (fun _ z=>nomatch z)
theorem y70 {K:PySem.W.Frag} {H:Hp} {w:Wn} {o:Ow} (n:Nat):Reps K H w o 0 (x0c n) (x8y n) []:=by
 have:=x89 (K:=K) (H:=H) (w:=w) (o:=o) ((List.range n).map Int.ofNat)
 rw[List.map_map,List.map_map]at this
 exact this
section
variable {X:Cx} {tg a b c e:Expr} {fa fb fc f:Den} {ga gb gc:x2m} {pos p:Pos}
@[simp] noncomputable def x10 (g:x21):y1k:=fun ρ=>match g ρ with
 | some ([.int n],ρ1)=>if -1000<=n/\n<=1000 then some (x0c n.toNat,ρ1)else none
 | _=>none
theorem y7k {g:x21} (hm:X.mg "range" = none) (ha:PDA X [a] g) (hg:Gl X "range":=by rfl) (hs:starEach [a] X.env=[(false,eval a X.env)]:=by rfl):PDI X tg (.Call (.Name "range" p) [a] [] pos) (x10 g):=PI.imp (y81 hg hm ha hs) fun σ H R hh0=>by
 obtain⟨ρ,w,t,ds,ρ',gd,ee,k⟩:=hh0
 unfold x10 at ee
 split at ee
 ·rename_i n ρ1 h1
  split at ee
  ·rename_i hn
   cases ee
   refine⟨ρ,w,t,[.int n],_,gd,h1,fun vs H1 w1 g1 go1 r1=>?_⟩
   have hv:vs=[.int n]:=by
    have l:=r1.length
    match vs,l with
    | [v],_=>
     obtain⟨v',h1,h2⟩:=r1.get (i:=0) rfl
     cases h1
     rw[x42 h2]
   subst hv
   refine⟨n,rfl,by omega,by omega,k _ _ H1 w1 g1 go1 It.range trivial ?_⟩
   rw[x0r]
   exact x3g (by omega)
  ·cases ee
 ·cases ee
noncomputable def j2x (K:PySem.W.Frag) (tl:TE):TI:=fun σ H R=>tl σ H fun x H1=>∃ a,x=.ref a/\(((∃ xs,SqL K H1 a xs)/\R (Itl K a) H1)\/((∃ xs,SqT K H1 a xs)/\R (Itt K a) H1))
theorem z8a {l:Expr} {tl:TE} (hl:PE X l tl):PI X tg l (j2x X.K tl):=by
 intro pins s σ H R I h
 refine thn (hl pins s σ H _ I h) fun v s1 ⟨x,H1,I1,r1,q1⟩=>?_
 obtain⟨a,e,q⟩:=q1
 subst e
 cases r1
 rcases q with⟨⟨xs,hq⟩,q⟩ | ⟨⟨xs,hq⟩,q⟩
 ·obtain⟨its,rv,p,hz⟩:=I1.list hq
  refine wpAny_pyIter_list p.isList ?_
  refine⟨s1.heap.objs.size,[s1.heap.objs.size],_,_,H1,rfl,I1.kept (t':=s1.toks) fun b o e=>Heap.get?_push_of_some _ e,y9w a _,⟨_,Heap.get?_push_size _ rfl,rfl,rfl⟩,fun b hb=>?_,q⟩
  have e:b=s1.heap.objs.size:=by simpa using hb
  subst e
  exact I1.fpOk (Nat.le_refl _) (I1.hok.fresh (Nat.le_refl _))
 ·obtain⟨its,rv,p,hz⟩:=I1.tuple hq
  refine wpAny_pyIter_tuple (show s1.heap.IsTuple a its.toArray from p) ?_
  refine⟨s1.heap.objs.size,[s1.heap.objs.size],_,_,H1,rfl,I1.kept (t':=s1.toks) fun b o e=>Heap.get?_push_of_some _ e,y6x a _,⟨_,Heap.get?_push_size _ rfl,rfl,rfl⟩,fun b hb=>?_,q⟩
  have e:b=s1.heap.objs.size:=by simpa using hb
  subst e
  exact I1.fpOk (Nat.le_refl _) (I1.hok.fresh (Nat.le_refl _))
@[simp] noncomputable def x7a (f:Den):y1k:=fun ρ=>match f ρ with
 | some (.lst ds,_,ρ1)=>if ds.length<=1000 then some (ds,ρ1)else none
 | some (.tup ds,_,ρ1)=>if ds.length<=1000 then some (ds,ρ1)else none
 | _=>none
theorem z4j (ha:PD X a fa):PDI X tg a (x7a fa):=PI.imp (z8a ha) fun σ H R hh0=>by
 obtain⟨ρ,w,t,ds,ρ',gd,ee,k⟩:=hh0
 unfold x7a at ee
 split at ee
 ·rename_i ds' q ρ1 h1
  split at ee
  ·rename_i hl
   cases ee
   refine⟨ρ,w,t,.lst ds,q,ρ',gd,h1,fun v H1 w1 F g1 go1 r1=>?_⟩
   have r0:=r1.drop (o:=.f) (Nat.le_refl t)
   cases r0 with
   | kl h r=>exact⟨_,rfl,.inl ⟨⟨_,h.sq⟩,k _ _ H1 (x1v t w1) g1.drop (go1.drop gd.wt) (It.list r.length) ⟨.inl h,r⟩ (x3g hl)⟩⟩
   | shr h n r=>exact⟨_,rfl,.inl ⟨⟨_,.inl h⟩,k _ _ H1 (x1v t w1) g1.drop (go1.drop gd.wt) (It.list r.length) ⟨.inr ⟨h,n⟩,r⟩ (x3g hl)⟩⟩
  ·cases ee
 ·rename_i ds' q ρ1 h1
  split at ee
  ·rename_i hl
   cases ee
   refine⟨ρ,w,t,.tup ds,q,ρ',gd,h1,fun v H1 w1 F g1 go1 r1=>?_⟩
   have r0:=r1.drop (o:=.f) (Nat.le_refl t)
   cases r0 with
   | tup h r=>exact⟨_,rfl,.inr ⟨⟨_,SqT.of h⟩,k _ _ H1 (x1v t w1) g1.drop (go1.drop gd.wt) (It.tup r.length) ⟨SqT.of h,r⟩ (x3g hl)⟩⟩
  ·cases ee
 ·cases ee
end
noncomputable abbrev x5m:=D->Rho->Option Rho
noncomputable def tDG (K:PySem.W.Frag) (b:Nat) (pt:x5m):TG:=fun v σ H Q=>∃ d ρ w t ρ',Good K ρ σ H w t/\Rep K H w .f 0 d v []/\pt d ρ=some ρ'/\∀ σ' H' w',σ'.length=σ.length->(∀ i,i<b->σ'[i]? = σ[i]?)->Good K ρ' σ' H' w' t->Go H w H' w'->Q σ' H'
theorem PG.imp {X:Cx} {tg:Expr} {t t':TG} (h:PG X tg t) (i:∀ v σ H Q,t' v σ H Q->t v σ H Q):PG X tg t':=fun pins s σ H v u Q I r q=>h pins s σ H v u Q I r (i v σ H Q q)
noncomputable abbrev PDG (X:Cx) (b:Nat) (tg:Expr) (pt:x5m):Prop:=PG X tg (tDG X.K b pt)
@[simp] noncomputable def x0k (i:Nat):x5m:=fun d ρ=>if i<ρ.length then some (ρ.set i (some (d,x4o d)))else none
theorem Good.setV {K:PySem.W.Frag} {ρ:Rho} {σ:St} {H:Hp} {w:Wn} {t i:Nat} {d:D} {v:V} (g:Good K ρ σ H w t) (hi:i<σ.length) (r:Rep K H w .f 0 d v []) :
  Good K (ρ.set i (some (d,x4o d))) (σ.set i (some v)) H (x6o i w) t/\Go H w H (x6o i w):=by
 have st:x6n H w H (x6o i w):=fun a x h n=>⟨sm h,x6e n⟩
 refine⟨⟨⟨fun a o h=>g.wl a o (x3x h).1,g.wl.tb⟩,fun a j h=>by rw[List.length_set]; exact g.ws a j (x3x h).1,fun a j h=>g.wt a j (x3x h).1,by rw[List.length_set,List.length_set]; exact g.len,fun j d' q' e'=>?_⟩,⟨st,fun a o h n=>⟨rfl,x9e h (n i)⟩⟩⟩
 by_cases hj:i=j
 ·subst hj
  rw[List.getElem?_set_self (by rw[g.len]; exact hi)]at e'
  cases e'
  exact⟨v,[],List.getElem?_set_self hi,(Rep.go g.wl st r (fun _ z=>nomatch z):Rep K H (x6o i w) (.s i) 0 d v []).dep⟩
 ·rw[List.getElem?_set_ne hj]at e'
  obtain⟨v',F,h1,h2⟩:=g.slot j d' q' e'
  exact⟨v',F,by rw[List.getElem?_set_ne hj]; exact h1,Rep.go g.wl st h2 fun a m=>⟨rfl,x9e (h2.owns a m) (fun z=>hj (by cases z; rfl))⟩⟩
theorem z2u {X:Cx} {b i:Nat} {x:Str} {pos:Pos} (hb:b<=i) (hN:X.N.Nodup) (hi:X.N[i]? = some x) (hx:Loc X.env.scope x) (hf:X.fn x=true\/X.env.scope.names.lookup x=some .local:=by first | exact .inl rfl | exact .inr rfl):PDG X b (.Name x pos) (x0k i):=PG.imp (z5v hN hi hx hf) fun v σ H Q hh0=>by
 obtain⟨d,ρ,w,t,ρ',g,r,e,k⟩:=hh0
 unfold x0k at e
 split at e
 ·rename_i hl
  cases e
  obtain⟨a1,a2⟩:=g.setV (by rw[<- g.len]; exact hl) r
  exact k _ _ _ (by rw[List.length_set]) (fun j hj=>List.getElem?_set_ne (by omega)) a1 a2
 ·cases e
noncomputable def x99 (pt:x5m) (body:x1l):List D->Rho->Option Out
 | [],ρ=>some (.nx ρ)
 | d::ds,ρ=>match pt d ρ with
  | none=>none
  | some ρ1=>match body ρ1 with
   | some (.nx ρ2)=>x99 pt body ds ρ2
   | some (.ct ρ2)=>x99 pt body ds ρ2
   | some (.bk ρ2)=>some (.nx ρ2)
   | o=>o
@[simp] noncomputable def x7b (it:y1k) (pt:x5m) (body:x1l):x1l:=fun ρ=>match it ρ with
 | some (ds,ρ1)=>x99 pt body ds ρ1
 | none=>none
theorem Reps.go0 {K:PySem.W.Frag} {H H':Hp} {w w':Wn} {ds:List D} {vs:List V} (r:Reps K H w .f 0 ds vs []) (wl:WL K w H) (st:x6n H w H' w'):Reps K H' w' .f 0 ds vs []:=Reps.go wl st r (fun _ z=>nomatch z)
theorem Rep.go0 {K:PySem.W.Frag} {H H':Hp} {w w':Wn} {ds:D} {vs:V} (r:Rep K H w .f 0 ds vs []) (wl:WL K w H) (st:x6n H w H' w'):Rep K H' w' .f 0 ds vs []:=Rep.go wl st r (fun _ z=>nomatch z)
theorem Reps.drop0 {K:PySem.W.Frag} {H:Hp} {w:Wn}:∀ {ds:List D} {vs:List V} (i:Nat),Reps K H w .f 0 ds vs []->Reps K H w .f 0 (ds.drop i) (vs.drop i) []
 | _,_,0,r=>r
 | ds,vs,i+1,r=>by
  generalize hF:([]:List Addr)=F at r
  cases r with
  | nil=>exact .nil
  | cons r s _=>
   have h2:=s.zero
   have h1:=r.zero
   subst h2
   subst h1
   exact Reps.drop0 i s
theorem Good.more {K:PySem.W.Frag} {ρ:Rho} {σ:St} {H H':Hp} {w:Wn} {t:Nat} (g:Good K ρ σ H w t) (hm:Mo K H H'):Good K ρ σ H' w t/\Go H w H' w:=by
 have h:=hm.mo
 have st:x6n H w H' w:=fun a x e n=>⟨sm (h a x e),n⟩
 have kp:∀ a o,w a=some o->H' a=H a:=fun a o e=>by
  obtain⟨vs,q⟩:=g.wl a o e
  rw[q,h a _ q]
 refine⟨⟨⟨fun a o e=>?_,hm.tb g.wl.tb⟩,g.ws,g.wt,g.len,fun i d q e=>?_⟩,st,fun a o e _=>⟨kp a o e,e⟩⟩
 ·obtain⟨vs,q⟩:=g.wl a o e
  exact⟨vs,h a _ q⟩
 ·obtain⟨v,F,h1,h2⟩:=g.slot i d q e
  exact⟨v,F,h1,Rep.go g.wl st h2 fun a m=>⟨kp a _ (h2.owns a m),h2.owns a m⟩⟩
theorem z6c {X:Cx} {tg iter:Expr} {body:List Stmt} {it:y1k} {pt:x5m} {s:x1l} {pos:Pos} (hp:PassesOwn (model X.prog X.w) X.A X.env X.xe) (hc:X.calm=true) (hi:PDI X tg iter it) (hg:PDG X 0 tg pt) (hb:y7l X body s)
  (hs:∀ x,foldedSetIterable iter X.env x=pure x:=by intro _; rfl):PDS X (.For tg iter body [] pos) (x7b it pt s):=PS.imp (z8k hp hc hi hg hb hs) fun D σ H hh0=>by
 obtain⟨ρ,w,o,g,ee,k⟩:=hh0
 unfold x7b at ee
 split at ee
 ·rename_i ds ρ1 h1
  refine⟨ρ,w,0,ds,ρ1,g,h1,fun J P H1 w1 g1 go1 ok p1 hl=>?_⟩
  refine⟨fun i m σ' H'=>m=ds.length-i/\i<=ds.length/\σ'.length=σ.length/\∃ ρ' w',Good X.K ρ' σ' H' w' 0/\P H' w'/\x99 pt s (ds.drop i) ρ'=some o/\y0w X.K D σ.length H' w' o,
   ⟨ds.length,by simp,Nat.zero_le _,rfl,ρ1,w1,g1,p1,ee,k.trans go1⟩,?_⟩
  rintro i m σ' H' ⟨rfl,hile,hσ,ρ',w',g',p',e',k'⟩
  by_cases hlt:i<ds.length
  ·refine .inr ⟨ok.go i H' w' p' hlt,fun σ2 H2=>ds.length-(i+1)=ds.length-(i+1)/\i+1<=ds.length/\σ2.length=σ.length/\∃ ρ2 w2,Good X.K ρ2 σ2 H2 w2 0/\P H2 w2/\x99 pt s (ds.drop (i+1)) ρ2=some o/\y0w X.K D σ.length H2 w2 o,
    fun σ2 H2 n2=>⟨ds.length-(i+1),by omega,n2⟩,fun x H2 hy=>?_⟩
   obtain⟨mo,rx,p2⟩:=ok.yld i H' w' x H2 ds[i] p' g'.wl (List.getElem?_eq_getElem hlt) hy
   obtain⟨g2,go2⟩:=g'.more mo
   have ed:ds.drop i=ds[i]::ds.drop (i+1):=List.drop_eq_getElem_cons hlt
   rw[ed]at e'
   unfold x99 at e'
   split at e'
   ·cases e'
   ·rename_i ρ3 h3
    refine⟨ds[i],ρ',w',0,ρ3,g2,rx,h3,fun σ4 H4 w4 l4 _ g4 go4=>?_⟩
    have p4:=ok.st _ _ _ _ p2 g2.wl go4.stab
    have nx:∀ {ρ5:Rho},x99 pt s (ds.drop (i+1)) ρ5=some o->∀ σ5 H5 w5,σ5.length=σ4.length->Good X.K ρ5 σ5 H5 w5 0->Go H4 w4 H5 w5->ds.length-(i+1)=ds.length-(i+1)/\i+1<=ds.length/\σ5.length=σ.length/\∃ ρ2 w2,Good X.K ρ2 σ5 H5 w2 0/\P H5 w2/\x99 pt s (ds.drop (i+1)) ρ2=some o/\y0w X.K D σ.length H5 w2 o:=fun {ρ5} e5 σ5 H5 w5 l5 g5 go5=>
     ⟨rfl,hlt,by rw[l5,l4,hσ],ρ5,w5,g5,ok.st _ _ _ _ p4 g4.wl go5.stab,e5,k'.trans ((go2.trans go4).trans go5)⟩
    cases h6:s ρ3 with
    | none=>rw[h6]at e'; cases e'
    | some o6=>
     rw[h6]at e'
     refine⟨ρ3,w4,o6,g4,h6,?_⟩
     cases o6 with
     | nx ρ5=>exact nx e'
     | ct ρ5=>exact nx e'
     | bk ρ5=>
      cases e'
      exact fun σ5 H5 w5 l5 g5 go5=>k' σ5 H5 w5 (by rw[l5,l4,hσ]) g5 ((go2.trans go4).trans go5)
     | rt d q=>
      cases e'
      exact fun v H5 w5 F wl5 go5 r5=>k' v H5 w5 F wl5 ((go2.trans go4).trans go5) r5
  ·have hi':i=ds.length:=Nat.le_antisymm hile (Nat.not_lt.mp hlt)
   subst hi'
   refine .inl ⟨ok.stop H' w' p',?_⟩
   have ed:ds.drop ds.length=[]:=by simp
   rw[ed]at e'
   cases e'
   exact k' σ' H' w' hσ g' Go.refl
 ·cases ee
@[simp] noncomputable def x3z (n:Nat) (ds:List D):Rho:=ds.map (fun d=>some (d,x4o d))++List.replicate (n-ds.length) none
@[simp] noncomputable def fnD (n:Nat) (body:x1l):List D->Option (D × Nat):=fun ds=>match body (x3z n ds)with
 | some (.rt d q)=>some (d,q)
 | some (.nx _)=>some (.non,9)
 | _=>none
theorem x8m {K:PySem.W.Frag} {H:Hp} {w:Wn} {N:List Str} {ds:List D} {vs:List V} (hw:∀ a o,w a=some o->o=.f) (wl:WL K w H) (r:Reps K H w .f 0 ds vs []):Good K (x3z N.length ds) (y0v N vs) H w 0:=by
 refine⟨wl,(fun a i e=>by cases (hw a _ e)),(fun a i e=>by cases (hw a _ e)),?_,fun i d q e=>?_⟩
 ·unfold x3z L2.y0v
  rw[List.length_append,List.length_append,List.length_map,List.length_map,List.length_replicate,List.length_replicate,r.length]
 ·unfold x3z at e
  by_cases hi:i<ds.length
  ·rw[List.getElem?_append_left (by simpa using hi),List.getElem?_map]at e
   cases h:ds[i]? with
   | none=>rw[h]at e; cases e
   | some d'=>
    rw[h]at e
    cases e
    obtain⟨v,hv,rv⟩:=r.get h
    refine⟨v,[],?_,(rv.any wl:Rep K H w (.s i) 0 d v []).dep⟩
    unfold L2.y0v
    rw[List.getElem?_append_left (by rw[List.length_map,<- r.length]; exact hi),List.getElem?_map,hv]
    rfl
  ·rw[List.getElem?_append_right (by simpa using hi),List.getElem?_replicate]at e
   split at e <;> cases e
theorem y6f {K:PySem.W.Frag} {N:List Str} {n:Nat} {body:x1l} {vs:List V} {H:Hp} {Q:VK} {E:XK} (h:spD K n (fnD N.length body) vs H Q E):tDS K body { nx:=fun _ H'=>Q .non H',rt:=Q } (y0v N vs) H:=by
 obtain⟨hn,ds,w,r,q,hw,wl,rs,e,k⟩:=h
 unfold fnD at e
 split at e
 ·rename_i d q' h1
  cases e
  exact⟨_,w,_,x8m hw wl rs,h1,fun v H' w' F wl' go' r'=>k v H' w' F go' wl' r'⟩
 ·rename_i ρ' h1
  cases e
  exact⟨_,w,_,x8m hw wl rs,h1,fun σ' H' w' _ g' go'=>k .non H' w' [] go' g'.wl .non⟩
 ·cases e
theorem z7d {P:Program} {wd:World} {K:PySem.W.Frag} {mg:Str->Option Value} {base:Heap} {x qual:Str} {st:Stmt} {f:Addr} {fd:FuncData} {N ps:List Str} {k:Nat} {body:x1l} (F:Fun K x qual st f fd) (S:FnScope N ps (x0e st))
  (h:∀ (cdv:Value) (A:Around) (outer:List Env) (s:Shared) (H:Hp) (E:XK),Room k (A.deeper (envOfC qual (x0e st) s.heap.objs.size f cdv))->y7l (y26 CX0 P wd K mg base N qual (x0e st) f cdv A outer s H E).nox (x35 st) body) :
  FnOk P wd K mg base CX0 (k+1) f fd ps (spD K ps.length (fnD N.length body)):=
 F.ok S (fun vs H Q E h=>h.1) fun cdv A outer s H vs Q E hr hsp=>⟨_,h cdv A outer s H E hr,y6f hsp⟩
noncomputable def x6k (k:Nat) (pt:x5m) (tt:x2m) (te:Den) (deep:Bool):List D->Rho->Option (List D × Rho)
 | [],ρ=>some ([],ρ)
 | d::ds,ρ=>match pt d (ρ++List.replicate k none)with
  | none=>none
  | some ρ1=>match tt ρ1 with
   | none=>none
   | some (b,ρ2)=>if b=true then(match te ρ2 with
     | none=>none
     | some (v,q,ρ3)=>if deep=true/\v.isL=true/\q≠1 then none else match x6k k pt tt te deep ds (ρ3.take ρ.length)with
      | none=>none
      | some (vs,ρ4)=>some (v::vs,ρ4))
    else x6k k pt tt te deep ds (ρ2.take ρ.length)
@[simp] noncomputable def x2h (k:Nat) (it:y1k) (pt:x5m) (tt:x2m) (te:Den) (deep:Bool):Den:=fun ρ=>match it ρ with
 | some (ds,ρ1)=>match x6k k pt tt te deep ds ρ1 with
  | some (vs,ρ2)=>some (.lst vs,if deep=true then 2 else 1,ρ2)
  | none=>none
 | none=>none
@[simp] noncomputable def x1m:x2m:=fun ρ=>some (true,ρ)
theorem Good.ext {K:PySem.W.Frag} {ρ:Rho} {σ:St} {H:Hp} {w:Wn} {t:Nat} (g:Good K ρ σ H w t) (k:Nat):Good K (ρ++List.replicate k none) (σ++List.replicate k none) H w t:=by
 refine⟨g.wl,fun a i e=>by rw[List.length_append]; exact Nat.lt_of_lt_of_le (g.ws a i e) (Nat.le_add_right _ _),g.wt,by rw[List.length_append,List.length_append,List.length_replicate,List.length_replicate,g.len],fun i d q e=>?_⟩
 by_cases hi:i<ρ.length
 ·rw[List.getElem?_append_left hi]at e
  obtain⟨v,F,h1,h2⟩:=g.slot i d q e
  exact⟨v,F,by rw[List.getElem?_append_left (by rw[<- g.len]; exact hi)]; exact h1,h2⟩
 ·rw[List.getElem?_append_right (by omega),List.getElem?_replicate]at e
  split at e <;> cases e
noncomputable def x3h (n:Nat) (w:Wn):Wn:=fun a=>match w a with
 | some (.s i)=>if n<=i then none else some (.s i)
 | x=>x
theorem y2q {n:Nat} {w:Wn} {a:Addr} (h:w a=none):x3h n w a=none:=by unfold x3h; rw[h]
theorem y5i {n:Nat} {w:Wn} {a:Addr} {i:Nat} (h:w a=some (.s i)) (hi:i<n):x3h n w a=some (.s i):=by unfold x3h; rw[h]; exact if_neg (by omega)
theorem y4z {n:Nat} {w:Wn} {a:Addr} {o:Ow} (h:w a=some o) (hn:∀ i,o ≠ .s i):x3h n w a=some o:=by
 unfold x3h; rw[h]
 cases o with
 | s i=>exact absurd rfl (hn i)
 | t i=>rfl
 | f=>rfl
theorem x5b {n:Nat} {w:Wn} {a:Addr} {o:Ow} (h:x3h n w a=some o):w a=some o/\∀ i,o=.s i->i<n:=by
 unfold x3h at h
 cases e:w a with
 | none=>rw[e]at h; cases h
 | some o'=>
  rw[e]at h
  cases o' with
  | t i=>cases h; exact⟨rfl,fun i z=>nomatch z⟩
  | f=>cases h; exact⟨rfl,fun i z=>nomatch z⟩
  | s i=>
   dsimp only at h
   split at h
   ·cases h
   ·cases h; exact⟨rfl,fun j z=>by cases z; omega⟩
theorem Good.cut {K:PySem.W.Frag} {ρ:Rho} {σ τ:St} {H:Hp} {w:Wn} {t:Nat} (g:Good K ρ (σ++τ) H w t):Good K (ρ.take σ.length) σ H (x3h σ.length w) t/\Go H w H (x3h σ.length w):=by
 have st:x6n H w H (x3h σ.length w):=fun a x h n=>⟨sm h,y2q n⟩
 refine⟨⟨⟨fun a o e=>g.wl a o (x5b e).1,g.wl.tb⟩,fun a i e=>(x5b e).2 i rfl,fun a i e=>g.wt a i (x5b e).1,?_,fun i d q e=>?_⟩,⟨st,fun a o e n=>⟨rfl,y4z e n⟩⟩⟩
 ·rw[List.length_take,g.len,List.length_append]
  omega
 ·by_cases hi:i<σ.length
  ·rw[List.getElem?_take_of_lt hi]at e
   obtain⟨v,F,h1,h2⟩:=g.slot i d q e
   rw[List.getElem?_append_left hi]at h1
   exact⟨v,F,h1,Rep.go g.wl st h2 fun a m=>⟨rfl,y5i (h2.owns a m) hi⟩⟩
  ·rw[List.getElem?_take_eq_none (by omega)]at e
   cases e
theorem j1u {σ σ' τ:St} (l:σ'.length=(σ++τ).length) (h:∀ i,i<σ.length->σ'[i]? = (σ++τ)[i]?):∃ τ',σ'=σ++τ'/\τ'.length=τ.length:=by
 refine⟨σ'.drop σ.length,?_,by rw[List.length_drop,l,List.length_append]; omega⟩
 have e:σ'.take σ.length=σ:=by
  apply List.ext_getElem?
  intro i
  by_cases hi:i<σ.length
  ·rw[List.getElem?_take_of_lt hi,h i hi,List.getElem?_append_left hi]
  ·rw[List.getElem?_take_eq_none (by omega),List.getElem?_eq_none (by omega)]
 conv=>lhs; rw[<- List.take_append_drop σ.length σ',e]
noncomputable def dq (deep:Bool):Nat:=if deep=true then 1 else 0
noncomputable def x6l (deep:Bool) (t:Nat) (w:Wn):Wn:=fun a=>if w a=some (.t (t+1))then(if deep=true then some (.t t)else none)else w a
theorem j37 {K:PySem.W.Frag} {ρ:Rho} {σ:St} {H:Hp} {w:Wn} {t q:Nat} {d:D} {v:V} {F:List Addr} {deep:Bool} (g:Good K ρ σ H w (t+2)) (r:Rep K H w (.t (t+1)) q d v F) (hq:¬ (deep=true/\d.isL=true/\q≠1)) :
  Good K ρ σ H (x6l deep t w) (t+1)/\(∃ F',Rep K H (x6l deep t w) (.t t) (dq deep) d v F'/\∀ a∈F',w a=some (.t (t+1)))/\x6n H w H (x6l deep t w)/\(∀ a o,w a=some o->o ≠ .t (t+1)->x6l deep t w a=some o):=by
 have hN:∀ a,w a=none->x6l deep t w a=none:=fun a e=>by unfold x6l; rw[e]; rfl
 have hO:∀ a o,w a=some o->o ≠ .t (t+1)->x6l deep t w a=some o:=fun a o e n=>by
  unfold x6l
  rw[if_neg (by rw[e]; exact fun z=>n (Option.some.inj z))]
  exact e
 have hI:∀ a o,x6l deep t w a=some o->(w a=some (.t (t+1))/\o=.t t)\/(w a=some o/\o ≠ .t (t+1)):=fun a o e=>by
  unfold x6l at e
  split at e
  ·split at e
   ·cases e; exact .inl ⟨by assumption,rfl⟩
   ·cases e
  ·rename_i n; exact .inr ⟨e,fun z=>n (by rw[e,z])⟩
 have st:x6n H w H (x6l deep t w):=fun a x h n=>⟨sm h,hN a n⟩
 refine⟨⟨⟨fun a o e=>?_,g.wl.tb⟩,fun a i e=>?_,fun a i e=>?_,g.len,fun i d' q' e'=>?_⟩,?_,st,hO⟩
 ·rcases hI a o e with⟨z,_⟩ | ⟨z,_⟩ <;> exact g.wl a _ z
 ·rcases hI a _ e with⟨_,z⟩ | ⟨z,_⟩
  ·cases z
  ·exact g.ws a i z
 ·rcases hI a _ e with⟨_,z⟩ | ⟨z,n⟩
  ·cases z; exact Nat.lt_succ_self _
  ·have:=g.wt a i z
   have:i≠t+1:=fun z=>n (by rw[z])
   omega
 ·obtain⟨v',F',h1,h2⟩:=g.slot i d' q' e'
  exact⟨v',F',h1,Rep.go g.wl st h2 fun a m=>⟨rfl,hO a _ (h2.owns a m) (fun z=>nomatch z)⟩⟩
 ·cases deep with
  | false=>
   refine⟨[],Rep.freeze hN r fun a m=>?_,fun _ z=>nomatch z⟩
   unfold x6l
   rw[if_pos (r.owns a m)]
   rfl
  | true=>
   have hT:∀ a,w a=some (.t (t+1))->x6l true t w a=some (.t t):=fun a e=>by unfold x6l; rw[if_pos e]; rfl
   cases hl:d.isL with
   | false=>
    obtain⟨_,hr⟩:=r.nolist hl
    exact⟨[],Rep.go g.wl st (hr 1) (fun _ z=>nomatch z),fun _ z=>nomatch z⟩
   | true=>
    have:q=1:=by
     by_cases h:q=1
     ·exact h
     ·exact absurd ⟨rfl,hl,h⟩ hq
    subst this
    exact⟨F,Rep.go g.wl st r fun a m=>⟨rfl,hT a (r.owns a m)⟩,r.owns⟩
theorem z9v {K:PySem.W.Frag} {ρ:Rho} {σ:St} {H1:Hp} {w1:Wn} {t q:Nat} {p:Addr} {vs:List V} {ds:List D} {F:List Addr} (g:Good K ρ σ H1 w1 (t+1)) (hp:H1 p=none) (r:Reps K H1 w1 (.t t) q ds vs F) :
  Good K ρ σ (upd H1 p (.lst vs)) (z01 p (.t t) w1) (t+1)/\Go H1 w1 (upd H1 p (.lst vs)) (z01 p (.t t) w1)/\Rep K (upd H1 p (.lst vs)) (z01 p (.t t) w1) (.t t) (q+1) (.lst ds) (.ref p) (p::F):=by
 have ne:∀ a x,H1 a=some x->a≠p:=fun a x e=>x0u e hp
 have nw:∀ a o,w1 a=some o->a≠p:=fun a o e=>by obtain⟨vs,q⟩:=g.wl a o e; exact ne a _ q
 have st:x6n H1 w1 (upd H1 p (.lst vs)) (z01 p (.t t) w1):=fun a x e n=>⟨sm (by rw[x0i (ne a x e)]; exact e),by rw[x3n (ne a x e)]; exact n⟩
 refine⟨⟨⟨fun a o e=>?_,g.wl.tb.upd rfl (.inl hp)⟩,fun a i e=>?_,fun a i e=>?_,g.len,fun i d q e=>?_⟩,⟨st,fun a o e _=>⟨x0i (nw a o e),(x3n (nw a o e)).trans e⟩⟩,?_⟩
 ·by_cases h:a=p
  ·subst h; exact⟨vs,x0y⟩
  ·rw[x3n h]at e
   obtain⟨us,q⟩:=g.wl a o e
   exact⟨us,by rw[x0i h]; exact q⟩
 ·by_cases h:a=p
  ·subst h; rw[x4s]at e; cases e
  ·rw[x3n h]at e; exact g.ws a i e
 ·by_cases h:a=p
  ·subst h; rw[x4s]at e; cases e; exact Nat.lt_succ_self _
  ·rw[x3n h]at e; exact g.wt a i e
 ·obtain⟨v,F,h1,h2⟩:=g.slot i d q e
  exact⟨v,F,h1,Rep.go g.wl st h2 fun a m=>⟨x0i (nw a _ (h2.owns a m)),(x3n (nw a _ (h2.owns a m))).trans (h2.owns a m)⟩⟩
 ·exact .own x0y x4s (Reps.go g.wl st r fun a m=>⟨x0i (nw a _ (r.owns a m)),(x3n (nw a _ (r.owns a m))).trans (r.owns a m)⟩) fun m=>absurd rfl (nw p _ (r.owns p m))
theorem y16 {K:PySem.W.Frag} {k:Nat} {it:y1k} {pt:x5m} {tt:x2m} {te:Den} {deep:Bool}:∀ σ H Q,tD K (x2h k it pt tt te deep) σ H Q->z0k k (tDI K it) (tDG K σ.length pt) (tDT K tt) (tD K te) σ H Q:=fun σ H Q hh0=>by
 obtain⟨ρ,w,t,r',q,ρ',g,ee,kk⟩:=hh0
 unfold x2h at ee
 split at ee
 ·rename_i ds ρ1 h1
  split at ee
  ·rename_i all ρ2 h2
   cases ee
   refine⟨ρ,w,t,ds,ρ1,g,h1,fun J P H1 w1 g1 go1 ok p1 hl=>?_⟩
   refine⟨fun i m ys H'=>m=ds.length-i/\i<=ds.length/\ys.length<=i/\∃ ρ3 w3 zs F x2l,Good K ρ3 σ H' w3 (t+1)/\Go H w H' w3/\P H' w3/\Reps K H' w3 (.t t) (dq deep) zs ys F /\
     x6k k pt tt te deep (ds.drop i) ρ3=some (x2l,ρ')/\zs++x2l=all,
    ⟨ds.length,by simp,Nat.zero_le _,Nat.le_refl _,ρ1,w1,[],[],all,g1.up,go1,p1,.nil,h2,rfl⟩,?_⟩
   rintro i m ys H' ⟨rfl,hile,hys,ρ3,w3,zs,F,x2l,g0,go0,p0,rz0,e3,ez⟩
   have hsz:ys.length<sizeLine:=by omega
   refine⟨Nat.le_of_lt hsz,?_⟩
   by_cases hlt:i<ds.length
   ·refine .inr ⟨ok.go i H' w3 p0 hlt,hsz,fun x H2 hy=>?_⟩
    obtain⟨mo,rx,p3⟩:=ok.yld i H' w3 x H2 ds[i] p0 g0.wl (List.getElem?_eq_getElem hlt) hy
    obtain⟨g3,go2⟩:=g0.more mo
    have go3:=go0.trans go2
    have rz:=rz0.gone g0.wl go2
    have ed:ds.drop i=ds[i]::ds.drop (i+1):=List.drop_eq_getElem_cons hlt
    rw[ed]at e3
    unfold x6k at e3
    split at e3
    ·cases e3
    ·rename_i ρ4 h4
     split at e3
     ·cases e3
     ·rename_i b ρ5 h5
      have gx:=g3.ext k
      have lρ:ρ3.length=σ.length:=g3.len
      refine⟨ds[i],_,w3,t+1,ρ4,gx,rx,h4,fun σ4 H4 w4 l4 s4 g4 go4=>?_⟩
      obtain⟨τ,rfl,lτ⟩:=j1u l4 s4
      refine⟨⟨τ,rfl,by rw[lτ,List.length_replicate]⟩,ρ4,w4,t+1,b,ρ5,g4,h5,fun H5 w5 g5 go5=>?_⟩
      have p5:=ok.st _ _ _ _ (ok.st _ _ _ _ p3 g3.wl go4.stab) g4.wl go5.stab
      have z5:Reps K H5 w5 (.t t) (dq deep) zs ys F:=(rz.gone g3.wl go4).gone g4.wl go5
      cases b with
      | false=>
       rw[if_neg (by decide)]at e3
       dsimp only
       rw[if_neg (by decide)]
       obtain⟨gc,goc⟩:=g5.cut
       rw[lρ]at e3
       refine⟨ds.length-(i+1),by omega,rfl,hlt,by omega,_,_,zs,F,x2l,gc,(go3.trans go4).trans (go5.trans goc),ok.st _ _ _ _ p5 g5.wl goc.stab,z5.gone g5.wl goc,e3,ez⟩
      | true=>
       rw[if_pos rfl]at e3
       dsimp only
       rw[if_pos rfl]
       split at e3
       ·cases e3
       ·rename_i d6 q6 ρ6 h6
        split at e3
        ·cases e3
        ·rename_i hq6
         split at e3
         ·cases e3
         ·rename_i vs7 ρ7 h7
          cases e3
          refine⟨ρ5,w5,t+1,d6,q6,ρ6,g5,h6,fun v H6 w6 F6 g6 go6 r6=>?_⟩
          obtain⟨gs,⟨F',rs,hF'⟩,sts,hOs⟩:=j37 g6 r6 hq6
          obtain⟨gc,goc⟩:=gs.cut
          rw[lρ]at h7
          have zs6:=z5.gone g5.wl go6
          have zF:∀ a∈F,w6 a=some (.t t):=zs6.owns
          have zs7:Reps K H6 (x6l deep t w6) (.t t) (dq deep) zs ys F:=Reps.go g6.wl sts zs6 fun a m=>⟨rfl,hOs a _ (zF a m) (by intro z; cases z)⟩
          have gos:Go H w H6 (x6l deep t w6):=by
           have go:Go H w H6 w6:=(go3.trans go4).trans (go5.trans go6)
           refine⟨go.stab.trans sts,fun a o h n=>⟨(go.keep a o h n).1,hOs a o (go.keep a o h n).2 fun z=>?_⟩⟩
           subst z
           have:=g.wt a _ h
           omega
          refine⟨ds.length-(i+1),by omega,rfl,hlt,by rw[List.length_append]; simp; omega,_,_,zs++[d6],F++F',vs7,gc,gos.trans goc,ok.st _ _ _ _ (ok.st _ _ _ _ p5 g5.wl go6.stab |> fun q=>ok.st _ _ _ _ q g6.wl sts) gs.wl goc.stab,
           ?_,h7,by rw[List.append_assoc]; exact ez⟩
          refine(Reps.snoc rs zs7 fun a m m'=>?_).gone gs.wl goc
          have h1:=zF a m
          rw[hF' a m']at h1
          cases h1
   ·have hi':i=ds.length:=Nat.le_antisymm hile (Nat.not_lt.mp hlt)
    subst hi'
    refine .inl ⟨ok.stop H' w3 p0,fun p hp=>?_⟩
    have ed:ds.drop ds.length=[]:=by simp
    rw[ed]at e3
    cases e3
    rw[List.append_nil]at ez
    subst ez
    obtain⟨a1,a2,a3⟩:=z9v g0 hp rz0
    refine kk _ _ _ (p::F) a1 (go0.trans a2) ?_
    cases deep <;> exact a3
  ·cases ee
 ·cases ee
section
variable {X:Cx} {k:Nat} {N':List Str} {scope:Scope} {elt tg iter:Expr} {ifs:List Expr} {pos:Pos} {it:y1k} {pt:x5m} {tt:x2m} {te:Den}
noncomputable abbrev z7m (X:Cx) (ifs:List Expr) (f:x2m):Prop:=PTs X ifs (tDT X.K f)
theorem z1m:z7m X [] x1m:=fun pins s σ H Q I hh0=>by
 obtain⟨ρ,w,t,b,ρ',gd,ee,k⟩:=hh0
 cases ee
 exact z6f pins s σ H Q I (k H w gd Go.refl)
theorem z1b {c:Expr} {g:x2m} (h:PDT X c g):z7m X [c] g:=z4v h
theorem z5n (deep:Bool) (hc:X.calm=true) (S:CompOk X k N' scope) (hi:PDI X tg iter it) (hg:∀ C s H fp,PDG (x1z X N' scope C s H fp) X.N.length tg pt) (ht:∀ C s H fp,z7m (x1z X N' scope C s H fp) ifs tt) (he:∀ C s H fp,PD (x1z X N' scope C s H fp) elt te)
  (hs:∀ x,foldedSetIterable iter X.env x=pure x:=by intro _; rfl):PD X (.ListComp elt [⟨tg,iter,ifs,0⟩] scope pos) (x2h k it pt tt te deep):=by
 intro pins s σ H Q I h
 have:=y16 σ H Q h
 rw[I.len]at this
 exact z6e (N':=N') hc S hi hg ht he hs pins s σ H Q I this
theorem z0g {i:Nat} {y:Str} {py spos:Pos} (deep:Bool) (hN:X.N.Nodup) (hy:X.N[i]? = some y) (hx:Loc X.env.scope y) (hsw:swapsWith (.ListComp elt [⟨tg,iter,ifs,0⟩] scope pos) (some (.Name y py)) spos.line X.env=pure true)
  (hc:X.calm=true) (S:CompOk X k N' scope) (hi:PDI X tg iter it) (hg:∀ C s H fp,PDG (x1z X N' scope C s H fp) X.N.length tg pt) (ht:∀ C s H fp,z7m (x1z X N' scope C s H fp) ifs tt) (he:∀ C s H fp,PD (x1z X N' scope C s H fp) elt te)
  (hs:∀ x,foldedSetIterable iter X.env x=pure x:=by intro _; rfl) (hf:X.fn y=true\/X.env.scope.names.lookup y=some .local:=by first | exact .inl rfl | exact .inr rfl | assumption) :
  PDS X (.Assign [.Name y py] (.ListComp elt [⟨tg,iter,ifs,0⟩] scope pos) spos) (x2i i (x2h k it pt tt te deep)):=by
 intro pins s σ H D I h
 have hl:i<σ.length:=by rw[I.len]; exact(List.getElem?_eq_some_iff.mp hy).1
 refine z56 (N':=N') (te:=tD X.K te) (tt:=tDT X.K tt) (g:=tDG X.K X.N.length pt) (wi:=tDI X.K it) hN hy hx hsw hc S hi hg ht he hs hf pins s σ H D I ?_
 have z:=y9e (te:=z0k k (tDI X.K it) (tDG X.K σ.length pt) (tDT X.K tt) (tD X.K te)) hl (fun Q q=>y16 σ H Q q) h
 rw[I.len]at z
 exact z
end
mutual
noncomputable def toP:D->PyData
 | .non=>.none
 | .bl b=>.bool b
 | .int i=>.int i
 | .str x=>.str x
 | .tup ds=>.tuple (x9h ds)
 | .lst ds=>.list (x9h ds)
 | .dic _ _=>.none
 | .exc _=>.none
 | .ob _ _ _ _=>.none
noncomputable def x9h:List D->List PyData
 | []=>[]
 | d::ds=>toP d::x9h ds
end
mutual
noncomputable def x7f:D->Bool
 | .dic _ _=>false
 | .exc _=>false
 | .ob _ _ _ _=>false
 | .tup ds=>y0n ds
 | .lst ds=>y0n ds
 | _=>true
noncomputable def y0n:List D->Bool
 | []=>true
 | d::ds=>x7f d && y0n ds
end
noncomputable def okD (d:D):Bool:=x7f d && SeqAt.shaped (toP d)
theorem y3m {d:D} (h:okD d=true):x7f d=true:=(Bool.and_eq_true_iff.mp h).1
theorem y48 {d:D} (h:okD d=true):SeqAt.shaped (toP d)=true:=(Bool.and_eq_true_iff.mp h).2
noncomputable def eqD (d e:D):Bool:=PyData.eqv (toP d) (toP e)
section
variable {X:Cx} {pins:List (Addr × Obj)} {σ:St} {H:Hp} {s:Shared}
theorem Rep.reads (I:Inv X pins σ H s) {w:Wn} {o:Ow}:∀ {q:Nat} {d:D} {v:V} {F:List Addr} {u:Value},Rep X.K H w o q d v F->x3i v u->x7f d=true->∃ as,Reads s.heap u (toP d) as:=by
 intro q d v F u r
 refine(Rep.rec (motive_1:=fun q d v F _=>∀ u,x3i v u->x7f d=true->∃ as,Reads s.heap u (toP d) as) (motive_2:=fun q ds vs F _=>∀ us,x2j vs us->y0n ds=true->∃ as,ReadsAll s.heap us (x9h ds) as) ?_ ?_ ?_ ?_ ?_ ?_ ?_ ?_ ?_ ?_ ?_ ?_ ?_ r:∀ u,x3i v u->x7f d=true->∃ as,Reads s.heap u (toP d) as) u
 ·intro q u ru hn; cases ru; exact⟨_,by unfold toP; exact .none⟩
 ·intro q b u ru hn; cases ru; exact⟨_,by unfold toP; exact .bool b⟩
 ·intro q i u ru hn; obtain⟨t,rfl⟩:=ru; exact⟨_,by unfold toP; exact .int i t⟩
 ·intro q x u ru hn; obtain⟨t,rfl⟩:=ru; exact⟨_,by unfold toP; exact .str x t⟩
 ·intro q a vs ds h r ih u ru hn
  cases ru
  obtain⟨its,rv,p,hz⟩:=I.tuple (SqT.of h)
  obtain⟨as,ra⟩:=ih its rv (by unfold x7f at hn; exact hn)
  obtain⟨ob,ho,hc,n,hd⟩:=p
  exact⟨_,by unfold toP; exact .tuple ho hc hd ra⟩
 ·intro q a ks vs ds h r ih u ru hn; cases hn
 ·intro q a nm ob v h x n u ru hn; cases hn
 ·intro q f c fo oc u1 u2 vs ds h1 h2 x r ih u ru hn; cases hn
 ·intro a vs ds h r ih u ru hn
  cases ru
  obtain⟨its,rv,p,hz⟩:=I.list h.sq
  obtain⟨as,ra⟩:=ih its rv (by unfold x7f at hn; exact hn)
  obtain⟨ob,ho,hc,n,hd⟩:=p.isList
  exact⟨_,by unfold toP; exact .list ho hc hd ra⟩
 ·intro a vs ds h n0 r ih u ru hn
  cases ru
  obtain⟨its,rv,p,hz⟩:=I.list (.inl h)
  obtain⟨as,ra⟩:=ih its rv (by unfold x7f at hn; exact hn)
  obtain⟨ob,ho,hc,n,hd⟩:=p.isList
  exact⟨_,by unfold toP; exact .list ho hc hd ra⟩
 ·intro q a vs ds F h e r ne ih u ru hn
  cases ru
  obtain⟨its,rv,p,hz⟩:=I.list (SqL.of h)
  obtain⟨as,ra⟩:=ih its rv (by unfold x7f at hn; exact hn)
  obtain⟨ob,ho,hc,n,hd⟩:=p.isList
  exact⟨_,by unfold toP; exact .list ho hc hd ra⟩
 ·intro q us ru hn; cases ru; exact⟨_,by unfold x9h; exact .nil⟩
 ·intro q d v ds vs F G r s' ne ih1 ih2 us ru hn
  cases ru with
  | cons rv rvs=>
   unfold y0n at hn
   obtain⟨as,ra⟩:=ih1 _ rv (Bool.and_eq_true_iff.mp hn).1
   obtain⟨bs,rb⟩:=ih2 _ rvs (Bool.and_eq_true_iff.mp hn).2
   exact⟨_,by unfold x9h; exact .cons ra rb⟩
end
noncomputable def Is (K:PySem.W.Frag) (H:Hp) (d:D) (v:V):Prop:=∃ w o q F,Rep K H w o q d v F
noncomputable def j2j (K:PySem.W.Frag):R2:=fun x y H Q=>∃ d e,Is K H d x/\Is K H e y/\okD d=true/\okD e=true/\Q (.bl (eqD d e)) H
noncomputable def j2i (K:PySem.W.Frag):R2:=fun x y H Q=>∃ d e,Is K H d x/\Is K H e y/\okD d=true/\okD e=true/\Q (.bl (!eqD d e)) H
noncomputable def inD (d:D):D->Option Bool
 | .lst ds=>some ((x9h ds).any fun y=>PyData.eqv y (toP d))
 | .tup ds=>some ((x9h ds).any fun y=>PyData.eqv y (toP d))
 | _=>none
noncomputable def j2n (K:PySem.W.Frag) (neg:Bool):R2:=fun x y H Q=>∃ d e b,Is K H d x/\Is K H e y/\okD d=true/\okD e=true/\inD d e=some b/\Q (.bl (if neg then !b else b)) H
section
variable {X:Cx} {a b c e:Expr} {fa fb fc f:Den} {pos:Pos}
theorem z3b (hu:X.A.units+64<cLine):OpR X (compareOp .Eq) (j2j X.K):=by
 intro pins s σ H x y v u Q I rx ry ⟨d,e,⟨w,o,q,F,h1⟩,⟨w',o',q',F',h2⟩,k1,k2,hq⟩
 obtain⟨as,ra⟩:=h1.reads I rx (y3m k1)
 obtain⟨bs,rb⟩:=h2.reads I ry (y3m k2)
 exact eq_dataH ra rb (y48 k1) (y48 k2) hu ⟨.bl _,H,I,rfl,hq⟩
theorem z9k (hu:X.A.units+64<cLine):OpR X (compareOp .NotEq) (j2i X.K):=by
 intro pins s σ H x y v u Q I rx ry ⟨d,e,⟨w,o,q,F,h1⟩,⟨w',o',q',F',h2⟩,k1,k2,hq⟩
 obtain⟨as,ra⟩:=h1.reads I rx (y3m k1)
 obtain⟨bs,rb⟩:=h2.reads I ry (y3m k2)
 exact ne_dataH ra rb (y48 k1) (y48 k2) hu ⟨.bl _,H,I,rfl,hq⟩
theorem z9t (hu:X.A.units+65<cLine):OpR X (compareOp .In) (j2n X.K false):=by
 intro pins s σ H x y v u Q I rx ry ⟨d,e,b,⟨w,o,q,F,h1⟩,⟨w',o',q',F',h2⟩,k1,k2,hb,hq⟩
 obtain⟨as,ra⟩:=h1.reads I rx (y3m k1)
 obtain⟨bs,rb⟩:=h2.reads I ry (y3m k2)
 replace k1:=y48 k1
 replace k2:=y48 k2
 cases e with
 | lst ds=>
  cases hb
  unfold toP at rb k2
  exact SeqAt.in_list_reads rb ra (SeqAt.canLay_of_shaped k2) (SeqAt.canLay_of_shaped k1) (room_in_shaped k1 hu) ⟨.bl _,H,I,rfl,hq⟩
 | tup ds=>
  cases hb
  unfold toP at rb k2
  exact SeqAt.in_tuple_reads rb ra (SeqAt.canLay_of_shaped k2) (SeqAt.canLay_of_shaped k1) (room_in_shaped k1 hu) ⟨.bl _,H,I,rfl,hq⟩
 | _=>cases hb
noncomputable def dEq (x y:D):Option D:=if okD x=true/\okD y=true then some (.bl (eqD x y))else none
noncomputable def dNe (x y:D):Option D:=if okD x=true/\okD y=true then some (.bl (!eqD x y))else none
noncomputable def dIn (x y:D):Option D:=if okD x=true/\okD y=true then(inD x y).map fun b=>.bl b else none
theorem hEq {K:PySem.W.Frag}:∀ σ H Q,tD K (e2 dEq fa fb) σ H Q->tOp (j2j K) (tD K fa) (tD K fb) σ H Q:=y30 fun x y d h=>by
 unfold dEq at h
 split at h
 ·rename_i hk
  cases h
  exact⟨_,rfl,fun H w o o' q q' u u' F F' r1 r2 _ Q hq=>⟨x,y,⟨_,_,_,_,r1⟩,⟨_,_,_,_,r2⟩,hk.1,hk.2,hq⟩⟩
 ·cases h
theorem hNe {K:PySem.W.Frag}:∀ σ H Q,tD K (e2 dNe fa fb) σ H Q->tOp (j2i K) (tD K fa) (tD K fb) σ H Q:=y30 fun x y d h=>by
 unfold dNe at h
 split at h
 ·rename_i hk
  cases h
  exact⟨_,rfl,fun H w o o' q q' u u' F F' r1 r2 _ Q hq=>⟨x,y,⟨_,_,_,_,r1⟩,⟨_,_,_,_,r2⟩,hk.1,hk.2,hq⟩⟩
 ·cases h
theorem hIn {K:PySem.W.Frag}:∀ σ H Q,tD K (e2 dIn fa fb) σ H Q->tOp (j2n K false) (tD K fa) (tD K fb) σ H Q:=y30 fun x y d h=>by
 unfold dIn at h
 split at h
 ·rename_i hk
  cases hi:inD x y with
  | none=>rw[hi]at h; cases h
  | some b=>
   rw[hi]at h
   cases h
   exact⟨_,rfl,fun H w o o' q q' u u' F F' r1 r2 _ Q hq=>⟨x,y,b,⟨_,_,_,_,r1⟩,⟨_,_,_,_,r2⟩,hk.1,hk.2,hi,hq⟩⟩
 ·cases h
theorem j1i {k:Nat} (hr:Room k X.A) (ha:PD X a fa) (hb:PD X b fb):PD X (.Compare a [.Eq] [b] pos) (e2 dEq fa fb):=z85 (z3b hr.units) hEq ha hb (y4j _)
theorem z9m {k:Nat} (hr:Room k X.A) (ha:PD X a fa) (hb:PD X b fb):PDT X (.Compare a [.Eq] [b] pos) (x3u (e2 dEq fa fb)):=y0h (z3b hr.units) hEq ha hb (y4j _)
theorem z76 {k:Nat} (hr:Room k X.A) (ha:PD X a fa) (hb:PD X b fb):PDT X (.Compare a [.NotEq] [b] pos) (x3u (e2 dNe fa fb)):=y0h (z9k hr.units) hNe ha hb (y4j _)
theorem u65 {k:Nat} {A:Around} (r:Room k A):A.units+65<cLine:=by have:=r.un; omega
theorem z87 {k:Nat} (hr:Room k X.A) (ha:PD X a fa) (hb:PD X b fb) (hm:behindInMarks .In b=false:=by with_unfolding_all rfl):PDT X (.Compare a [.In] [b] pos) (x3u (e2 dIn fa fb)):=y0h (z9t (u65 hr)) hIn ha hb hm
end
@[simp] noncomputable def eB (h:List D->Option D) (g:x21):Den:=fun ρ=>match g ρ with
 | some (ds,ρ1)=>match h ds with
  | some d=>some (d,9,ρ1)
  | none=>none
 | none=>none
section
variable {X:Cx} {a b c e:Expr} {es:List Expr} {fa fb fc f:Den} {g:x21} {pos p p1 p2:Pos}
theorem y8d {K:PySem.W.Frag} {h:List D->Option D} {r:List V->Hp->VK->Prop} (hh:∀ ds d,h ds=some d->∃ v,y1v d=some v/\∀ H w vs,WL K w H->Reps K H w .f 0 ds vs []->∀ Q:VK,Q v H->r vs H Q) :
  ∀ σ H Q,tD K (eB h g) σ H Q->tCB r (tDA K g) σ H Q:=fun σ H Q hh0=>by
 obtain⟨ρ,w,t,r',q,ρ',gd,ee,k⟩:=hh0
 unfold eB at ee
 split at ee
 ·rename_i ds ρ1 h1
  split at ee
  ·rename_i d hd
   cases ee
   obtain⟨v,hv,hr⟩:=hh ds _ hd
   exact⟨ρ,w,t,ds,_,gd,h1,fun vs H1 w1 g1 go1 r1=>hr H1 w1 vs g1.wl r1 Q (k v H1 w1 [] g1.up go1 (y22 hv))⟩
  ·cases ee
 ·cases ee
theorem one {K:PySem.W.Frag} {H:Hp} {w:Wn} {o:Ow} {d:D} {vs:List V} (r:Reps K H w o 0 [d] vs []):∃ v,vs=[v]/\Rep K H w o 0 d v []:=by
 have l:=r.length
 match vs,l with
 | [v],_=>
  obtain⟨v',h1,h2⟩:=r.get (i:=0) rfl
  cases h1
  exact⟨v,rfl,h2⟩
theorem two {K:PySem.W.Frag} {H:Hp} {w:Wn} {o:Ow} {d d':D} {vs:List V} (r:Reps K H w o 0 [d,d'] vs []):∃ v v',vs=[v,v']/\Rep K H w o 0 d v []/\Rep K H w o 0 d' v' []:=by
 have l:=r.length
 match vs,l with
 | [v,v'],_=>
  obtain⟨u,h1,h2⟩:=r.get (i:=0) rfl
  obtain⟨u',h3,h4⟩:=r.get (i:=1) rfl
  cases h1
  cases h3
  exact⟨v,v',rfl,h2,h4⟩
noncomputable def x7c:D->Option Nat
 | .lst ds=>some ds.length
 | .tup ds=>some ds.length
 | _=>none
@[simp] noncomputable def z2p:List D->Option D
 | [d]=>(x7c d).map fun n=>.int (Int.ofNat n)
 | _=>none
theorem Rep.len {K:PySem.W.Frag} {H:Hp} {w:Wn} {o:Ow} {q:Nat} {d:D} {v:V} {F:List Addr} {n:Nat} (r:Rep K H w o q d v F) (h:x7c d=some n):∃ p ys,v=.ref p/\(SqL K H p ys\/SqT K H p ys)/\ys.length=n:=by
 cases d with
 | lst ds=>
  cases h
  obtain⟨p,vs,q',G,rfl,hq,rs⟩:=r.seqL
  exact⟨p,vs,rfl,.inl hq,rs.length.symm⟩
 | tup ds=>
  cases h
  obtain⟨p,vs,rfl,hq,rs⟩:=r.seqT
  exact⟨p,vs,rfl,.inr hq,rs.length.symm⟩
 | _=>cases h
theorem j03 (hm:X.mg "len" = none) (ha:PDA X [a] g) (hg:Gl X "len":=by rfl) (he:starEach [a] X.env=(false,eval a X.env)::starEach [] X.env:=by rfl) (hpl:(backTo pos (starEach [] X.env)).any (·.1)=false:=by rfl):PD X (.Call (.Name "len" p) [a] [] pos) (eB z2p g):=
 PE.imp (x6h x5u hg hm PySem.boot_len ha (by decide) (by decide) he hpl) (y8d fun ds d h=>by
  match ds,h with
  | [d0],h=>
   cases hl:x7c d0 with
   | none=>simp only[z2p,hl,Option.map_none]at h; cases h
   | some n=>
    simp only[z2p,hl,Option.map_some,Option.some.injEq]at h
    subst h
    refine⟨_,rfl,fun H w vs wl r Q hq=>?_⟩
    obtain⟨v,rfl,rv⟩:=one r
    obtain⟨p,ys,rfl,hs,hn⟩:=rv.len hl
    exact⟨p,ys,rfl,hs,by rw[hn]; exact hq⟩)
@[simp] noncomputable def x17 (i:Nat):Den:=fun ρ=>match ρ[i]? with
 | some (some (d,_))=>match x7c d with
  | some n=>some (.int (Int.ofNat n),9,ρ)
  | none=>none
 | _=>none
theorem z67 {i:Nat} {x:Str} (hm:X.mg "len" = none) (h:PE X (.Name x p1) (y0f i)) (hg:Gl X "len":=by rfl) (he:starEach [.Name x p1] X.env=(false,eval (.Name x p1) X.env)::starEach [] X.env:=by rfl) (hpl:(backTo pos (starEach [] X.env)).any (·.1)=false:=by rfl):PD X (.Call (.Name "len" p) [.Name x p1] [] pos) (x17 i):=
 PE.imp (x6h x5u hg hm PySem.boot_len (x6x h y1n he) (by decide) (by decide) he hpl) fun σ H Q hh0=>by
 obtain⟨ρ,w,t,r',q,ρ',gd,ee,k⟩:=hh0
 unfold x17 at ee
 split at ee
 ·rename_i d q0 e0
  split at ee
  ·rename_i n hn
   cases ee
   obtain⟨v,F,h1,h2⟩:=gd.slot i d q0 e0
   obtain⟨p,ys,rfl,hs,hl⟩:=h2.len hn
   exact⟨_,h1,p,ys,rfl,hs,by rw[hl]; exact k _ H w [] gd.up Go.refl (.int _)⟩
  ·cases ee
 ·cases ee
@[simp] noncomputable def j06:List D->Option D
 | [.int i,.int j]=>some (.int (if j > i then j else i))
 | _=>none
theorem z48 (hc:X.calm=true) (hm:X.mg "max" = none) (hb:bootBuiltins "max" = some (.builtin "max")) (ha:PDA X (a::es) g) (hg:Gl X "max":=by rfl) (he:starEach (a::es) X.env=(false,eval a X.env)::starEach es X.env:=by rfl) (hpl:(backTo pos (starEach es X.env)).any (·.1)=false:=by rfl):PD X (.Call (.Name "max" p) (a::es) [] pos) (eB j06 g):=
 PE.imp (x6h (y9j hc) hg hm hb ha (by decide) (by decide) he hpl) (y8d fun ds d h=>by
  unfold j06 at h
  split at h
  ·rename_i i j
   cases h
   refine⟨_,rfl,fun H w vs wl r Q hq=>?_⟩
   obtain⟨v,v',rfl,r1,r2⟩:=two r
   exact⟨i,j,by rw[x42 r1,x42 r2],hq⟩
  ·cases h)
@[simp] noncomputable def x8o (g:x21):Den:=fun ρ=>match g ρ with
 | some ([.lst ds],ρ1)=>some (.lst ds,1,ρ1)
 | some ([.tup ds],ρ1)=>some (.lst ds,1,ρ1)
 | _=>none
theorem y9c (hm:X.mg "list" = none) (hb:bootBuiltins "list" = some (.type "list")) (ha:PDA X [a] g) (hg:Gl X "list":=by rfl) (he:starEach [a] X.env=(false,eval a X.env)::starEach [] X.env:=by rfl) (hpl:(backTo pos (starEach [] X.env)).any (·.1)=false:=by rfl):PD X (.Call (.Name "list" p) [a] [] pos) (x8o g):=
 PE.imp (x86 y35 hg hm hb ha (by decide) (by decide) he hpl) fun σ H Q hh0=>by
 obtain⟨ρ,w,t,r',q,ρ',gd,ee,k⟩:=hh0
 unfold x8o at ee
 split at ee
 ·rename_i ds ρ1 h1
  cases ee
  refine⟨ρ,w,t,_,_,gd,h1,fun vs H1 w1 g1 go1 r1=>?_⟩
  obtain⟨v,rfl,rv⟩:=one r1
  obtain⟨p,ys,rfl,hs,rs⟩:=rv.seqL0
  refine⟨p,ys,rfl,.inl hs,fun l hl=>?_⟩
  obtain⟨a1,a2,a3⟩:=y76 g1 hl rs
  exact k _ _ _ _ a1 (go1.trans a2) a3
 ·rename_i ds ρ1 h1
  cases ee
  refine⟨ρ,w,t,_,_,gd,h1,fun vs H1 w1 g1 go1 r1=>?_⟩
  obtain⟨v,rfl,rv⟩:=one r1
  obtain⟨p,ys,rfl,hs,rs⟩:=rv.seqT
  refine⟨p,ys,rfl,.inr hs,fun l hl=>?_⟩
  obtain⟨a1,a2,a3⟩:=y76 g1 hl rs
  exact k _ _ _ _ a1 (go1.trans a2) a3
 ·cases ee
@[simp] noncomputable def x1x (g:x21):Den:=fun ρ=>match g ρ with
 | some ([.lst ds],ρ1)=>some (.tup ds,9,ρ1)
 | some ([.tup ds],ρ1)=>some (.tup ds,9,ρ1)
 | _=>none
theorem z2t (hm:X.mg "tuple" = none) (hb:bootBuiltins "tuple" = some (.type "tuple")) (ha:PDA X [a] g) (hg:Gl X "tuple":=by rfl) (he:starEach [a] X.env=(false,eval a X.env)::starEach [] X.env:=by rfl) (hpl:(backTo pos (starEach [] X.env)).any (·.1)=false:=by rfl):PD X (.Call (.Name "tuple" p) [a] [] pos) (x1x g):=
 PE.imp (x86 y2a hg hm hb ha (by decide) (by decide) he hpl) fun σ H Q hh0=>by
 obtain⟨ρ,w,t,r',q,ρ',gd,ee,k⟩:=hh0
 unfold x1x at ee
 split at ee
 ·rename_i ds ρ1 h1
  cases ee
  refine⟨ρ,w,t,_,_,gd,h1,fun vs H1 w1 g1 go1 r1=>?_⟩
  obtain⟨v,rfl,rv⟩:=one r1
  obtain⟨p,ys,rfl,hs,rs⟩:=rv.seqL0
  refine⟨p,ys,rfl,.inl ⟨hs,fun l hl=>?_⟩⟩
  obtain⟨a1,a2,a3⟩:=y1r g1 hl rs
  exact k _ _ _ _ a1 (go1.trans a2) a3
 ·rename_i ds ρ1 h1
  cases ee
  refine⟨ρ,w,t,_,_,gd,h1,fun vs H1 w1 g1 go1 r1=>?_⟩
  obtain⟨v,rfl,rv⟩:=one r1
  have rr:=rv
  obtain⟨p,ys,rfl,hs,rs⟩:=rv.seqT
  refine⟨p,ys,rfl,.inr ⟨hs,?_⟩⟩
  exact k _ H1 w1 [] g1.up go1 (((rr.nolist rfl).2 9).any g1.wl)
 ·cases ee
noncomputable def z31 (ta:TA):TE:=fun σ H Q=>ta σ H fun vs H1=>∃ j:Int,vs=[.int j] /\ -(2 ^ 62)<=j/\j<2 ^ 62/\∀ p,H1 p=none->Q (.ref p) (upd H1 p (.rng 0 j))
theorem y68 {ta:TA} (hg:Gl X "range") (hm:X.mg "range" = none) (ha:PA X [a] ta) (hs:starEach [a] X.env=[(false,eval a X.env)]:=by rfl):PE X (.Call (.Name "range" p) [a] [] pos) (z31 ta):=by
 intro pins s σ H Q I h
 refine Call_ (x9s I hg hm boot_range (PyProof.Rows.callWith_type1 (thn (ha pos pins s σ H _ I h) fun us s1 ⟨vs,H1,I1,r1,q1⟩=>?_) hs rfl))
 obtain⟨j,e,q1,q2,q⟩:=q1
 subst e
 cases r1 with
 | cons r rr=>
  cases rr
  obtain⟨t,rfl⟩:=r
  refine call_range_1 ?_
  exact⟨.ref s1.heap.objs.size,upd H1 s1.heap.objs.size (.rng 0 j),I1.laid (fun b u e=>Heap.get?_push_of_some _ e) (Nat.le_refl _) ⟨_,_,_,Heap.get?_push_size _ rfl⟩,rfl,q _ (I1.hok.fresh (Nat.le_refl _))⟩
end
end L3
namespace L3
open PySem PySem.Spec PyProof.Rows L2
theorem x9w {j:Int} (h1:-(2 ^ 62)<=j) (h2:j<2 ^ 62):Builtin.Range.small 0 j 1=true:=by
 have hs:Builtin.Range.rangeSize 0 j 1=((j.toNat:Nat):Int):=by
  simp[Builtin.Range.rangeSize] <;> split <;> omega
 simp only[Builtin.Range.small,hs,Builtin.Range.rangeFitsLong]
 simp
 omega
theorem y1q (j:Int):Builtin.Range.rangeSize 0 j 1=((j.toNat:Nat):Int):=by
 simp[Builtin.Range.rangeSize] <;> split <;> omega
theorem y1j {n:Nat} {acc:Array Value} (h:ItemsOf (fun i v=>∃ t,v=Value.int (0+(i:Nat)*1) t) acc n):x2j (x8y n) acc.toList:=by
 have key:∀ (us:List Value) (k:Nat),(∀ j v,us[j]? = some v->∃ t,v=Value.int (((k+j:Nat)):Int) t)->x2j ((List.range' k us.length).map fun i=>V.int (Int.ofNat i)) us:=by
  intro us
  induction us with
  | nil=>intro k _; exact .nil
  | cons u r ih=>
   intro k hk
   obtain⟨t,e⟩:=hk 0 u rfl
   refine .cons ⟨t,by rw[e]; rfl⟩ (ih (k+1) fun j v hv=>?_)
   obtain⟨t',e'⟩:=hk (j+1) v (by simpa using hv)
   exact⟨t',by rw[e']; congr 2; omega⟩
 have:=key acc.toList 0 fun j v hv=>by
  obtain⟨t,e⟩:=h.2 j v (by simpa using hv)
  exact⟨t,by rw[e]; congr 1; omega⟩
 have hl:acc.toList.length=n:=by simpa using h.1
 rw[hl]at this
 unfold x8y
 rw[List.range_eq_range']
 exact this
section
variable {prog:Program} {w:World} {A:Around} {E:Value->Shared->Prop} {s:Shared}
open AutoSeq1 (wpAny_loadPart')
theorem y1u {Q:List Value->Shared->Prop} {r:Addr} {a b c:Int} {t u v:Tok} {n:Nat} (hh:A.handled=none) (hr:IsRange s.heap r a b c t u v) (hsmall:Builtin.Range.small a b c=true) (hn:Builtin.Range.rangeSize a b c=n) (hlen:n<=2 ^ 24)
  (hQ:∀ h' tk acc',(∀ b o',s.heap.get? b=some o'->h'.get? b=some o')->ItemsOf (fun i v=>∃ t,v=.int (a+i*c) t) acc' n->Q acc'.toList { s with heap:=h',toks:=tk }) :
  wpAny (model prog w) A (collect (.ref r)) Q E s:=by
 unfold collect
 refine wpAny_bind (wpAny_runValue (codeAny_builtin F.entry_proto_collect ?_))
 rw[Around.under_plainId F.plain_proto_collect _]
 show wpAny _ A.in1 (newList [] >>= fun l=>again (.builtin "list.__iadd__" ⟨[l,.ref r],[]⟩)) _ _ s
 refine wpAny_bind (wpAny_newObj_type ?_)
 refine wpAny_pure ⟨plainId_quiet F.plain_list_iadd _,codeAny_builtin F.entry_list_iadd ?_⟩
 rw[Around.under_plainId F.plain_list_iadd _]
 show wpAny _ A.in1 (Builtin.List.listExtendWith (.ref s.heap.objs.size) (.ref r) (.ref s.heap.objs.size)) _ _ _
 have hS:(s.heap.push { cls:=.type "list",data:=.seq ([]:List Value).toArray }).get? s.heap.objs.size=some { cls:=.type "list",data:=.seq #[] 0 }:=Heap.get?_push_size _ rfl
 have fin':∀ (h':Heap) (tk:Nat) (acc':Array Value) (c':Nat),(∀ b o,b≠s.heap.objs.size->(s.heap.push { cls:=.type "list",data:=.seq ([]:List Value).toArray }).get? b=some o->h'.get? b=some o)->
   h'.get? s.heap.objs.size=some { cls:=.type "list",dict:=none,data:=.seq acc' c',slots:=#[] }->ItemsOf (fun i v=>∃ t,v=.int (a+i*c) t) acc' n->wpAny (model prog w) A (match Value.ref s.heap.objs.size with
   | Value.ref a=>do
    match (<- load a).data with
     | Data.seq xs _=>pure xs.toList
     | _=>unsupported "internal:collect"
   | _=>unsupported "internal:collect") Q E { s with heap:=h',toks:=tk }:=fun h' tk acc' c' hk hS' hacc=>by
  show wpAny _ A (load s.heap.objs.size >>= _) _ _ _
  refine wpAny_bind (wpAny_load hS' ?_)
  refine wpAny_pure (hQ h' tk acc' (fun b o' hb=>?_) hacc)
  exact hk b o' (Nat.ne_of_lt (Heap.lt_size hb)) (Heap.get?_push_of_some _ hb)
 refine wpAny_mono (wpAny_extend_range (A:=A) (R:=fun rs s'=>rs=.ok (.ret (.ref s.heap.objs.size))/\∃ h' tk acc' c',s'={ s with heap:=h',toks:=tk }/\(∀ b o,b≠s.heap.objs.size->(s.heap.push { cls:=.type "list",data:=.seq ([]:List Value).toArray }).get? b=some o->h'.get? b=some o) /\
   h'.get? s.heap.objs.size=some { cls:=.type "list",dict:=none,data:=.seq acc' c',slots:=#[] }/\ItemsOf (fun i v=>∃ t,v=.int (a+i*c) t) acc' n)
  (s:={ s with heap:=s.heap.push { cls:=.type "list",data:=.seq ([]:List Value).toArray } }) hh (Heap.get?_push_of_some _ hr) hsmall hn hlen s.heap.objs.size (.ref s.heap.objs.size) 0 hS (fun h' tk acc' c' hk hS' hacc=>⟨rfl,h',tk,acc',c',rfl,hk,hS',hacc⟩)) (fun fin s' h=>?_) (fun e s' h=>?_)
 ·cases fin with
  | done f=>
   obtain⟨e,h',tk,acc',c',rfl,hk,hS',hacc⟩:=h
   cases e
   exact fin' h' tk acc' c' hk hS' hacc
  | again c'=>exact⟨h.1,codeAny_mono h.2 fun r s'' hr=>by
    obtain⟨rfl,h',tk,acc',c',rfl,hk,hS',hacc⟩:=hr
    exact fin' h' tk acc' c' hk hS' hacc⟩
 ·exact absurd h.1 (by simp)
end
theorem x5r (r:Addr) (a b c:Int) (t u v:Tok) (n:Nat) (hsmall:Builtin.Range.small a b c=true) (hn:Builtin.Range.rangeSize a b c=n) (hlen:n<=2 ^ 24) :
  Meets (Builtin.«tuple.__new__» ⟨[.type "tuple",.ref r],[]⟩)
   (fun A R s=>A.handled=none/\IsRange s.heap r a b c t u v/\∀ (h':Heap) tk acc',(∀ b o',s.heap.get? b=some o'->h'.get? b=some o')->ItemsOf (fun i v=>∃ t,v=.int (a+i*c) t) acc' n->R (.ok (.ret (.ref h'.objs.size))) { s with heap:=h'.push { cls:=.type "tuple",data:=.seq acc' },toks:=tk }):=
 .of_wp fun prog w A R s h=>by
  obtain⟨hp,g,d,tk,os⟩:=s; obtain⟨hh,hr,h⟩:=h
  have hsub:=sub_tuple_self
  have hinit:=init_tuple_lookup
  have hmh:=madeHere_tuple
  have hT:Shared.TypeIs ⟨hp,g,d,tk,os⟩ (.ref r) "range":=⟨_,hr,rfl⟩
  have hh1:A.in1.handled=none:=hh
  wp_walk using AutoSeq1.wpAny_loadPart' hr,wpAny_typeOf hT,y1u hh1 hr hsmall hn hlen
  intro h' tk' acc' hk hacc
  show wpAny _ _ (Builtin.Tuple.tupleExact acc'.toList.toArray >>= fun v=>ret v) _ _ _
  unfold Builtin.Tuple.tupleExact
  have hsz:acc'.size<=sizeLine:=by rw[hacc.1]; exact hlen
  refine wpAny_bind (wpAny_newObj_type ?_ (by show acc'.toList.toArray.size<=sizeLine; simpa using hsz))
  refine wpAny_pure ⟨_,rfl,?_⟩
  have e:acc'.toList.toArray=acc':=by simp
  rw[e]
  exact h h' tk' acc' hk hacc
theorem x97 {prog:Program} {w:World} {A:Around} {E:Value->Shared->Prop} {s:Shared} {r:Addr} {a b c:Int} {t u v:Tok} {n:Nat} {Q:Value->Shared->Prop} (hh:A.handled=none) (hr:IsRange s.heap r a b c t u v) (hsmall:Builtin.Range.small a b c=true) (hn:Builtin.Range.rangeSize a b c=n) (hlen:n<=2 ^ 24)
  (h:∀ (h':Heap) tk acc',(∀ b o',s.heap.get? b=some o'->h'.get? b=some o')->ItemsOf (fun i v=>∃ t,v=.int (a+i*c) t) acc' n->Q (.ref h'.objs.size) { s with heap:=h'.push { cls:=.type "tuple",data:=.seq acc' },toks:=tk }) :
  wpAny (model prog w) A (call (.type "tuple") [.ref r]) Q E s:=
 callType_new F.called_tuple (by decide) (F.typeCall_tuple_1 _) (F.newCall_tuple_1 _) (fun obj=>F.args_object_init_2 obj _) F.entry_tuple_new
  (x5r r a b c t u v n hsmall hn hlen) ⟨hh,hr,fun h' tk acc' hk hacc=>⟨⟨_,Heap.get?_push_size _ rfl,rfl⟩,h h' tk acc' hk hacc⟩⟩
section
variable {X:Cx}
noncomputable def j1x (mk:List V->HO):List V->Hp->VK->Prop:=fun xs H Q=>∃ a j,xs=[.ref a]/\H a=some (.rng 0 j) /\ -1000<=j/\j<=1000/\∀ p,H p=none->Q (.ref p) (upd H p (mk (x8y j.toNat)))
theorem y2s (hc:X.calm=true):y0s X (.type "list") (j1x .lst):=by
 intro pins s σ H xs us Q I r h
 obtain⟨a,j,rfl,hr,j1,j2,q⟩:=h
 obtain⟨u,rfl,rx⟩:=y4u r
 cases rx
 obtain⟨t,u,v,ho⟩:=(show x2a X.prog X.w H s.heap a (.rng 0 j)from I.hok a _ hr)
 refine call_list_range (I.ok.hd hc) ho (x9w (by omega) (by omega)) (y1q j) (by omega) fun h' tk acc' c' hk hS' hacc=>?_
 refine⟨.ref s.heap.objs.size,_,I.laid (t':=tk) (o:=.lst (x8y j.toNat)) hk (Nat.le_refl _) ⟨by rw[y17]; exact Nat.le_trans (by omega:j.toNat<=1000) (by decide),acc'.toList,c',y1j hacc,by simpa using hS'⟩,rfl,q _ (I.hok.fresh (Nat.le_refl _))⟩
theorem y0t (hc:X.calm=true):y0s X (.type "tuple") (j1x .tup):=by
 intro pins s σ H xs us Q I r h
 obtain⟨a,j,rfl,hr,j1,j2,q⟩:=h
 obtain⟨u,rfl,rx⟩:=y4u r
 cases rx
 obtain⟨t,u,v,ho⟩:=(show x2a X.prog X.w H s.heap a (.rng 0 j)from I.hok a _ hr)
 refine x97 (I.ok.hd hc) ho (x9w (by omega) (by omega)) (y1q j) (by omega) fun h' tk acc' hk hacc=>?_
 have I1:Inv X pins σ H { s with heap:=h',toks:=tk }:=I.kept hk
 have I2:Inv X pins σ (upd H h'.objs.size (.tup (x8y j.toNat))) { s with heap:=h'.push { cls:=.type "tuple",data:=.seq acc' },toks:=tk }:=
  I1.laid (t':=tk) (fun b o e=>Heap.get?_push_of_some _ e) (Nat.le_refl _) (show x2a X.prog X.w _ _ _ (.tup _)from⟨by rw[y17]; exact Nat.le_trans (by omega:j.toNat<=1000) (by decide),acc'.toList,y1j hacc,by simpa using x4f.new h' acc'⟩)
 exact⟨.ref h'.objs.size,_,I2,rfl,q _ (I1.hok.fresh (Nat.le_refl _))⟩
variable {a:Expr} {g:x21} {pos p p1 pos1:Pos}
@[simp] noncomputable def x6v (g:x21):Den:=fun ρ=>match x10 g ρ with
 | some (ds,ρ1)=>some (.lst ds,1,ρ1)
 | none=>none
@[simp] noncomputable def z43 (g:x21):Den:=fun ρ=>match x10 g ρ with
 | some (ds,ρ1)=>some (.tup ds,9,ρ1)
 | none=>none
theorem y3b {K:PySem.W.Frag} {mk:List V->HO} {q0:Nat} {md:List D->D} (al:∀ {ρ:Rho} {σ:St} {H1:Hp} {w1:Wn} {t:Nat} {p:Addr} {vs:List V} {ds:List D},Good K ρ σ H1 w1 t->H1 p=none->Reps K H1 w1 .f 0 ds vs []->∃ w' F,Good K ρ σ (upd H1 p (mk vs)) w' (t+1)/\Go H1 w1 (upd H1 p (mk vs)) w'/\Rep K (upd H1 p (mk vs)) w' (.t t) q0 (md ds) (.ref p) F) :
  ∀ σ H Q,tD K (fun ρ=>match x10 g ρ with
   | some (ds,ρ1)=>some (md ds,q0,ρ1)
   | none=>none) σ H Q->tCB (j1x mk) (j0c (z31 (tDA K g)) j2e) σ H Q:=fun σ H Q hh0=>by
 obtain⟨ρ,w,t,r',q,ρ',gd,ee,k⟩:=hh0
 dsimp only at ee
 split at ee
 ·rename_i ds ρ1 h1
  cases ee
  unfold x10 at h1
  split at h1
  ·rename_i n ρ2 h2
   split at h1
   ·rename_i hn
    cases h1
    refine⟨ρ,w,t,_,_,gd,h2,fun vs H1 w1 g1 go1 r1=>?_⟩
    obtain⟨v,rfl,rv⟩:=one r1
    have hv:=x42 rv
    subst hv
    refine⟨n,rfl,by omega,by omega,fun p hp=>⟨p,n,rfl,x0y,hn.1,hn.2,fun l hl=>?_⟩⟩
    have ne:∀ a x,H1 a=some x->a≠p:=fun a x e=>x0u e hp
    have st:x6n H1 w1 (upd H1 p (.rng 0 n)) w1:=fun a x e nn=>⟨sm (by rw[x0i (ne a x e)]; exact e),nn⟩
    have nw:∀ a o,w1 a=some o->a≠p:=fun a o e=>by obtain⟨vs,q⟩:=g1.wl a o e; exact ne a _ q
    have g2:Good K ρ' σ (upd H1 p (.rng 0 n)) w1 t:=⟨⟨fun a o e=>by
     obtain⟨us,q⟩:=g1.wl a o e
     exact⟨us,by rw[x0i (nw a o e)]; exact q⟩,g1.wl.tb.upd rfl (.inl hp)⟩,g1.ws,g1.wt,g1.len,fun i d q e=>by
     obtain⟨v,F,h1,h2⟩:=g1.slot i d q e
     exact⟨v,F,h1,Rep.go g1.wl st h2 fun a m=>⟨x0i (nw a _ (h2.owns a m)),h2.owns a m⟩⟩⟩
    have go2:Go H1 w1 (upd H1 p (.rng 0 n)) w1:=⟨st,fun a o e _=>⟨x0i (nw a o e),e⟩⟩
    obtain⟨w',F,a1,a2,a3⟩:=al g2 hl (y70 n.toNat)
    exact k _ _ _ _ a1 ((go1.trans go2).trans a2) a3
   ·cases h1
  ·cases h1
 ·cases ee
theorem z2n (hc:X.calm=true) (hm:X.mg "list" = none) (hb:bootBuiltins "list" = some (.type "list")) (hmr:X.mg "range" = none) (ha:PDA X [a] g) (hg:Gl X "list":=by rfl) (hgr:Gl X "range":=by rfl) (hs:starEach [a] X.env=[(false,eval a X.env)]:=by rfl)
  (he:starEach [.Call (.Name "range" p1) [a] [] pos1] X.env=(false,eval (.Call (.Name "range" p1) [a] [] pos1) X.env)::starEach [] X.env:=by rfl) (hpl:(backTo pos (starEach [] X.env)).any (·.1)=false:=by rfl):PD X (.Call (.Name "list" p) [.Call (.Name "range" p1) [a] [] pos1] [] pos) (x6v g):=
 PE.imp (x86 (y2s hc) hg hm hb (x6x (y68 hgr hmr ha hs) y1n he) (by decide) (by decide) he hpl) (y3b fun g hp r=>by
  obtain⟨a1,a2,a3⟩:=y76 g hp r
  exact⟨_,_,a1,a2,a3⟩)
theorem z5o (hc:X.calm=true) (hm:X.mg "tuple" = none) (hb:bootBuiltins "tuple" = some (.type "tuple")) (hmr:X.mg "range" = none) (ha:PDA X [a] g) (hg:Gl X "tuple":=by rfl) (hgr:Gl X "range":=by rfl) (hs:starEach [a] X.env=[(false,eval a X.env)]:=by rfl)
  (he:starEach [.Call (.Name "range" p1) [a] [] pos1] X.env=(false,eval (.Call (.Name "range" p1) [a] [] pos1) X.env)::starEach [] X.env:=by rfl) (hpl:(backTo pos (starEach [] X.env)).any (·.1)=false:=by rfl):PD X (.Call (.Name "tuple" p) [.Call (.Name "range" p1) [a] [] pos1] [] pos) (z43 g):=
 PE.imp (x86 (y0t hc) hg hm hb (x6x (y68 hgr hmr ha hs) y1n he) (by decide) (by decide) he hpl) (y3b fun g hp r=>by
  obtain⟨a1,a2,a3⟩:=y1r g hp r
  exact⟨_,_,a1,a2,a3⟩)
end
end L3
namespace L3
open PySem PySem.Spec PyProof.Rows L2
theorem x96 {M:Model} {A:Around} {E:Value->Shared->Prop} {s:Shared} {β:Type} {n:Nat} (f:Nat->β->Sem (ForInStep β)) (I:List Nat->β->Shared->Prop) (Q:β->Shared->Prop) (b:β)
  (turn:∀ x x2l b s,I (x::x2l) b s->wpAny M A (f x b) (fun r s'=>match r with | .yield b'=>I x2l b' s' | .done b'=>Q b' s') E s)
  (fin:∀ b s,I [] b s->Q b s) (h:I (List.range' 0 n 1) b s):wpAny M A (forIn [0:n] b f) Q E s:=by
 rw[Std.Legacy.Range.forIn_eq_forIn_range']
 refine wpAny_forIn_list f I Q turn fin _ b ?_
 have e:(Std.Legacy.Range.size [0:n])=n:=by simp[Std.Legacy.Range.size]
 show I (List.range' 0 (Std.Legacy.Range.size [0:n]) 1) b s
 rw[e]
 exact h
open AutoSeq1 (wpAny_loadPart') in
theorem y2k (l:Addr) (items:Array Value) (n:Nat) (dd:Option Addr) (sl:Array (Option Value)) (x:Value) (e:Value->Bool) (j:Nat) (hj:j<items.size) (hit:e items[j]=true) (hno:∀ m (hm:m<items.size),m<j->e items[m]=false) :
  Meets (Builtin.«tuple.index» ⟨[.ref l,x],[]⟩)
   (fun A R s=>s.heap.get? l=some { cls:=.type "tuple",dict:=dd,data:=.seq items n,slots:=sl }/\(∀ y,y∈items->SeqAt.EqAt A.in1 s y x (e y))/\R (.ok (.ret (.int j s.toks))) { s with toks:=s.toks+1 }):=
 .of_wp fun prog w A R s h=>by
  obtain⟨hp,g,d,tk,os⟩:=s; obtain⟨hl,he,h⟩:=h
  wp_walk using wpAny_loadPart' hl,x96 _ (fun x2l b s'=>b.1=none/\s'=⟨hp,g,d,tk,os⟩/\∃ i k,x2l=List.range' i k 1/\i+k=items.size/\i<=j) _
  case turn=>
   rintro y x2l b s' ⟨hb,rfl,i,k,hr,hik,hij⟩
   cases k with
   | zero=>simp at hr
   | succ k=>
    rw[List.range'_succ]at hr
    obtain⟨rfl,rfl⟩:=List.cons.inj hr
    have hlt:y<items.size:=by omega
    have hget:items[y]? = some items[y]:=by simp[hlt]
    rw[hget]
    refine wpAny_bind (he _ (Array.getElem_mem hlt) prog w _ _ ?_)
    by_cases hyj:y=j
    ·subst hyj
     rw[hit]
     wp_walk
     exact⟨_,rfl,h⟩
    ·rw[hno y hlt (by omega)]
     wp_walk
     exact⟨rfl,rfl,y+1,k,rfl,by omega,by omega⟩
  case fin=>
   rintro ⟨b1,b2⟩ s' ⟨hb,rfl,i,k,hr,hik,hij⟩
   cases k with
   | zero=>omega
   | succ k=>simp[List.range'_succ]at hr
  case h=>
   exact⟨rfl,rfl,0,items.size,by simp,by omega,by omega⟩
end L3
namespace L3
open PySem PySem.Spec PyProof.Rows L2
noncomputable def j0q (d:D) (ds:List D):Option Nat:=(x9h ds).findIdx? fun y=>PyData.eqv y (toP d)
noncomputable def z68 (K:PySem.W.Frag):V->List V->Hp->VK->Prop:=fun x xs H Q=>∃ ds d y j,xs=[y]/\Is K H (.tup ds) x/\Is K H d y/\okD (.tup ds)=true/\okD d=true/\j0q d ds=some j/\Q (.int (Int.ofNat j)) H
section
variable {X:Cx} {a b c e:Expr} {es:List Expr} {fa fb fc f:Den} {g:x21} {pos p p1 p2 cpos apos:Pos}
theorem y9l (hu:X.A.units+65<cLine):MtR X "tuple.index" (z68 X.K):=by
 intro pins s σ H x xs v us Q I rx rs ⟨ds,d,y,j,e,⟨w,o,q,F,h1⟩,⟨w',o',q',F',h2⟩,k1,k2,hj,hq⟩
 subst e
 obtain⟨u,rfl,ru⟩:=y4u rs
 obtain⟨as,ra⟩:=h1.reads I rx (y3m k1)
 obtain⟨bs,rb⟩:=h2.reads I ru (y3m k2)
 replace k1:=y48 k1
 replace k2:=y48 k2
 unfold toP at ra k1
 have hc1:PyData.canLayAll0 (x9h ds)=true:=SeqAt.canLay_of_shaped k1
 have hc2:=SeqAt.canLay_of_shaped k2
 cases ra with
 | @tuple a ob vs n _ _ ho hcl hd hrs=>
  obtain⟨cls,dd,data,sl⟩:=ob
  simp only at hcl hd
  subst hcl hd
  have hmap:=SeqAt.readsAll_map _ _ _ hc1 hrs
  have hfi:=List.findIdx?_eq_some_iff_getElem.mp hj
  obtain⟨hjl,hjt,hjf⟩:=hfi
  have hlen:vs.size=(x9h ds).length:=by rw[<- hmap]; simp
  have hat:∀ m (hm:m<vs.size) (hm':m<(x9h ds).length),SeqAt.readOf s.heap vs[m]=(x9h ds)[m]:=fun m hm hm'=>by
   have:(vs.toList.map (SeqAt.readOf s.heap))[m]? = (x9h ds)[m]?:=by rw[hmap]
   simpa [hm,hm']using this
  refine call_meets PySem.F.slot_tuple_index ⟨_,ho,rfl⟩ PySem.F.entry_tuple_index (PySem.F.args_tuple_index_2 _ _)
   (y2k a vs n dd sl u (fun y=>PyData.eqv (SeqAt.readOf s.heap y) (toP d)) j (by omega) (by rw[hat j (by omega) hjl]; simpa using hjt) (fun m hm hmj=>by rw[hat m hm (by omega)]; simpa using hjf m hmj)) ⟨ho,SeqAt.items_eqAt hrs rb hc1 hc2 (room_in_shaped k2 hu),?_⟩
  exact⟨.int (Int.ofNat j),H,I.tok _,⟨_,rfl⟩,hq⟩
@[simp] noncomputable def y6o (fo:Den) (g:x21):Den:=fun ρ=>match fo ρ with
 | some (.tup ds,_,ρ1)=>match g ρ1 with
  | some ([d],ρ2)=>if okD (.tup ds)=true/\okD d=true then match j0q d ds with
   | some j=>some (.int (Int.ofNat j),9,ρ2)
   | none=>none
   else none
  | _=>none
 | _=>none
theorem z1i {k:Nat} (hr:Room k X.A) (ho:PD X a fa) (ha:PDA X [e] g)
  (hbase:attributeBase a "index" X.env (eval a X.env)=eval a X.env:=by rfl)
  (hfew:((backTo cpos (starEach [e] X.env)).all (fun x=>!x.1) && (backToKw cpos (keywordEach [] X.env)).all (fun x=>x.1.isSome)
    && decide ([e].length+([]:List Keyword).length+(if([]:List Keyword).isEmpty then 0 else 1)<30))=true:=by rfl)
  (hline:(apos.endLine == cpos.line)=true:=by rfl) (hs:starEach [e] X.env=(false,eval e X.env)::starEach [] X.env:=by rfl) (hplain:(backTo cpos (starEach [] X.env)).any (·.1)=false:=by rfl) :
  PD X (.Call (.Attribute a "index" apos) [e] [] cpos) (y6o fa g):=
 PE.imp (z66 PySem.F.plainAttrs_tuple PySem.F.slot_tuple_index PySem.F.type_tuple_index (y9l (u65 hr)) ho ha hbase hfew hline hs hplain) fun σ H Q hh0=>by
 obtain⟨ρ,w,t,r',q,ρ',gd,ee,k⟩:=hh0
 unfold y6o at ee
 split at ee
 ·rename_i ds q1 ρ1 h1
  split at ee
  ·rename_i d ρ2 h2
   split at ee
   ·rename_i hok
    split at ee
    ·rename_i j hj
     cases ee
     refine⟨ρ,w,t,_,_,_,gd,h1,fun v H1 w1 F1 g1 go1 r1=>?_⟩
     have r0:=r1.drop (o:=.f) (Nat.le_refl t)
     have gg:=g1.drop (t':=t)
     obtain⟨p0,vs,rfl,hq,rs⟩:=r0.tupAt
     refine⟨?_,ρ1,x1v t w1,t,_,_,gg,h2,fun vs2 H2 w2 g2 go2 r2=>?_⟩
     ·exact .inr (.inl ⟨rfl,.inr ⟨_,hq⟩⟩)
     ·obtain⟨v2,rfl,rv2⟩:=one r2
      have r3:Rep X.K H2 w2 .f 0 (.tup ds) (.ref p0) []:=r0.go0 gg.wl go2.stab
      exact⟨ds,d,v2,j,rfl,⟨_,_,_,_,r3⟩,⟨_,_,_,_,rv2⟩,hok.1,hok.2,hj,k _ H2 w2 [] g2.up ((go1.drop gd.wt).trans go2) (.int _)⟩
    ·cases ee
   ·cases ee
  ·cases ee
 ·cases ee
theorem Good.mut {K:PySem.W.Frag} {ρ:Rho} {σ:St} {H:Hp} {w:Wn} {t i:Nat} {ds:List D} (g:Good K ρ σ H w t) (e:ρ[i]? = some (some (.lst ds,1))) :
  ∃ l vs,σ[i]? = some (some (.ref l))/\H l=some (.lst vs)/\Reps K H w .f 0 ds vs []/\∀ ds' vs',Reps K H w .f 0 ds' vs' []->
   Good K (ρ.set i (some (.lst ds',1))) σ (upd H l (.lst vs')) w t/\Go H w (upd H l (.lst vs')) w:=by
 obtain⟨v,F,h1,h2⟩:=g.slot i _ _ e
 cases h2 with
 | @own _ l vs _ F' hl hw rs ne=>
  have hF:=rs.zero
  subst hF
  refine⟨l,vs,h1,hl,rs.any g.wl,fun ds' vs' r'=>?_⟩
  have nl:∀ a o,w a=some o->o ≠ .s i->a≠l:=fun a o e n z=>by subst z; rw[hw]at e; exact n (Option.some.inj e).symm
  have nn:∀ a,w a=none->a≠l:=fun a e z=>by subst z; rw[hw]at e; cases e
  have st:x6n H w (upd H l (.lst vs')) w:=fun a x h n=>⟨sm (by rw[x0i (nn a n)]; exact h),n⟩
  refine⟨⟨⟨fun a o h=>?_,g.wl.tb.upd rfl (.inr (g.wl l _ hw))⟩,g.ws,g.wt,by rw[List.length_set]; exact g.len,fun j d' q' e'=>?_⟩,⟨st,fun a o h n=>⟨x0i (nl a o h (n i)),h⟩⟩⟩
  ·by_cases z:a=l
   ·subst z; exact⟨_,x0y⟩
   ·obtain⟨us,q⟩:=g.wl a o h
    exact⟨us,by rw[x0i z]; exact q⟩
  ·by_cases hj:i=j
   ·subst hj
    rw[List.getElem?_set_self (List.getElem?_eq_some_iff.mp e).1]at e'
    cases e'
    exact⟨_,_,h1,.own x0y hw (Reps.go g.wl st r' (fun _ z=>nomatch z)) (fun z=>nomatch z)⟩
   ·rw[List.getElem?_set_ne hj]at e'
    obtain⟨v',F',h1',h2'⟩:=g.slot j d' q' e'
    exact⟨v',F',h1',Rep.go g.wl st h2' fun a m=>⟨x0i (nl a _ (h2'.owns a m) (fun z=>hj (by cases z; rfl))),h2'.owns a m⟩⟩
@[simp] noncomputable def y94:Option (Option (D × Nat))->Bool
 | some (some (.lst _,_))=>true
 | _=>false
theorem Good.isL {K:PySem.W.Frag} {ρ:Rho} {σ:St} {H:Hp} {w:Wn} {t i:Nat} (g:Good K ρ σ H w t) (h:y94 ρ[i]? = true):∃ l,σ[i]? = some (some (.ref l))/\∃ vs,SqL K H l vs:=by
 unfold y94 at h
 split at h
 ·rename_i ds q e
  obtain⟨v,F,h1,h2⟩:=g.slot i _ _ e
  obtain⟨p,vs,_,_,rfl,hq,_⟩:=h2.seqL
  exact⟨p,h1,vs,hq⟩
 ·cases h
@[simp] noncomputable def y09 (i:Nat) (g:x21):Den:=fun ρ=>if y94 ρ[i]? = true then match g ρ with
 | some ([d],ρ1)=>match ρ1[i]? with
  | some (some (.lst ds,1))=>if ds.length<=1000 then some (.non,9,ρ1.set i (some (.lst (ds++[d]),1)))else none
  | _=>none
 | _=>none
 else none
theorem y82 {i:Nat} {x:Str} (h:PE X (.Name x p1) (y0f i)) (ha:PDA X [e] g)
  (hbase:attributeBase (.Name x p1) "append" X.env (eval (.Name x p1) X.env)=eval (.Name x p1) X.env:=by rfl)
  (hfew:((backTo cpos (starEach [e] X.env)).all (fun x=>!x.1) && (backToKw cpos (keywordEach [] X.env)).all (fun x=>x.1.isSome)
    && decide ([e].length+([]:List Keyword).length+(if([]:List Keyword).isEmpty then 0 else 1)<30))=true:=by rfl)
  (hline:(apos.endLine == cpos.line)=true:=by rfl) (hs:starEach [e] X.env=(false,eval e X.env)::starEach [] X.env:=by rfl) (hplain:(backTo cpos (starEach [] X.env)).any (·.1)=false:=by rfl) :
  PD X (.Call (.Attribute (.Name x p1) "append" apos) [e] [] cpos) (y09 i g):=
 PE.imp (z66 PySem.F.plainAttrs_list PySem.F.slot_list_append PySem.F.type_list_append y8n h ha hbase hfew hline hs hplain) fun σ H Q hh0=>by
 obtain⟨ρ,w,t,r',q,ρ',gd,ee,k⟩:=hh0
 unfold y09 at ee
 split at ee
 ·rename_i hl
  obtain⟨l,hσ,us,hq⟩:=gd.isL hl
  split at ee
  ·rename_i d ρ1 h1
   split at ee
   ·rename_i ds e1
    split at ee
    ·rename_i hlen
     cases ee
     refine⟨_,hσ,.inl ⟨rfl,us,hq⟩,ρ,w,t,_,_,gd,h1,fun vs H1 w1 g1 go1 r1=>?_⟩
     obtain⟨v,rfl,rv⟩:=one r1
     obtain⟨l',ws,hσ',hH,rs,mk⟩:=g1.mut e1
     rw[hσ]at hσ'
     cases hσ'
     have r2:Reps X.K H1 w1 .f 0 (ds++[d]) (ws++[v]) []:=Reps.snoc (F:=[]) (G:=[]) rv rs (fun _ z=>nomatch z)
     obtain⟨m1,m2⟩:=mk _ _ r2
     refine⟨l,ws,v,rfl,rfl,hH,by rw[<- rs.length]; exact x3g hlen,?_⟩
     exact k .non _ w1 [] m1.up (go1.trans m2) .non
    ·cases ee
   ·cases ee
  ·cases ee
 ·cases ee
theorem Reps.eraseIdx {K:PySem.W.Frag} {H:Hp} {w:Wn}:∀ {ds:List D} {vs:List V} (i:Nat),Reps K H w .f 0 ds vs []->Reps K H w .f 0 (ds.eraseIdx i) (vs.eraseIdx i) []
 | ds,vs,i,r=>by
  generalize hF:([]:List Addr)=F at r
  cases r with
  | nil=>exact .nil
  | @cons _ d v ds vs F G r s _=>
   have h1:F=[]:=r.zero
   have h2:G=[]:=s.zero
   subst h1 h2
   cases i with
   | zero=>exact s
   | succ j=>exact .cons (F:=[]) (G:=[]) r (Reps.eraseIdx j s) (fun _ z=>nomatch z)
@[simp] noncomputable def z71 (i:Nat) (g:x21):Den:=fun ρ=>if y94 ρ[i]? = true then match g ρ with
 | some ([.int n],ρ1)=>match ρ1[i]? with
  | some (some (.lst ds,1))=>if -1000<=n/\n<=1000 then match seqIndex? n ds.length with
   | some j=>match ds[j]? with
    | some d=>some (d,x4o d,ρ1.set i (some (.lst (ds.eraseIdx j),1)))
    | none=>none
   | none=>none
   else none
  | _=>none
 | _=>none
 else none
theorem j05 {i:Nat} {x:Str} (h:PE X (.Name x p1) (y0f i)) (ha:PDA X [e] g)
  (hbase:attributeBase (.Name x p1) "pop" X.env (eval (.Name x p1) X.env)=eval (.Name x p1) X.env:=by rfl)
  (hfew:((backTo cpos (starEach [e] X.env)).all (fun x=>!x.1) && (backToKw cpos (keywordEach [] X.env)).all (fun x=>x.1.isSome)
    && decide ([e].length+([]:List Keyword).length+(if([]:List Keyword).isEmpty then 0 else 1)<30))=true:=by rfl)
  (hline:(apos.endLine == cpos.line)=true:=by rfl) (hs:starEach [e] X.env=(false,eval e X.env)::starEach [] X.env:=by rfl) (hplain:(backTo cpos (starEach [] X.env)).any (·.1)=false:=by rfl) :
  PD X (.Call (.Attribute (.Name x p1) "pop" apos) [e] [] cpos) (z71 i g):=
 PE.imp (z66 PySem.F.plainAttrs_list PySem.F.slot_list_pop PySem.F.type_list_pop z0q h ha hbase hfew hline hs hplain) fun σ H Q hh0=>by
 obtain⟨ρ,w,t,r',q,ρ',gd,ee,k⟩:=hh0
 unfold z71 at ee
 split at ee
 ·rename_i hl
  obtain⟨l,hσ,us,hq⟩:=gd.isL hl
  split at ee
  ·rename_i n ρ1 h1
   split at ee
   ·rename_i ds e1
    split at ee
    ·rename_i hn
     split at ee
     ·rename_i j hj
      split at ee
      ·rename_i d hd
       cases ee
       refine⟨_,hσ,.inl ⟨rfl,us,hq⟩,ρ,w,t,_,_,gd,h1,fun vs H1 w1 g1 go1 r1=>?_⟩
       obtain⟨v,rfl,rv⟩:=one r1
       have hv:=x42 rv
       subst hv
       obtain⟨l',ws,hσ',hH,rs,mk⟩:=g1.mut e1
       rw[hσ]at hσ'
       cases hσ'
       obtain⟨y,hy,ry⟩:=rs.get hd
       obtain⟨m1,m2⟩:=mk _ _ (rs.eraseIdx j)
       refine⟨l,ws,n,j,y,rfl,rfl,hH,by omega,by omega,by rw[<- rs.length]; exact hj,hy,?_⟩
       have ry':Rep X.K _ w1 (.t t) 0 r' y []:=Rep.go g1.wl m2.stab ry (fun _ z=>nomatch z)
       exact k y _ w1 [] m1.up (go1.trans m2) ry'.dep
      ·cases ee
     ·cases ee
    ·cases ee
   ·cases ee
  ·cases ee
 ·cases ee
end
theorem Reps.getQ {K:PySem.W.Frag} {H:Hp} {w:Wn} {o:Ow} {q:Nat}:∀ {ds:List D} {vs:List V} {F:List Addr} {i:Nat} {d:D},Reps K H w o q ds vs F->ds[i]? = some d->∃ v G,vs[i]? = some v/\Rep K H w o q d v G/\∀ a∈G,a∈F
 | _,_,_,_,_,.nil,e=>by simp at e
 | _,_,_,0,_,.cons r _ _,e=>by
  simp at e; subst e; exact⟨_,_,rfl,r,fun a m=>List.mem_append_left _ m⟩
 | _,_,_,i+1,d,.cons _ s _,e=>by
  obtain⟨v,G,h1,h2,h3⟩:=Reps.getQ (i:=i) (d:=d) s (by simpa using e)
  exact⟨v,G,by simpa using h1,h2,fun a m=>List.mem_append_right _ (h3 a m)⟩
theorem Reps.atQ {K:PySem.W.Frag} {H:Hp} {w:Wn} {o:Ow} {q:Nat} {ds:List D} {vs:List V} {F:List Addr} {i:Int} {d:D} (r:Reps K H w o q ds vs F) (h:L2.atI ds i=some d):∃ v G,L2.atI vs i=some v/\Rep K H w o q d v G/\∀ a∈G,a∈F:=by
 unfold L2.atI at h ⊢
 rw[<- r.length]
 cases e:ixN ds.length i with
 | none=>rw[e]at h; cases h
 | some j=>
  rw[e]at h
  exact r.getQ h
@[simp] noncomputable def x1q (n:Nat) (fb:Den):Den:=fun ρ=>match ρ[n]? with
 | some (some _)=>match fb ρ with
  | some (.int i,_,ρ2)=>match ρ2[n]? with
   | some (some (x,q))=>match atD x i with
    | some d=>if d.isL=true/\1<q/\x.isL=true then none else some (d,x4o d,ρ2)
    | none=>none
   | _=>none
  | _=>none
 | _=>none
section
variable {X:Cx} {a b c e:Expr} {es:List Expr} {fa fb fc f:Den} {g:x21} {pos p p1 p2 cpos apos:Pos}
theorem z79 {n:Nat} {x:Str} (h:PE X (.Name x p1) (y0f n)) (hb:PD X b fb) (hs:x41 b:=by exact fun _ _=>rfl):PD X (.Subscript (.Name x p1) b pos) (x1q n fb):=PE.imp (y7v y2z h hb hs) fun σ H Q hh0=>by
 obtain⟨ρ,w,t,r',q,ρ',gd,ee,k⟩:=hh0
 unfold x1q at ee
 split at ee
 ·rename_i z0 e0
  obtain⟨d0,q0⟩:=z0
  obtain⟨v,F,hσ,_⟩:=gd.slot n d0 q0 e0
  split at ee
  ·rename_i i q2 ρ2 h2
   split at ee
   ·rename_i x q e2
    split at ee
    ·rename_i d hd
     split at ee
     ·cases ee
     ·rename_i hn
      cases ee
      refine⟨v,hσ,ρ,w,t,_,_,_,gd,h2,fun y H2 w2 F2 g2 go r2=>?_⟩
      have hy:=x42 r2
      subst hy
      have gg:=g2.drop (t':=t)
      obtain⟨v',F',hσ',rr⟩:=gg.slot n x q e2
      rw[hσ]at hσ'
      cases hσ'
      have fin:∀ u,Rep X.K H2 (x1v t w2) (.t t) 0 r' u []->Q u H2:=fun u ru=>k u H2 (x1v t w2) [] gg.up (go.drop gd.wt) ru.dep
      cases x with
      | lst ds=>
       by_cases hq0:q=0
       ·subst hq0
        obtain⟨p0,vs,rfl,hq,rs⟩:=rr.seqL0
        obtain⟨u,hu,ru⟩:=rs.atI hd
        exact .inl ⟨p0,vs,i,u,rfl,rfl,hq,hu,fin u (ru.any gg.wl)⟩
       ·by_cases hq1:q=1
        ·subst hq1
         cases rr with
         | own h0 _ rs _=>
          have z0:=rs.zero
          subst z0
          obtain⟨u,hu,ru⟩:=rs.atI hd
          exact .inl ⟨_,_,i,u,rfl,rfl,SqL.of h0,hu,fin u (ru.any gg.wl)⟩
        ·obtain⟨p0,vs,q',G,rfl,hq,rs⟩:=rr.seqL
         obtain⟨u,G',hu,ru,_⟩:=rs.atQ hd
         refine .inl ⟨p0,vs,i,u,rfl,rfl,hq,hu,fin u ?_⟩
         cases hL:r'.isL with
         | false=>exact((ru.nolist hL).2 0).any gg.wl
         | true=>exact absurd ⟨hL,by omega,rfl⟩ hn
      | tup ds=>
       obtain⟨p0,vs,rfl,hq,rs⟩:=rr.seqT
       obtain⟨u,hu,ru⟩:=rs.atI hd
       exact .inr (.inl ⟨p0,vs,i,u,rfl,rfl,hq,hu,fin u (ru.any gg.wl)⟩)
      | _=>cases hd
    ·cases ee
   ·cases ee
  ·cases ee
 ·cases ee
@[simp] noncomputable def y4n (fa fb:Den):Den:=fun ρ=>match fa ρ with
 | some (.lst ds,1,ρ1)=>match fb ρ1 with
  | some (.int n,_,ρ2)=>if -1000<=n/\n<=1000/\ds.length*n.toNat<=1000 then some (.lst (List.replicate n.toNat ds).flatten,1,ρ2)else none
  | _=>none
 | _=>none
theorem Reps.app {K:PySem.W.Frag} {H:Hp} {w:Wn} {es:List D} {us:List V} (s:Reps K H w .f 0 es us []):∀ {ds:List D} {vs:List V},Reps K H w .f 0 ds vs []->Reps K H w .f 0 (ds++es) (vs++us) []
 | ds,vs,r=>by
  generalize hF:([]:List Addr)=F at r
  cases r with
  | nil=>rw[<- hF]; exact s
  | @cons _ d v ds vs F G r t _=>
   have h1:F=[]:=r.zero
   have h2:G=[]:=t.zero
   subst h1 h2
   exact .cons (F:=[]) (G:=[]) r (Reps.app s t) (fun _ z=>nomatch z)
theorem Reps.times {K:PySem.W.Frag} {H:Hp} {w:Wn} {ds:List D} {vs:List V} (r:Reps K H w .f 0 ds vs []):∀ n:Nat,Reps K H w .f 0 (List.replicate n ds).flatten (List.replicate n vs).flatten []
 | 0=>.nil
 | n+1=>by
  rw[List.replicate_succ,List.replicate_succ,List.flatten_cons,List.flatten_cons]
  exact Reps.app (Reps.times r n) r
theorem z6g (ha:PD X a fa) (hb:PD X b fb):PD X (.BinOp a .Mult b pos) (y4n fa fb):=PE.imp (y4f z8j ha hb) fun σ H Q hh0=>by
 obtain⟨ρ,w,t,r',q,ρ',gd,ee,k⟩:=hh0
 unfold y4n at ee
 split at ee
 ·rename_i ds ρ1 h1
  split at ee
  ·rename_i n q2 ρ2 h2
   split at ee
   ·rename_i hn
    cases ee
    refine z6i gd h1 h2 fun u u' H2 w2 F1 F2 g2 go r1 r2=>?_
    have hu':=x42 r2
    subst hu'
    cases r1 with
    | @own _ l vs _ F hl hw rs ne=>
     have hF:=rs.zero
     subst hF
     have gg:=g2.drop (t':=t)
     have rs':Reps X.K H2 (x1v t w2) .f 0 ds vs []:=Reps.go g2.wl (fun a x h n=>⟨sm h,x6g n⟩) rs (fun _ z=>nomatch z)
     refine⟨l,n,vs,rfl,rfl,hl,by omega,by omega,?_,fun p hp=>?_⟩
     ·rw[<- rs.length]; exact y01 hn.2.2
     ·obtain⟨a1,a2,a3⟩:=y76 gg hp (rs'.times n.toNat)
      exact k _ _ _ _ a1 ((go.drop gd.wt).trans a2) a3
   ·cases ee
  ·cases ee
 ·cases ee
end
theorem Reps.row {K:PySem.W.Frag} {H:Hp} {w:Wn} {o:Ow} (wl:WL K w H):∀ {rows:List D} {vs:List V} {F:List Addr} {i:Nat} {row:List D},Reps K H w o 1 rows vs F->rows[i]? = some (.lst row)->
  ∃ b ws,vs[i]? = some (.ref b)/\H b=some (.lst ws)/\w b=some o/\b∈F/\Reps K H w .f 0 row ws [] /\
   ∀ row' ws',Reps K H w .f 0 row' ws' []->Reps K (upd H b (.lst ws')) w o 1 (rows.set i (.lst row')) vs F
 | _,_,_,_,_,.nil,e=>by simp at e
 | _,_,_,0,row,.cons r s ne,e=>by
  simp at e
  subst e
  cases r with
  | @own _ b ws _ F' hb hw rs nb=>
   have hF:=rs.zero
   subst hF
   refine⟨b,ws,rfl,hb,hw,by simp,rs.any wl,fun row' ws' r'=>?_⟩
   have nn:∀ a,w a=none->a≠b:=fun a e z=>by subst z; rw[hw]at e; cases e
   have st:x6n H w (upd H b (.lst ws')) w:=fun a x h n=>⟨sm (by rw[x0i (nn a n)]; exact h),n⟩
   refine .cons (.own x0y hw (Reps.go wl st r' (fun _ z=>nomatch z)) (fun z=>nomatch z)) (Reps.go wl st s fun a m=>⟨x0i fun z=>?_,s.owns a m⟩) ne
   subst z
   exact ne a (by simp) m
 | _,_,_,i+1,row,.cons (d:=d) (v:=v) (F:=F) (G:=G) r s ne,e=>by
  obtain⟨b,ws,h1,h2,h3,h4,h5,mk⟩:=Reps.row wl (i:=i) (row:=row) s (by simpa using e)
  refine⟨b,ws,by simpa using h1,h2,h3,List.mem_append_right _ h4,h5,fun row' ws' r'=>?_⟩
  have nn:∀ a,w a=none->a≠b:=fun a e z=>by subst z; rw[h3]at e; cases e
  have st:x6n H w (upd H b (.lst ws')) w:=fun a x h n=>⟨sm (by rw[x0i (nn a n)]; exact h),n⟩
  refine .cons (Rep.go wl st r fun a m=>⟨x0i fun z=>?_,r.owns a m⟩) (mk row' ws' r') ne
  subst z
  exact ne a m h4
theorem Good.mut2 {K:PySem.W.Frag} {ρ:Rho} {σ:St} {H:Hp} {w:Wn} {t i m:Nat} {rows row:List D} (g:Good K ρ σ H w t) (e:ρ[i]? = some (some (.lst rows,2))) (em:rows[m]? = some (.lst row)) :
  ∃ l vs b ws,σ[i]? = some (some (.ref l))/\SqL K H l vs/\vs.length=rows.length/\vs[m]? = some (.ref b)/\H b=some (.lst ws)/\Reps K H w .f 0 row ws []/\∀ row' ws',Reps K H w .f 0 row' ws' []->
   Good K (ρ.set i (some (.lst (rows.set m (.lst row')),2))) σ (upd H b (.lst ws')) w t/\Go H w (upd H b (.lst ws')) w:=by
 obtain⟨v,F,h1,h2⟩:=g.slot i _ _ e
 cases h2 with
 | @own _ l vs _ F' hl hw rs nl=>
  obtain⟨b,ws,b1,b2,b3,b4,b5,mk⟩:=Reps.row g.wl rs em
  have hbl:l≠b:=fun z=>by subst z; exact nl b4
  refine⟨l,vs,b,ws,h1,SqL.of hl,rs.length.symm,b1,b2,b5,fun row' ws' r'=>?_⟩
  have nl':∀ a o,w a=some o->o ≠ .s i->a≠b:=fun a o e n z=>by subst z; rw[b3]at e; exact n (Option.some.inj e).symm
  have nn:∀ a,w a=none->a≠b:=fun a e z=>by subst z; rw[b3]at e; cases e
  have st:x6n H w (upd H b (.lst ws')) w:=fun a x h n=>⟨sm (by rw[x0i (nn a n)]; exact h),n⟩
  refine⟨⟨⟨fun a o h=>?_,g.wl.tb.upd rfl (.inr (g.wl b _ b3))⟩,g.ws,g.wt,by rw[List.length_set]; exact g.len,fun j d' q' e'=>?_⟩,⟨st,fun a o h n=>⟨x0i (nl' a o h (n i)),h⟩⟩⟩
  ·by_cases z:a=b
   ·subst z; exact⟨_,x0y⟩
   ·obtain⟨us,q⟩:=g.wl a o h
    exact⟨us,by rw[x0i z]; exact q⟩
  ·by_cases hj:i=j
   ·subst hj
    rw[List.getElem?_set_self (List.getElem?_eq_some_iff.mp e).1]at e'
    cases e'
    exact⟨_,_,h1,.own (by rw[x0i hbl]; exact hl) hw (mk row' ws' r') nl⟩
   ·rw[List.getElem?_set_ne hj]at e'
    obtain⟨v',F',h1',h2'⟩:=g.slot j d' q' e'
    exact⟨v',F',h1',Rep.go g.wl st h2' fun a m=>⟨x0i (nl' a _ (h2'.owns a m) (fun z=>hj (by cases z; rfl))),h2'.owns a m⟩⟩
theorem Reps.set0 {K:PySem.W.Frag} {H:Hp} {w:Wn} {d:D} {v:V} (rv:Rep K H w .f 0 d v []):∀ {ds:List D} {vs:List V} (i:Nat),Reps K H w .f 0 ds vs []->Reps K H w .f 0 (ds.set i d) (vs.set i v) []
 | ds,vs,i,r=>by
  generalize hF:([]:List Addr)=F at r
  cases r with
  | nil=>rw[<- hF]; exact .nil
  | @cons _ d' v' ds vs F G r s _=>
   have h1:F=[]:=r.zero
   have h2:G=[]:=s.zero
   subst h1 h2
   cases i with
   | zero=>exact .cons (F:=[]) (G:=[]) rv s (fun _ z=>nomatch z)
   | succ j=>exact .cons (F:=[]) (G:=[]) r (Reps.set0 rv j s) (fun _ z=>nomatch z)
noncomputable abbrev y0q:=Rho->Option Int
noncomputable def tQ (K:PySem.W.Frag) (f:y0q):TE:=fun σ H Q=>∃ ρ w t i,Good K ρ σ H w t/\f ρ=some i/\Q (.int i) H
noncomputable abbrev PQ (X:Cx) (e:Expr) (f:y0q):Prop:=PE X e (tQ X.K f)
@[simp] noncomputable def z3c (n:Nat):y0q:=fun ρ=>match ρ[n]? with
 | some (some (.int i,_))=>some i
 | _=>none
@[simp] noncomputable def qIx (n:Nat) (f:y0q):y0q:=fun ρ=>match f ρ with
 | some i=>match ρ[n]? with
  | some (some (x,_))=>match atD x i with
   | some (.int j)=>some j
   | _=>none
  | _=>none
 | none=>none
section
variable {X:Cx} {a b c e:Expr} {es:List Expr} {fa fb fc f:Den} {qa qb:y0q} {g:x21} {pos p p1 p2 cpos apos:Pos}
theorem z98 {n:Nat} {x:Str} (h:PE X (.Name x p1) (y0f n)):PQ X (.Name x p1) (z3c n):=PE.imp h fun σ H Q hh0=>by
 obtain⟨ρ,w,t,i,gd,ee,k⟩:=hh0
 unfold z3c at ee
 split at ee
 ·rename_i j q e0
  cases ee
  obtain⟨v,F,h1,h2⟩:=gd.slot n _ _ e0
  rw[x42 h2]at h1
  exact⟨_,h1,k⟩
 ·cases ee
theorem j1n {n:Nat} {x:Str} (h:PE X (.Name x p1) (y0f n)) (hb:PQ X b qb) (hs:x41 b:=by exact fun _ _=>rfl):PQ X (.Subscript (.Name x p1) b pos) (qIx n qb):=PE.imp (y7v y2z h hb hs) fun σ H Q hh0=>by
 obtain⟨ρ,w,t,i,gd,ee,k⟩:=hh0
 unfold qIx at ee
 split at ee
 ·rename_i i0 h0
  split at ee
  ·rename_i x q e0
   split at ee
   ·rename_i j hj
    cases ee
    obtain⟨v,F,h1,h2⟩:=gd.slot n _ _ e0
    refine⟨v,h1,ρ,w,t,i0,gd,h0,?_⟩
    cases x with
    | lst ds=>
     obtain⟨p0,vs,q',G,rfl,hq,rs⟩:=h2.seqL
     obtain⟨u,G',hu,ru,_⟩:=rs.atQ hj
     rw[x42 ru]at hu
     exact .inl ⟨p0,vs,i0,_,rfl,rfl,hq,hu,k⟩
    | tup ds=>
     obtain⟨p0,vs,rfl,hq,rs⟩:=h2.seqT
     obtain⟨u,hu,ru⟩:=rs.atI hj
     rw[x42 ru]at hu
     exact .inr (.inl ⟨p0,vs,i0,_,rfl,rfl,hq,hu,k⟩)
    | _=>cases hj
   ·cases ee
  ·cases ee
 ·cases ee
@[simp] noncomputable def y79 (n:Nat) (qi qj:y0q) (fe:Den):x1l:=fun ρ=>match fe ρ with
 | some (d,_,ρ1)=>match qi ρ1,qj ρ1,ρ1[n]? with
  | some i,some j,some (some (.lst rows,2))=>match ixN rows.length i with
   | some m=>match rows[m]? with
    | some (.lst row)=>match ixN row.length j with
     | some k=>some (.nx (ρ1.set n (some (.lst (rows.set m (.lst (row.set k d))),2))))
     | none=>none
    | _=>none
   | none=>none
  | _,_,_=>none
 | none=>none
theorem z2w {n:Nat} {x:Str} (h:PE X (.Name x p1) (y0f n)) (ha:PQ X a qa) (hb:PQ X b qb) (he:PD X e f) (hi:x41 a:=by exact fun _ _=>rfl)
  (hasg:∀ v,assign (.Subscript (.Subscript (.Name x p1) a p2) b p) X.env v=(do
    let ov <- holding [v] (eval (.Subscript (.Name x p1) a p2) X.env)
    let iv <- holding [v,ov] (eval b X.env)
    standAt p
    holding [v,ov,iv] (setItem ov iv v)
    release [v,ov,iv] []):=by exact fun _=>rfl)
  (hs:swapsWithSole [.Subscript (.Subscript (.Name x p1) a p2) b p] e pos.line X.env=pure false:=by rfl) :
  PDS X (.Assign [.Subscript (.Subscript (.Name x p1) a p2) b p] e pos) (y79 n qa qb f):=by
 refine PS.imp (z3o he (z8x (y7v y2z h ha hi) hb z0y hasg) hs) fun D σ H ⟨ρ,w,o,gd,ee,k⟩=>?_
 unfold y79 at ee
 split at ee
 ·rename_i d q0 ρ1 h1
  split at ee
  ·rename_i i j rows hi hj er
   split at ee
   ·rename_i m hm
    split at ee
    ·rename_i row erow
     split at ee
     ·rename_i kk hk
      cases ee
      refine⟨ρ,w,0,d,q0,ρ1,gd,h1,fun v H1 w1 F1 g1 go1 r1=>?_⟩
      have rv:=r1.drop (o:=.f) (Nat.le_refl 0)
      have gg:=g1.drop (t':=0)
      obtain⟨l,vs,b0,ws,m1,m2,m3,m4,m5,m6,mk⟩:=gg.mut2 er erow
      refine⟨_,m1,ρ1,x1v 0 w1,0,i,gg,hi,.inl ⟨l,vs,i,.ref b0,rfl,rfl,m2,?_,ρ1,x1v 0 w1,0,j,gg,hj,b0,ws,j,kk,rfl,rfl,m5,?_,?_⟩⟩
      ·unfold atI; rw[m3,hm]; exact m4
      ·rw[<- m6.length]; exact hk
      ·obtain⟨n1,n2⟩:=mk _ _ (m6.set0 rv kk)
       exact k _ _ _ rfl n1 ((go1.drop gd.wt).trans n2)
     ·cases ee
    ·cases ee
   ·cases ee
  ·cases ee
 ·cases ee
end
@[simp] noncomputable def y9n (fa fb:Den):Den:=fun ρ=>match fa ρ with
 | some (.bl b,_,ρ1)=>if b=true then fb ρ1 else some (.bl false,9,ρ1)
 | _=>none
@[simp] noncomputable def j0m (fa:Den):Den:=fun ρ=>match fa ρ with
 | some (.bl b,_,ρ1)=>some (.bl (!b),9,ρ1)
 | _=>none
section
variable {X:Cx} {a b c e:Expr} {es x2l:List Expr} {fa fb fc f:Den} {g:x21} {pos p p1 p2 cpos apos:Pos}
theorem j00 {op} (h:PD X a fa):PD X (.BoolOp op [a] pos) fa:=z94 h
theorem z7e (ha:PD X a fa) (hb:PD X (.BoolOp .And (b::x2l) pos) fb):PD X (.BoolOp .And (a::b::x2l) pos) (y9n fa fb):=PE.imp (j0b ha hb) fun σ H Q hh0=>by
 obtain⟨ρ,w,t,r',q,ρ',gd,ee,k⟩:=hh0
 unfold y9n at ee
 split at ee
 ·rename_i b' q1 ρ1 h1
  refine⟨ρ,w,t,_,_,_,gd,h1,fun v H1 w1 F1 g1 go1 r1=>?_⟩
  cases r1
  refine⟨b',rfl,?_⟩
  split at ee
  ·rename_i hb; rw[if_pos hb]
   exact⟨ρ1,x1v t w1,t,r',q,ρ',g1.drop,ee,fun v H2 w2 F g2 go2=>k v H2 w2 F g2 ((go1.drop gd.wt).trans go2)⟩
  ·rename_i hb; rw[if_neg hb]
   cases ee
   exact k _ H1 w1 [] g1 go1 (.bl false)
 ·cases ee
theorem z90 (ha:PD X a fa):PD X (.UnaryOp .Not a pos) (j0m fa):=PE.imp (z7q ha) fun σ H Q hh0=>by
 obtain⟨ρ,w,t,r',q,ρ',gd,ee,k⟩:=hh0
 unfold j0m at ee
 split at ee
 ·rename_i b' q1 ρ1 h1
  cases ee
  refine⟨ρ,w,t,_,_,_,gd,h1,fun v H1 w1 F1 g1 go1 r1=>?_⟩
  cases r1
  exact⟨b',rfl,k _ H1 w1 [] g1 go1 (.bl _)⟩
 ·cases ee
end
section
variable {es x2l:List Expr} {a b c e:Expr} {pos:Pos} {env:Env}
theorem x11 {op}:starEach (.BinOp a op b pos::x2l) env=(false,eval (.BinOp a op b pos) env)::starEach x2l env:=by simp only[starEach]
theorem z0e:starEach (.IfExp a b c pos::x2l) env=(false,eval (.IfExp a b c pos) env)::starEach x2l env:=by simp only[starEach]
theorem x19 {g sc}:starEach (.ListComp a g sc pos::x2l) env=(false,eval (.ListComp a g sc pos) env)::starEach x2l env:=by simp only[starEach]
theorem x0m {k}:starEach (.Call a es k pos::x2l) env=(false,eval (.Call a es k pos) env)::starEach x2l env:=by simp only[starEach]
theorem x09 {v k}:starEach (.Constant v k pos::x2l) env=(false,eval (.Constant v k pos) env)::starEach x2l env:=by simp only[starEach]
theorem x12:starEach (.Subscript a b pos::x2l) env=(false,eval (.Subscript a b pos) env)::starEach x2l env:=by simp only[starEach]
theorem x04 {x}:starEach (.Name x pos::x2l) env=(false,eval (.Name x pos) env)::starEach x2l env:=by simp only[starEach]
theorem y02:starEach (.List es pos::x2l) env=(false,eval (.List es pos) env)::starEach x2l env:=by simp only[starEach]
theorem x7l {k}:starEach (.Tuple es k pos::x2l) env=(false,eval (.Tuple es k pos) env)::starEach x2l env:=by simp only[starEach]
theorem y3w {ar sc}:starEach (.Lambda ar b sc pos::x2l) env=(false,eval (.Lambda ar b sc pos) env)::starEach x2l env:=by simp only[starEach]
end
noncomputable def At (K:PySem.W.Frag) (mg:Str->Option Value) (x:Str) (st:Stmt) (ps:List Str):Prop:=
 ∃ f fd,Fun K x x st f fd/\mg x=some (.ref f)/\y31 K fd ps []
noncomputable def Cal (P:Program) (w:World) (K:PySem.W.Frag) (mg:Str->Option Value) (base:Heap) (k:Nat) (x:Str) (n:Nat) (F:List D->Option (D × Nat)):Prop:=
 ∃ f fd ps,FnOk P w K mg base CX0 k f fd ps (spD K n F)/\mg x=some (.ref f)/\PySem.W.keepIn K (.ref f)=true/\y31 K fd ps []
theorem Cal.mk {P:Program} {w:World} {K:PySem.W.Frag} {mg:Str->Option Value} {base:Heap} {k:Nat} {x:Str} {st:Stmt} {N ps:List Str} {body:x1l} (a:At K mg x st ps) (S:FnScope N ps (x0e st))
  (h:∀ (f:Addr) (cdv:Value) (A:Around) (outer:List Env) (s:Shared) (H:Hp) (E:XK),Room k (A.deeper (envOfC x (x0e st) s.heap.objs.size f cdv))->y7l (y26 CX0 P w K mg base N x (x0e st) f cdv A outer s H E).nox (x35 st) body) :
  Cal P w K mg base (k+1) x ps.length (fnD N.length body):=by
 obtain⟨f,fd,F,m,b⟩:=a
 exact⟨f,fd,ps,z7d F S (h f),m,F.kp,b⟩
section
variable {X:Cx} {a b c e:Expr} {es x2l:List Expr} {fa fb fc f:Den} {g:x21} {pos p p1 p2 cpos apos:Pos}
theorem z07 {j k n:Nat} {x:Str} {F:List D->Option (D × Nat)} (C:Cal X.prog X.w X.K X.mg X.base k x n F) (hr:Room j X.A) (hk:k<=j) (ha:PDA X (e::es) g)
  (hg:Gl X x:=by rfl) (hdb:(x == ("__debug__":Str))=false:=by decide) (he:starEach (e::es) X.env=(false,eval e X.env)::starEach es X.env:=by rfl) (hpl:(backTo pos (starEach es X.env)).any (·.1)=false:=by rfl) :
  PD X (.Call (.Name x p) (e::es) [] pos) (x0p F n g):=by
 obtain⟨f,fd,ps,G,hm,hkp,hb⟩:=C
 exact z2q G (hr.mono hk) hm hkp hb j1a ha hg hdb he hpl
end
theorem z74 {K:PySem.W.Frag} {F:List D->Option (D × Nat)} (h:∀ ns:List Int,ns.length<=63->∃ q,F [.lst (ns.map D.int)]=some (.bl true,q)) {H:Hp} {a:Addr} {ns:List Int} (hl:ns.length<=63) (hS:SqL K H a (ns.map V.int)) (tb:TB K H) {E:XK} :
  spD K 1 F [.ref a] H (fun v _=>v=.bl true) E:=by
 obtain⟨q,e⟩:=h ns hl
 have r:Rep K H (fun _=>none) .f 0 (.lst (ns.map D.int)) (.ref a) []:=by
  rcases SqL.cases hS with z | z
  ·exact .shr z rfl (x89 ns)
  ·exact .kl z (x89 ns)
 exact⟨rfl,[.lst (ns.map D.int)],fun _=>none,.bl true,q,(fun a o z=>nomatch z),⟨(fun a o z=>nomatch z),tb⟩,.cons (F:=[]) (G:=[]) r .nil (fun _ z=>nomatch z),e,fun v H' w' Fo _ _ rr=>by cases rr; rfl⟩
theorem z9d {P:Program} {w:World} {K:PySem.W.Frag} {mg:Str->Option Value} {base:Heap} {k:Nat} {x:Str} {st:Stmt} {N ps:List Str} {body:x1l} {f:Addr} {fd:FuncData} (F:Fun K x x st f fd) (S:FnScope N ps (x0e st))
  (h:∀ (f:Addr) (cdv:Value) (A:Around) (outer:List Env) (s:Shared) (H:Hp) (E:XK),Room k (A.deeper (envOfC x (x0e st) s.heap.objs.size f cdv))->y7l (y26 CX0 P w K mg base N x (x0e st) f cdv A outer s H E).nox (x35 st) body) :
  FnOk P w K mg base CX0 (k+1) f fd ps (spD K ps.length (fnD N.length body)):=z7d F S (h f)
section
variable {prog:Program} {w:World} {A:Around} {E:Value->Shared->Prop} {s:Shared}
theorem x6d {j p:Addr} {n:Nat} {vs:Array Value} {v:Value} {Q:Value->Shared->Prop} (a:s.heap.IsTupleIter j p n) (b:s.heap.IsTuple p vs) (c:vs[n]? = some v)
  (k:∀ g:Heap,g.IsTupleIter j p (n+1)->Heap.SameBut j s.heap g->Q v { s with heap:=g }):wpAny (model prog w) A (Builtin.SmallTypes.nextOf (.ref j)) Q E s:=by
 obtain⟨oj,ej,kj,dj⟩:=id a
 obtain⟨op,ep,_,mp,dp⟩:=b
 unfold Builtin.SmallTypes.nextOf
 refine wpAny_bind (wpAny_callSpecial?_slot (name:=Str.ofString "__next__") a.typeIs F.slot_tuple_iterator_next (wpAny_call_entry F.slot_tuple_iterator_next a.typeIs F.entry_tuple_iterator_next ?_ (F.args_tuple_iterator_next_1 _)))
 show wpAny _ _ (field (.ref j) 0 >>= _) _ _ s
 refine wpAny_bind (wpAny_field ej dj (x:=.ref p) rfl ?_)
 show wpAny _ _ (if(Value.ref p == Value.none)=true then _ else _) _ _ s
 rw[if_neg (show ¬ ((Value.ref p == Value.none)=true)from Bool.false_ne_true)]
 show wpAny _ _ (field (.ref j) 1 >>= _) _ _ s
 refine wpAny_bind (wpAny_field ej dj (x:=.int n 0) rfl ?_)
 show wpAny _ _ (seqItems? (.ref p) >>= _) _ _ s
 refine wpAny_bind (wpAny_seqItems ep dp ?_)
 simp only[Int.toNat_natCast,c]
 refine wpAny_bind (wpAny_setField ej dj (by simp) (wpAny_pure ⟨v,rfl,wpAny_pure (k _ ⟨_,Heap.get?_update_self _ ej (Obj.isFreed_of_fields (Obj.data_mapFields dj _)),(Obj.cls_mapFields ..).trans kj,?_⟩ (Heap.SameBut.update ..))⟩))
 rw[Obj.data_mapFields dj]
 simp[rawInt]
theorem y0e {j p:Addr} {n:Nat} {vs:Array Value} {Q:Value->Shared->Prop} (hh:A.handled=none) (a:s.heap.IsTupleIter j p n) (b:s.heap.IsTuple p vs) (c:vs[n]? = none)
  (k:∀ (g:Heap) x,Heap.ExtBut j s.heap g->(∃ o,g.get? x=some o/\o.cls=.type "StopIteration")->E (.ref x) { s with heap:=g }):wpAny (model prog w) A (Builtin.SmallTypes.nextOf (.ref j)) Q E s:=by
 obtain⟨oj,ej,kj,dj⟩:=id a
 obtain⟨op,ep,_,mp,dp⟩:=b
 unfold Builtin.SmallTypes.nextOf
 refine wpAny_bind (wpAny_callSpecial?_slot (name:=Str.ofString "__next__") a.typeIs F.slot_tuple_iterator_next (wpAny_call_entry F.slot_tuple_iterator_next a.typeIs F.entry_tuple_iterator_next ?_ (F.args_tuple_iterator_next_1 _)))
 show wpAny _ _ (field (.ref j) 0 >>= _) _ _ s
 refine wpAny_bind (wpAny_field ej dj (x:=.ref p) rfl ?_)
 show wpAny _ _ (if(Value.ref p == Value.none)=true then _ else _) _ _ s
 rw[if_neg (show ¬ ((Value.ref p == Value.none)=true)from Bool.false_ne_true)]
 show wpAny _ _ (field (.ref j) 1 >>= _) _ _ s
 refine wpAny_bind (wpAny_field ej dj (x:=.int n 0) rfl ?_)
 show wpAny _ _ (seqItems? (.ref p) >>= _) _ _ s
 refine wpAny_bind (wpAny_seqItems ep dp ?_)
 simp only[Int.toNat_natCast,c]
 refine wpAny_bind (wpAny_rule (wpAny_bind (wpAny_setField ej dj (by simp) ?_)))
 show wpAny _ _ (newExc (.type "StopIteration") [] >>= _) _ _ _; refine wpAny_bind ?_; simp only[newExc,newTuple]
 refine wpAny_bind (wpAny_newObj_type ?_ (by size_fits)); refine wpAny_bind (m:=firstArgMember _ _) (wpAny_of_eq (a:=Value.none) (by first | rfl | (simp only[firstArgMember]; rfl)) (wpAny_newObj_type ?_ (by size_fits)))
 simp only[raiseNew]
 refine wpAny_bind (wpAny_handled ?_); first | rw[show A.in1.handled=none from hh] | rw[hh]
 exact wpAny_bind (wpAny_pure (wpAny_throw (k _ _ (((Heap.SameBut.update ..).extBut.push _).push _) ⟨_,Heap.get?_push_size _ rfl,rfl⟩)))
structure ZT (h:Heap) (z u o i1 i2 p1 p2:Addr) (f0:Value) (k1 k2:Nat):Prop where
 hz:IsZip h z u o f0
 hu:IsPair h u (.ref i1) (.ref i2)
 ho:∃ a b,IsPair h o a b
 h1:h.IsTupleIter i1 p1 k1
 h2:h.IsTupleIter i2 p2 k2
noncomputable def zfp (z u o i1 i2:Addr):List Addr:=[z,u,o,i1,i2]
structure ZA (z u o i1 i2:Addr):Prop where
 nd:(zfp z u o i1 i2).Nodup
theorem ZA.ne {z u o i1 i2:Addr} (d:ZA z u o i1 i2):z≠u/\z≠o/\z≠i1/\z≠i2/\u≠o/\u≠i1/\u≠i2/\o≠i1/\o≠i2/\i1≠i2:=by
 have:=d.nd
 simp only[zfp,List.nodup_cons,List.mem_cons,List.not_mem_nil,or_false,not_or]at this
 obtain⟨⟨a,b,c,d⟩,⟨e,f,g⟩,⟨h,i⟩,j,_⟩:=this
 exact⟨a,b,c,d,e,f,g,h,i,j⟩
theorem y28 {g:Heap} {o:Addr} {a b x:Value} {n:Nat} {Q:Unit->Shared->Prop} (e:IsPair s.heap o a b)
  (k:∀ g:Heap,g.get? o=some { cls:=.type "tuple",data:=.seq ((#[a,b]:Array Value).setIfInBounds n x) }->Heap.SameBut o s.heap g->Q () { s with heap:=g }):wpAny (model prog w) A (updateSeq o (·.setIfInBounds n x)) Q E s:=by
 refine wpAny_updateSeq e rfl (k _ ?_ (Heap.SameBut.update ..))
 rw[Heap.get?_update_self _ e rfl]; simp[Obj.mapSeq]
theorem y9y {z u o i1 i2 p1 p2:Addr} {n:Nat} {xs ys:Array Value} {x y:Value} {Q:Option Value->Shared->Prop} (d:ZA z u o i1 i2) (Z:ZT s.heap z u o i1 i2 p1 p2 .none n n) (t1:s.heap.IsTuple p1 xs) (t2:s.heap.IsTuple p2 ys)
  (n1:p1 ∉ zfp z u o i1 i2) (n2:p2 ∉ zfp z u o i1 i2) (ex:xs[n]? = some x) (ey:ys[n]? = some y)
  (k:∀ g:Heap,ZT g z u o i1 i2 p1 p2 (rawInt s.heap.objs.size) (n+1) (n+1)->IsPair g s.heap.objs.size x y->(∀ c q,c ∉ zfp z u o i1 i2->s.heap.get? c=some q->g.get? c=some q)->Q (some (.ref s.heap.objs.size)) { s with heap:=g }) :
  wpAny (model prog w) A (pyNext (.ref z)) Q E s:=by
 obtain⟨zu,zo,z1,z2,uo,u1,u2,o1,o2,i12⟩:=d.ne
 obtain⟨hz,hu,⟨a,b,ho⟩,h1,h2⟩:=Z
 have nz:∀ p,p ∉ zfp z u o i1 i2->p≠z/\p≠o/\p≠i1/\p≠i2:=fun p h=>by
  simp only[zfp,List.mem_cons,List.not_mem_nil,or_false,not_or]at h
  exact⟨h.1,h.2.2.1,h.2.2.2.1,h.2.2.2.2⟩
 obtain⟨az,ao,a1,a2⟩:=nz p1 n1
 obtain⟨bz,bo,b1,b2⟩:=nz p2 n2
 have ty:s.TypeIs (.ref z) "zip":=⟨_,hz,rfl⟩
 unfold pyNext
 refine wpAny_bind (wpAny_attempt (wpAny_callSpecial?_slot (name:=Str.ofString "__next__") ty F.slot_zip_next (wpAny_call_entry F.slot_zip_next ty F.entry_zip_next ?_ (F.args_zip_next_1 _))))
 show wpAny _ _ (field (.ref z) 2 >>= _) _ _ _; refine wpAny_bind (wpAny_field hz rfl (x:=.bool false) rfl ?_)
 show wpAny _ _ (field (.ref z) 3 >>= _) _ _ _; refine wpAny_bind (wpAny_field hz rfl (x:=.ref u) rfl (wpAny_bind (wpAny_seqItems hu rfl ?_)))
 show wpAny _ _ (Builtin.SmallTypes.ownedTupleIsFree (.ref z) >>= _) _ _ _; refine wpAny_bind ?_; unfold Builtin.SmallTypes.ownedTupleIsFree
 refine wpAny_bind (wpAny_field hz rfl (x:=.none) rfl (wpAny_pure ?_)); simp only[if_true]
 refine wpAny_bind (wpAny_rule (wpAny_bind (wpAny_field hz rfl (x:=.ref o) rfl (wpAny_bind (wpAny_setField_rec hz (by simp) fun g1 e1 b1'=>?_)))))
 replace e1:IsZip g1 z u o .ellipsis:=e1
 refine wpAny_bind ?_; simp only[List.zipIdx_cons,List.zipIdx_nil,List.forIn_cons,List.forIn_nil]
 -- the first
 refine wpAny_bind (wpAny_bind (wpAny_onRaise ?_)); show wpAny _ _ (Builtin.SmallTypes.nextOf (.ref i1) >>= _) _ _ _
 refine wpAny_bind (x6d (h1.extBut b1'.extBut (Ne.symm z1)) (t1.extBut b1'.extBut az) ex fun g2 e2 c2=>wpAny_pure ?_)
 have q2:IsPair g2 o a b:=c2.extBut _ _ o1 (b1'.extBut _ _ (Ne.symm zo) ho)
 refine wpAny_bind (wpAny_seqItems q2 rfl (wpAny_bind (y28 (g:=g2) q2 fun g3 e3 c3=>wpAny_bind (wpAny_letGo (wpAny_pure ?_)))))
 replace e3:IsPair g3 o x b:=e3
 -- the second
 refine wpAny_bind (wpAny_bind (wpAny_onRaise ?_)); show wpAny _ _ (Builtin.SmallTypes.nextOf (.ref i2) >>= _) _ _ _
 refine wpAny_bind (x6d (((h2.extBut b1'.extBut (Ne.symm z2)).extBut c2.extBut (Ne.symm i12)).extBut c3.extBut (Ne.symm o2)) (((t2.extBut b1'.extBut bz).extBut c2.extBut b1).extBut c3.extBut bo) ey fun g4 e4 c4=>wpAny_pure ?_)
 have q4:IsPair g4 o x b:=c4.extBut _ _ o2 e3
 refine wpAny_bind (wpAny_seqItems q4 rfl (wpAny_bind (y28 (g:=g4) q4 fun g5 e5 c5=>wpAny_bind (wpAny_letGo (wpAny_pure (wpAny_pure ?_))))))
 replace e5:IsPair g5 o x y:=e5
 refine wpAny_bind (wpAny_seqItems e5 rfl (wpAny_bind (wpAny_newTuple ?_)))
 have sz:g5.objs.size=s.heap.objs.size:=by rw[c5.1,c4.1,c3.1,c2.1,b1'.1]
 have z5:IsZip g5 z u o .ellipsis:=c5.extBut _ _ zo (c4.extBut _ _ z2 (c3.extBut _ _ zo (c2.extBut _ _ z1 e1)))
 have kp:∀ c q,c≠z->c≠o->c≠i1->c≠i2->s.heap.get? c=some q->g5.get? c=some q:=fun c q x1 x2 x3 x4 e=>c5.extBut _ _ x2 (c4.extBut _ _ x4 (c3.extBut _ _ x2 (c2.extBut _ _ x3 (b1'.extBut _ _ x1 e))))
 have w1:g5.IsTupleIter i1 p1 (n+1):=((e2.extBut c3.extBut (Ne.symm o1)).extBut c4.extBut i12).extBut c5.extBut (Ne.symm o1)
 have w2:g5.IsTupleIter i2 p2 (n+1):=e4.extBut c5.extBut (Ne.symm o2)
 have zl:z<g5.objs.size:=Heap.lt_size z5
 show wpAny _ _ (Builtin.SmallTypes.ownedTupleHandOut (.ref z) (.ref g5.objs.size) >>= _) _ _ _; refine wpAny_bind ?_; unfold Builtin.SmallTypes.ownedTupleHandOut
 have z6:IsZip (g5.push { cls:=.type "tuple",data:=.seq #[x,y] }) z u o .ellipsis:=Heap.get?_push_of_some _ z5
 refine wpAny_bind (wpAny_setField_rec z6 (by simp) fun g7 e7 c7=>?_)
 replace e7:IsZip g7 z u o (rawInt g5.objs.size):=e7
 refine wpAny_setField_rec e7 (by simp) fun g8 e8 c8=>?_
 replace e8:IsZip g8 z u o (rawInt g5.objs.size):=e8
 have up:∀ c q,c≠z->g5.get? c=some q->g8.get? c=some q:=fun c q h e=>c8.extBut _ _ h (c7.extBut _ _ h (Heap.get?_push_of_some _ e))
 have nw:IsPair g8 g5.objs.size x y:=c8.extBut _ _ (Nat.ne_of_gt zl) (c7.extBut _ _ (Nat.ne_of_gt zl) (Heap.get?_push_size _ rfl))
 rw[sz]at e8 nw
 refine wpAny_pure ⟨_,rfl,wpAny_pure ?_⟩
 show Q (some (.ref g5.objs.size)) _
 rw[sz]
 refine k g8 ⟨e8,up _ _ (Ne.symm zu) (kp _ _ (Ne.symm zu) uo u1 u2 hu),⟨x,y,up _ _ (Ne.symm zo) e5⟩,w1.at fun q e=>up _ q (Ne.symm z1) e,w2.at fun q e=>up _ q (Ne.symm z2) e⟩ nw fun c q h e=>?_
 obtain⟨y1,y2,y3,y4⟩:=nz c h
 exact up c q y1 (kp c q y1 y2 y3 y4 e)
theorem z28 {z u o i1 i2 p1 p2:Addr} {n:Nat} {xs ys:Array Value} {Q:Option Value->Shared->Prop} (hh:A.handled=none) (d:ZA z u o i1 i2) (Z:ZT s.heap z u o i1 i2 p1 p2 .none n n) (t1:s.heap.IsTuple p1 xs) (t2:s.heap.IsTuple p2 ys)
  (n1:p1 ∉ zfp z u o i1 i2) (n2:p2 ∉ zfp z u o i1 i2) (en:xs[n]? = none\/ys[n]? = none)
  (k:∀ g:Heap,(∀ c q,c ∉ zfp z u o i1 i2->s.heap.get? c=some q->g.get? c=some q)->Q none { s with heap:=g }) :
  wpAny (model prog w) A (pyNext (.ref z)) Q E s:=by
 obtain⟨zu,zo,z1,z2,uo,u1,u2,o1,o2,i12⟩:=d.ne
 obtain⟨hz,hu,⟨a,b,ho⟩,h1,h2⟩:=Z
 have nz:∀ p,p ∉ zfp z u o i1 i2->p≠z/\p≠o/\p≠i1/\p≠i2:=fun p h=>by
  simp only[zfp,List.mem_cons,List.not_mem_nil,or_false,not_or]at h
  exact⟨h.1,h.2.2.1,h.2.2.2.1,h.2.2.2.2⟩
 obtain⟨az,ao,a1,a2⟩:=nz p1 n1
 obtain⟨bz,bo,b1,b2⟩:=nz p2 n2
 have ty:s.TypeIs (.ref z) "zip":=⟨_,hz,rfl⟩
 unfold pyNext
 refine wpAny_bind (wpAny_attempt (wpAny_callSpecial?_slot (name:=Str.ofString "__next__") ty F.slot_zip_next (wpAny_call_entry F.slot_zip_next ty F.entry_zip_next ?_ (F.args_zip_next_1 _))))
 show wpAny _ _ (field (.ref z) 2 >>= _) _ _ _; refine wpAny_bind (wpAny_field hz rfl (x:=.bool false) rfl ?_)
 show wpAny _ _ (field (.ref z) 3 >>= _) _ _ _; refine wpAny_bind (wpAny_field hz rfl (x:=.ref u) rfl (wpAny_bind (wpAny_seqItems hu rfl ?_)))
 show wpAny _ _ (Builtin.SmallTypes.ownedTupleIsFree (.ref z) >>= _) _ _ _; refine wpAny_bind ?_; unfold Builtin.SmallTypes.ownedTupleIsFree
 refine wpAny_bind (wpAny_field hz rfl (x:=.none) rfl (wpAny_pure ?_)); simp only[if_true]
 refine wpAny_bind (wpAny_rule (wpAny_bind (wpAny_field hz rfl (x:=.ref o) rfl (wpAny_bind (wpAny_setField_rec hz (by simp) fun g1 e1 b1'=>?_)))))
 replace e1:IsZip g1 z u o .ellipsis:=e1
 refine wpAny_bind ?_; simp only[List.zipIdx_cons,List.zipIdx_nil,List.forIn_cons,List.forIn_nil]
 have away:∀ (g:Heap) x,IsZip g z u o .ellipsis->(∃ q,g.get? x=some q/\q.cls=.type "StopIteration")->x≠z:=fun g x e ⟨q,e',c'⟩ h=>by
  subst h; rw[e]at e'; cases e'; simp at c'
 refine wpAny_bind (wpAny_bind (wpAny_onRaise ?_)); show wpAny _ _ (Builtin.SmallTypes.nextOf (.ref i1) >>= _) _ _ _
 cases ex:xs[n]? with
 | none=>
  refine wpAny_bind (y0e hh (h1.extBut b1'.extBut (Ne.symm z1)) (t1.extBut b1'.extBut az) ex fun g2 x c2 hx=>?_)
  have e2:IsZip g2 z u o .ellipsis:=c2 _ _ z1 e1
  have xz:=away g2 x e2 hx
  obtain⟨q,hq,cq⟩:=hx
  refine wpAny_setField_rec e2 (by simp) fun g3 _ c3=>?_
  refine wpAny_bind (wpAny_isInstance (T:="StopIteration") (b:=true) ⟨q,c3.extBut _ _ xz hq,cq⟩ isSubtype_stop (wpAny_pure (k g3 fun c r h e=>?_)))
  obtain⟨y1,y2,y3,y4⟩:=nz c h
  exact c3.extBut _ _ y1 (c2 _ _ y3 (b1'.extBut _ _ y1 e))
 | some x=>
  have ey:ys[n]? = none:=by rcases en with h | h; rw[ex]at h; cases h; exact h
  refine wpAny_bind (x6d (h1.extBut b1'.extBut (Ne.symm z1)) (t1.extBut b1'.extBut az) ex fun g2 e2 c2=>wpAny_pure ?_)
  have q2:IsPair g2 o a b:=c2.extBut _ _ o1 (b1'.extBut _ _ (Ne.symm zo) ho)
  refine wpAny_bind (wpAny_seqItems q2 rfl (wpAny_bind (y28 (g:=g2) q2 fun g3 e3 c3=>wpAny_bind (wpAny_letGo (wpAny_pure ?_)))))
  refine wpAny_bind (wpAny_bind (wpAny_onRaise ?_)); show wpAny _ _ (Builtin.SmallTypes.nextOf (.ref i2) >>= _) _ _ _
  refine wpAny_bind (y0e hh (((h2.extBut b1'.extBut (Ne.symm z2)).extBut c2.extBut (Ne.symm i12)).extBut c3.extBut (Ne.symm o2)) (((t2.extBut b1'.extBut bz).extBut c2.extBut b1).extBut c3.extBut bo) ey fun g4 x' c4 hx=>?_)
  have e4:IsZip g4 z u o .ellipsis:=c4 _ _ z2 (c3.extBut _ _ zo (c2.extBut _ _ z1 e1))
  have xz:=away g4 x' e4 hx
  obtain⟨q,hq,cq⟩:=hx
  refine wpAny_setField_rec e4 (by simp) fun g5 _ c5=>?_
  refine wpAny_bind (wpAny_isInstance (T:="StopIteration") (b:=true) ⟨q,c5.extBut _ _ xz hq,cq⟩ isSubtype_stop (wpAny_pure (k g5 fun c r h e=>?_)))
  obtain⟨y1,y2,y3,y4⟩:=nz c h
  exact c5.extBut _ _ y1 (c4 _ _ y4 (c3.extBut _ _ y2 (c2.extBut _ _ y3 (b1'.extBut _ _ y1 e))))
theorem z0n {p1 p2:Addr} {xs ys:Array Value} {Q:Value->Shared->Prop} (t1:s.heap.IsTuple p1 xs) (t2:s.heap.IsTuple p2 ys)
  (k:∀ g:Heap,ZT g (s.heap.objs.size+4) (s.heap.objs.size+2) (s.heap.objs.size+3) s.heap.objs.size (s.heap.objs.size+1) p1 p2 .none 0 0->(∀ c q,s.heap.get? c=some q->g.get? c=some q)->Q (.ref (s.heap.objs.size+4)) { s with heap:=g }) :
  wpAny (model prog w) A (call (.type "zip") [.ref p1,.ref p2]) Q E s:=by
 let g1:=s.heap.push { cls:=.type "tuple_iterator",data:=.fields #[.ref p1,.int 0 0] }
 let g2:=g1.push { cls:=.type "tuple_iterator",data:=.fields #[.ref p2,.int 0 0] }
 let g3:=g2.push { cls:=.type "tuple",data:=.seq #[.ref s.heap.objs.size,.ref g1.objs.size] }
 let g4:=g3.push { cls:=.type "tuple",data:=.seq #[.none,.none] }
 let g5:=g4.push { cls:=.type "zip",data:=.fields #[.none,.bool false,.bool false,.ref g2.objs.size,.ref g3.objs.size] }
 have mt:Meets (Builtin.«zip.__new__» ⟨[.type "zip",.ref p1,.ref p2],[]⟩) (fun _ R s'=>s'=s/\R (.ok (.ret (.ref g4.objs.size))) { s with heap:=g5 }):=.of_wp fun prog w A R s' h=>by
  obtain⟨rfl,h⟩:=h
  have hsub:=sub_zip
  obtain⟨hp,gn,dr,tk,os⟩:=s'
  have q1:Heap.IsTuple (Shared.heap ⟨hp,gn,dr,tk,os⟩) p1 xs:=t1
  have q2:Heap.IsTuple (Shared.heap ⟨hp.push { cls:=.type "tuple_iterator",data:=.fields #[.ref p1,.int 0 0] },gn,dr,tk,os⟩) p2 ys:=t2.push _
  wp_walk using wpAny_pyIter_tuple q1,wpAny_pyIter_tuple q2
  exact⟨_,rfl,h⟩
 refine callType_new F.called_zip (by decide) (F.typeCall_zip_2 _ _) (F.newCall_zip_2 _ _) (fun obj=>F.args_object_init_3 obj _ _) F.entry_zip_new mt ⟨rfl,?_⟩
 have s1:g1.objs.size=s.heap.objs.size+1:=Heap.size_push ..
 have s2:g2.objs.size=s.heap.objs.size+2:=by rw[Heap.size_push,s1]
 have s3:g3.objs.size=s.heap.objs.size+3:=by rw[Heap.size_push,s2]
 have s4:g4.objs.size=s.heap.objs.size+4:=by rw[Heap.size_push,s3]
 have a5:g5.get? g4.objs.size=some { cls:=.type "zip",data:=.fields #[.none,.bool false,.bool false,.ref g2.objs.size,.ref g3.objs.size] }:=Heap.get?_push_size _ rfl
 have up4:∀ {c q},g3.get? c=some q->g5.get? c=some q:=fun e=>Heap.get?_push_of_some _ (Heap.get?_push_of_some _ e)
 have a4:g5.get? g3.objs.size=some { cls:=.type "tuple",data:=.seq #[.none,.none] }:=Heap.get?_push_of_some _ (Heap.get?_push_size _ rfl)
 have a3:g5.get? g2.objs.size=some { cls:=.type "tuple",data:=.seq #[.ref s.heap.objs.size,.ref g1.objs.size] }:=up4 (Heap.get?_push_size _ rfl)
 have a2:g5.get? g1.objs.size=some { cls:=.type "tuple_iterator",data:=.fields #[.ref p2,.int 0 0] }:=up4 (Heap.get?_push_of_some _ (Heap.get?_push_size _ rfl))
 have a1:g5.get? s.heap.objs.size=some { cls:=.type "tuple_iterator",data:=.fields #[.ref p1,.int 0 0] }:=up4 (Heap.get?_push_of_some _ (Heap.get?_push_of_some _ (Heap.get?_push_size _ rfl)))
 rw[s2,s3,s4]at a5
 rw[s3]at a4
 rw[s1,s2]at a3
 rw[s1]at a2
 show _/\_
 rw[s4]
 exact⟨⟨_,a5,rfl⟩,k g5 ⟨a5,a3,⟨_,_,a4⟩,⟨_,a1,rfl,rfl⟩,⟨_,a2,rfl,rfl⟩⟩ fun c q e=>up4 (Heap.get?_push_of_some _ (Heap.get?_push_of_some _ (Heap.get?_push_of_some _ e)))⟩
end
theorem y51 {X:Cx} {pins:List (Addr × Obj)} {σ:St} {H:Hp} {s:Shared} {h':Heap} {t':Nat} {ch:List Addr} (I:Inv X pins σ H s) (k:∀ b o,b ∉ ch->s.heap.get? b=some o->h'.get? b=some o) (hf:∀ b∈ch,y98 X pins H b) :
  Inv X pins σ H { s with heap:=h',toks:=t' }:=by
 have nit:∀ b u,H b=some u->b ∉ ch:=fun b u e z=>by rw[(hf b z).1]at e; cases e
 refine I.step (g':=s.gens) (d':=s.drawn) (ch:=ch) (fun b hb=>?_) (fun b o _ _ hc e _=>k b o hc e) (fun b o _ _ hc e _=>⟨o.slots,k b o hc e⟩) (fun _ _ _ _ n=>n)
  (fun b o hc e=>⟨o,k b o hc e⟩) (fun _ _ e=>e) (fun _ _ _ e=>e) (fun b ps e=>⟨#[],by rw[e]; simp⟩) (fun m hm=>?_) (fun b u e=>?_) I.bare
 ·obtain⟨f0,f1,f2,f3,f4,f5⟩:=hf b hb
  exact⟨f3,f1,f4,f5⟩
 ·obtain⟨o,es,ep,ho,r⟩:=hm
  exact⟨o,es,ep,k _ o (fun z=>(hf _ z).2.1 rfl) ho,r⟩
 ·refine(I.hok b u e).stay (fun c v hc q=>k c v ?_ q) (fun _ q=>q) fun _ _ q=>q
  rcases hc with z | z
  ·rw[z]; exact nit b u e
  ·exact nit c _ z
noncomputable def Itz (K:PySem.W.Frag) (p1 p2:Addr):It:=
 ⟨fun i H=>∃ xs ys x y,SqT K H p1 xs/\SqT K H p2 ys/\xs[i]? = some x/\ys[i]? = some y,
  fun i H v H'=>∃ T x y,v=.ref T/\H T=none/\(∀ xs,SqT K H p1 xs->xs[i]? = some x)/\(∀ ys,SqT K H p2 ys->ys[i]? = some y)/\H'=upd H T (.tup [x,y]),
  fun i H=>∃ xs ys,SqT K H p1 xs/\SqT K H p2 ys/\(xs.length<=i\/ys.length<=i)⟩
theorem z1r {P:Program} {w:World} {K:PySem.W.Frag} {elts:List Expr} {kt:Nat} {tp:Pos} (z u o i1 i2 p1 p2:Addr) (d:ZA z u o i1 i2) (n1:p1 ∉ zfp z u o i1 i2) (n2:p2 ∉ zfp z u o i1 i2) :
  Turn P w K (.Tuple elts kt tp) (Itz K p1 p2) (zfp z u o i1 i2) z (fun i h=>ZT h z u o i1 i2 p1 p2 .none i i) where
 mem:=by simp[zfp]
 obj:=fun i h st b hb=>by
  obtain⟨hz,hu,⟨a,c,ho⟩,⟨o1,e1,c1,d1⟩,⟨o2,e2,c2,d2⟩⟩:=st
  simp only[zfp,List.mem_cons,List.not_mem_nil,or_false]at hb
  rcases hb with rfl | rfl | rfl | rfl | rfl
  ·exact⟨_,hz,fun v e=>nomatch e⟩
  ·exact⟨_,hu,fun v e=>nomatch e⟩
  ·exact⟨_,ho,fun v e=>nomatch e⟩
  ·exact⟨_,e1,fun v e=>by rw[d1]at e; cases e⟩
  ·exact⟨_,e2,fun v e=>by rw[d2]at e; cases e⟩
 keep:=fun i h h' st k=>by
  obtain⟨hz,hu,⟨a,c,ho⟩,h1,h2⟩:=st
  exact⟨k z (by simp[zfp]) _ hz,k u (by simp[zfp]) _ hu,⟨a,c,k o (by simp[zfp]) _ ho⟩,h1.at fun q e=>k i1 (by simp[zfp]) q e,h2.at fun q e=>k i2 (by simp[zfp]) q e⟩
 item:=by
  intro X hP hw hK hc i pins s σ H E I hf st hg
  subst hP hw hK
  obtain⟨xs,ys,x,y,q1,q2,ex,ey⟩:=hg
  obtain⟨as,ra,ta,_⟩:=I.tuple q1
  obtain⟨bs,rb,tb,_⟩:=I.tuple q2
  obtain⟨ux,hx,rx⟩:=ra.get ex
  obtain⟨uy,hy,ry⟩:=rb.get ey
  refine y9y d st (show s.heap.IsTuple p1 as.toArray from ta) (show s.heap.IsTuple p2 bs.toArray from tb) n1 n2 (by simpa using hx) (by simpa using hy) fun g Z nw kp=>?_
  refine⟨_,rfl,wpAny_letOwnedTupleGo_zip (s:={ s with heap:=g }) Z.hz fun g' hz' sb=>?_⟩
  have fr:H s.heap.objs.size=none:=I.hok.fresh (Nat.le_refl _)
  have I1:Inv X pins σ (upd H s.heap.objs.size (.tup [x,y])) { s with heap:=s.heap.push { cls:=.type "tuple",data:=.seq #[ux,uy] } }:=
   I.laid (t':=s.toks) (fun b q e=>Heap.get?_push_of_some _ e) (Nat.le_refl _) (show x2a X.prog X.w _ _ _ (.tup _)from⟨(by show 2<=sizeLine; decide),[ux,uy],.cons rx (.cons ry .nil),x4f.new _ _⟩)
  have lt:∀ b∈zfp z u o i1 i2,b<s.heap.objs.size:=fun b hb=>by
   obtain⟨hz,hu,⟨a,c,ho⟩,⟨o1,e1,_⟩,⟨o2,e2,_⟩⟩:=st
   simp only[zfp,List.mem_cons,List.not_mem_nil,or_false]at hb
   rcases hb with rfl | rfl | rfl | rfl | rfl
   ·exact Heap.lt_size hz
   ·exact Heap.lt_size hu
   ·exact Heap.lt_size ho
   ·exact Heap.lt_size e1
   ·exact Heap.lt_size e2
  have hn:∀ b∈zfp z u o i1 i2,upd H s.heap.objs.size (.tup [x,y]) b=none:=fun b hb=>by rw[x0i (Nat.ne_of_lt (lt b hb))]; exact(hf b hb).1
  have I2:Inv X pins σ (upd H s.heap.objs.size (.tup [x,y])) { s with heap:=g' }:=y51 (s:={ s with heap:=s.heap.push { cls:=.type "tuple",data:=.seq #[ux,uy] } }) (t':=s.toks) (ch:=zfp z u o i1 i2) I1 (fun b q nb e=>by
   have bz:b≠z:=fun h=>nb (by simp[zfp,h])
   rcases Heap.get?_push_cases e with⟨rfl,rfl⟩ | e'
   ·exact sb.extBut _ _ bz nw
   ·exact sb.extBut _ _ bz (kp b q nb e')) fun b hb=>by
     obtain⟨f0,f1,f2,f3,f4,f5⟩:=hf b hb
     exact⟨hn b hb,f1,f2,f3,f4,f5⟩
  refine⟨.ref s.heap.objs.size,_,I2,rfl,⟨s.heap.objs.size,x,y,rfl,fr,fun zs hz=>?_,fun zs hz=>?_,rfl⟩,?_,hn⟩
  ·rw[I.tuple_inj hz q1]; exact ex
  ·rw[I.tuple_inj hz q2]; exact ey
  ·obtain⟨_,hu,⟨a,c,ho⟩,h1,h2⟩:=Z
   obtain⟨zu,zo,z1,z2,_⟩:=d.ne
   exact⟨hz',sb.extBut _ _ (Ne.symm zu) hu,⟨a,c,sb.extBut _ _ (Ne.symm zo) ho⟩,h1.extBut sb.extBut (Ne.symm z1),h2.extBut sb.extBut (Ne.symm z2)⟩
 done:=by
  intro X hP hw hK hc i pins s σ H E I hf st hg
  subst hP hw hK
  obtain⟨xs,ys,q1,q2,hx⟩:=hg
  obtain⟨as,ra,ta,_⟩:=I.tuple q1
  obtain⟨bs,rb,tb,_⟩:=I.tuple q2
  have la:=ra.length
  have lb:=rb.length
  refine z28 (I.ok.hd hc) d st (show s.heap.IsTuple p1 as.toArray from ta) (show s.heap.IsTuple p2 bs.toArray from tb) n1 n2 (by rcases hx with h | h; exact .inl (by simp; omega); exact .inr (by simp; omega)) fun g kp=>⟨rfl,?_⟩
  exact y51 (t':=s.toks) (ch:=zfp z u o i1 i2) I (fun b q nb e=>kp b q nb e) hf
 self:=fun _ _ _ _ _ st h=>wpAny_pyIter_zip st.hz h
section
variable {X:Cx} {a b c e:Expr} {es elts:List Expr} {fa fb fc f:Den} {g:x21} {pos p p1 p2 tp:Pos} {kt:Nat}
noncomputable def j30 (K:PySem.W.Frag) (ta:TA):TI:=fun σ H R=>ta σ H fun vs H1=>∃ p1 p2,vs=[.ref p1,.ref p2]/\(∃ xs,SqT K H1 p1 xs)/\(∃ ys,SqT K H1 p2 ys)/\R (Itz K p1 p2) H1
theorem z7g {ta:TA} (hg:Gl X "zip") (hm:X.mg "zip" = none) (ha:PA X [a,b] ta) (hs:starEach [a,b] X.env=[(false,eval a X.env),(false,eval b X.env)]:=by rfl) (hs2:starEach [b] X.env=[(false,eval b X.env)]:=by rfl) :
  PI X (.Tuple elts kt tp) (.Call (.Name "zip" p) [a,b] [] pos) (j30 X.K ta):=by
 intro pins s σ H R I h
 refine Call_ (x9s I hg hm boot_zip (PyProof.Rows.callWith_type1 (thn (ha pos pins s σ H _ I h) fun us s1 ⟨vs,H1,I1,r1,q1⟩=>?_) (by rw[hs,hs2]) (by rw[hs2]; rfl)))
 obtain⟨p1,p2,e,⟨xs,hx⟩,⟨ys,hy⟩,q⟩:=q1
 subst e
 cases r1 with
 | cons r rr=>
  cases rr with
  | cons r' rr=>
   cases rr
   cases r
   cases r'
   obtain⟨as,ra,ta',_⟩:=I1.tuple hx
   obtain⟨bs,rb,tb,_⟩:=I1.tuple hy
   have l1:p1<s1.heap.objs.size:=by obtain⟨_,e,_⟩:=ta'; exact Heap.lt_size e
   have l2:p2<s1.heap.objs.size:=by obtain⟨_,e,_⟩:=tb; exact Heap.lt_size e
   refine z0n (show s1.heap.IsTuple p1 as.toArray from ta') (show s1.heap.IsTuple p2 bs.toArray from tb) fun g Z kp=>?_
   have I2:Inv X pins σ H1 { s1 with heap:=g }:=I1.kept (t':=s1.toks) kp
   refine wpAny_pyIter_zip Z.hz ?_
   have dd:ZA (s1.heap.objs.size+4) (s1.heap.objs.size+2) (s1.heap.objs.size+3) s1.heap.objs.size (s1.heap.objs.size+1):=⟨by
    generalize s1.heap.objs.size=n
    unfold zfp
    simp only[List.nodup_cons,List.mem_cons,List.not_mem_nil,or_false,not_or,not_false_eq_true,List.nodup_nil,and_true]
    have ne:∀ {x y:Nat},x≠y->(x:Addr)≠(y:Addr):=fun h=>h
    refine⟨⟨ne ?_,ne ?_,ne ?_,ne ?_⟩,⟨ne ?_,ne ?_,ne ?_⟩,⟨ne ?_,ne ?_⟩,ne ?_⟩ <;> (intro h; have h':(_:Nat)=(_:Nat):=h; omega)⟩
   have far:∀ b∈zfp (s1.heap.objs.size+4) (s1.heap.objs.size+2) (s1.heap.objs.size+3) s1.heap.objs.size (s1.heap.objs.size+1),s1.heap.objs.size<=b:=fun b hb=>by
    simp only[zfp,List.mem_cons,List.not_mem_nil,or_false]at hb
    rcases hb with rfl | rfl | rfl | rfl | rfl <;> first | exact Nat.le_refl _ | exact Nat.le_add_right _ _
   refine⟨s1.heap.objs.size+4,zfp (s1.heap.objs.size+4) (s1.heap.objs.size+2) (s1.heap.objs.size+3) s1.heap.objs.size (s1.heap.objs.size+1),_,_,H1,rfl,I2,z1r _ _ _ _ _ p1 p2 dd (fun h=>absurd (far _ h) (Nat.not_le_of_lt l1)) (fun h=>absurd (far _ h) (Nat.not_le_of_lt l2)),Z,fun b hb=>?_,q⟩
   exact I1.fpOk (far b hb) (I1.hok.fresh (far b hb))
@[simp] noncomputable def y1z (g:x21):y1k:=fun ρ=>match g ρ with
 | some ([.tup ds,.tup es],ρ1)=>if ds.length<=1000 then some ((ds.zip es).map fun x=>.tup [x.1,x.2],ρ1)else none
 | _=>none
theorem It.zip {K:PySem.W.Frag} {p1 p2:Addr} {vs us:List V} {ds es:List D} (l1:ds.length=vs.length) (l2:es.length=us.length):ItOk K (Itz K p1 p2) ((ds.zip es).map fun x=>.tup [x.1,x.2]) fun H w=>SqT K H p1 vs/\SqT K H p2 us/\Reps K H w .f 0 ds vs []/\Reps K H w .f 0 es us []:=by
 refine⟨fun i H w p hi=>?_,fun i H w x H' d p wl hd y=>?_,fun H w p=>⟨vs,us,p.1,p.2.1,?_⟩,fun H w H' w' p wl st=>⟨SqT.go wl st p.1,SqT.go wl st p.2.1,Reps.go wl st p.2.2.1 (fun _ z=>nomatch z),Reps.go wl st p.2.2.2 (fun _ z=>nomatch z)⟩⟩
 ·have hi':i<vs.length/\i<us.length:=by simp[List.length_zip]at hi; omega
  exact⟨vs,us,vs[i]'hi'.1,us[i]'hi'.2,p.1,p.2.1,by simp[hi'.1],by simp[hi'.2]⟩
 ·obtain⟨T,v,u,rfl,hT,hv,hu,rfl⟩:=y
  obtain⟨q1,q2,r1,r2⟩:=p
  rw[List.getElem?_map]at hd
  cases hz:(ds.zip es)[i]? with
  | none=>rw[hz]at hd; cases hd
  | some de=>
   rw[hz]at hd
   cases hd
   obtain⟨e1,e2⟩:=List.getElem?_zip_eq_some.mp hz
   obtain⟨v',hv',rv⟩:=r1.get e1
   obtain⟨u',hu',ru⟩:=r2.get e2
   have ev:v'=v:=by have:=hv vs q1; rw[hv']at this; exact Option.some.inj this
   have eu:u'=u:=by have:=hu us q2; rw[hu']at this; exact Option.some.inj this
   subst ev eu
   have mo:∀ a o,H a=some o->upd H T (.tup [v',u']) a=some o:=fun a o e=>by rw[x0i (x0u e hT)]; exact e
   have st:x6n H w (upd H T (.tup [v',u'])) w:=fun a x e n=>⟨sm (mo a x e),n⟩
   exact⟨⟨mo,fun t=>t.upd rfl (.inl hT)⟩,.tup x0y (.cons (F:=[]) (G:=[]) (Rep.go0 rv wl st) (.cons (F:=[]) (G:=[]) (Rep.go0 ru wl st) .nil (fun _ z=>nomatch z)) (fun _ z=>nomatch z)),SqT.go wl st q1,SqT.go wl st q2,r1.go0 wl st,r2.go0 wl st⟩
 ·simp[List.length_zip]; omega
theorem z59 (hm:X.mg "zip" = none) (ha:PDA X [a,b] g) (hg:Gl X "zip":=by rfl) (hs:starEach [a,b] X.env=[(false,eval a X.env),(false,eval b X.env)]:=by rfl) (hs2:starEach [b] X.env=[(false,eval b X.env)]:=by rfl) :
  PDI X (.Tuple elts kt tp) (.Call (.Name "zip" p) [a,b] [] pos) (y1z g):=PI.imp (z7g hg hm ha hs hs2) fun σ H R hh0=>by
 obtain⟨ρ,w,t,ds,ρ',gd,ee,k⟩:=hh0
 unfold y1z at ee
 split at ee
 ·rename_i d1 d2 ρ1 h1
  split at ee
  ·rename_i hl
   cases ee
   refine⟨ρ,w,t,_,_,gd,h1,fun vs H1 w1 g1 go1 r1=>?_⟩
   obtain⟨v,v',rfl,rv,rv'⟩:=two r1
   obtain⟨p1,as,rfl,q1,s1⟩:=rv.seqT
   obtain⟨p2,bs,rfl,q2,s2⟩:=rv'.seqT
   refine⟨p1,p2,rfl,⟨_,q1⟩,⟨_,q2⟩,k _ _ H1 w1 g1 go1 (It.zip s1.length s2.length) ⟨q1,q2,s1,s2⟩ (x3g ?_)⟩
   simp[List.length_zip]; omega
  ·cases ee
 ·cases ee
end
noncomputable abbrev x8t:=List D->Rho->Option Rho
noncomputable def j3a (K:PySem.W.Frag) (b:Nat) (pt:x8t):TGs:=fun vs σ H Q=>∃ ds ρ w t ρ',Good K ρ σ H w t/\Reps K H w .f 0 ds vs []/\pt ds ρ=some ρ'/\∀ σ' H' w',σ'.length=σ.length->(∀ i,i<b->σ'[i]? = σ[i]?)->Good K ρ' σ' H' w' t->Go H w H' w'->Q σ' H'
theorem PGs.imp {X:Cx} {tg:List Expr} {t t':TGs} (h:PGs X tg t) (i:∀ v σ H Q,t' v σ H Q->t v σ H Q):PGs X tg t':=fun pins s σ H v u Q I r q=>h pins s σ H v u Q I r (i v σ H Q q)
noncomputable abbrev j0a (X:Cx) (b:Nat) (tg:List Expr) (pt:x8t):Prop:=PGs X tg (j3a X.K b pt)
@[simp] noncomputable def x4n:x8t:=fun ds ρ=>match ds with
 | []=>some ρ
 | _=>none
@[simp] noncomputable def x14 (pt:x5m) (ps:x8t):x8t:=fun ds ρ=>match ds with
 | []=>none
 | d::r=>match pt d ρ with
  | some ρ1=>ps r ρ1
  | none=>none
@[simp] noncomputable def y2l (ps:x8t):x5m:=fun d ρ=>match d with
 | .tup ds=>ps ds ρ
 | _=>none
section
variable {X:Cx} {k b:Nat} {e:Expr} {es:List Expr} {pt:x5m} {ps:x8t} {pos:Pos}
theorem z2d:j0a X b [] x4n:=PGs.imp z5p fun v σ H Q hh0=>by
 obtain⟨ds,ρ,w,t,ρ',g,r,e,k⟩:=hh0
 unfold x4n at e
 split at e
 ·cases e
  generalize hF:([]:List Addr)=F at r
  cases r
  exact⟨rfl,k σ H w rfl (fun _ _=>rfl) g Go.refl⟩
 ·cases e
theorem y7o (h1:PDG X b e pt) (h2:j0a X b es ps) (hs:(assignEach (e::es) X.env).map (·.2)=assign e X.env::(assignEach es X.env).map (·.2):=by rfl):j0a X b (e::es) (x14 pt ps):=PGs.imp (z1x h1 h2 hs) fun v σ H Q hh0=>by
 obtain⟨ds,ρ,w,t,ρ',g,r,e,k⟩:=hh0
 unfold x14 at e
 split at e
 ·cases e
 ·rename_i d x2l
  split at e
  ·rename_i ρ1 h1
   generalize hF:([]:List Addr)=F at r
   cases r with
   | cons ra rb _=>
    have z1:=ra.zero
    have z2:=rb.zero
    subst z1 z2
    refine⟨_,_,rfl,d,ρ,w,t,ρ1,g,ra,h1,fun σ1 H1 w1 l1 s1 g1 go1=>⟨x2l,ρ1,w1,t,ρ',g1,rb.go0 g.wl go1.stab,e,fun σ2 H2 w2 l2 s2 g2 go2=>k σ2 H2 w2 (l2.trans l1) (fun i hi=>(s2 i hi).trans (s1 i hi)) g2 (go1.trans go2)⟩⟩
  ·cases e
theorem z5a {n:Nat} (hc:X.calm=true) (h:j0a X b es ps) (hl:∀ ds ρ ρ',ps ds ρ=some ρ'->ds.length=n) (hn:(assignEach es X.env).length=n:=by rfl) (hst:(assignEach es X.env).findIdx? (·.1)=none:=by rfl):PDG X b (.Tuple es k pos) (y2l ps):=PG.imp (z7z hc h hn hst) fun v σ H Q hh0=>by
 obtain⟨d,ρ,w,t,ρ',g,r,e,k⟩:=hh0
 unfold y2l at e
 split at e
 ·rename_i ds
  obtain⟨a,vs,rfl,hq,rs⟩:=r.seqT
  exact⟨a,vs,rfl,hq,by rw[<- rs.length]; exact hl _ _ _ e,ds,ρ,w,t,ρ',g,rs,e,k⟩
 ·cases e
theorem x8h {p q:x5m}:∀ ds ρ ρ',x14 p (x14 q x4n) ds ρ=some ρ'->ds.length=2:=fun ds ρ ρ' h=>by
 match ds with
 | []=>cases h
 | [_]=>unfold x14 at h; simp at h; split at h <;> cases h
 | [_,_]=>rfl
 | _::_::_::_=>
  exfalso
  unfold x14 at h
  simp at h
  split at h
  ·split at h <;> cases h
  ·cases h
end
theorem y3v:∀ {bs:List Bool} {us:List Value},x2j (bs.map V.bl) us->LSm.BoolsAre us bs
 | [],_,h=>by cases h; exact .nil
 | b::bs,_,h=>by
  cases h with
  | cons r rr=>
   cases r
   exact .cons b (y3v rr)
section
variable {X:Cx} {a b c e:Expr} {es:List Expr} {fa fb fc f:Den} {g:x21} {pos p p1 p2:Pos}
theorem z22 (hc:X.calm=true):y0s X (.builtin "all") (fun xs H Q=>∃ (a:Addr) (bs:List Bool),xs=[.ref a]/\SqL X.K H a (bs.map V.bl)/\Q (.bl (bs.all id)) H):=by
 intro pins s σ H xs us Q I r h
 obtain⟨l,bs,rfl,hq,q⟩:=h
 obtain⟨u,rfl,ru⟩:=y4u r
 cases ru
 obtain⟨its,rv,pl,hz⟩:=I.list hq
 have hb:=y3v rv
 have hl:s.heap.IsList l its.toArray:=pl.isList
 have lt:l<s.heap.objs.size:=by obtain⟨_,e,_⟩:=hl; exact Heap.lt_size e
 refine call_all_walk (wpAny_pyIter_list hl ⟨s.heap.objs.size,[s.heap.objs.size,l],[s.heap.objs.size],its.toArray.size,_,_,fun i=>(bs[i]?).getD true,rfl,Walks.list (A:=X.A.in1) (I.ok.hd hc) _ l (Nat.ne_of_lt lt) its.toArray,
  ⟨⟨_,Heap.get?_push_size _ rfl,rfl,rfl⟩,hl.push _⟩,fun i v s' Q' E' hP hQ=>?_,fun h' tk hk=>?_⟩)
 ·obtain⟨b,e,rfl⟩:=hb.get i v (by simpa using hP)
  simp only[e,Option.getD_some]at hQ
  exact wpAny_truthy_bool hQ
 ·have e:((List.range its.toArray.size).all fun i=>(bs[i]?).getD true)=bs.all id:=by
   rw[List.size_toArray,hb.length]; exact LSm.range_all bs
  rw[e]
  exact⟨.bl (bs.all id),H,I.kept fun b o z=>hk b o (fun m=>by rw[List.mem_singleton.mp m]at z; exact Nat.lt_irrefl _ (Heap.lt_size z)) (Heap.get?_push_of_some _ z),rfl,q⟩
noncomputable def z3k:List D->Option (List Bool)
 | []=>some []
 | .bl b::r=>(z3k r).map (b :: ·)
 | _=>none
noncomputable def z1d:List D->Option D
 | [.lst ds]=>(z3k ds).map fun bs=>.bl (bs.all id)
 | _=>none
theorem y4g {K:PySem.W.Frag} {H:Hp} {w:Wn} {o:Ow}:∀ {ds:List D} {vs:List V} {bs:List Bool},Reps K H w o 0 ds vs []->z3k ds=some bs->vs=bs.map V.bl
 | ds,vs,bs,r,e=>by
  generalize hF:([]:List Addr)=F at r
  cases r with
  | nil=>cases e; rfl
  | @cons _ d v ds' vs' F' G' r1 r2 _=>
   have h2:G'=[]:=r2.zero
   subst h2
   cases r1 with
   | bl b=>
    unfold z3k at e
    cases e':z3k ds' with
    | none=>rw[e']at e; cases e
    | some bs'=>
     rw[e']at e
     cases e
     rw[y4g r2 e']
     rfl
   | _=>cases e
theorem z8c (hc:X.calm=true) (hm:X.mg "all" = none) (ha:PDA X [a] g) (hg:Gl X "all":=by rfl) (he:starEach [a] X.env=(false,eval a X.env)::starEach [] X.env:=by rfl) (hpl:(backTo pos (starEach [] X.env)).any (·.1)=false:=by rfl):PD X (.Call (.Name "all" p) [a] [] pos) (eB z1d g):=
 PE.imp (x6h (z22 hc) hg hm PyProof.Rows.boot_all ha (by decide) (by decide) he hpl) (y8d fun ds d h=>by
  unfold z1d at h
  split at h
  ·rename_i ds0
   cases e:z3k ds0 with
   | none=>rw[e]at h; cases h
   | some bs=>
    rw[e]at h
    cases h
    refine⟨_,rfl,fun H w vs wl r Q hq=>?_⟩
    obtain⟨v,rfl,rv⟩:=one r
    obtain⟨p,ys,rfl,hs,rs⟩:=rv.seqL0
    rw[y4g rs e]at hs
    exact⟨p,bs,rfl,hs,hq⟩
  ·cases h)
theorem y6k {α:Type} (l:List α) (f:α->Bool):z3k (l.map fun i=>.bl (f i))=some (l.map f):=by
 induction l with
 | nil=>rfl
 | cons a l ih=>rw[List.map_cons,z3k,ih]; rfl
end
inductive IT where
 | int | bool | tuple | list | str
noncomputable def IT.nm:IT->String
 | .int=>"int"
 | .bool=>"bool"
 | .tuple=>"tuple"
 | .list=>"list"
 | .str=>"str"
noncomputable def isD:IT->D->Bool
 | .int,.int _=>true
 | .int,.bl _=>true
 | .bool,.bl _=>true
 | .tuple,.tup _=>true
 | .list,.lst _=>true
 | .str,.str _=>true
 | _,_=>false
noncomputable def tyD:D->String
 | .non=>"NoneType"
 | .bl _=>"bool"
 | .int _=>"int"
 | .str _=>"str"
 | .tup _=>"tuple"
 | .dic _ _=>"dict"
 | .exc _=>"object"
 | .ob _ _ _ _=>"function"
 | .lst _=>"list"
section
variable {X:Cx} {pins:List (Addr × Obj)} {σ:St} {H:Hp} {s:Shared}
theorem j0l {w:Wn} {o:Ow} {q:Nat} {F:List Addr} {d:D} {x:V} {u c:Value} {b:Bool} {A:Around} {E:Value->Shared->Prop} {Q:Value->Shared->Prop} (I:Inv X pins σ H s) (rx:x3i x u) (r:Rep X.K H w o q d x F)
  (e:PySem.W.kitOne X.K (.type (tyD d)) c=some b) (hx:∀ nm,d ≠ .exc nm) (h:∀ tk,Q (.bool b) { s with toks:=tk }):wpAny (model X.prog X.w) A (call (.builtin "isinstance") [u,c]) Q E s:=by
 cases r with
 | exc _ _ _=>exact absurd rfl (hx _)
 | ob h1 h2 x r=>
  cases rx
  obtain⟨e1,_⟩:=(show x2a X.prog X.w H s.heap _ (.frz _ _)from I.hok _ _ h1)
  exact PySem.W.kia_one z17 I.kIn ⟨_,e1,x.1⟩ e (fun z=>nomatch z) h
 | non=>exact x3f I rx .non e h
 | bl y=>exact x3f I rx (.bl y) e h
 | int i=>exact x3f I rx (.int i) e h
 | str y=>exact x3f I rx (.str y) e h
 | tup ha _=>exact x3f I rx (.tup ha) e h
 | dic ha _=>exact x3f I rx (.dK ha) e h
 | kl ha _=>
  obtain⟨ob,its,n,hk,hc,hd,_⟩:=ha
  cases rx
  exact PySem.W.kia_one PySem.W.kitx_list I.kIn ⟨ob,I.kIn _ _ hk,hc⟩ e (fun z=>nomatch z) h
 | shr ha _ _=>
  rcases ha with ha | ⟨ob,ha⟩
  ·exact x3f I rx (.lst ha) e h
  ·exact x3f I rx (.frz ha) e h
 | own ha _ _ _=>exact x3f I rx (.lst ha) e h
theorem z3w {K:PySem.W.Frag} (T:IT) (d:D) (hx:∀ nm,d ≠ .exc nm):PySem.W.kitOne K (.type (tyD d)) (.type T.nm)=some (isD T d):=by
 cases T <;> cases d <;> first | rfl | exact absurd rfl (hx _)
end
section
variable {X:Cx} {a b c e:Expr} {es:List Expr} {fa fb fc f:Den} {ga gb:x2m} {g:x21} {pos p p1 p2 pT:Pos}
theorem z2v (T:IT):y0s X (.builtin "isinstance") (fun xs H Q=>∃ x w o q F d,xs=[x,.ty T.nm]/\Rep X.K H w o q d x F/\Q (.bl (isD T d)) H):=by
 intro pins s σ H xs us Q I r h
 obtain⟨x,w,o,q,F,d,rfl,rd,hq⟩:=h
 obtain⟨u,v,rfl,ru,rv⟩:=z75 r
 cases rv
 by_cases hx:∃ nm,d=.exc nm
 ·obtain⟨nm,rfl⟩:=hx
  cases rd with
  | exc ha xo _=>
   obtain⟨C,hc,k⟩:=xo
   cases ru
   obtain⟨e1,_⟩:=(show x2a X.prog X.w H s.heap _ (.frz _ _)from I.hok _ _ ha)
   have hT:isD T (.exc nm)=false:=by cases T <;> rfl
   rw[hT]at hq
   refine z8w (x:=_) I.kIn ⟨e1,hc⟩ k.xc (by cases T <;> kernel_rfl) (k.no _ (by cases T <;> simp[IT.nm])) ⟨.bl false,H,I.tok _,rfl,hq⟩
 ·exact j0l I ru rd (z3w T d fun nm z=>hx ⟨nm,z⟩) (fun nm z=>hx ⟨nm,z⟩) fun tk=>⟨.bl (isD T d),H,I.tok _,rfl,hq⟩
@[simp] noncomputable def z3n (T:IT) (fa:Den):Den:=fun ρ=>match fa ρ with
 | some (d,_,ρ1)=>some (.bl (isD T d),9,ρ1)
 | none=>none
theorem j09 (T:IT) {t:Str} (hm:X.mg "isinstance" = none) (hmT:X.mg t=none) (hbT:bootBuiltins t=some (.type T.nm)) (ha:PD X a fa) (hg:Gl X "isinstance":=by rfl) (hgT:Gl X t:=by rfl) (hnT:t ≠ "__name__":=by decide) (hdT:(t == ("__debug__":Str))=false:=by decide)
  (hs:starEach [a,.Name t pT] X.env=(false,eval a X.env)::starEach [.Name t pT] X.env:=by rfl) (hpl:(backTo pos (starEach [.Name t pT] X.env)).any (·.1)=false:=by rfl):PD X (.Call (.Name "isinstance" p) [a,.Name t pT] [] pos) (z3n T fa):=
 PE.imp (x6h (z2v T) hg hm PyProof.Rows.boot_isinstance (x6x ha (x6x (z4z (v:=.ty T.nm) hgT hmT hbT rfl hnT hdT) y1n x04) hs) (by decide) (by decide) hs hpl) fun σ H Q hh0=>by
 obtain⟨ρ,w,t,r',q,ρ',gd,ee,k⟩:=hh0
 unfold z3n at ee
 split at ee
 ·rename_i d q1 ρ1 h1
  cases ee
  refine⟨ρ,w,t,_,_,_,gd,h1,fun v H1 w1 F1 g1 go1 r1=>?_⟩
  exact⟨v,w1,_,_,F1,d,rfl,r1,k _ H1 (x1v t w1) [] g1.drop.up (go1.drop gd.wt) (.bl _)⟩
 ·cases ee
@[simp] noncomputable def eCh (g1 g2:D->D->Option D) (fa fb fc:Den):Den:=fun ρ=>match fa ρ with
 | some (x,_,ρ1)=>match fb ρ1 with
  | some (y,_,ρ2)=>match g1 x y with
   | some (.bl true)=>match fc ρ2 with
    | some (z,_,ρ3)=>match g2 y z with
     | some d=>some (d,9,ρ3)
     | none=>none
    | none=>none
   | some (.bl false)=>some (.bl false,9,ρ2)
   | _=>none
  | none=>none
 | none=>none
theorem z8g {op op':CmpOp} {g1 g2:Int->Int->Option D} {h1 h2:Int->Int->V} (ho:OpR X (compareOp op) (rI0 h1)) (ho':OpR X (compareOp op') (rI0 h2)) (e1:∀ i j d,g1 i j=some d->y1v d=some (h1 i j)) (e2':∀ i j d,g2 i j=some d->y1v d=some (h2 i j))
  (ha:PD X a fa) (hb:PD X b fb) (hc:PD X c fc) (hm:lastMarks [op,op'] [b,c]=false:=by with_unfolding_all rfl):PD X (.Compare a [op,op'] [b,c] pos) (eCh (gI g1) (gI g2) fa fb fc):=PE.imp (z20 ho ho' ha hb hc hm) fun σ H Q hh0=>by
 obtain⟨ρ,w,t,r',q,ρ',gd,ee,k⟩:=hh0
 unfold eCh at ee
 split at ee
 ·rename_i x q1 ρ1 a1
  split at ee
  ·rename_i y q2 ρ2 a2
   refine z6i gd a1 a2 fun u v H2 w2 F1 F2 g2' go2 r1 r2=>?_
   have gg:=g2'.drop (t':=t)
   split at ee
   ·rename_i hg
    obtain⟨i,j,rfl,rfl,hg'⟩:=y07 hg
    refine⟨i,j,x42 r1,x42 r2,true,by have:=e1 i j _ hg'; simpa [y1v]using this.symm,?_⟩
    rw[if_pos rfl]
    split at ee
    ·rename_i z q3 ρ3 a3
     refine⟨ρ2,x1v t w2,t,z,q3,ρ3,gg,a3,fun v3 H3 w3 F3 g3 go3 r3=>?_⟩
     split at ee
     ·rename_i d hd
      cases ee
      obtain⟨j',l,ej,rfl,hd'⟩:=y07 hd
      cases ej
      exact⟨j,l,x42 r2,x42 r3,z4x k gd g3 ((go2.drop gd.wt).trans go3) (y22 (e2' j l _ hd'))⟩
     ·cases ee
    ·cases ee
   ·rename_i hg
    obtain⟨i,j,rfl,rfl,hg'⟩:=y07 hg
    cases ee
    refine⟨i,j,x42 r1,x42 r2,false,by have:=e1 i j _ hg'; simpa [y1v]using this.symm,?_⟩
    rw[if_neg (by decide)]
    exact z4x k gd g2' go2 (.bl false)
   ·cases ee
  ·cases ee
 ·cases ee
theorem y5k (ha:PD X a fa) (hb:PD X b fb) (hc:PD X c fc) (hm:lastMarks [.LtE,.Lt] [b,c]=false:=by with_unfolding_all rfl):PD X (.Compare a [.LtE,.Lt] [b,c] pos) (eCh dLe dLt fa fb fc):=
 z8g j26 z9c (fun i j d h=>by cases h; rfl) (fun i j d h=>by cases h; rfl) ha hb hc hm
@[simp] noncomputable def j3m (fa:Den):Den:=fun ρ=>match fa ρ with
 | some (.int i,_,ρ1)=>some (.int (-i),9,ρ1)
 | _=>none
section
variable {prog:Program} {w:World} {A:Around} {E:Value->Shared->Prop} {s:Shared}
theorem z0i (l b:Addr) (us vs:Array Value) (n m:Nat) (d1 d2:Option Addr) (s1 s2:Array (Option Value)) (h0:us.isEmpty=true) :
  Meets (Builtin.«tuple.__add__» ⟨[.ref l,.ref b],[]⟩) (fun _ R s=>s.heap.get? l=some { cls:=.type "tuple",dict:=d1,data:=.seq us n,slots:=s1 }/\s.heap.get? b=some { cls:=.type "tuple",dict:=d2,data:=.seq vs m,slots:=s2 }/\R (.ok (.ret (.ref b))) s):=
 .of_wp fun prog w A R s h=>by
  obtain⟨hp,g,d,tk,os⟩:=s
  obtain⟨hl,hb,h⟩:=h
  have f2:=AutoSeq1.sub_tuple_tuple
  wp_walk using wpAny_loadPart' hl,wpAny_loadPart' hb
  exact⟨_,rfl,h⟩
theorem y8b {t b:Addr} {ws:List Value} {Q:Value->Shared->Prop} (ht:IsTup s.heap t #[]) (hb:IsTup s.heap b ws.toArray) (h:Q (.ref b) s):wpAny (model prog w) A (binaryOp .Add (.ref t) (.ref b)) Q E s:=by
 obtain⟨⟨c1,d1,a1,s1⟩,e1,hc1,n1,ha1⟩:=id ht
 obtain⟨⟨c2,d2,a2,s2⟩,e2,hc2,n2,ha2⟩:=id hb
 simp only at hc1 ha1 hc2 ha2
 subst hc1 ha1 hc2 ha2
 exact concat_meets ⟨_,e1,rfl⟩ ⟨_,e2,rfl⟩ noFill_tuple_add seq_tuple_add PySem.F.slot_tuple_add PySem.F.entry_tuple_add (PySem.F.args_tuple_add_2 _ _) (z0i t b #[] ws.toArray n1 n2 d1 d2 s1 s2 rfl) ⟨e1,e2,h⟩
end
theorem z6t:OpR X (binaryOp .Add) (fun x y H Q=>∃ a b ys,x=.ref a/\y=.ref b/\SqT X.K H a []/\SqT X.K H b ys/\Q (.ref b) H):=by
 intro pins s σ H x y v u Q I rx ry h
 obtain⟨a,b,ys,rfl,rfl,ha,hb,q⟩:=h
 cases rx
 cases ry
 obtain⟨its,r1,p1,_⟩:=I.tuple ha
 obtain⟨its2,r2,p2,_⟩:=I.tuple hb
 cases r1
 exact y8b p1 p2 ⟨.ref b,H,I,rfl,q⟩
theorem OpR.or {f:Value->Value->Sem Value} {r r':R2} (h:OpR X f r) (h':OpR X f r'):OpR X f (fun x y H Q=>r x y H Q\/r' x y H Q):=fun pins s σ H x y v u Q I rx ry q=>q.elim (fun z=>h pins s σ H x y v u Q I rx ry z) fun z=>h' pins s σ H x y v u Q I rx ry z
@[simp] noncomputable def j04 (fa fb:Den):Den:=fun ρ=>match fa ρ with
 | some (.tup ds,_,ρ1)=>match fb ρ1 with
  | some (.tup es,_,ρ2)=>if ds.length+es.length<=1000 then some (.tup (ds++es),9,ρ2)else none
  | _=>none
 | _=>none
theorem z99 (ha:PD X a fa) (hb:PD X b fb):PD X (.BinOp a .Add b pos) (j04 fa fb):=PE.imp (y4f (OpR.or z6t z4l) ha hb) fun σ H Q hh0=>by
 obtain⟨ρ,w,t,r',q,ρ',gd,ee,k⟩:=hh0
 unfold j04 at ee
 split at ee
 ·rename_i ds q1 ρ1 h1
  split at ee
  ·rename_i es q2 ρ2 h2
   split at ee
   ·rename_i hl
    cases ee
    refine z6i gd h1 h2 fun u u' H2 w2 F1 F2 g2 go r1 r2=>?_
    have r10:=r1.drop (o:=.f) (Nat.le_refl t)
    have r20:=r2.drop (o:=.f) (Nat.le_succ t)
    have gg:=g2.drop (t':=t)
    have gog:=go.drop gd.wt
    obtain⟨p1,vs,rfl,q1',s1⟩:=r10.seqT
    obtain⟨p2,us,rfl,q2',s2⟩:=r20.seqT
    have l1:=s1.length
    have l2:=s2.length
    cases ds with
    | nil=>
     have:vs=[]:=List.length_eq_zero_iff.mp (by rw[<- l1]; rfl)
     subst this
     refine .inl ⟨p1,p2,us,rfl,rfl,q1',q2',k _ H2 (x1v t w2) [] gg.up gog ?_⟩
     exact(Rep.go gg.wl (fun a x e n=>⟨sm e,n⟩) r20 (fun _ z=>nomatch z):Rep X.K H2 (x1v t w2) (.t t) 0 _ _ []).nolist rfl |>.2 9
    | cons d ds=>
     refine .inr ⟨p1,p2,vs,us,rfl,rfl,q1',q2',(fun z=>by rw[z]at l1; cases l1),y01 (by rw[<- l1,<- l2]; exact hl),fun z=>?_,fun _ p hp=>?_⟩
     ·have:es=[]:=List.length_eq_zero_iff.mp (by rw[l2,z]; rfl)
      subst this
      rw[List.append_nil]at k
      exact k _ H2 (x1v t w2) [] gg.up gog ((Rep.go gg.wl (fun a x e n=>⟨sm e,n⟩) r10 (fun _ z=>nomatch z):Rep X.K H2 (x1v t w2) (.t t) 0 _ _ []).nolist rfl |>.2 9)
     ·obtain⟨a1,a2,a3⟩:=y1r gg hp (s2.app s1)
      exact k _ _ _ _ a1 (gog.trans a2) a3
   ·cases ee
  ·cases ee
 ·cases ee
noncomputable abbrev z3d:=Rho->Option (Option Int × Rho)
noncomputable def tDO (K:PySem.W.Frag) (f:z3d):TO:=fun σ H Q=>∃ ρ w t o ρ',Good K ρ σ H w t/\f ρ=some (o,ρ')/\∀ H' w',Good K ρ' σ H' w' t->Go H w H' w'->Q o H'
noncomputable abbrev PDO (X:Cx) (e:Option Expr) (f:z3d):Prop:=PO X e (tDO X.K f)
@[simp] noncomputable def z1e:z3d:=fun ρ=>some (none,ρ)
@[simp] noncomputable def y8v (f:Den):z3d:=fun ρ=>match f ρ with
 | some (.int i,_,ρ1)=>some (some i,ρ1)
 | _=>none
theorem PO.imp {e:Option Expr} {t t':TO} (h:PO X e t) (i:∀ σ H Q,t' σ H Q->t σ H Q):PO X e t':=fun pins s σ H Q I q=>h pins s σ H Q I (i σ H Q q)
theorem z0l:PDO X none z1e:=PO.imp z3x fun σ H Q hh0=>by
 obtain⟨ρ,w,t,o,ρ',gd,ee,k⟩:=hh0
 cases ee
 exact k H w gd Go.refl
theorem z2k (h:PD X e f):PDO X (some e) (y8v f):=PO.imp (z4n h) fun σ H Q hh0=>by
 obtain⟨ρ,w,t,o,ρ',gd,ee,k⟩:=hh0
 unfold y8v at ee
 split at ee
 ·rename_i i q1 ρ1 h1
  cases ee
  exact⟨ρ,w,t,_,_,_,gd,h1,fun v H1 w1 F1 g1 go1 r1=>⟨i,x42 r1,k H1 (x1v t w1) g1.drop (go1.drop gd.wt)⟩⟩
 ·cases ee
section
variable {prog:Program} {w:World} {A:Around} {E:Value->Shared->Prop} {s:Shared}
theorem y6r {t sl:Addr} {us:Array Value} {vl vu:Value} {lo hi:Option Int} {Q:Value->Shared->Prop} (ht:IsTup s.heap t us) (hs:s.heap.IsSliceOf sl vl vu .none) (pl:IsPart vl lo) (pu:IsPart vu hi)
  (hw:HT.sIx us.size 0 lo=0/\HT.sIx us.size us.size hi=us.size) (h:Q (.ref t) s):wpAny (model prog w) A (getItem (.ref t) (.ref sl)) Q E s:=by
 obtain⟨os,hos,hcs,hds⟩:=id hs
 have ts:s.TypeIs (.ref sl) "slice":=⟨os,hos,hcs⟩
 unfold getItem
 try with_reducible refine wpAny_holding ?_
 first | refine wpAny_bind (wpAny_pure ?_) | skip
 refine wpAny_bind (wpAny_sequenceKey ht.typeIs (by decide) (wpAny_bind (wpAny_callSpecial?_slot (name:=Str.ofString "__getitem__") ht.typeIs PyProof.Rows.slot_tuple_getitem (wpAny_call_entry PyProof.Rows.slot_tuple_getitem ht.typeIs entry_tuple_getitem ?_ (args_tuple_getitem _ _)))))
 show wpAny _ _ (Builtin.Tuple.tupleItemsOf (.ref t) >>= _) _ _ s
 refine wpAny_bind (tupleItemsOf_ ht (wpAny_bind (wpAny_typeOf ts ?_)))
 rw[if_pos (by decide)]
 refine wpAny_bind (HT.x98 hs pl pu ?_)
 have yes:(((HT.sIx us.size 0 lo:Nat):Int) == 0 && (1:Int) == 1 && (HT.sIx us.size us.size hi-HT.sIx us.size 0 lo) == us.size)=true:=by rw[hw.1,hw.2]; simp
 show wpAny _ _ (if(((HT.sIx us.size 0 lo:Nat):Int) == 0 && (1:Int) == 1 && (HT.sIx us.size us.size hi-HT.sIx us.size 0 lo) == us.size)=true then _ else _) _ _ s
 rw[if_pos yes]
 refine wpAny_bind (m:=Builtin.Tuple.tupleIsExact _) ?_
 unfold Builtin.Tuple.tupleIsExact
 refine wpAny_bind (wpAny_typeOf ht.typeIs (wpAny_pure ?_))
 rw[if_pos (by decide)]
 exact wpAny_bind (wpAny_rule (wpAny_pure ⟨_,rfl,wpAny_pure h⟩))
end
noncomputable def z7y (xs:List D) (lo hi:Option Int):List D:=(xs.drop (HT.sIx xs.length 0 lo)).take (HT.sIx xs.length xs.length hi-HT.sIx xs.length 0 lo)
@[simp] noncomputable def eSl (fa:Den) (fl fh:z3d):Den:=fun ρ=>match fa ρ with
 | some (.tup ds,_,ρ1)=>match fl ρ1 with
  | some (lo,ρ2)=>match fh ρ2 with
   | some (hi,ρ3)=>some (.tup (z7y ds lo hi),9,ρ3)
   | none=>none
  | none=>none
 | _=>none
theorem Reps.take0 {K:PySem.W.Frag} {H:Hp} {w:Wn}:∀ {ds:List D} {vs:List V} (i:Nat),Reps K H w .f 0 ds vs []->Reps K H w .f 0 (ds.take i) (vs.take i) []
 | _,_,0,_=>by rw[List.take_zero,List.take_zero]; exact .nil
 | ds,vs,i+1,r=>by
  generalize hF:([]:List Addr)=F at r
  cases r with
  | nil=>exact .nil
  | cons r s _=>
   have h2:=s.zero
   have h1:=r.zero
   subst h2
   subst h1
   exact .cons (F:=[]) (G:=[]) r (Reps.take0 i s) (fun _ z=>nomatch z)
theorem z1y:SlR X (fun x lo hi H Q=>∃ a xs,x=.ref a/\SqT X.K H a xs/\(HT.sIx xs.length 0 lo=0/\HT.sIx xs.length xs.length hi=xs.length)/\Q (.ref a) H):=by
 intro pins s σ H x v vl vu lo hi sl Q I rx hs pl pu h
 obtain⟨a,xs,rfl,hx,hw,q⟩:=h
 cases rx
 obtain⟨its,r,ht,hz⟩:=I.tuple hx
 have hlen:its.toArray.size=xs.length:=by rw[List.size_toArray]; exact r.length.symm
 exact⟨"tuple",_,PyProof.Rows.slot_tuple_getitem.lookup,ht.typeIs,y6r ht hs pl pu (by rw[hlen]; exact hw) ⟨.ref a,H,I,rfl,q⟩⟩
theorem j1j {lo hi:Option Expr} {fl fh:z3d} (ha:PD X a fa) (hl:PDO X lo fl) (hh:PDO X hi fh):PD X (.Subscript a (.Slice lo hi none p2) pos) (eSl fa fl fh):=PE.imp (z1u (z1y.or z7f) ha hl hh) fun σ H Q hh0=>by
 obtain⟨ρ,w,t,r',q,ρ',gd,ee,k⟩:=hh0
 unfold eSl at ee
 split at ee
 ·rename_i ds q1 ρ1 h1
  split at ee
  ·rename_i lo ρ2 h2
   split at ee
   ·rename_i hi ρ3 h3
    cases ee
    refine⟨ρ,w,t,_,_,_,gd,h1,fun v H1 w1 F1 g1 go1 r1=>?_⟩
    have gg1:=g1.drop (t':=t)
    have r0:=r1.drop (o:=.f) (Nat.le_refl t)
    refine⟨ρ1,x1v t w1,t,_,_,gg1,h2,fun H2 w2 g2 go2=>⟨ρ2,w2,t,_,_,g2,h3,fun H3 w3 g3 go3=>?_⟩⟩
    have r3:=(r0.go0 gg1.wl go2.stab).go0 g2.wl go3.stab
    obtain⟨p1,vs,rfl,q1',s1⟩:=r3.seqT
    have l1:=s1.length
    by_cases hw:HT.sIx ds.length 0 lo=0/\HT.sIx ds.length ds.length hi=ds.length
    ·have ec:z7y ds lo hi=ds:=by unfold z7y; rw[hw.1,hw.2,List.drop_zero,Nat.sub_zero,List.take_length]
     rw[ec]at k
     refine .inl ⟨p1,vs,rfl,q1',by rw[<- l1]; exact hw,?_⟩
     exact k _ H3 w3 [] g3.up (((go1.drop gd.wt).trans go2).trans go3) ((Rep.go g3.wl (fun a x e n=>⟨sm e,n⟩) r3 (fun _ z=>nomatch z):Rep X.K H3 w3 (.t t) 0 _ _ []).nolist rfl |>.2 9)
    ·refine .inr ⟨p1,vs,rfl,q1',by rw[<- l1]; exact hw,fun p hp=>?_⟩
     have s4:Reps X.K H3 w3 .f 0 (z7y ds lo hi) (z3r vs lo hi) []:=by
      unfold z7y z3r
      rw[<- l1]
      exact(s1.drop0 _).take0 _
     obtain⟨a1,a2,a3⟩:=y1r g3 hp s4
     exact k _ _ _ _ a1 ((((go1.drop gd.wt).trans go2).trans go3).trans a2) a3
   ·cases ee
  ·cases ee
 ·cases ee
end
section
variable {X:Cx} {k b n:Nat} {a c e tg:Expr} {es:List Expr} {pt:x5m} {ps:x8t} {pos:Pos} {fa fb f:Den}
theorem y8p {p q r:x5m}:∀ ds ρ ρ',x14 p (x14 q (x14 r x4n)) ds ρ=some ρ'->ds.length=3:=fun ds ρ ρ' h=>by
 match ds with
 | []=>cases h
 | [_]=>unfold x14 at h; simp at h; split at h <;> cases h
 | [_,_]=>unfold x14 at h; simp at h; split at h; (split at h <;> cases h); cases h
 | [_,_,_]=>rfl
 | _::_::_::_::_=>
  exfalso
  unfold x14 at h
  simp at h
  split at h
  ·split at h
   ·split at h <;> cases h
   ·cases h
  ·cases h
@[simp] noncomputable def z6z (f:Den) (pt:x5m):x1l:=fun ρ=>match f ρ with
 | some (d,_,ρ1)=>match pt d ρ1 with
  | some ρ2=>some (.nx ρ2)
  | none=>none
 | none=>none
theorem z5w (he:PD X e f) (hg:PDG X 0 tg pt) (hs:swapsWithSole [tg] e pos.line X.env=pure false:=by rfl) (hw:swappedStores [tg] e X.env=pure none:=by rfl) (h1:(assignEach [tg] X.env).map (·.2)=[assign tg X.env]:=by rfl):PDS X (.Assign [tg] e pos) (z6z f pt):=PS.imp (z3o he hg hs hw h1) fun D σ H hh0=>by
 obtain⟨ρ,w,o,g,ee,k⟩:=hh0
 unfold z6z at ee
 split at ee
 ·rename_i d q ρ1 h1
  split at ee
  ·rename_i ρ2 h2
   cases ee
   refine⟨ρ,w,0,d,q,ρ1,g,h1,fun v H1 w1 F1 g1 go1 r1=>?_⟩
   exact⟨d,ρ1,x1v 0 w1,0,ρ2,g1.drop,r1.drop (Nat.le_refl 0),h2,fun σ' H' w' hl _ g' go'=>k σ' H' w' hl g' ((go1.drop g.wt).trans go')⟩
  ·cases ee
 ·cases ee
end
theorem y71:fillsNumberSlot (.type "tuple") "mul" = pure false:=PySem.fillsNumberSlot_seq (id:="tuple.__mul__") (r:=some (.builtin "tuple.__rmul__")) F.slot_tuple_mul.lookup (by decide +kernel) F.slot_tuple_rmul.lookup (by decide +kernel)
theorem y6w:seqRepeat? (.type "tuple")=pure (some (.builtin "tuple.__mul__")):=by
 unfold seqRepeat?
 rw[PySem.seqSlot_of (T:="tuple") (name:="__mul__") (id:="tuple.__mul__") F.slot_tuple_mul.lookup (by decide +kernel),PySem.seqSlot_of (T:="tuple") (name:="__rmul__") (id:="tuple.__rmul__") F.slot_tuple_rmul.lookup (by decide +kernel)]; rfl
theorem y3f (a:Int) (t:Tok) (l:Addr) (us:Array Value) (n:Nat) (dd:Option Addr) (sl:Array (Option Value)) :
  Meets (Builtin.«int.__rmul__» ⟨[.int a t,.ref l],[]⟩) (fun _ R s=>s.heap.get? l=some { cls:=.type "tuple",dict:=dd,data:=.seq us n,slots:=sl }/\R (.ok (.ret Value.notImplemented)) s):=.of_wp fun prog w A R s h=>by
 obtain⟨hp,g,d,tk,os⟩:=s
 obtain⟨hl,h⟩:=h
 wp_walk
 exact⟨_,rfl,h⟩
theorem z2s (t:Tok) (l:Addr) (us:Array Value) (n:Nat) (dd:Option Addr) (sl:Array (Option Value)) :
  Meets (Builtin.«tuple.__mul__» ⟨[.ref l,.int 1 t],[]⟩) (fun _ R s=>s.heap.get? l=some { cls:=.type "tuple",dict:=dd,data:=.seq us n,slots:=sl }/\R (.ok (.ret (.ref l))) s):=.of_wp fun prog w A R s h=>by
 obtain⟨hp,g,d,tk,os⟩:=s
 obtain⟨hl,h⟩:=h
 have f1:=AutoSeq1.idx_int
 wp_walk using wpAny_loadPart' hl
 exact⟨_,rfl,h⟩
theorem z24 (k:Int) (t:Tok) (l:Addr) (us:Array Value) (n:Nat) (dd:Option Addr) (sl:Array (Option Value)) (h2:¬ (decide (k < -(2 ^ 63)) || decide (k ≥ 2 ^ 63))=true) (h3:¬ (us.isEmpty || k == 1)=true) (h4:¬ (decide (k<=0) || us.isEmpty)=true) (h5:¬ (us.size:Int)*k > (2 ^ 63-1) / 8) (h6:¬ Builtin.Tuple.tupleTooMany ((us.size:Int)*k)=true) (hsz:(List.foldl (· ++ ·) #[] (List.replicate k.toNat us)).size<=sizeLine) :
  Meets (Builtin.«tuple.__mul__» ⟨[.ref l,.int k t],[]⟩) (fun _ R s=>s.heap.get? l=some { cls:=.type "tuple",dict:=dd,data:=.seq us n,slots:=sl }/\R (.ok (.ret (.ref s.heap.objs.size))) { s with heap:=s.heap.push { cls:=.type "tuple",data:=.seq (List.foldl (· ++ ·) #[] (List.replicate k.toNat us)) } }):=.of_wp fun prog w A R s h=>by
 obtain⟨hp,g,d,tk,os⟩:=s
 obtain⟨hl,h⟩:=h
 have f1:=AutoSeq1.idx_int
 wp_walk using wpAny_loadPart' hl
 rw[if_neg h2]
 wp_walk using wpAny_loadPart' hl
 rw[if_neg h5]
 wp_walk using wpAny_loadPart' hl
 exact⟨_,rfl,h⟩
section
variable {X:Cx} {a b c e:Expr} {fa fb fc f:Den} {pos:Pos}
theorem z5t:OpR X (binaryOp .Mult) (fun x y H Q=>∃ a k xs,x=.ref a/\y=.int k/\SqT X.K H a xs/\xs ≠ []/\1<=k/\xs.length*k.toNat<=1000/\(k=1->Q (.ref a) H)/\(k≠1->∀ p,H p=none->Q (.ref p) (upd H p (.tup (List.replicate k.toNat xs).flatten)))):=by
 intro pins s σ H x y v u Q I rx ry h
 obtain⟨l,k,xs,rfl,rfl,hq,hne,h1,hz,q1,q2⟩:=h
 cases rx
 obtain⟨t,rfl⟩:=ry
 obtain⟨its,r,pt,_⟩:=I.tuple hq
 obtain⟨⟨c1,d1,a1,s1⟩,e,hc1,n1,ha1⟩:=id pt
 simp only at hc1 ha1
 subst hc1 ha1
 have hl:=r.length
 have hpos:0<its.length:=by rw[<- hl]; exact List.length_pos_iff.mpr hne
 refine wpAny_binaryOp_repeat_ref (T:="tuple") (U:="int") (by decide) ⟨_,e,rfl⟩ (fun s'=>typeIs_int s' k t) y71 F.fills_int_mul F.slot_int_rmul y6w F.slot_int_index.lookup
  (call_meets F.slot_int_rmul (typeIs_int s k t) F.entry_int_rmul (F.args_int_rmul_2 _ _) (y3f k t l its.toArray n1 d1 s1) ⟨e,rfl,⟨_,e,rfl⟩,?_⟩)
 by_cases hk:k=1
 ·subst hk
  exact call_meets F.slot_tuple_mul ⟨_,e,rfl⟩ F.entry_tuple_mul (F.args_tuple_mul_2 _ _) (z2s t l its.toArray n1 d1 s1) ⟨e,⟨.ref l,H,I,rfl,q1 rfl⟩⟩
 ·have hm:its.length*k.toNat<=1000:=by rw[<- hl]; exact hz
  have hk':k.toNat<=1000:=by
   have:=Nat.le_mul_of_pos_left k.toNat hpos
   omega
  have f0:List.foldl (fun x1 x2=>x1++x2) #[] (List.replicate k.toNat its.toArray)=(List.replicate k.toNat its).flatten.toArray:=by
   have:=y0j its k.toNat []
   rw[List.nil_append]at this
   exact this
  have lf:(List.replicate k.toNat its).flatten.length<=1000:=by rw[y5b,Nat.mul_comm]; exact hm
  have em:((its.toArray.size:Nat):Int)*k=((its.length*k.toNat:Nat):Int):=by
   rw[List.size_toArray,Int.natCast_mul,Int.toNat_of_nonneg (by omega)]
  refine call_meets F.slot_tuple_mul ⟨_,e,rfl⟩ F.entry_tuple_mul (F.args_tuple_mul_2 _ _) (z24 k t l its.toArray n1 d1 s1 (by simp; omega) (by simp[hk]; exact List.ne_nil_of_length_pos hpos) (by simp; exact⟨by omega,List.ne_nil_of_length_pos hpos⟩) (by rw[em]; omega) (by
   unfold Builtin.Tuple.tupleTooMany
   rw[em]
   simp only[gt_iff_lt,decide_eq_true_eq,Int.not_lt]
   have:(1000:Nat)<=sizeLine:=by decide
   omega) (by rw[f0,List.size_toArray]; exact y01 lf)) ⟨e,?_⟩
  rw[f0]
  refine⟨.ref s.heap.objs.size,_,I.laid (t':=s.toks) (o:=.tup (List.replicate k.toNat xs).flatten) (fun b ob q=>Heap.get?_push_of_some _ q) (Nat.le_refl _) ?_,rfl,q2 hk _ (I.hok.fresh (Nat.le_refl _))⟩
  exact⟨y01 (by rw[y5b,Nat.mul_comm]; exact hz),_,r.rep k.toNat,x4f.new _ _⟩
@[simp] noncomputable def z19 (fa fb:Den):Den:=fun ρ=>match fa ρ with
 | some (.tup ds,_,ρ1)=>match fb ρ1 with
  | some (.int n,_,ρ2)=>if ds.isEmpty=false/\1<=n/\ds.length*n.toNat<=1000 then some (.tup (List.replicate n.toNat ds).flatten,9,ρ2)else none
  | _=>none
 | _=>none
theorem z4w (ha:PD X a fa) (hb:PD X b fb):PD X (.BinOp a .Mult b pos) (z19 fa fb):=PE.imp (y4f z5t ha hb) fun σ H Q hh0=>by
 obtain⟨ρ,w,t,r',q,ρ',gd,ee,k⟩:=hh0
 unfold z19 at ee
 split at ee
 ·rename_i ds q1 ρ1 h1
  split at ee
  ·rename_i n q2 ρ2 h2
   split at ee
   ·rename_i hl
    cases ee
    obtain⟨hd,hn,hz⟩:=hl
    refine z6i gd h1 h2 fun u u' H2 w2 F1 F2 g2 go r1 r2=>?_
    have r10:=r1.drop (o:=.f) (Nat.le_refl t)
    have gg:=g2.drop (t':=t)
    have gog:=go.drop gd.wt
    obtain⟨p1,vs,rfl,q1',s1⟩:=r10.seqT
    have l1:=s1.length
    refine⟨p1,n,vs,rfl,x42 r2,q1',fun z=>?_,hn,by rw[<- l1]; exact hz,fun z=>?_,fun _ p hp=>?_⟩
    ·subst z
     have:ds=[]:=List.length_eq_zero_iff.mp l1
     subst this
     cases hd
    ·subst z
     have e:(List.replicate (Int.toNat 1) ds).flatten=ds:=by show(List.replicate 1 ds).flatten=ds; simp
     rw[e]at k
     exact k _ H2 (x1v t w2) [] gg.up gog ((Rep.go gg.wl (fun a x e n=>⟨sm e,n⟩) r10 (fun _ z=>nomatch z):Rep X.K H2 (x1v t w2) (.t t) 0 _ _ []).nolist rfl |>.2 9)
    ·obtain⟨a1,a2,a3⟩:=y1r gg hp (s1.times n.toNat)
     exact k _ _ _ _ a1 (gog.trans a2) a3
   ·cases ee
  ·cases ee
 ·cases ee
end
section
variable {X:Cx} {a b c e:Expr} {es:List Expr} {fa fb fc f:Den} {ga gb:x2m} {g:x21} {pos p p1 p2 cpos apos:Pos}
theorem z4k {x:Str} {i:Int} (h:∃ t,X.mg x=some (.int i t)) (hg:Gl X x:=by rfl) (hd:(x == ("__debug__":Str))=false:=by decide):PD X (.Name x pos) (eC (.int i)):=by
 obtain⟨t,h⟩:=h
 exact x7t (z5r (v:=.int i) hg h ⟨t,rfl⟩ hd) fun _ _ _ _ _=>.int i
end
section
variable {X:Cx} {a b c e:Expr} {es:List Expr} {fa fb fc f:Den} {ga gb gc:x2m} {g:x21} {qa qb:y0q} {s:x1l} {pos p p1 p2 cpos apos:Pos}
@[simp] noncomputable def y4d:x1l:=fun _=>none
theorem y7w {st:Stmt}:PDS X st y4d:=PS.imp z04 fun D σ H hh0=>by obtain⟨ρ,w,o,g,ee,k⟩:=hh0; cases ee
noncomputable def x65 (c:x2m) (b:x1l):Nat->Rho->Option Out
 | 0,_=>none
 | m+1,ρ=>match c ρ with
  | none=>none
  | some (t,ρ1)=>if t=true then match b ρ1 with
    | none=>none
    | some (.nx ρ2)=>x65 c b m ρ2
    | some (.ct ρ2)=>x65 c b m ρ2
    | some (.bk ρ2)=>some (.nx ρ2)
    | some (.rt d q)=>some (.rt d q)
   else some (.nx ρ1)
noncomputable def y63 (c:x2m) (b:x1l):x1l:=x65 c b 1000
theorem y9d {body:List Stmt} (hp:PassesOwn (model X.prog X.w) X.A X.env X.xe) (hc:PDT X c gc) (hb:y7l X body s):PDS X (.While c body [] pos) (y63 gc s):=
 PS.imp (z2y hp hc hb) fun D σ H hh0=>by
 obtain⟨ρ,w,o,g,ee,k⟩:=hh0
 refine⟨fun m σ' H'=>σ'.length=σ.length/\∃ ρ' w',Good X.K ρ' σ' H' w' 0/\x65 gc s m ρ'=some o/\y0w X.K D σ.length H' w' o,⟨1000,rfl,ρ,w,g,ee,k⟩,?_⟩
 rintro m σ' H' ⟨hσ,ρ',w',g',e',k'⟩
 cases m with
 | zero=>cases e'
 | succ m=>
  unfold x65 at e'
  split at e'
  ·cases e'
  ·rename_i t ρ1 h1
   refine⟨ρ',w',0,t,ρ1,g',h1,fun H1 w1 g1 go1=>?_⟩
   cases t with
   | true=>
    rw[if_pos rfl]at e' ⊢
    refine⟨fun σ2 H2=>σ2.length=σ.length/\∃ ρ2 w2,Good X.K ρ2 σ2 H2 w2 0/\x65 gc s m ρ2=some o/\y0w X.K D σ.length H2 w2 o,fun σ2 H2 n2=>⟨m,Nat.lt_succ_self m,n2⟩,?_⟩
    have nx:∀ {ρ5:Rho},x65 gc s m ρ5=some o->∀ σ5 H5 w5,σ5.length=σ'.length->Good X.K ρ5 σ5 H5 w5 0->Go H1 w1 H5 w5->σ5.length=σ.length/\∃ ρ2 w2,Good X.K ρ2 σ5 H5 w2 0/\x65 gc s m ρ2=some o/\y0w X.K D σ.length H5 w2 o:=fun {ρ5} e5 σ5 H5 w5 l5 g5 go5=>⟨by rw[l5,hσ],ρ5,w5,g5,e5,k'.trans (go1.trans go5)⟩
    cases h6:s ρ1 with
    | none=>rw[h6]at e'; cases e'
    | some o6=>
     rw[h6]at e'
     refine⟨ρ1,w1,o6,g1,h6,?_⟩
     cases o6 with
     | nx ρ5=>exact nx e'
     | ct ρ5=>exact nx e'
     | bk ρ5=>
      cases e'
      exact fun σ5 H5 w5 l5 g5 go5=>k' σ5 H5 w5 (by rw[l5,hσ]) g5 (go1.trans go5)
     | rt d q=>
      cases e'
      exact fun v H5 w5 F wl5 go5 r5=>k' v H5 w5 F wl5 (go1.trans go5) r5
   | false=>
    rw[if_neg (by decide)]at e' ⊢
    cases e'
    exact k' σ' H1 w1 hσ g1 go1
@[simp] noncomputable def j2s (n:Nat) (qi:y0q) (fe:Den):x1l:=fun ρ=>match fe ρ with
 | some (d,_,ρ1)=>match qi ρ1,ρ1[n]? with
  | some i,some (some (.lst ds,1))=>match ixN ds.length i with
   | some m=>some (.nx (ρ1.set n (some (.lst (ds.set m d),1))))
   | none=>none
  | _,_=>none
 | none=>none
noncomputable def j1r (K:PySem.W.Frag):R2:=fun x y H Q=>∃ l b xs zs,x=.ref l/\y=.ref b/\SqL K H l xs/\SqL K H b zs/\xs.length+zs.length<=sizeLine/\∀ p,H p=none->Q (.ref p) (upd H p (.lst (xs++zs)))
theorem z5e:OpR X (binaryOp .Add) (j1r X.K):=by
 intro pins s σ H x y v u Q I rx ry h
 obtain⟨l,b,xs,zs,rfl,rfl,hH,hB,hz,q⟩:=h
 cases rx
 cases ry
 obtain⟨its,r,pl,z⟩:=I.list hH
 obtain⟨its2,r2,pl2,z2⟩:=I.list hB
 obtain⟨⟨cls,dd,data,sl⟩,n,ho,hc,_,hd⟩:=pl
 obtain⟨⟨cls2,dd2,data2,sl2⟩,n2,ho2,hc2,_,hd2⟩:=pl2
 simp only at hc hd hc2 hd2
 subst hc hd hc2 hd2
 have l1:=r.length
 have l2:=r2.length
 refine concat_meets ⟨_,ho,rfl⟩ ⟨_,ho2,rfl⟩ noFill_list_add seq_list_add PySem.F.slot_list_add PySem.F.entry_list_add (PySem.F.args_list_add_2 _ _) (list_addW l b its.toArray its2.toArray n n2 dd dd2 sl sl2 (by rw[List.size_toArray,List.size_toArray,<- l1,<- l2]; exact hz)) ⟨ho,ho2,?_⟩
 have e:its.toArray++its2.toArray=(its++its2).toArray:=by simp
 rw[e]
 exact⟨.ref _,_,I.lnew (t':=s.toks) (r.append r2) (by rw[List.length_append]; omega),rfl,q _ I.fresh⟩
@[simp] noncomputable def y97 (fa fb:Den):Den:=fun ρ=>match fa ρ with
 | some (.lst ds,_,ρ1)=>match fb ρ1 with
  | some (.lst es,_,ρ2)=>if ds.length+es.length<=1000 then some (.lst (ds++es),1,ρ2)else none
  | _=>none
 | _=>none
theorem z5q (ha:PD X a fa) (hb:PD X b fb):PD X (.BinOp a .Add b pos) (y97 fa fb):=PE.imp (y4f z5e ha hb) fun σ H Q hh0=>by
 obtain⟨ρ,w,t,r',q,ρ',gd,ee,k⟩:=hh0
 unfold y97 at ee
 split at ee
 ·rename_i ds q1 ρ1 h1
  split at ee
  ·rename_i es q2 ρ2 h2
   split at ee
   ·rename_i hl
    cases ee
    refine z6i gd h1 h2 fun u u' H2 w2 F1 F2 g2 go r1 r2=>?_
    have r10:=r1.drop (o:=.f) (Nat.le_refl t)
    have r20:=r2.drop (o:=.f) (Nat.le_succ t)
    have gg:=g2.drop (t':=t)
    have gog:=go.drop gd.wt
    obtain⟨p1,vs,rfl,q1',s1⟩:=r10.seqL0
    obtain⟨p2,us,rfl,q2',s2⟩:=r20.seqL0
    refine⟨p1,p2,vs,us,rfl,rfl,q1',q2',y01 (by rw[<- s1.length,<- s2.length]; exact hl),fun p hp=>?_⟩
    obtain⟨a1,a2,a3⟩:=y76 gg hp (s2.app s1)
    exact k _ _ _ _ a1 (gog.trans a2) a3
   ·cases ee
  ·cases ee
 ·cases ee
end
section
variable {X:Cx} {a b c e:Expr} {es:List Expr} {fa fb fc f:Den} {ga gb gc:x2m} {g:x21} {qa qb:y0q} {s:x1l} {pos p p1 p2 p3 cpos apos:Pos}
@[simp] noncomputable def x88 (n:Nat) (c:Int):y0q:=fun ρ=>match ρ[n]? with
 | some (some (.tup es,_))=>match L2.atI es c with
  | some d=>match x7c d with
   | some m=>some (Int.ofNat m)
   | none=>none
  | none=>none
 | _=>none
theorem z26 {n j:Nat} {c:Int} {x:Str} (hm:X.mg "len" = none) (h:PE X (.Name x p1) (y0f n)) (hg:Gl X "len":=by rfl) (hs:x41 (.Constant (.int c) j p2):=by exact fun _ _=>rfl)
  (he:starEach [.Subscript (.Name x p1) (.Constant (.int c) j p2) p3] X.env=(false,eval (.Subscript (.Name x p1) (.Constant (.int c) j p2) p3) X.env)::starEach [] X.env:=by rfl) (hpl:(backTo pos (starEach [] X.env)).any (·.1)=false:=by rfl) :
  PQ X (.Call (.Name "len" p) [.Subscript (.Name x p1) (.Constant (.int c) j p2) p3] [] pos) (x88 n c):=
 PE.imp (x6h x5u hg hm PySem.boot_len (x6x (y7v y2z h z3a hs) y1n he) (by decide) (by decide) he hpl) fun σ H Q hh0=>by
 obtain⟨ρ,w,t,i,gd,ee,k⟩:=hh0
 unfold x88 at ee
 split at ee
 ·rename_i es q e0
  split at ee
  ·rename_i d hd
   split at ee
   ·rename_i m hm'
    cases ee
    obtain⟨v,F,h1,h2⟩:=gd.slot n _ _ e0
    obtain⟨p0,vs,rfl,hq,rs⟩:=h2.seqT
    obtain⟨u,hu,ru⟩:=rs.atI hd
    obtain⟨p',ys,rfl,hs',hl⟩:=ru.len hm'
    exact⟨_,h1,.inr (.inl ⟨p0,vs,c,_,rfl,rfl,hq,hu,p',ys,rfl,hs',by rw[hl]; exact k⟩)⟩
   ·cases ee
  ·cases ee
 ·cases ee
@[simp] noncomputable def y6t (k l:Str) (qa qb:y0q):Den:=fun ρ=>match qa ρ,qb ρ with
 | some i,some j=>some (.dic [k,l] [.int i,.int j],9,ρ)
 | _,_=>none
theorem j0j {K:PySem.W.Frag} {ρ:Rho} {σ:St} {t:Nat} {H1:Hp} {p:Addr} {ks:List Str} {vs:List V} {ds:List D} {w1:Wn} (g:Good K ρ σ H1 w1 t) (hp:H1 p=none) (r:Reps K H1 w1 .f 0 ds vs []) :
  Good K ρ σ (upd H1 p (.dK (kvL ks vs))) w1 (t+1)/\Go H1 w1 (upd H1 p (.dK (kvL ks vs))) w1/\Rep K (upd H1 p (.dK (kvL ks vs))) w1 (.t t) 9 (.dic ks ds) (.ref p) []:=by
 have ne:∀ a x,H1 a=some x->a≠p:=fun a x e=>x0u e hp
 have nw:∀ a o,w1 a=some o->a≠p:=fun a o e=>by obtain⟨vs,q⟩:=g.wl a o e; exact ne a _ q
 have st:x6n H1 w1 (upd H1 p (.dK (kvL ks vs))) w1:=fun a x e n=>⟨sm (by rw[x0i (ne a x e)]; exact e),n⟩
 refine⟨⟨⟨fun a o e=>?_,g.wl.tb.upd rfl (.inl hp)⟩,g.ws,fun a i e=>Nat.lt_succ_of_lt (g.wt a i e),g.len,fun i d q e=>?_⟩,⟨st,fun a o e _=>⟨x0i (nw a o e),e⟩⟩,?_⟩
 ·obtain⟨us,q⟩:=g.wl a o e
  exact⟨us,by rw[x0i (nw a o e)]; exact q⟩
 ·obtain⟨v,F,h1,h2⟩:=g.slot i d q e
  exact⟨v,F,h1,Rep.go g.wl st h2 fun a m=>⟨x0i (nw a _ (h2.owns a m)),h2.owns a m⟩⟩
 ·exact .dic x0y (Reps.go g.wl st r (fun _ z=>nomatch z))
theorem z6w {k l:Str} {j1 j2:Nat} (hkl:k≠l) (ha:PQ X a qa) (hb:PQ X b qb) :
  PD X (.Dict [some (.Constant (.str k) j1 p1),some (.Constant (.str l) j2 p2)] [a,b] pos) (y6t k l qa qb):=
 PE.imp (z6x (y66 y7u ha (y66 y7u hb z4a)) rfl rfl (by simp) (by show 2<=15; decide)) fun σ H Q hh0=>by
 obtain⟨ρ,w,t,r',q,ρ',gd,ee,kk⟩:=hh0
 unfold y6t at ee
 split at ee
 ·rename_i i j hi hj
  cases ee
  intro p0 hp
  have ne:∀ a x,H a=some x->upd H p0 (.dK []) a=some x:=fun a x e=>by rw[x0i (x0u e hp)]; exact e
  obtain⟨g1,go1⟩:=gd.more ⟨ne,fun t=>t.upd rfl (.inl hp)⟩
  refine⟨ρ,w,t,i,g1,hi,ρ,w,t,j,g1,hj,x0y,[(.inr k,.int i),(.inr l,.int j)],rfl,by show 2<=15; decide,?_⟩
  have e:y03 [] [((.inr k:Key),V.int i),(.inr l,.int j)]=kvL [k,l] [.int i,.int j]:=by
   have hkl':¬ ((Sum.inr k:Key)=.inr l):=fun z=>hkl (Sum.inr.inj z)
   simp[y03,z14,kvL,hkl']
  rw[e,z3y]
  obtain⟨a1,a2,a3⟩:=j0j (ks:=[k,l]) (ds:=[.int i,.int j]) (vs:=[.int i,.int j]) gd hp (.cons (F:=[]) (G:=[]) (.int i) (.cons (F:=[]) (G:=[]) (.int j) .nil (fun _ z=>nomatch z)) (fun _ z=>nomatch z))
  exact kk _ _ _ _ a1 a2 a3
 ·cases ee
noncomputable def y4k:List Str->List D->Str->Option D
 | x::ks,d::ds,k=>if x=k then some d else y4k ks ds k
 | _,_,_=>none
@[simp] noncomputable def z2z (fo fe ff:Den):Den:=fun ρ=>match fo ρ with
 | some (.dic ks ds,_,ρ1)=>match fe ρ1 with
  | some (.str k,_,ρ2)=>match ff ρ2 with
   | some (z,_,ρ3)=>some ((y4k ks ds k).getD z,x4o ((y4k ks ds k).getD z),ρ3)
   | none=>none
  | _=>none
 | _=>none
theorem y6i {K:PySem.W.Frag} {H:Hp} {w:Wn} {o:Ow} (k:Str):∀ {ks:List Str} {ds:List D} {vs:List V},Reps K H w o 0 ds vs []->
  (∀ d,y4k ks ds k=some d->∃ v,y5x (kvL ks vs) (.inr k)=some v/\Rep K H w o 0 d v [])/\(y4k ks ds k=none->y5x (kvL ks vs) (.inr k)=none)
 | [],ds,vs,r=>by
  refine⟨fun d h=>?_,fun _=>rfl⟩
  unfold y4k at h
  cases h
 | x::ks,ds,vs,r=>by
  generalize hF:([]:List Addr)=F at r
  cases r with
  | nil=>exact⟨(fun d h=>by unfold y4k at h; cases h),fun _=>rfl⟩
  | @cons _ d' v' ds' vs' F' G' r s _=>
   have h1:F'=[]:=r.zero
   have h2:G'=[]:=s.zero
   subst h1 h2
   have ih:=y6i k (ks:=ks) s
   by_cases hx:x=k
   ·subst hx
    refine⟨fun d h=>?_,fun h=>?_⟩
    ·unfold y4k at h
     rw[if_pos rfl]at h
     cases h
     exact⟨v',y2c rfl,r⟩
    ·unfold y4k at h
     rw[if_pos rfl]at h
     cases h
   ·have hk:¬ ((Sum.inr x:Key)=.inr k):=fun z=>hx (Sum.inr.inj z)
    have e:y5x (kvL (x::ks) (v'::vs')) (.inr k)=y5x (kvL ks vs') (.inr k):=y2m hk
    rw[e]
    unfold y4k
    rw[if_neg hx]
    exact ih
theorem z50 {k:Nat} (hr:Room k X.A) (ho:PD X a fa) (he:PD X b fb) (hf:PD X c fc)
  (hbase:attributeBase a "get" X.env (eval a X.env)=eval a X.env:=by rfl)
  (hfew:((backTo cpos (starEach [b,c] X.env)).all (fun x=>!x.1) && (backToKw cpos (keywordEach [] X.env)).all (fun x=>x.1.isSome)
    && decide (([b,c]:List Expr).length+([]:List Keyword).length+(if([]:List Keyword).isEmpty then 0 else 1)<30))=true:=by rfl)
  (hline:(apos.endLine == cpos.line)=true:=by rfl) (htr:backTo cpos (starEach [b,c] X.env)=[(false,eval b X.env),(false,eval c X.env)]:=by rfl) :
  PD X (.Call (.Attribute a "get" apos) [b,c] [] cpos) (z2z fa fb fc):=
 PE.imp (z2a (j1g hr) ho he hf ⟨hbase,hfew,hline,htr⟩) fun σ H Q hh0=>by
 obtain⟨ρ,w,t,r',q,ρ',gd,ee,kk⟩:=hh0
 unfold z2z at ee
 split at ee
 ·rename_i ks ds q1 ρ1 h1
  split at ee
  ·rename_i k0 q2 ρ2 h2
   split at ee
   ·rename_i z q3 ρ3 h3
    cases ee
    refine⟨ρ,w,t,_,_,_,gd,h1,fun x H1 w1 F1 g1 go1 r1=>?_⟩
    have r1':=r1
    cases r1' with
    | @dic _ a0 _ vs0 _ hH0 _=>
     refine⟨a0,rfl,.inl ⟨_,.inl hH0⟩,ρ1,w1,t+1,_,_,_,g1,h2,fun y H2 w2 F2 g2 go2 r2=>⟨ρ2,w2,t+2,_,_,_,g2,h3,fun zv H3 w3 F3 g3 go3 r3=>?_⟩⟩
     have hy:y=kV (.inr k0):=by cases r2; rfl
     subst hy
     have r13:=(r1.gone g1.wl (go2.trans go3)).drop (o:=.t t) (Nat.le_refl t)
     have rz:=r3.drop (o:=.t t) (t':=t) (by omega)
     have go:=(go1.trans go2).trans go3
     cases r13 with
     | @dic _ _ _ vs _ hH rs=>
      obtain⟨v1,v2⟩:=y6i (ks:=ks) k0 rs
      refine⟨_,z88.k hH,?_⟩
      cases hg:y4k ks ds k0 with
      | none=>
       rw[v2 hg]
       rw[hg]at kk
       exact z4x kk gd g3 go rz.dep
      | some d=>
       obtain⟨v,ev,rv⟩:=v1 d hg
       rw[ev]
       rw[hg]at kk
       exact z4x kk gd g3 go rv.dep
   ·cases ee
  ·cases ee
 ·cases ee
theorem z5i {x2l:List Expr} {env:Env} {ks:List (Option Expr)} {vs:List Expr}:starEach (.Dict ks vs pos::x2l) env=(false,eval (.Dict ks vs pos) env)::starEach x2l env:=by simp only[starEach]
end
theorem j0d {prog:Program} {w:World} {A:Around} (hh:A.handled=none) (it p:Addr) (hne:p≠it) (items:Array Value) :
  Draws prog w A it [it,p] items.size (fun i v=>items[i]? = some v) (fun i h=>h.IsTupleIter it p i/\h.IsTuple p items) where
 live:=fun _ _ st=>by obtain⟨⟨o,ho,_⟩,_⟩:=st; exact⟨o,ho⟩
 frame:=fun _ _ _ st hk=>by
  obtain⟨a,⟨o,e,r⟩⟩:=st
  exact⟨a.at fun o e=>hk it (by simp) o e,⟨o,hk p (by simp) o e,r⟩⟩
 item:=fun i s Q E hi st hQ=>by
  refine x6d st.1 st.2 (v:=items[i]) (by simp[hi]) fun h' hit' hs'=>?_
  exact hQ _ h' s.toks (by simp[hi]) ⟨hit',st.2.extBut hs'.extBut hne⟩ hs'
 done:=fun s Q E st hE=>y0e hh st.1 st.2 (by simp) hE
section
variable {prog:Program} {w:World} {A:Around} {E:Value->Shared->Prop} {s:Shared}
theorem y7p {p:Addr} {xs:Array Value} {Q:Value->Shared->Prop} (t1:s.heap.IsTuple p xs)
  (k:∀ h',IsEnum h' (s.heap.objs.size+1) s.heap.objs.size 0 .none->h'.IsTupleIter s.heap.objs.size p 0->h'.objs.size=s.heap.objs.size+2->
    (∀ b o,s.heap.get? b=some o->h'.get? b=some o)->Q (.ref (s.heap.objs.size+1)) { s with heap:=h' }) :
  wpAny (model prog w) A (call (.type "enumerate") [.ref p]) Q E s:=by
 have mt:Meets (Builtin.«enumerate.__new__» ⟨[.type "enumerate",.ref p],[]⟩) (fun _ R s'=>s'=s /\
   R (.ok (.ret (.ref (s.heap.push { cls:=.type "tuple_iterator",data:=.fields #[.ref p,.int 0 0] }).objs.size)))
    { s with heap:=(s.heap.push { cls:=.type "tuple_iterator",data:=.fields #[.ref p,.int 0 0] }).push { cls:=.type "enumerate",data:=.fields #[.none,.bool false,.ref s.heap.objs.size,rawInt 0,.none,.none] } }):=.of_wp fun prog w A R s' h=>by
  obtain⟨rfl,h⟩:=h
  have hsub:=sub_enumerate
  obtain⟨hp,gn,dr,tk,os⟩:=s'
  have q1:Heap.IsTuple (Shared.heap ⟨hp,gn,dr,tk,os⟩) p xs:=t1
  wp_walk using wpAny_pyIter_tuple q1
  refine wpAny_stack_any fun st=>wpAny_pure ?_
  split
  ·rename_i c _ _ _ _ _
   cases (c == Value.type "enumerate")
   ·wp_walk using wpAny_pyIter_tuple q1
    exact⟨_,rfl,h⟩
   ·wp_walk using wpAny_pyIter_tuple q1
    exact⟨_,rfl,h⟩
  ·wp_walk using wpAny_pyIter_tuple q1
   exact⟨_,rfl,h⟩
 refine callType_new F.called_enumerate (by decide) (F.typeCall_enumerate_1 _) (F.newCall_enumerate_1 _) (fun obj=>F.args_object_init_2 obj _) F.entry_enumerate_new mt ⟨rfl,?_⟩
 have hz:(s.heap.push { cls:=.type "tuple_iterator",data:=.fields #[.ref p,.int 0 0] }).objs.size=s.heap.objs.size+1:=Heap.size_push ..
 show _/\_
 rw[hz]
 have he:IsEnum ((s.heap.push { cls:=.type "tuple_iterator",data:=.fields #[.ref p,.int 0 0] }).push
   { cls:=.type "enumerate",data:=.fields #[.none,.bool false,.ref s.heap.objs.size,rawInt 0,.none,.none] }) (s.heap.objs.size+1) s.heap.objs.size 0 .none:=by
  have:=Heap.get?_push_size (s.heap.push { cls:=.type "tuple_iterator",data:=.fields #[.ref p,.int 0 0] })
   (o:={ cls:=.type "enumerate",data:=.fields #[.none,.bool false,.ref s.heap.objs.size,rawInt 0,.none,.none] }) rfl
  rw[hz]at this; exact this
 exact⟨⟨_,he,rfl⟩,k _ he ⟨_,Heap.get?_push_of_some _ (Heap.get?_push_size _ rfl),rfl,rfl⟩ (by rw[Heap.size_push,hz]) fun b o x=>Heap.get?_push_of_some _ (Heap.get?_push_of_some _ x)⟩
end
structure Src (P:Program) (w:World) (K:PySem.W.Frag) (it p:Addr) (Sq:Hp->List V->Prop) (tn:Nat->Heap->Prop):Prop where
 keep:∀ i h h',tn i h->(∀ o,h.get? it=some o->h'.get? it=some o)->tn i h'
 obj:∀ i h,tn i h->∃ o vs,h.get? it=some o/\o.data=.fields vs
 draw:∀ (X:Cx),X.prog=P->X.w=w->X.K=K->X.calm=true->∀ (pins:List (Addr × Obj)) (s:Shared) (σ:St) (H:Hp) (xs:List V),Inv X pins σ H s->Sq H xs->∃ (us:List Value) (St:Nat->Heap->Prop),x2j xs us /\
  Draws P w X.A.in1 it [it,p] us.length (fun i v=>us[i]? = some v) St/\(∀ i,tn i s.heap->St i s.heap)/\(∀ i h,St i h->tn i h)/\∀ ys,Sq H ys->ys=xs
theorem z21 {P:Program} {w:World} {K:PySem.W.Frag} {it p:Addr} (hne:p≠it):Src P w K it p (fun H xs=>SqL K H p xs) (fun i h=>h.IsListIter it p i) where
 keep:=fun i h h' st k=>st.at k
 obj:=fun i h st=>by obtain⟨o,e,c,d⟩:=st; exact⟨o,_,e,d⟩
 draw:=fun X hP hw hK hc pins s σ H xs I hq=>by
  subst hP hw hK
  obtain⟨its,rv,pl,_⟩:=I.list hq
  have D:=Draws.list (prog:=X.prog) (w:=X.w) (A:=X.A.in1) (I.ok.hd hc) it p hne its.toArray
  rw[List.size_toArray]at D
  exact⟨its,(fun i h=>h.IsListIter it p i/\h.IsList p its.toArray),rv,(by simpa using D),fun i st=>⟨st,pl.isList⟩,fun i h st=>st.1,fun ys hy=>I.list_inj hy hq⟩
theorem z41 {P:Program} {w:World} {K:PySem.W.Frag} {it p:Addr} (hne:p≠it):Src P w K it p (fun H xs=>SqT K H p xs) (fun i h=>h.IsTupleIter it p i) where
 keep:=fun i h h' st k=>st.at k
 obj:=fun i h st=>by obtain⟨o,e,c,d⟩:=st; exact⟨o,_,e,d⟩
 draw:=fun X hP hw hK hc pins s σ H xs I hq=>by
  subst hP hw hK
  obtain⟨its,rv,pl,_⟩:=I.tuple hq
  have D:=j0d (prog:=X.prog) (w:=X.w) (A:=X.A.in1) (I.ok.hd hc) it p hne its.toArray
  rw[List.size_toArray]at D
  exact⟨its,(fun i h=>h.IsTupleIter it p i/\h.IsTuple p its.toArray),rv,(by simpa using D),fun i st=>⟨st,pl⟩,fun i h st=>st.1,fun ys hy=>I.tuple_inj hy hq⟩
noncomputable def Ite (Sq:Hp->List V->Prop):It:=
 ⟨fun i H=>∃ xs x,Sq H xs/\xs[i]? = some x,
  fun i H v H'=>∃ T x,v=.ref T/\H T=none/\(∀ xs,Sq H xs->xs[i]? = some x)/\H'=upd H T (.tup [.int (Int.ofNat i),x]),
  fun i H=>∃ xs,Sq H xs/\xs.length=i⟩
theorem y8e {P:Program} {w:World} {K:PySem.W.Frag} {elts:List Expr} {kt:Nat} {tp:Pos} {e it p:Addr} {Sq:Hp->List V->Prop} {tn:Nat->Heap->Prop} (S:Src P w K it p Sq tn) (hne:e≠it) (hp:e≠p) :
  Turn P w K (.Tuple elts kt tp) (Ite Sq) [e,it] e (fun i h=>(∃ old,IsEnum h e it i old)/\tn i h) where
 mem:=by simp
 obj:=fun i h st b hb=>by
  obtain⟨⟨old,he⟩,st⟩:=st
  simp only[List.mem_cons,List.not_mem_nil,or_false]at hb
  rcases hb with rfl | rfl
  ·exact⟨_,he,fun v e=>nomatch e⟩
  ·obtain⟨o,vs,e,d⟩:=S.obj i h st
   exact⟨o,e,fun v z=>by rw[d]at z; cases z⟩
 keep:=fun i h h' st k=>by
  obtain⟨⟨old,he⟩,st⟩:=st
  exact⟨⟨old,k e (by simp) _ he⟩,S.keep i h h' st fun o z=>k it (by simp) o z⟩
 item:=by
  intro X hP hw hK hc i pins s σ H E I hf st hg
  obtain⟨⟨old,he⟩,st⟩:=st
  obtain⟨xs,x,hq,hx⟩:=hg
  obtain⟨us,St,rv,D,s1,s2,inj⟩:=S.draw X hP hw hK hc pins s σ H xs I hq
  obtain⟨u,hu,ru⟩:=rv.get hx
  have hlt:i<us.length:=(List.getElem?_eq_some_iff.mp hu).1
  refine wpAny_pyNext_enum_itemD D he (s1 i st) hlt hne (by simp[hne,hp]) fun u' g tk hP' ho hs' hT hsz hk=>?_
  have eu:u'=u:=by rw[hu]at hP'; exact(Option.some.inj hP').symm
  subst eu
  refine⟨_,rfl,wpAny_letOwnedTupleGo_enum (s:={ s with heap:=g,toks:=tk+1 }) ho fun g' he' sb=>?_⟩
  have sb':Heap.SameBut e g g':=sb
  have fr:H s.heap.objs.size=none:=I.hok.fresh (Nat.le_refl _)
  have ri:x3i (.int (Int.ofNat i)) (.int i tk):=⟨tk,rfl⟩
  have I1:Inv X pins σ (upd H s.heap.objs.size (.tup [.int (Int.ofNat i),x])) { s with heap:=s.heap.push { cls:=.type "tuple",data:=.seq #[.int i tk,u'] } }:=
   I.laid (t':=s.toks) (fun b q e=>Heap.get?_push_of_some _ e) (Nat.le_refl _) (show x2a X.prog X.w _ _ _ (.tup _)from⟨(by show 2<=sizeLine; decide),[.int i tk,u'],.cons ri (.cons ru .nil),x4f.new _ _⟩)
  have lt:∀ b ∈ [e,it],b<s.heap.objs.size:=fun b hb=>by
   simp only[List.mem_cons,List.not_mem_nil,or_false]at hb
   rcases hb with rfl | rfl
   ·exact Heap.lt_size he
   ·obtain⟨o,_,e,_⟩:=S.obj i _ st; exact Heap.lt_size e
  have hn:∀ b ∈ [e,it],upd H s.heap.objs.size (.tup [.int (Int.ofNat i),x]) b=none:=fun b hb=>by rw[x0i (Nat.ne_of_lt (lt b hb))]; exact(hf b hb).1
  have I2:Inv X pins σ (upd H s.heap.objs.size (.tup [.int (Int.ofNat i),x])) { s with heap:=g',toks:=tk+1 }:=y51 (s:={ s with heap:=s.heap.push { cls:=.type "tuple",data:=.seq #[.int i tk,u'] } }) (t':=tk+1) (ch:=[e,it]) I1 (fun b q nb z=>by
   have b1:b≠e:=fun h=>nb (by simp[h])
   have b2:b≠it:=fun h=>nb (by simp[h])
   rcases Heap.get?_push_cases z with⟨rfl,rfl⟩ | z'
   ·exact sb'.extBut _ _ b1 hT
   ·exact sb'.extBut _ _ b1 (hk b q b1 b2 z')) fun b hb=>by
     obtain⟨f0,f1,f2,f3,f4,f5⟩:=hf b hb
     exact⟨hn b hb,f1,f2,f3,f4,f5⟩
  refine⟨.ref s.heap.objs.size,_,I2,rfl,⟨s.heap.objs.size,x,rfl,fr,fun zs hz=>?_,rfl⟩,⟨⟨_,he'⟩,?_⟩,hn⟩
  ·rw[inj zs hz]; exact hx
  ·exact S.keep _ _ _ (s2 _ _ hs') fun o z=>sb'.extBut _ _ (Ne.symm hne) z
 done:=by
  intro X hP hw hK hc i pins s σ H E I hf st hg
  obtain⟨⟨old,he⟩,st⟩:=st
  obtain⟨xs,hq,hx⟩:=hg
  obtain⟨us,St,rv,D,s1,s2,inj⟩:=S.draw X hP hw hK hc pins s σ H xs I hq
  have hl:us.length=i:=by rw[<- rv.length]; exact hx
  subst hl
  refine wpAny_pyNext_enum_endD D he (s1 _ st) fun g kp=>⟨rfl,?_⟩
  obtain⟨f0,f1,f2,f3,f4,f5⟩:=hf it (by simp)
  exact I.turned (t':=s.toks) (fun b o hb z=>kp b o hb z) f0 f1 f3 f4 f5
 self:=fun _ _ _ _ _ st h=>by
  obtain⟨⟨old,he⟩,_⟩:=st
  exact wpAny_pyIter_enum he h
section
variable {X:Cx} {a b c e:Expr} {es elts:List Expr} {fa fb fc f:Den} {g:x21} {pos p p1 p2 tp:Pos} {kt:Nat}
noncomputable def j2o (K:PySem.W.Frag) (ta:TA):TI:=fun σ H R=>ta σ H fun vs H1=>∃ p,vs=[.ref p]/\(((∃ xs,SqL K H1 p xs)/\R (Ite fun H xs=>SqL K H p xs) H1)\/((∃ xs,SqT K H1 p xs)/\R (Ite fun H xs=>SqT K H p xs) H1))
theorem z6u {ta:TA} (hg:Gl X "enumerate") (hm:X.mg "enumerate" = none) (ha:PA X [a] ta) (hs:starEach [a] X.env=[(false,eval a X.env)]:=by rfl) :
  PI X (.Tuple elts kt tp) (.Call (.Name "enumerate" p) [a] [] pos) (j2o X.K ta):=by
 intro pins s σ H R I h
 refine Call_ (x9s I hg hm boot_enumerate (PyProof.Rows.callWith_type1 (thn (ha pos pins s σ H _ I h) fun us s1 ⟨vs,H1,I1,r1,q1⟩=>?_) hs rfl))
 obtain⟨q,ee,hq⟩:=q1
 subst ee
 cases r1 with
 | cons r rr=>
  cases rr
  cases r
  have ne1:s1.heap.objs.size+1≠s1.heap.objs.size:=Nat.succ_ne_self _
  have fin:∀ {g:Heap} {Sq:Hp->List V->Prop} {tn:Nat->Heap->Prop},q<s1.heap.objs.size->Src X.prog X.w X.K s1.heap.objs.size q Sq tn->IsEnum g (s1.heap.objs.size+1) s1.heap.objs.size 0 .none->tn 0 g->(∀ b o,s1.heap.get? b=some o->g.get? b=some o)->R (Ite Sq) H1->
    wpAny (model X.prog X.w) X.A (pyIter (.ref (s1.heap.objs.size+1))) (PIE X pins σ (.Tuple elts kt tp) R) X.xe { s1 with heap:=g }:=fun {g Sq tn} lq S he ht kp hR=>by
   have ne2:s1.heap.objs.size+1≠q:=Nat.ne_of_gt (Nat.lt_succ_of_lt lq)
   refine wpAny_pyIter_enum he ⟨s1.heap.objs.size+1,[s1.heap.objs.size+1,s1.heap.objs.size],_,_,H1,rfl,I1.kept (t':=s1.toks) kp,y8e S ne1 ne2,⟨⟨_,he⟩,ht⟩,fun b hb=>?_,hR⟩
   have far:s1.heap.objs.size<=b:=by
    simp only[List.mem_cons,List.not_mem_nil,or_false]at hb
    rcases hb with rfl | rfl
    ·exact Nat.le_add_right _ _
    ·exact Nat.le_refl _
   exact I1.fpOk far (I1.hok.fresh far)
  rcases hq with⟨⟨xs,hx⟩,hR⟩ | ⟨⟨xs,hx⟩,hR⟩
  ·obtain⟨its,rv,pl,_⟩:=I1.list hx
   have lq:q<s1.heap.objs.size:=by obtain⟨_,e,_⟩:=pl.isList; exact Heap.lt_size e
   exact call_enumerate_list pl.isList fun g he hi _ kp=>fin lq (z21 (Nat.ne_of_lt lq)) he hi kp hR
  ·obtain⟨its,rv,pl,_⟩:=I1.tuple hx
   have lq:q<s1.heap.objs.size:=by obtain⟨_,e,_⟩:=pl; exact Heap.lt_size e
   exact y7p (show s1.heap.IsTuple q its.toArray from pl) fun g he hi _ kp=>fin lq (z41 (Nat.ne_of_lt lq)) he hi kp hR
noncomputable def x8c (ds:List D):List D:=ds.zipIdx.map fun x=>.tup [.int (Int.ofNat x.2),x.1]
theorem x87 (ds:List D):(x8c ds).length=ds.length:=by simp[x8c]
theorem y8f (ds:List D) (i:Nat):(x8c ds)[i]? = (ds[i]?).map fun d=>.tup [.int (Int.ofNat i),d]:=by
 simp only[x8c,List.getElem?_map,List.getElem?_zipIdx,Option.map_map]
 cases ds[i]? with
 | none=>rfl
 | some d=>simp
@[simp] noncomputable def y2d (g:x21):y1k:=fun ρ=>match g ρ with
 | some ([.lst ds],ρ1)=>if ds.length<=1000 then some (x8c ds,ρ1)else none
 | some ([.tup ds],ρ1)=>if ds.length<=1000 then some (x8c ds,ρ1)else none
 | _=>none
theorem It.enum {K:PySem.W.Frag} {Sq:Hp->List V->Prop} {vs:List V} {ds:List D} {P:Hp->Wn->Prop} (hl:ds.length=vs.length) (sq:∀ H w,P H w->Sq H vs/\Reps K H w .f 0 ds vs []) (ps:∀ H w H' w',P H w->WL K w H->x6n H w H' w'->P H' w'):ItOk K (Ite Sq) (x8c ds) P:=by
 refine⟨fun i H w p hi=>⟨vs,vs[i]'(by rw[x87]at hi; omega),(sq H w p).1,by simp⟩,fun i H w x H' d p wl hd y=>?_,fun H w p=>⟨vs,(sq H w p).1,by rw[x87]; exact hl.symm⟩,ps⟩
 obtain⟨T,v,rfl,hT,hv,rfl⟩:=y
 obtain⟨q1,r1⟩:=sq H w p
 rw[y8f]at hd
 cases hz:ds[i]? with
 | none=>rw[hz]at hd; cases hd
 | some d0=>
  rw[hz]at hd
  cases hd
  obtain⟨v',hv',rv⟩:=r1.get hz
  have ev:v'=v:=by have:=hv vs q1; rw[hv']at this; exact Option.some.inj this
  subst ev
  have mo:∀ a o,H a=some o->upd H T (.tup [.int (Int.ofNat i),v']) a=some o:=fun a o e=>by rw[x0i (x0u e hT)]; exact e
  have st:x6n H w (upd H T (.tup [.int (Int.ofNat i),v'])) w:=fun a x e n=>⟨sm (mo a x e),n⟩
  exact⟨⟨mo,fun t=>t.upd rfl (.inl hT)⟩,.tup x0y (.cons (F:=[]) (G:=[]) (.int _) (.cons (F:=[]) (G:=[]) (Rep.go0 rv wl st) .nil (fun _ z=>nomatch z)) (fun _ z=>nomatch z)),ps _ _ _ _ p wl st⟩
theorem z18 (hm:X.mg "enumerate" = none) (ha:PDA X [a] g) (hg:Gl X "enumerate":=by rfl) (hs:starEach [a] X.env=[(false,eval a X.env)]:=by rfl) :
  PDI X (.Tuple elts kt tp) (.Call (.Name "enumerate" p) [a] [] pos) (y2d g):=PI.imp (z6u hg hm ha hs) fun σ H R hh0=>by
 obtain⟨ρ,w,t,ds,ρ',gd,ee,k⟩:=hh0
 unfold y2d at ee
 split at ee
 ·rename_i d1 ρ1 h1
  split at ee
  ·rename_i hl
   cases ee
   refine⟨ρ,w,t,_,_,gd,h1,fun vs H1 w1 g1 go1 r1=>?_⟩
   obtain⟨v,rfl,rv⟩:=one r1
   have hz:(x8c d1).length<sizeLine:=by rw[x87]; exact x3g hl
   cases rv with
   | kl h r=>exact⟨_,rfl,.inl ⟨⟨_,h.sq⟩,k _ _ H1 w1 g1 go1 (It.enum (P:=fun H w=>(KL X.K _ _\/False)/\Reps X.K H w .f 0 d1 _ []) r.length (fun H w p=>⟨p.1.elim (fun z=>z.sq) fun z=>z.elim,p.2⟩) fun H w H' w' p wl st=>⟨p.1,Reps.go wl st p.2 (fun _ z=>nomatch z)⟩) ⟨.inl h,r⟩ hz⟩⟩
   | shr h n r=>exact⟨_,rfl,.inl ⟨⟨_,.inl h⟩,k _ _ H1 w1 g1 go1 (It.enum (P:=fun H w=>(Rd H _ (.lst _)/\w _=none)/\Reps X.K H w .f 0 d1 _ []) r.length (fun H w p=>⟨.inl p.1.1,p.2⟩) fun H w H' w' p wl st=>⟨RdL.go st p.1.2 p.1.1,Reps.go wl st p.2 (fun _ z=>nomatch z)⟩) ⟨⟨h,n⟩,r⟩ hz⟩⟩
  ·cases ee
 ·rename_i d1 ρ1 h1
  split at ee
  ·rename_i hl
   cases ee
   refine⟨ρ,w,t,_,_,gd,h1,fun vs H1 w1 g1 go1 r1=>?_⟩
   obtain⟨v,rfl,rv⟩:=one r1
   have hz:(x8c d1).length<sizeLine:=by rw[x87]; exact x3g hl
   obtain⟨p1,as,rfl,q1,s1⟩:=rv.seqT
   exact⟨p1,rfl,.inr ⟨⟨_,q1⟩,k _ _ H1 w1 g1 go1 (It.enum (P:=fun H w=>SqT X.K H p1 as/\Reps X.K H w .f 0 d1 as []) s1.length (fun H w p=>p) fun H w H' w' p wl st=>⟨SqT.go wl st p.1,Reps.go wl st p.2 (fun _ z=>nomatch z)⟩) ⟨q1,s1⟩ hz⟩⟩
  ·cases ee
 ·cases ee
end
end L3
namespace L3
open PySem PySem.Spec PyProof.Rows PySem.W L2
structure Fly (P:Program) (w:World) (outer:List Env) (H:Hp) (s:Shared) (a C t:Addr) (B:Heap) (H':Hp) (s':Shared):Prop where
 os:s'.os=s.os
 bare:AllBare s'.gens
 un:Un (frs outer) [] H H' s.heap s'.heap
 hok:HOk P w H' s'.heap
 fl:Heap.FlyingW B outer a (.ref C) (.ref t) s'.heap
 old:∀ b o,s.heap.get? b=some o->H b=none->b ∉ frs outer->B.get? b=some o
 oldT:∀ b o,s.heap.get? b=some o->b ∉ frs outer->∃ o',B.get? b=some o'
 trk:∀ b u o,H' b=some u->s'.heap.get? b=some o->B.get? b=some o
 free:H' a=none
noncomputable abbrev j3o:=Rho->Option Str
end L3
namespace L3
open PySem PySem.Spec PyProof.Rows PySem.W L2
end L3
namespace L3
open PySem PySem.Spec PyProof.Rows PySem.W L2
theorem Good.grow {K:PySem.W.Frag} {ρ:Rho} {σ:St} {H H':Hp} {w:Wn} {t:Nat} (g:Good K ρ σ H w t) (h:∀ b o,H b=some o->Sm o (H' b)) (tb:TB K H'):Good K ρ σ H' w t/\Go H w H' w:=by
 have st:x6n H w H' w:=fun a x e n=>⟨h a x e,n⟩
 have kp:∀ a o,w a=some o->H' a=H a:=fun a o e=>by
  obtain⟨vs,q⟩:=g.wl a o e
  rw[q,(h a _ q).eq rfl]
 refine⟨⟨⟨fun a o e=>?_,tb⟩,g.ws,g.wt,g.len,fun i d q e=>?_⟩,st,fun a o e _=>⟨kp a o e,e⟩⟩
 ·obtain⟨vs,q⟩:=g.wl a o e
  exact⟨vs,(h a _ q).eq rfl⟩
 ·obtain⟨v,F,h1,h2⟩:=g.slot i d q e
  exact⟨v,F,h1,Rep.go g.wl st h2 fun a m=>⟨kp a _ (h2.owns a m),h2.owns a m⟩⟩
end L3
namespace L3
open PySem PySem.Spec PyProof.Rows PySem.W L2 PySem.SeqAt
end L3
namespace L3
open PySem PySem.Spec PyProof.Rows L2
end L3
namespace L3
open PySem PySem.Spec PyProof.Rows PySem.W L2
end L3
namespace L3
open PySem PySem.Spec PyProof.Rows PySem.W L2
noncomputable abbrev j3n:=Rho->Option (Str × Rho)
noncomputable def CE (Y:Cx) (pins:List (Addr × Obj)) (σ:St) (H:Hp) (w:Wn) (nm:Str) (ρ1:Rho) (ev:Value) (s':Shared):Prop:=
 ∃ s1 H1 w1 a C t B H',ev=.ref a/\Inv Y.nox pins σ H1 s1/\Good Y.K ρ1 σ H1 w1 0/\Go H w H1 w1/\Fly Y.prog Y.w Y.stack H1 s1 a C t B H' s'/\nsIn Y.K mainGlobals nm=some (some (.ref C))/\(∀ b o,H1 b=some o->Sm o (H' b))/\TB Y.K H'
end L3
namespace L3
open PySem PySem.Spec PyProof.Rows PySem.W L2
noncomputable def spO (K:PySem.W.Frag) (n:Nat) (ob:D) (G:List D->Option (D × Nat)):Sp:=fun vs H Q _=>vs.length=n/\∃ ds w r q,(∀ a o,w a=some o->o=.f)/\WL K w H/\Reps K H w .f 0 ds vs []/\(∃ v,Rep K H w .f 0 ob v [])/\G ds=some (r,q) /\
 ∀ v H' w' Fo,Go H w H' w'->WL K w' H'->Rep K H' w' (.t 0) q r v Fo->Q v H'
noncomputable def z4d (P:Program) (w:World) (K:PySem.W.Frag) (mg:Str->Option Value) (base:Heap) (k:Nat) (ob:D) (n:Nat) (G:List D->Option (D × Nat)):Prop:=
 ∃ f fo vs ds fd ps,ob=.ob f fo vs ds/\fo.data=.func fd/\FnOk P w K mg base CX0 k f fd ps (spO K n ob G)/\∀ us:List Value,us.length=ps.length->bindArgs fd ⟨us,[]⟩=pure (ps.zip us)
open Classical in
noncomputable def y06 (ob:D) (G:List D->Option (D × Nat)) (i n:Nat) (g:x21):Den:=fun ρ=>if ρ[i]? = some (some (ob,9))then x0p G n g ρ else none
section
variable {X:Cx} {e:Expr} {es:List Expr} {g:x21} {pos p:Pos}
theorem z0j {i j k n:Nat} {x:Str} {ob:D} {G:List D->Option (D × Nat)} (h:PE X (.Name x p) (y0f i)) (C:z4d X.prog X.w X.K X.mg X.base k ob n G) (hr:Room j X.A) (hk:k<=j) (ha:PDA X (e::es) g)
  (he:starEach (e::es) X.env=(false,eval e X.env)::starEach es X.env:=by rfl) (hpl:(backTo pos (starEach es X.env)).any (·.1)=false:=by rfl):PD X (.Call (.Name x p) (e::es) [] pos) (y06 ob G i n g):=by
 intro pins s σ H Q I hh0
 obtain⟨ρ,w,t,r',q,ρ',gd,ee,k'⟩:=hh0
 unfold y06 at ee
 split at ee
 ·rename_i hs
  unfold x0p at ee
  split at ee
  ·rename_i ds ρ1 h1
   split at ee
   ·rename_i hn
    split at ee
    ·rename_i r0 q0 h2
     cases ee
     obtain⟨f,fo,cvs,cds,fd,ps,rfl,hfd,F,hb⟩:=C
     obtain⟨v,F0,s1,s2⟩:=gd.slot i _ _ hs
     have hrep:=s2.nolist rfl
     obtain rfl:=hrep.1
     cases s2 with
     | ob a1 a2 a3 a4=>
     have fnAt:∀ {H1:Hp} {s1:Shared} {σ1:St} {u:HO},Inv X pins σ1 H1 s1->H1 f=some (.frz fo u)->FnAt f s1.heap:=fun {H1 s1 σ1 u} I1 e1=>by
      obtain⟨e2,_⟩:=(show x2a X.prog X.w H1 s1.heap _ (.frz _ _)from I1.hok _ _ e1)
      obtain⟨oc,od,da,sl⟩:=fo
      cases hfd
      exact⟨_,_,_,_,e2⟩
     refine wpAny_Call_Name_kw (thn (h pins s σ H (fun v' H'=>v'=.ref f/\H'=H) I ⟨_,s1,rfl,rfl⟩) fun u s1 hh1=>?_)
     obtain⟨v',H',I1,rv,e1,e2⟩:=hh1
     subst e1
     obtain rfl:H=H':=e2.symm
     cases rv
     refine callWith_F (fnAt I1 a1) (thn (ha pos pins s1 σ H (fun vs H1=>∃ w1,Good X.K ρ' σ H1 w1 t/\Go H w H1 w1/\Reps X.K H1 w1 .f 0 ds vs []) I1 ⟨ρ,w,t,ds,ρ',gd,h1,fun vs H1 w1 g1 go1 r1=>⟨w1,g1,go1,r1⟩⟩) fun us s2 hh2=>?_) he hpl
     obtain⟨vs,H1,I2,rv2,w1,g1,go1,r1⟩:=hh2
     have rob:Rep X.K H1 w1 .f 0 (.ob f fo cvs cds) (.ref f) []:=Rep.go gd.wl go1.stab (hrep.2 0) (fun _ z=>nomatch z)
     obtain⟨u1,b1⟩:∃ u,H1 f=some (.frz fo u):=by
      cases rob with
      | ob b1 _ _ _=>exact⟨_,b1⟩
     refine⟨fnAt I2 b1,?_⟩
     have hsp:spO X.K n (.ob f fo cvs cds) G vs H1 Q E0:=by
      refine⟨by rw[<- r1.length]; exact hn,ds,fun a=>(w1 a).map fun _=>Ow.f,r',q,fun a o e=>?_,⟨fun a o e=>?_,g1.wl.tb⟩,?_,⟨.ref f,?_⟩,h2,fun v H2 w2 Fo go2 wl2 rr=>?_⟩
      ·try dsimp only at e
       cases ew:w1 a with
       | none=>rw[ew]at e; cases e
       | some o'=>rw[ew]at e; cases e; rfl
      ·try dsimp only at e
       cases ew:w1 a with
       | none=>rw[ew]at e; cases e
       | some o'=>exact g1.wl a o' ew
      ·exact Reps.freeze (fun a n=>by show(w1 a).map _=_; rw[n]; rfl) r1 (fun _ z=>nomatch z)
      ·exact Rep.freeze (fun a n=>by show(w1 a).map _=_; rw[n]; rfl) rob (fun _ z=>nomatch z)
      ·obtain⟨b1,b2,b3⟩:=j1q g1 go2 wl2 rr
       exact k' _ _ _ _ b1 (go1.trans b2) b3
     have hl:us.length=ps.length:=by rw[<- rv2.length]; exact F.len _ _ _ _ hsp
     refine wpAny_call (codeAny_mono (F.run X.A X.stack s2 H1 ⟨us,[]⟩ us vs Q E0 (hr.mono hk) I2.env0 (.of_eq (hb us hl)) rv2 hsp) fun r s' hq=>?_)
     cases r with
     | error e=>exact False.elim hq
     | ok fl=>
      cases fl with
      | ret u=>exact I2.after hq
      | next=>exact False.elim hq
      | brk=>exact False.elim hq
      | cont=>exact False.elim hq
    ·cases ee
   ·cases ee
  ·cases ee
 ·cases ee
end
end L3
namespace L3
open PySem PySem.Spec PyProof.Rows PySem.W L2
theorem y7x {x:Str} {u:Value}:∀ {ps:List Str} {us:List Value} {i:Nat},ps.Nodup->ps[i]? = some x->us[i]? = some u->(ps.zip us).reverse.lookup x=some u
 | [],_,_,_,h,_=>by simp at h
 | _::_,[],_,_,_,h=>by simp at h
 | p::ps,v::us,0,nd,h1,h2=>by
  simp at h1 h2
  subst h1
  subst h2
  rw[List.zip_cons_cons,List.reverse_cons,List.lookup_append]
  have:(ps.zip us).reverse.lookup p=none:=List.lookup_eq_none_iff.mpr fun q hq=>by
   have:=(List.of_mem_zip (List.mem_reverse.mp hq)).1
   exact bne_iff_ne.mpr fun z=>(List.nodup_cons.mp nd).1 (z ▸ this)
  rw[this]
  simp
 | p::ps,v::us,i+1,nd,h1,h2=>by
  rw[List.zip_cons_cons,List.reverse_cons,List.lookup_append,y7x (i:=i) (List.nodup_cons.mp nd).2 (by simpa using h1) (by simpa using h2)]
  rfl
theorem j21 {prog:Program} {w:World} {A:Around} {R:Result->Shared->Prop} {s:Shared} {a c:Addr} {args:Args} {o oc:Obj} {fd:FuncData} {body:Expr} {fs:Array Value} {q:Str} {t:Tok} (hroom:A.depth<recursionLimit) (ho:s.heap.get? a=some o)
  (hd':o.data=.func fd) (hco:fd.scope.isCoroutine=false) (hgen:fd.scope.isGenerator=false) (hbody:fd.body=.expr body) (hc:fd.code=.ref c) (hoc:s.heap.get? c=some oc) (hdc:oc.data=.fields fs) (hq:fs[1]? = some (.str q t))
  (h:wpAny (model prog w) A.in1 (bindArgs fd args) (fun binds s₁=>
    wpAny (model prog w) A.in1 (newFunctionEnv fd.scope fd.globals fd.closure binds (q ++ ".<locals>.") (some a) fd.code none fd.builtins)
     (fun env s₂=>s₂.heap.NoLimit/\codeAny (model prog w) A (.expr body env) R s₂) (fun e s'=>R (.error e) s') s₁) (fun e s'=>R (.error e) s') s) :
  codeAny (model prog w) A (.call (.ref a) args) R s:=by
 refine codeAny_of_tree ?_
 show wpAny _ A.in1 (callAny (.ref a) args) _ _ s
 simp only[callAny]
 refine wpAny_bind (wpAny_load ho ?_)
 simp only[hd',callFunction,hco,hgen,hbody,hc]
 rw[hc]at h
 refine wpAny_bind (m:=field (.ref c) 1) (wpAny_field hoc hdc hq (wpAny_bind (wpAny_pure ?_)))
 exact wpAny_bind (wpAny_mono h (fun binds s₁ h₁=>wpAny_bind (wpAny_mono h₁ (fun env s₂ h₂=>wpAny_bind (wpAny_enterFrame h₂.1 hroom
  (wpAny_pure (And.intro rfl h₂.2)))) fun _ _ h'=>h')) fun _ _ h'=>h')
noncomputable def cxL (P:Program) (w:World) (K:PySem.W.Frag) (mg:Str->Option Value) (base:Heap) (N:List Str) (qual:Str) (scope:Scope) (f:Addr) (cd:Value) (cl:List (Str × Addr)) (A:Around) (outer:List Env) (s:Shared) (H:Hp):Cx where
 prog:=P
 w:=w
 K:=K
 mg:=mg
 base:=base
 A:=A.deeper (envX qual scope s.heap.objs.size f cd cl)
 N:=N
 s₀:=s
 H₀:=H
 env:=envX qual scope s.heap.objs.size f cd cl
 outer:=outer
 stack:=envX qual scope s.heap.objs.size f cd cl::outer
 ex:=[]
 calm:=true
 fn:=fun _=>false
 pn:=[]
 xe:=fun _ _=>False
structure LamScope (ps cs:List Str) (sc:Scope):Prop where
 kind:sc.kind=.function
 co:sc.isCoroutine=false
 gen:sc.isGenerator=false
 nd:(ps++cs).Nodup
 par:∀ x∈ps,sc.names.lookup x=some .local
 cap:∀ x∈cs,sc.names.lookup x=some .free
 nocell:∀ y∈sc.names,y.2 ≠ .cell
 free:∀ x,sc.names.lookup x=some .free->x∈cs
structure CellsOk (base:Heap) (cl:List (Str × Addr)) (cs:List Str) (cvs:List V):Prop where
 len:cvs.length=cs.length
 at':∀ (i:Nat) (x:Str) (v:V),cs[i]? = some x->cvs[i]? = some v->∃ c u,cl.lookup x=some c/\x3i v u/\base.IsCell c (some u)
 inj:∀ x y c,cl.lookup x=some c->cl.lookup y=some c->x=y
 all:∀ x c,cl.lookup x=some c->∃ v,base.IsCell c v
theorem y7r {P:Program} {w:World} {K:PySem.W.Frag} {mg:Str->Option Value} {base:Heap} {ps cs:List Str} {qual:Str} {scope:Scope} {f:Addr} {cd:Value} {cl:List (Str × Addr)} {A:Around} {outer:List Env} {s:Shared} {h1:Heap} {tk:Nat} {H:Hp} {us:List Value} {vs cvs:List V}
  (S:LamScope ps cs scope) (C:CellsOk base cl cs cvs) (hd:A.handled=none) (e0:Env0 P w K mg base A outer s H) (hl:vs.length=ps.length) (r:x2j vs us)
  (hns:h1.Ns s.heap.objs.size (fun x=>(ps.zip us).reverse.lookup x)) (hk:∀ b o,s.heap.get? b=some o->h1.get? b=some o) :
  Inv (cxL P w K mg base (ps++cs) qual scope f cd cl A outer s H) [] (L2.y0v (ps++cs) (vs++cvs)) H { s with heap:=h1,toks:=tk }:=by
 have noA:∀ b:Addr,b ∉ (cxL P w K mg base (ps++cs) qual scope f cd cl A outer s H).ex:=fun b z=>absurd (show b∈([]:List Addr)from z) (by simp)
 refine⟨⟨e0.mod,S.kind,rfl,rfl,Nat.le_refl _,C.inj,fun y hy=>?_,(fun y c z=>by cases z),fun _=>hd,Around.frames_deeper e0.frames,.inr ⟨rfl,rfl⟩,fun b z=>absurd z (noA b),e0.bs,e0.bsz,fun b _ _=>noA b,fun b z=>absurd z (noA b),e0.funs,e0.frf⟩,
  rfl,e0.bare,Un.kept hk,⟨_,hns,fun i y v h1 h2 h3=>?_⟩,fun y c h=>?_,e0.hok.fresh (Nat.le_refl _),fun y c h=>?_,fun p hp=>absurd (show p∈([]:List (Addr × Obj))from hp) (by simp),e0.hok.kept hk,?_⟩
 ·have hy:scope.names.lookup y=some .cell\/scope.names.lookup y=some .free:=hy
  rcases hy with hy | hy
  ·exact absurd rfl (S.nocell _ (PySem.mem_of_lookup hy))
  ·obtain⟨i,hi⟩:=List.mem_iff_getElem?.mp (S.free y hy)
   have:i<cvs.length:=by rw[C.len]; exact(List.getElem?_eq_some_iff.mp hi).1
   obtain⟨c,u,e,_⟩:=C.at' i y _ hi (List.getElem?_eq_getElem this)
   exact⟨c,e⟩
 ·have hN:(ps++cs)[i]? = some y:=h1
  have h2':(vs++cvs)[i]? = some v:=by
   unfold L2.y0v at h2
   have hl2:(vs++cvs).length=(ps++cs).length:=by rw[List.length_append,List.length_append,hl,C.len]
   rw[hl2,Nat.sub_self,List.replicate_zero,List.append_nil,List.getElem?_map]at h2
   cases e:(vs++cvs)[i]? with
   | none=>rw[e]at h2; cases h2
   | some a=>rw[e]at h2; cases h2; rfl
  by_cases hi:i<ps.length
  ·rw[List.getElem?_append_left hi]at hN
   rw[List.getElem?_append_left (by rw[hl]; exact hi)]at h2'
   obtain⟨u,hu,rv⟩:=r.get h2'
   exact⟨u,rv,.inl ⟨S.par y (List.mem_of_getElem? hN),y7x (List.nodup_append.mp S.nd).1 hN hu⟩⟩
  ·rw[List.getElem?_append_right (Nat.le_of_not_lt hi)]at hN
   rw[List.getElem?_append_right (by rw[hl]; exact Nat.le_of_not_lt hi),hl]at h2'
   obtain⟨c,u,e,rv,hc⟩:=C.at' _ y v hN h2'
   exact⟨u,rv,.inr ⟨.inr (S.cap y (List.mem_of_getElem? hN)),c,e,(hc.keeps fun b o e=>(e0.bs b o e).1).keeps hk⟩⟩
 ·obtain⟨v,hv⟩:=C.all y c h
  exact⟨v,(hv.keeps fun b o e=>(e0.bs b o e).1).keeps hk⟩
 ·obtain⟨v,o,ho,_⟩:=C.all y c h
  exact(e0.bs c o ho).2
 ·unfold L2.y0v
  show _=(ps++cs).length
  rw[List.length_append,List.length_map,List.length_replicate,List.length_append,List.length_append,hl,C.len]
  omega
noncomputable def z03 (fb:Den) (cds:List D):List D->Option (D × Nat):=fun ds=>match fb (x3z (ds++cds).length (ds++cds))with
 | some (d,q,_)=>some (d,q)
 | none=>none
theorem z8e {P:Program} {w:World} {K:PySem.W.Frag} {mg:Str->Option Value} {base:Heap} {ps cs:List Str} {nm qual:Str} {params:Arguments} {body:Expr} {scope:Scope} {cl:List (Str × Addr)} {pm ctv:Value} {f c:Addr} {k:Nat} {cvs:List V} {cds:List D} {fb:Den}
  (S:LamScope ps cs scope) (C:CellsOk base cl cs cvs)
  (hbody:∀ (q:Str) (A:Around) (outer:List Env) (s:Shared) (H:Hp),Room k (A.deeper (envX q scope s.heap.objs.size f (.ref c) cl))->PD (cxL P w K mg base (ps++cs) q scope f (.ref c) cl A outer s H) body fb) :
  FnOk P w K mg base CX0 (k+1) f (kla_fn nm qual params body scope cl pm (.ref c) ctv) ps (spO K ps.length (.ob f (kla_obj nm qual params body scope cl pm c ctv) cvs cds) (z03 fb cds)):=by
 refine⟨fun vs H Q E h=>h.1,fun A outer s H args us vs Q E hr e0 hb r hsp=>?_⟩
 obtain⟨hn,ds,wn,r',q',hw,wl,rs,⟨vo,ro⟩,ee,k'⟩:=hsp
 cases ro with
 | ob a1 a2 a3 a4=>
 obtain⟨x1,⟨fd',x2,x3⟩,fs,q,t,x4,x5⟩:=a3
 cases x2
 cases x3
 obtain⟨o1,_⟩:=(show x2a P w H s.heap _ (.frz _ _)from e0.hok _ _ a1)
 obtain⟨o2,_⟩:=(show x2a P w H s.heap _ (.frz _ _)from e0.hok _ _ a2)
 have lim:s.heap.NoLimit:=e0.mod.nolimit.keeps fun b o e=>(e0.bs b o e).1
 refine j21 hr.depth o1 rfl S.co S.gen rfl rfl o2 x4 x5 (hb _ _ _ _ ?_)
 refine wpAny_newFunctionEnv S.nocell (fun y hy=>S.par y.1 (List.of_mem_zip hy).1) (fun h1 hns hsb=>⟨lim.fresh _ hsb,?_⟩) S.kind
 have hk:∀ b o,s.heap.get? b=some o->h1.get? b=some o:=fun b o e=>hsb.extBut b o (Nat.ne_of_lt (Heap.lt_size e)) (Heap.get?_push_of_some _ e)
 show codeAny _ _ (.expr body (envX q scope s.heap.objs.size f (.ref c) cl)) _ _
 have I:=y7r (cd:=.ref c) (f:=f) (qual:=q) (tk:=s.toks+(ps.zip us).length) S C hr.hd e0 hn r hns hk
 unfold z03 at ee
 split at ee
 ·rename_i d q0 ρ' h1
  cases ee
  have gd:Good K (x3z (ds++cds).length (ds++cds)) (L2.y0v (ps++cs) (vs++cvs)) H wn 0:=by
   have e1:(ds++cds).length=(ps++cs).length:=by rw[List.length_append,List.length_append,rs.length,a4.length,hn,C.len]
   rw[e1]
   refine x8m hw wl ?_
   have app:∀ {ds:List D} {vs:List V},Reps K H wn .f 0 ds vs []->Reps K H wn .f 0 (ds++cds) (vs++cvs) []:=by
    intro ds
    induction ds with
    | nil=>intro vs r; cases r; exact a4
    | cons d ds ih=>
     intro vs r
     generalize hF:([]:List Addr)=F at r
     cases r with
     | cons r1 r2 ne=>
      obtain rfl:=r1.zero
      obtain rfl:=r2.zero
      exact .cons (F:=[]) (G:=[]) r1 (ih r2) (fun _ z=>nomatch z)
   exact app rs
  refine kla_codeExpr (wpAny_mono (hbody q A outer s H (hr.deeper _) [] _ _ H Q I ⟨_,wn,0,_,_,_,gd,h1,fun v H' w' F g1 go1 r1=>k' v H' w' F go1 g1.wl r1⟩) (fun v s' hh=>?_) fun e s' z=>False.elim z)
  obtain⟨v',H',J,rv,qq⟩:=hh
  exact⟨v',H',J.os,J.bare,J.base,J.hok,rv,qq⟩
 ·cases ee
structure Lm (K:PySem.W.Frag) (mg:Str->Option Value) (base:Heap):Prop where
 bm:∃ bm o,mg "__builtins__" = some (.ref bm)/\bm≠builtinsNs/\base.get? bm=some o/\o.cls=.type "module" /\ o.dict=some builtinsNs/\o.data=.plain
 cd:∀ x∈x6t,∀ c P,tabIn K x=some (c,P)->CodeHd base c P
theorem y7i {pos:Pos} {a b:Int} {c cv:Value}:∀ (l:List Value),TriplesOk l->codeAmong pos (l++[rawInt a,rawInt b,c])=some cv->codeAmong pos l=some cv\/cv=c:=by
 intro l h
 fun_induction TriplesOk l with
 | case1=>
  intro e
  simp only[List.nil_append,rawInt,codeAmong]at e
  split at e
  ·cases e; exact .inr rfl
  ·cases e
 | case2 a1 t1 a2 t2 v x2l ih=>
  intro e
  simp only[List.cons_append,codeAmong]at e ⊢
  split at e
  ·rename_i hc
   rw[if_pos hc]
   exact .inl e
  ·rename_i hc
   rw[if_neg hc]
   exact ih h e
 | case3=>exact h.elim
theorem TB.grow {K:PySem.W.Frag} {H:Hp} (t:TB K H) {P c:Addr} {ps:Array Value} {a b:Int} {oc:Obj} {u:HO} {fs:Array Value} {q:Str} {tk:Tok} (hP:H P=some (.tbl ps)) (hc:H c=none) (hu:∀ xs,u ≠ .lst xs) (h1:oc.data=.fields fs) (h2:fs[1]? = some (.str q tk)) :
  TB K (L2.upd (L2.upd H P (.tbl (ps ++ #[rawInt a,rawInt b,.ref c]))) c (.frz oc u)):=by
 have hcP:P≠c:=fun z=>by rw[z,hc]at hP; cases hP
 have frz:∀ d o v,H d=some (.frz o v)->L2.upd (L2.upd H P (.tbl (ps ++ #[rawInt a,rawInt b,.ref c]))) c (.frz oc u) d=some (.frz o v):=fun d o v e=>by
  rw[x0i (fun z=>by rw[z,hc]at e; cases e),x0i (fun z=>by rw[z,hP]at e; cases e)]
  exact e
 have get:∀ Q qs,L2.upd (L2.upd H P (.tbl (ps ++ #[rawInt a,rawInt b,.ref c]))) c (.frz oc u) Q=some (.tbl qs)->(Q=P/\qs=ps ++ #[rawInt a,rawInt b,.ref c])\/H Q=some (.tbl qs):=fun Q qs e=>by
  by_cases h1:Q=c
  ·subst h1; rw[x0y]at e; cases e
  ·rw[x0i h1]at e
   by_cases h2:Q=P
   ·subst h2; rw[x0y]at e; cases e; exact .inl ⟨rfl,rfl⟩
   ·rw[x0i h2]at e; exact .inr e
 refine⟨fun Q qs e=>?_,fun Q qs e pos cv hcv=>?_,fun x hx c' P' e=>?_⟩
 ·rcases get Q qs e with⟨_,rfl⟩ | e
  ·have:=TriplesOk_snoc a b (.ref c) ps.toList (t.tr P ps hP)
   simpa using this
  ·exact t.tr Q qs e
 ·have old:∀ Q qs,H Q=some (.tbl qs)->codeAmong pos qs.toList=some cv->∃ c' oc' u' vs q t,cv=.ref c'/\L2.upd (L2.upd H P (.tbl (ps ++ #[rawInt a,rawInt b,.ref c]))) c (.frz oc u) c'=some (.frz oc' u')/\oc'.data=.fields vs/\vs[1]? = some (.str q t)/\∀ xs,u' ≠ .lst xs:=fun Q qs e hcv=>by
   obtain⟨c',oc',u',vs,q',t',g1,g2,g3,g4,g5⟩:=t.cd Q qs e pos cv hcv
   exact⟨c',oc',u',vs,q',t',g1,frz _ _ _ g2,g3,g4,g5⟩
  rcases get Q qs e with⟨_,rfl⟩ | e
  ·rcases y7i (pos:=pos) (cv:=cv) (c:=.ref c) (a:=a) (b:=b) ps.toList (t.tr P ps hP) (by simpa using hcv)with z | z
   ·exact old P ps hP z
   ·exact⟨c,oc,u,fs,q,tk,z,x0y,h1,h2,hu⟩
  ·exact old Q qs e hcv
 ·obtain⟨qs,e'⟩:=t.is x hx c' P' e
  have n1:P'≠c:=fun z=>by rw[z,hc]at e'; cases e'
  by_cases n2:P'=P
  ·subst n2; exact⟨_,by rw[x0i n1,x0y]⟩
  ·exact⟨qs,by rw[x0i n1,x0i n2]; exact e'⟩
noncomputable def kn (a:Addr) (o:Obj):HO:=.frz o (.ext fun h=>h.get? a=some o)
theorem z6r {P:Program} {w:World} {H:Hp} {h:Heap} {a:Addr} {o:Obj} (e:h.get? a=some o):x2a P w H h a (kn a o):=⟨e,e,⟨o,e⟩,fun _ _ p k=>k _ p⟩
section
variable {X:Cx} {pins:List (Addr × Obj)} {σ:St} {H:Hp} {s:Shared} {E:Value->Shared->Prop} {Q:Value->Shared->Prop}
theorem Inv.table {P c f:Addr} {ps ps':Array Value} {oc fo:Obj} {h':Heap} {tk:Nat} (I:Inv X pins σ H s) (hP:H P=some (.tbl ps)) (hx:Heap.ExtBut P s.heap h') (hc:s.heap.objs.size<=c) (hf:c<f) (e1:h'.get? c=some oc) (e2:h'.get? P=some (tabObj (ps++ps'))) (e3:h'.get? f=some fo) :
  Inv X pins σ (L2.upd (L2.upd (L2.upd H P (.tbl (ps++ps'))) c (kn c oc)) f (kn f fo)) { s with heap:=h',toks:=tk }:=by
 have nc:H c=none:=I.hok.fresh hc
 have nf:H f=none:=I.hok.fresh (Nat.le_trans hc (Nat.le_of_lt hf))
 have keep:∀ b u,H b=some u->b≠P->L2.upd (L2.upd (L2.upd H P (.tbl (ps++ps'))) c (kn c oc)) f (kn f fo) b=some u:=fun b u e n=>by
  rw[x0i (x0u e nf),x0i (x0u e nc),x0i n]; exact e
 have PP:L2.upd (L2.upd (L2.upd H P (.tbl (ps++ps'))) c (kn c oc)) f (kn f fo) P=some (.tbl (ps++ps')):=by
  rw[x0i (x0u hP nf),x0i (x0u hP nc),x0y]
 have kp:∀ b o,s.heap.get? b=some o->H b=none->h'.get? b=some o:=fun b o e n=>hx b o (fun z=>by rw[z,hP]at n; cases n) e
 refine I.un ⟨fun b o e n _ _=>kp b o e n,fun b o e n _ _=>⟨o.slots,kp b o e n⟩,fun b o e n _=>?_,fun b o e _=>?_,fun b xs e=>keep b _ e (fun z=>by rw[z,hP]at e; cases e),fun b o u e=>keep b _ e (fun z=>by rw[z,hP]at e; cases e),fun b qs e=>?_⟩ fun a o e=>?_
 ·have lt:=Heap.lt_size e
  rw[x0i (Nat.ne_of_lt (Nat.lt_trans (Nat.lt_of_lt_of_le lt hc) hf)),x0i (Nat.ne_of_lt (Nat.lt_of_lt_of_le lt hc)),x0i (fun z=>by rw[z,hP]at n; cases n)]
  exact n
 ·by_cases hb:b=P
  ·rw[hb]; exact⟨_,e2⟩
  ·exact⟨o,hx b o hb e⟩
 ·by_cases hb:b=P
  ·subst hb
   rw[hP]at e; cases e
   exact⟨ps',PP⟩
  ·exact⟨#[],by rw[Array.append_empty]; exact keep b _ e hb⟩
 ·by_cases h1:a=f
  ·subst h1; rw[x0y]at e; cases e; exact z6r e3
  ·rw[x0i h1]at e
   by_cases h2:a=c
   ·subst h2; rw[x0y]at e; cases e; exact z6r e1
   ·rw[x0i h2]at e
    by_cases h3:a=P
    ·subst h3; rw[x0y]at e; cases e; exact e2
    ·rw[x0i h3]at e
     refine(I.hok a o e).stay (fun b u hb q=>hx b u (fun z=>?_) q) (fun b q=>keep b _ q (fun z=>by rw[z,hP]at q; cases q)) fun b xs q=>keep b _ q (fun z=>by rw[z,hP]at q; cases q)
     subst z
     rcases hb with hb | hb
     ·exact h3 hb.symm
     ·rw[hP]at hb; cases hb
theorem z1l {params:Arguments} {body:Expr} {scope:Scope} {pos:Pos} {A:Around} {M:Model} {x:Str} {c P:Addr} {clos:List (Str × Addr)} (I:Inv X pins σ H s) (L:Lm X.K X.mg X.base) (tb:TB X.K H) (hx:x∈x6t) (ht:tabIn X.K x=some (c,P)) (hcode:X.env.code=.ref c)
  (hcl:closureFor scope X.env=pure clos) (hdf:defaultsOf params X.env=([],[]))
  (h:∀ (f c':Addr) (pm ctv:Value) (oc:Obj) (h':Heap) (tk:Nat) (H':Hp) (u u':HO),Inv X pins σ H' { s with heap:=h',toks:=tk }->H' f=some (.frz (kla_obj "<lambda>" (X.env.qual ++ "<lambda>") params body scope clos pm c' ctv) u)->H' c'=some (.frz oc u')->
    Clo (kla_obj "<lambda>" (X.env.qual ++ "<lambda>") params body scope clos pm c' ctv) c' oc->(∀ b o,H b=some o->Sm o (H' b))->TB X.K H'->Q (.ref f) { s with heap:=h',toks:=tk }) :
  wpAny M A (eval (.Lambda params body scope pos) X.env) Q E s:=by
 obtain⟨ps,hP⟩:=tb.is x hx c P ht
 have oP:s.heap.get? P=some (tabObj ps):=I.hok P _ hP
 have C:=(L.cd x hx c P ht).keeps I.bk
 have hg:=I.mod.glob.keeps I.bk
 have hgP:mainGlobals≠P:=fun q=>by
  obtain⟨o,es,ep,e,hd,_⟩:=hg
  rw[q,oP]at e; cases e; cases hd
 have hB:s.heap.BuiltinsAt X.mg P:=by
  obtain⟨bm,ob,b1,b2,b3,b4,b5,b6⟩:=L.bm
  have b3':=I.bk _ _ b3
  refine⟨bm,ob,b1,b2,fun q=>?_,fun q=>?_,b3',b4,b5,b6⟩
  ·obtain⟨o,es,ep,e,hd,_⟩:=hg
   rw[q,e]at b3'; cases b3'; rw[hd]at b6; cases b6
  ·rw[q,oP]at b3'; cases b3'; cases b4
 refine kla_eval hdf ?_
 cases hf:codeAmong pos ps.toList with
 | none=>
  refine kla_makeFunction (mg:=X.mg) hcl I.ok.glob hg hcode C oP (tb.tr P ps hP) hf hgP hB fun c' ctv h' tk hxb hge hlt hrec htb=>?_
  obtain⟨c2,oc,vs,t,e2,hoc,hd,hv⟩:=hrec
  cases e2
  have nc:H c'=none:=I.hok.fresh hge
  have nf:H h'.objs.size=none:=I.hok.fresh (Nat.le_trans hge (Nat.le_of_lt hlt))
  refine h h'.objs.size c' _ ctv oc _ tk _ _ _ (Inv.table (ps':=#[rawInt pos.line,rawInt pos.col,.ref c']) (oc:=oc) I hP (fun b o n e=>Heap.get?_push_of_some _ (hxb b o n e)) hge hlt (Heap.get?_push_of_some _ hoc) (Heap.get?_push_of_some _ htb) (Heap.get?_push_size _ rfl)) x0y
   (by rw[x0i (Nat.ne_of_lt hlt),x0y]; rfl) ⟨rfl,⟨_,rfl,rfl⟩,vs,_,t,hd,hv⟩ (fun b o e=>?_) ((tb.grow (u:=.ext fun h=>h.get? c'=some oc) hP nc (fun _ z=>nomatch z) hd hv).upd rfl (.inl ?_))
  ·by_cases hb:b=P
   ·subst hb
    rw[hP]at e; cases e
    exact⟨_,by rw[x0i (x0u hP nf),x0i (x0u hP nc),x0y]⟩
   ·exact sm (by rw[x0i (x0u e nf),x0i (x0u e nc),x0i hb]; exact e)
  ·rw[x0i (Nat.ne_of_gt hlt),x0i (x0u hP nf).symm]; exact nf
 | some cv=>
  obtain⟨c',oc,u',vs,q,t,rfl,hc',hd,hv,_⟩:=tb.cd P ps hP pos cv hf
  refine kla_makeFunctionHit (mg:=X.mg) hcl I.ok.glob hg hcode C oP (tb.tr P ps hP) hf hB fun ctv h' tk hk hsz=>?_
  have nf:H h'.objs.size=none:=I.hok.fresh hsz
  refine h h'.objs.size c' _ ctv oc _ tk _ _ _ (I.laid (o:=kn _ _) (fun b o e=>Heap.get?_push_of_some _ (hk b o e)) hsz (z6r (Heap.get?_push_size _ rfl))) x0y (by rw[x0i (x0u hc' nf)]; exact hc') ⟨rfl,⟨_,rfl,rfl⟩,vs,_,t,hd,hv⟩ (fun b o e=>sm (by rw[x0i (x0u e nf)]; exact e)) (tb.upd rfl (.inl nf))
end
end L3
namespace L3
open PySem PySem.Spec PyProof.Rows PySem.W L2
noncomputable def y9h (base h:Heap) (ex:List Addr):Heap:=hideAll h ((List.range h.objs.size).filter fun b=>(base.get? b).isNone && !ex.contains b)
theorem y8x {base h:Heap} {ex:List Addr} {b:Addr} {o:Obj} (e:(y9h base h ex).get? b=some o):h.get? b=some o/\((base.get? b).isSome=true\/b∈ex):=by
 have e1:=of_hideAll _ e
 refine⟨e1,?_⟩
 by_cases hb:b∈((List.range h.objs.size).filter fun b=>(base.get? b).isNone && !ex.contains b)
 ·have:=hideAll_none (h:=h) _ hb
  unfold y9h at e
  rw[this]at e; cases e
 ·rw[List.mem_filter]at hb
  have:¬ (((base.get? b).isNone && !ex.contains b)=true):=fun z=>hb ⟨List.mem_range.mpr (Heap.lt_size e1),z⟩
  cases h1:base.get? b with
  | some o'=>exact .inl rfl
  | none=>
   rw[h1]at this
   simp at this
   exact .inr this
theorem y2v {base h:Heap} {ex:List Addr} {b:Addr} {o:Obj} (e:h.get? b=some o) (hb:(base.get? b).isSome=true\/b∈ex):(y9h base h ex).get? b=some o:=
 hideAll_get _ e fun z=>by
  have:=(List.mem_filter.mp z).2
  rw[Bool.and_eq_true_iff]at this
  rcases hb with hb | hb
  ·have t1:=this.1
   cases q:base.get? b with
   | none=>rw[q]at hb; cases hb
   | some o=>rw[q]at t1; cases t1
  ·have t2:=this.2
   simp at t2
   exact t2 hb
noncomputable def x8a:List Str->List (Str × Addr)->List (Str × Addr)
 | [],_=>[]
 | x::xs,cells=>match cells.lookup x with
  | some c=>(x,c)::x8a xs cells
  | none=>x8a xs cells
theorem x9x {cells:List (Str × Addr)} {x:Str} {c:Addr}:∀ {xs:List Str},(x8a xs cells).lookup x=some c->cells.lookup x=some c
 | [],h=>by cases h
 | y::xs,h=>by
  unfold x8a at h
  split at h
  ·rename_i c' e
   rw[List.lookup_cons]at h
   split at h
   ·rename_i hb
    cases h
    rw[eq_of_beq hb]; exact e
   ·exact x9x h
  ·exact x9x h
theorem y52 {cells:List (Str × Addr)} {x:Str} {c:Addr} (e:cells.lookup x=some c):∀ {xs:List Str},x∈xs->(x8a xs cells).lookup x=some c
 | [],h=>by cases h
 | y::xs,h=>by
  unfold x8a
  by_cases hy:x=y
  ·subst hy
   rw[e]
   simp
  ·have hm:x∈xs:=by rcases List.mem_cons.mp h with z | z; exact absurd z hy; exact z
   split
   ·rw[List.lookup_cons,beq_eq_false_iff_ne.mpr hy]
    exact y52 e hm
   ·exact y52 e hm
noncomputable def z7u:List Nat->Rho->Option (List D)
 | [],_=>some []
 | i::is,ρ=>match ρ[i]? with
  | some (some (d,_))=>if d.isL=false then match z7u is ρ with
   | some ds=>some (d::ds)
   | none=>none
   else none
  | _=>none
theorem y93 {K:PySem.W.Frag} {ρ:Rho} {σ:St} {H:Hp} {w:Wn} {t:Nat} (g:Good K ρ σ H w t):∀ {is:List Nat} {ds:List D},z7u is ρ=some ds->∃ vs,Reps K H w .f 0 ds vs []/\vs.length=is.length/\∀ (j i:Nat),is[j]? = some i->∃ v,vs[j]? = some v/\σ[i]? = some (some v)
 | [],ds,e=>by
  cases e
  exact⟨[],.nil,rfl,fun j i h=>by simp at h⟩
 | i::is,ds,e=>by
  unfold z7u at e
  split at e
  ·rename_i d q h1
   split at e
   ·rename_i hl
    split at e
    ·rename_i ds' h2
     cases e
     obtain⟨vs,r,l,k⟩:=y93 g h2
     obtain⟨v,F,s1,s2⟩:=g.slot i d q h1
     obtain⟨hF,hr⟩:=s2.nolist hl
     refine⟨v::vs,.cons (F:=[]) (G:=[]) ((hr 0).any g.wl) r (fun _ z=>nomatch z),by simp[l],fun j i' hj=>?_⟩
     cases j with
     | zero=>simp at hj; subst hj; exact⟨v,rfl,s1⟩
     | succ j=>exact k j i' (by simpa using hj)
    ·cases e
   ·cases e
  ·cases e
noncomputable def ob0 (cds:List D):D:=.ob 0 ⟨.none,none,.plain,#[]⟩ [] cds
open Classical in
noncomputable def z70 (F:D->(List D->Option (D × Nat))->List D->Option (D × Nat)) (fb:Den) (is:List Nat) (fN:Den):Den:=fun ρ=>match fN ρ with
 | some (.int m,_,ρ1)=>match z7u is ρ1 with
  | some cds=>if ∀ f fo vs,F (.ob f fo vs cds) (z03 fb cds) [.int m,.ob f fo vs cds]=F (ob0 cds) (z03 fb cds) [.int m,ob0 cds]then match F (ob0 cds) (z03 fb cds) [.int m,ob0 cds]with
   | some (r,q)=>some (r,q,ρ1)
   | none=>none
   else none
  | none=>none
 | _=>none
theorem z7t {X:Cx} {x y:Str} {c P fn:Addr} {j k kb:Nat} {ps caps:List Str} {is:List Nat} {params:Arguments} {body eN:Expr} {scope:Scope} {fN fb:Den} {F:D->(List D->Option (D × Nat))->List D->Option (D × Nat)} {p lp pos:Pos}
  (hfn:X.fn=fun _=>true) (L:Lm X.K X.mg X.base) (hx:x∈x6t) (ht:tabIn X.K x=some (c,P)) (hcode:X.env.code=.ref c) (S:LamScope ps caps scope)
  (hm:X.mg y=some (.ref fn)) (hkp:keepIn X.K (.ref fn)=true) (hr:Room j X.A) (hk:k<=j)
  (hF:∀ base' ob G,z4d X.prog X.w X.K X.mg base' (kb+1) ob ps.length G->Cal X.prog X.w X.K X.mg base' k y 2 (F ob G))
  (hbody:∀ (base':Heap) (f c':Addr) (cl:List (Str × Addr)) (q:Str) (A:Around) (outer:List Env) (s:Shared) (H:Hp),Room kb (A.deeper (envX q scope s.heap.objs.size f (.ref c') cl))->PD (cxL X.prog X.w X.K X.mg base' (ps++caps) q scope f (.ref c') cl A outer s H) body fb)
  (hbind:∀ (cl:List (Str × Addr)) (pm cdv ctv:Value) (us:List Value),us.length=ps.length->bindArgs (kla_fn "<lambda>" (X.env.qual ++ "<lambda>") params body scope cl pm cdv ctv) ⟨us,[]⟩=pure (ps.zip us))
  (hN:∀ (j:Nat) (z:Str),caps[j]? = some z->∃ i,is[j]? = some i/\X.N[i]? = some z/\X.env.scope.names.lookup z=some .cell) (hl:is.length=caps.length) (ha:PD X eN fN)
  (hcl:closureFor scope X.env=pure (x8a caps X.env.cells):=by rfl) (hdf:defaultsOf params X.env=([],[]):=by rfl) (hg:Gl X y:=by rfl) (hdb:(y == ("__debug__":Str))=false:=by decide)
  (he:starEach [eN,.Lambda params body scope lp] X.env=(false,eval eN X.env)::starEach [.Lambda params body scope lp] X.env:=by rfl) (hpl:(backTo pos (starEach [.Lambda params body scope lp] X.env)).any (·.1)=false:=by rfl) :
  PD X (.Call (.Name y p) [eN,.Lambda params body scope lp] [] pos) (z70 F fb is fN):=by
 intro pins s σ H Q I hh0
 obtain⟨ρ,w,t,r',q,ρ',gd,ee,k'⟩:=hh0
 unfold z70 at ee
 split at ee
 ·rename_i m q1 ρ1 h1
  split at ee
  ·rename_i cds hc
   split at ee
   ·rename_i hall
    split at ee
    ·rename_i r0 q0 hres
     cases ee
     refine wpAny_Call_Name_kw (y5h I hg hm ?_ hdb)
     refine PySem.W.callWith_K (h₀:=X.base) I.ok.mod.kin hkp ?_ he hpl
     rw[he]
     show wpAny _ _ (spliced ((false,eval eN X.env)::backTo pos (starEach [.Lambda params body scope lp] X.env))) _ _ s
     refine Calls.spliced_cons (thn (ha pins s σ H (fun v H1=>∃ w1 F1,Good X.K ρ' σ H1 w1 (t+1)/\Go H w H1 w1/\Rep X.K H1 w1 (.t t) q1 (.int m) v F1) I ⟨ρ,w,t,_,_,_,gd,h1,fun v H1 w1 F1 g1 go1 r1=>⟨w1,F1,g1,go1,r1⟩⟩) fun u s1 hh1=>?_)
     obtain⟨v,H1,I1,rv,w1,F1,g1,go1,r1⟩:=hh1
     cases r1
     rw[y3w]
     show wpAny _ _ (spliced ((false,eval (.Lambda params body scope lp) X.env)::backTo pos (starEach [] X.env))) _ _ s1
     refine Calls.spliced_cons (z1l I1 L g1.wl.tb hx ht hcode hcl hdf fun f c' pm ctv oc h' tk H2 u1 u2 I2 hf hc' clo sm2 tb2=>Calls.spliced_nil ⟨I2.kIn,?_⟩)
     obtain⟨g2,go2⟩:=g1.drop.grow sm2 tb2
     have go02:=(go1.drop gd.wt).trans go2
     obtain⟨cvs,rc,lc,kc⟩:=y93 g2 hc
     have cl_at:∀ z c,(x8a caps X.env.cells).lookup z=some c->∃ v,h'.IsCell c v:=fun z c e=>I2.cell z c (x9x e)
     have exs:∀ z c,(x8a caps X.env.cells).lookup z=some c->c∈(x8a caps X.env.cells).map (·.2):=fun z c e=>List.mem_map.mpr ⟨(z,c),PySem.mem_of_lookup e,rfl⟩
     have exc:∀ b∈(x8a caps X.env.cells).map (·.2),∃ z,X.env.cells.lookup z=some b:=fun b hb=>by
      have gen:∀ (l:List Str) b,b∈(x8a l X.env.cells).map (·.2)->∃ z,X.env.cells.lookup z=some b:=by
       intro l
       induction l with
       | nil=>intro b hb; cases hb
       | cons z l ih=>
        intro b hb
        unfold x8a at hb
        split at hb
        ·rename_i c0 e0
         rcases List.mem_cons.mp hb with z1 | z1
         ·exact⟨z,by rw[z1]; exact e0⟩
         ·exact ih b z1
        ·exact ih b hb
      exact gen caps b hb
     have C:CellsOk (y9h X.base h' ((x8a caps X.env.cells).map (·.2))) (x8a caps X.env.cells) caps cvs:=by
      refine⟨lc.trans hl,fun i z v h1 h2=>?_,fun a b c h1 h2=>I2.ok.inj a b c (x9x h1) (x9x h2),fun z c e=>?_⟩
      ·obtain⟨ix,e1,e2,e3⟩:=hN i z h1
       obtain⟨v',e4,e5⟩:=kc i ix e1
       rw[h2]at e4; cases e4
       obtain⟨mm,_,lk⟩:=I2.loc
       obtain⟨u,ru,lk⟩:=lk ix z v e2 e5 (.inr (.inl e3))
       rcases lk with⟨z1,_⟩ | ⟨_,c,e6,o,e7,e8⟩
       ·have z2:X.env.scope.names.lookup z=some .local:=z1
        rw[e3]at z2; cases z2
       ·have e9:=y52 e6 (List.mem_of_getElem? h1)
        exact⟨c,u,e9,ru,o,y2v e7 (.inr (exs z c e9)),e8⟩
      ·obtain⟨v,o,e1,e2⟩:=cl_at z c e
       exact⟨v,o,y2v e1 (.inr (exs z c e)),e2⟩
     have kb':∀ b o,X.base.get? b=some o->(y9h X.base h' ((x8a caps X.env.cells).map (·.2))).get? b=some o:=fun b o e=>y2v (I2.bk b o e) (.inl (by rw[e]; rfl))
     have hM:Mod X.K X.mg (y9h X.base h' ((x8a caps X.env.cells).map (·.2))):=by
      obtain⟨m1,m2,⟨mb,m3,m4⟩,m5⟩:=I.mod
      exact⟨m1.keeps kb',m2.keeps kb',⟨mb,m3.keeps kb',m4⟩,m5.keeps kb'⟩
     have frs':∀ L o,X.base.get? L=none->h'.get? L=some o->(L∈X.fs\/L=X.env.locals)->(y9h X.base h' ((x8a caps X.env.cells).map (·.2))).get? L=none:=fun L o n e hL=>by
      cases q:(y9h X.base h' ((x8a caps X.env.cells).map (·.2))).get? L with
      | none=>rfl
      | some o'=>
       rcases(y8x q).2 with z | z
       ·rw[n]at z; cases z
       ·obtain⟨y,ey⟩:=exc L z
        rcases hL with hL | hL
        ·obtain⟨_,o2,e2,_⟩:=I2.ok.funs.mem hL
         have:=I2.ok.cab y L (by rw[hfn]) ey
         exact absurd (Heap.lt_size e2) (Nat.not_lt.mpr this)
        ·exact absurd hL (I2.cne y L ey)
     have e0:Env0 X.prog X.w X.K X.mg (y9h X.base h' ((x8a caps X.env.cells).map (·.2))) X.A X.stack { s1 with heap:=h',toks:=tk } H2:=by
      refine⟨I2.ok.frames,hM,fun b o e=>?_,Nat.le_of_eq (hideAll_size _ _),?_,I2.stkFree,I2.hok,I2.bare⟩
      ·obtain⟨e1,e2⟩:=y8x e
       refine⟨e1,?_⟩
       rcases e2 with z | z
       ·obtain⟨o',z'⟩:=Option.isSome_iff_exists.mp z
        exact(I2.bs b o' z').2
       ·obtain⟨y,ey⟩:=exc b z
        exact I2.freeC y b ey
      ·have all:∀ l:List Env,(∀ b∈frs l,b∈X.env.locals::X.fs)->h'.FunFrames X.base l->h'.FunFrames (y9h X.base h' ((x8a caps X.env.cells).map (·.2))) l:=by
        intro l
        induction l with
        | nil=>intro _ _; trivial
        | cons env r ih=>
         intro hs hl
         obtain⟨hk,⟨L,o,hf,hn,ho,hd⟩,hr⟩:=hl
         have hL:L∈X.env.locals::X.fs:=hs L (by unfold frs; rw[List.filterMap_cons,hf]; exact List.mem_cons_self)
         refine⟨hk,⟨L,o,hf,frs' L o hn ho ?_,ho,hd⟩,ih (fun b hb=>hs b (by unfold frs; rw[List.filterMap_cons,hf]; exact List.mem_cons_of_mem _ hb)) hr⟩
         rcases List.mem_cons.mp hL with z | z
         ·exact .inr z
         ·exact .inl z
       exact all X.stack I2.stkSub I2.stack
     have hcal:=hF (y9h X.base h' ((x8a caps X.env.cells).map (·.2))) (.ob f (kla_obj "<lambda>" (X.env.qual ++ "<lambda>") params body scope (x8a caps X.env.cells) pm c' ctv) cvs cds) (z03 fb cds)
      ⟨f,_,cvs,cds,kla_fn "<lambda>" (X.env.qual ++ "<lambda>") params body scope (x8a caps X.env.cells) pm (.ref c') ctv,ps,rfl,rfl,z8e S C (fun q A outer s H hr=>hbody _ f c' _ q A outer s H hr),hbind _ _ _ _⟩
     obtain⟨fn',fd,ps',G,hm',hkp',hb⟩:=hcal
     obtain rfl:fn=fn':=by rw[hm]at hm'; cases hm'; rfl
     have rob:Rep X.K H2 (x1v t w1) .f 0 (.ob f (kla_obj "<lambda>" (X.env.qual ++ "<lambda>") params body scope (x8a caps X.env.cells) pm c' ctv) cvs cds) (.ref f) []:=.ob hf hc' clo rc
     have hsp:spD X.K 2 (F (.ob f (kla_obj "<lambda>" (X.env.qual ++ "<lambda>") params body scope (x8a caps X.env.cells) pm c' ctv) cvs cds) (z03 fb cds)) [.int m,.ref f] H2 Q E0:=by
      refine⟨rfl,[.int m,.ob f (kla_obj "<lambda>" (X.env.qual ++ "<lambda>") params body scope (x8a caps X.env.cells) pm c' ctv) cvs cds],fun a=>((x1v t w1) a).map fun _=>Ow.f,r',q,fun a o e=>?_,⟨fun a o e=>?_,tb2⟩,?_,(hall _ _ _).trans hres,fun v H3 w3 Fo go3 wl3 rr=>?_⟩
      ·try dsimp only at e
       cases ew:(x1v t w1) a with
       | none=>rw[ew]at e; cases e
       | some o'=>rw[ew]at e; cases e; rfl
      ·try dsimp only at e
       cases ew:(x1v t w1) a with
       | none=>rw[ew]at e; cases e
       | some o'=>exact g2.wl a o' ew
      ·exact .cons (F:=[]) (G:=[]) (.int m) (.cons (F:=[]) (G:=[]) (Rep.freeze (fun a n=>by show((x1v t w1) a).map _=_; rw[n]; rfl) rob (fun _ z=>nomatch z)) .nil (fun _ z=>nomatch z)) (fun _ z=>nomatch z)
      ·obtain⟨b1,b2,b3⟩:=j1q g2 go3 wl3 rr
       exact k' _ _ _ _ b1 (go02.trans b2) b3
     have vals:x2j [.int m,.ref f] [u,.ref f]:=.cons rv (.cons rfl .nil)
     have hl2:([u,Value.ref f]++[]).length=ps'.length:=by
      rw[List.append_nil,<- vals.length]
      exact G.len _ _ _ _ hsp
     refine wpAny_call (codeAny_mono (G.run X.A X.stack _ H2 ⟨[u,.ref f],[]⟩ [u,.ref f] [.int m,.ref f] Q E0 (hr.mono hk) e0 ?_ vals hsp) fun r s' hq=>?_)
     ·have:=hb { s1 with heap:=h',toks:=tk } [u,.ref f] I2.kIn hl2
      rw[List.append_nil]at this
      exact this
     ·cases r with
      | error e=>exact False.elim hq
      | ok fl=>
       cases fl with
       | ret u=>exact I2.after hq
       | next=>exact False.elim hq
       | brk=>exact False.elim hq
       | cont=>exact False.elim hq
    ·cases ee
   ·cases ee
  ·cases ee
 ·cases ee
end L3
namespace L3
open PySem PySem.Spec PyProof.Rows L2
end L3
namespace L3
open PySem PySem.Spec PyProof.Rows L2
structure QE (X:Cx) (e:Expr) (t:TE):Prop where mk::o:PE X e t
structure QD (X:Cx) (e:Expr) (f:Den):Prop where mk::o:PD X e f
structure QDA (X:Cx) (e:List Expr) (f:x21):Prop where mk::o:PDA X e f
structure QDT (X:Cx) (e:Expr) (f:x2m):Prop where mk::o:PDT X e f
structure QDW (X:Cx) (e:Expr) (f:x2m):Prop where mk::o:PDW X e f
structure QDS (X:Cx) (e:Stmt) (f:x1l):Prop where mk::o:PDS X e f
structure QDSs (X:Cx) (e:List Stmt) (f:x1l):Prop where mk::o:y7l X e f
structure QDI (X:Cx) (tg e:Expr) (f:y1k):Prop where mk::o:PDI X tg e f
structure QDG (X:Cx) (b:Nat) (e:Expr) (f:x5m):Prop where mk::o:PDG X b e f
structure QDGs (X:Cx) (b:Nat) (e:List Expr) (f:x8t):Prop where mk::o:j0a X b e f
structure QDO (X:Cx) (e:Option Expr) (f:z3d):Prop where mk::o:PDO X e f
structure QDTs (X:Cx) (e:List Expr) (f:x2m):Prop where mk::o:z7m X e f
structure QQ (X:Cx) (e:Expr) (f:y0q):Prop where mk::o:PQ X e f
theorem qv {X:Cx} (i:Nat) {x:Str} {pos:Pos} (hN:X.N[i]? = some x:=by rfl) (hv:Vis X.env.scope x:=by first | exact Or.inl rfl | exact Or.inr (Or.inl rfl) | exact Or.inr (Or.inr rfl)) (hd:(x == ("__debug__":Str))=false:=by decide) (hcd:(x == ("__classdict__":Str))=false:=by decide):QE X (.Name x pos) (y0f i):=⟨pv i hN hv hd hcd⟩
theorem z29 {X:Cx} {e:Expr} {f:x2m} (h:QDW X e f):QDT X e f:=⟨PW.pt h.o⟩
section
variable {X:Cx} {a b c e:Expr} {fa fb fc f:Den} {pos:Pos}
theorem x0d {i j}:QD X (.Constant (.int i) j pos) (eC (.int i)):=⟨z8b ⟩
end
section
variable {X:Cx} {a b c e:Expr} {fa fb fc f:Den} {pos:Pos}
theorem x6p {i j}:QD X (.Constant (.bool i) j pos) (eC (.bl i)):=⟨j1s ⟩
end
section
variable {X:Cx} {a b c e:Expr} {fa fb fc f:Den} {pos:Pos}
theorem z7k {j}:QD X (.Constant .none j pos) (eC .non):=⟨j0i ⟩
end
section
variable {X:Cx} {a b c e:Expr} {fa fb fc f:Den} {pos:Pos}
theorem y83 {x j}:QD X (.Constant (.str x) j pos) (eC (.str x)):=⟨j0h ⟩
end
section
variable {X:Cx} {a b c e:Expr} {fa fb fc f:Den} {pos:Pos}
theorem x02 {i:Nat} {x:Str} (h:QE X (.Name x pos) (y0f i)):QD X (.Name x pos) (x05 i):=⟨j02 h.o⟩
end
section
variable {X:Cx} {a b c e:Expr} {fa fb fc f:Den} {pos:Pos}
theorem x1a (ha:QD X a fa) (hb:QD X b fb):QD X (.BinOp a .Add b pos) (e2 x2p fa fb):=⟨z8v ha.o hb.o⟩
end
section
variable {X:Cx} {a b c e:Expr} {fa fb fc f:Den} {pos:Pos}
theorem x3c (ha:QD X a fa) (hb:QD X b fb):QD X (.BinOp a .Mult b pos) (e2 x62 fa fb):=⟨z8t ha.o hb.o⟩
end
section
variable {X:Cx} {a b c e:Expr} {fa fb fc f:Den} {pos:Pos}
theorem x92 (ha:QD X a fa) (hb:QD X b fb):QD X (.BinOp a .FloorDiv b pos) (e2 y5o fa fb):=⟨z9s ha.o hb.o⟩
end
section
variable {X:Cx} {a b c e:Expr} {fa fb fc f:Den} {pos:Pos}
theorem x66 (ha:QD X a fa) (hb:QD X b fb):QD X (.BinOp a .Mod b pos) (e2 y2x fa fb):=⟨z9q ha.o hb.o⟩
end
section
variable {X:Cx} {a b c e:Expr} {fa fb fc f:Den} {pos:Pos}
theorem x4k (ha:QD X a fa) (hb:QD X b fb) (hs:x41 b:=by exact fun _ _=>rfl):QD X (.Subscript a b pos) (eIx fa fb):=⟨j17 ha.o hb.o hs⟩
end
section
variable {X:Cx} {a b c e:Expr} {fa fb fc f:Den} {pos:Pos}
theorem x03:QDA X [] x0g:=⟨z6k ⟩
end
section
variable {X:Cx} {a b c e:Expr} {fa fb fc f:Den} {pos:Pos}
theorem x00 {es:List Expr} {g:x21} (ha:QD X e f) (hr:QDA X es g) (hs:starEach (e::es) X.env=(false,eval e X.env)::starEach es X.env:=by rfl):QDA X (e::es) (x01 f g):=⟨z1n ha.o hr.o hs⟩
end
section
variable {X:Cx} {a b c e:Expr} {fa fb fc f:Den} {pos:Pos}
theorem x2v {es:List Expr} {g:x21} (h:QDA X es g):QD X (.List es pos) (x79 g):=⟨z7p h.o⟩
end
section
variable {X:Cx} {a b c e:Expr} {fa fb fc f:Den} {pos:Pos}
theorem x3l {es:List Expr} {g:x21} {x1} (h:QDA X es g):QD X (.Tuple es x1 pos) (x75 g):=⟨z96 h.o⟩
end
section
variable {X:Cx} {a b c e:Expr} {fa fb fc f:Den} {ga gb gc:x2m} {pos:Pos}
theorem x4d (ha:QD X a fa) (he:∀ whole,isTrue a X.env whole=(do let v <- whole; standAt a.pos; holding [v] (truthy v)):=by exact fun _=>rfl):QDT X a (y0r fa):=⟨z5j ha.o he⟩
end
section
variable {X:Cx} {a b c e:Expr} {fa fb fc f:Den} {ga gb gc:x2m} {pos:Pos}
theorem y5u (ha:QD X a fa) (hb:QD X b fb):QDT X (.Compare a [.Lt] [b] pos) (x3u (e2 dLt fa fb)):=⟨z8l ha.o hb.o⟩
end
section
variable {X:Cx} {a b c e:Expr} {fa fb fc f:Den} {ga gb gc:x2m} {pos:Pos}
theorem y9t (ha:QD X a fa) (hb:QD X b fb):QDT X (.Compare a [.Gt] [b] pos) (x3u (e2 dGt fa fb)):=⟨z9e ha.o hb.o⟩
end
section
variable {X:Cx} {a b c e:Expr} {fa fb fc f:Den} {ga gb gc:x2m} {pos:Pos}
theorem x67 (ha:QDT X a ga):QDT X (.UnaryOp .Not a pos) (x61 ga):=⟨z6v ha.o⟩
end
section
variable {X:Cx} {a b c e:Expr} {fa fb fc f:Den} {ga gb gc:x2m} {pos:Pos} {x2l:List Expr}
theorem y1x (ha:QDT X a ga):QDW X (.BoolOp .Or [a] pos) ga:=⟨z4r ha.o⟩
end
section
variable {X:Cx} {a b c e:Expr} {fa fb fc f:Den} {ga gb gc:x2m} {pos:Pos} {x2l:List Expr}
theorem y43 (ha:QDT X a ga) (hb:QDW X (.BoolOp .Or (b::x2l) pos) gb):QDW X (.BoolOp .Or (a::b::x2l) pos) (y8k ga gb):=⟨z9b ha.o hb.o⟩
end
section
variable {X:Cx} {a b c e:Expr} {fa fb fc f:Den} {ga gb gc:x2m} {pos:Pos} {x2l:List Expr}
theorem z16 (hc:QDT X c gc) (ha:QD X a fa) (hb:QD X b fb):QD X (.IfExp c a b pos) (eIf gc fa fb):=⟨z0a hc.o ha.o hb.o⟩
end
section
variable {X:Cx} {a b c e:Expr} {fa fb fc f:Den} {ga gb gc:x2m} {pos:Pos} {st:Stmt} {x2l sa sb:List Stmt} {s s':x1l}
theorem x1s:QDSs X [] x6b:=⟨z4y ⟩
end
section
variable {X:Cx} {a b c e:Expr} {fa fb fc f:Den} {ga gb gc:x2m} {pos:Pos} {st:Stmt} {x2l sa sb:List Stmt} {s s':x1l}
theorem x06 (h1:QDS X st s) (h2:QDSs X x2l s'):QDSs X (st::x2l) (x1g s s'):=⟨z15 h1.o h2.o⟩
end
section
variable {X:Cx} {a b c e:Expr} {fa fb fc f:Den} {ga gb gc:x2m} {pos:Pos} {st:Stmt} {x2l sa sb:List Stmt} {s s':x1l}
theorem x0f (h1:QDS X st s):QDSs X [st] s:=⟨z4s h1.o⟩
end
section
variable {X:Cx} {a b c e:Expr} {fa fb fc f:Den} {ga gb gc:x2m} {pos:Pos} {st:Stmt} {x2l sa sb:List Stmt} {s s':x1l}
theorem x0o (h:QD X e f):QDS X (.Return (some e) pos) (x2u f):=⟨z4c h.o⟩
end
section
variable {X:Cx} {a b c e:Expr} {fa fb fc f:Den} {ga gb gc:x2m} {pos:Pos} {st:Stmt} {x2l sa sb:List Stmt} {s s':x1l}
theorem x2n (hc:QDT X c gc) (ha:QDSs X sa s) (hb:QDSs X sb s'):QDS X (.If c sa sb pos) (sIf gc s s'):=⟨z9i hc.o ha.o hb.o⟩
end
section
variable {X:Cx} {a b c e:Expr} {fa fb fc f:Den} {ga gb gc:x2m} {pos:Pos} {st:Stmt} {x2l sa sb:List Stmt} {s s':x1l}
theorem x0q {i:Nat} {x:Str} {pos':Pos} (hN:X.N.Nodup) (hi:X.N[i]? = some x) (hx:Loc X.env.scope x) (he:QD X e f) (hs:swapsWith e (some (.Name x pos')) pos.line X.env=pure false:=by rfl) (hf:X.fn x=true\/X.env.scope.names.lookup x=some .local:=by first | exact .inl rfl | exact .inr rfl):QDS X (.Assign [.Name x pos'] e pos) (x2i i f):=⟨z63 hN hi hx he.o hs hf⟩
end
section
variable {X:Cx} {a b c e:Expr} {fa fb fc f:Den} {ga gb gc:x2m} {pos:Pos} {st:Stmt} {x2l sa sb:List Stmt} {s s':x1l}
theorem x31 (he:QD X e f) (hs:swapsWith e none pos.line X.env=pure false:=by rfl):QDS X (.Expr e pos) (x3w f):=⟨z30 he.o hs⟩
end
section
variable {X:Cx} {tg a b c e:Expr} {fa fb fc f:Den} {ga gb gc:x2m} {pos p:Pos}
theorem x0s {g:x21} (hm:X.mg "range" = none) (ha:QDA X [a] g) (hg:Gl X "range":=by rfl) (hs:starEach [a] X.env=[(false,eval a X.env)]:=by rfl):QDI X tg (.Call (.Name "range" p) [a] [] pos) (x10 g):=⟨y7k hm ha.o hg hs⟩
end
section
variable {X:Cx} {tg a b c e:Expr} {fa fb fc f:Den} {ga gb gc:x2m} {pos p:Pos}
theorem x3y (ha:QD X a fa):QDI X tg a (x7a fa):=⟨z4j ha.o⟩
end
section
theorem x0h {X:Cx} {b i:Nat} {x:Str} {pos:Pos} (hb:b<=i) (hN:X.N.Nodup) (hi:X.N[i]? = some x) (hx:Loc X.env.scope x) (hf:X.fn x=true\/X.env.scope.names.lookup x=some .local:=by first | exact .inl rfl | exact .inr rfl):QDG X b (.Name x pos) (x0k i):=⟨z2u hb hN hi hx hf⟩
end
section
theorem x2c {X:Cx} {tg iter:Expr} {body:List Stmt} {it:y1k} {pt:x5m} {s:x1l} {pos:Pos} (hp:PassesOwn (model X.prog X.w) X.A X.env X.xe) (hc:X.calm=true) (hi:QDI X tg iter it) (hg:QDG X 0 tg pt) (hb:QDSs X body s) (hs:∀ x,foldedSetIterable iter X.env x=pure x:=by intro _; rfl):QDS X (.For tg iter body [] pos) (x7b it pt s):=⟨z6c hp hc hi.o hg.o hb.o hs⟩
end
section
variable {X:Cx} {k:Nat} {N':List Str} {scope:Scope} {elt tg iter:Expr} {ifs:List Expr} {pos:Pos} {it:y1k} {pt:x5m} {tt:x2m} {te:Den}
theorem x1f:QDTs X [] x1m:=⟨z1m ⟩
end
section
variable {X:Cx} {k:Nat} {N':List Str} {scope:Scope} {elt tg iter:Expr} {ifs:List Expr} {pos:Pos} {it:y1k} {pt:x5m} {tt:x2m} {te:Den}
theorem y25 {c:Expr} {g:x2m} (h:QDT X c g):QDTs X [c] g:=⟨z1b h.o⟩
end
section
variable {X:Cx} {k:Nat} {N':List Str} {scope:Scope} {elt tg iter:Expr} {ifs:List Expr} {pos:Pos} {it:y1k} {pt:x5m} {tt:x2m} {te:Den}
theorem x24 (deep:Bool) (hc:X.calm=true) (S:CompOk X k N' scope) (hi:QDI X tg iter it) (hg:∀ C s H fp,QDG (x1z X N' scope C s H fp) X.N.length tg pt) (ht:∀ C s H fp,QDTs (x1z X N' scope C s H fp) ifs tt) (he:∀ C s H fp,QD (x1z X N' scope C s H fp) elt te) (hs:∀ x,foldedSetIterable iter X.env x=pure x:=by intro _; rfl):QD X (.ListComp elt [⟨tg,iter,ifs,0⟩] scope pos) (x2h k it pt tt te deep):=⟨z5n deep hc S hi.o (fun C s H fp=>(hg C s H fp).o) (fun C s H fp=>(ht C s H fp).o) (fun C s H fp=>(he C s H fp).o) hs⟩
end
section
variable {X:Cx} {k:Nat} {N':List Str} {scope:Scope} {elt tg iter:Expr} {ifs:List Expr} {pos:Pos} {it:y1k} {pt:x5m} {tt:x2m} {te:Den}
theorem x7n {i:Nat} {y:Str} {py spos:Pos} (deep:Bool) (hN:X.N.Nodup) (hy:X.N[i]? = some y) (hx:Loc X.env.scope y) (hsw:swapsWith (.ListComp elt [⟨tg,iter,ifs,0⟩] scope pos) (some (.Name y py)) spos.line X.env=pure true) (hc:X.calm=true) (S:CompOk X k N' scope) (hi:QDI X tg iter it) (hg:∀ C s H fp,QDG (x1z X N' scope C s H fp) X.N.length tg pt) (ht:∀ C s H fp,QDTs (x1z X N' scope C s H fp) ifs tt) (he:∀ C s H fp,QD (x1z X N' scope C s H fp) elt te) (hs:∀ x,foldedSetIterable iter X.env x=pure x:=by intro _; rfl) (hf:X.fn y=true\/X.env.scope.names.lookup y=some .local:=by first | exact .inl rfl | exact .inr rfl | assumption):QDS X (.Assign [.Name y py] (.ListComp elt [⟨tg,iter,ifs,0⟩] scope pos) spos) (x2i i (x2h k it pt tt te deep)):=⟨z0g deep hN hy hx hsw hc S hi.o (fun C s H fp=>(hg C s H fp).o) (fun C s H fp=>(ht C s H fp).o) (fun C s H fp=>(he C s H fp).o) hs hf⟩
end
section
variable {X:Cx} {a b c e:Expr} {fa fb fc f:Den} {pos:Pos}
theorem z62 {k:Nat} (hr:Room k X.A) (ha:QD X a fa) (hb:QD X b fb):QD X (.Compare a [.Eq] [b] pos) (e2 dEq fa fb):=⟨j1i hr ha.o hb.o⟩
end
section
variable {X:Cx} {a b c e:Expr} {fa fb fc f:Den} {pos:Pos}
theorem y1a {k:Nat} (hr:Room k X.A) (ha:QD X a fa) (hb:QD X b fb):QDT X (.Compare a [.Eq] [b] pos) (x3u (e2 dEq fa fb)):=⟨z9m hr ha.o hb.o⟩
end
section
variable {X:Cx} {a b c e:Expr} {fa fb fc f:Den} {pos:Pos}
theorem x82 {k:Nat} (hr:Room k X.A) (ha:QD X a fa) (hb:QD X b fb):QDT X (.Compare a [.NotEq] [b] pos) (x3u (e2 dNe fa fb)):=⟨z76 hr ha.o hb.o⟩
end
section
variable {X:Cx} {a b c e:Expr} {fa fb fc f:Den} {pos:Pos}
theorem j01 {k:Nat} (hr:Room k X.A) (ha:QD X a fa) (hb:QD X b fb) (hm:behindInMarks .In b=false:=by with_unfolding_all rfl):QDT X (.Compare a [.In] [b] pos) (x3u (e2 dIn fa fb)):=⟨z87 hr ha.o hb.o hm⟩
end
section
variable {X:Cx} {a b c e:Expr} {es:List Expr} {fa fb fc f:Den} {g:x21} {pos p p1 p2:Pos}
theorem y8l (hm:X.mg "len" = none) (ha:QDA X [a] g) (hg:Gl X "len":=by rfl) (he:starEach [a] X.env=(false,eval a X.env)::starEach [] X.env:=by rfl) (hpl:(backTo pos (starEach [] X.env)).any (·.1)=false:=by rfl):QD X (.Call (.Name "len" p) [a] [] pos) (eB z2p g):=⟨j03 hm ha.o hg he hpl⟩
end
section
variable {X:Cx} {a b c e:Expr} {es:List Expr} {fa fb fc f:Den} {g:x21} {pos p p1 p2:Pos}
theorem x0w {i:Nat} {x:Str} (hm:X.mg "len" = none) (h:QE X (.Name x p1) (y0f i)) (hg:Gl X "len":=by rfl) (he:starEach [.Name x p1] X.env=(false,eval (.Name x p1) X.env)::starEach [] X.env:=by rfl) (hpl:(backTo pos (starEach [] X.env)).any (·.1)=false:=by rfl):QD X (.Call (.Name "len" p) [.Name x p1] [] pos) (x17 i):=⟨z67 hm h.o hg he hpl⟩
end
section
variable {X:Cx} {a b c e:Expr} {es:List Expr} {fa fb fc f:Den} {g:x21} {pos p p1 p2:Pos}
theorem y9v (hc:X.calm=true) (hm:X.mg "max" = none) (hb:bootBuiltins "max" = some (.builtin "max")) (ha:QDA X (a::es) g) (hg:Gl X "max":=by rfl) (he:starEach (a::es) X.env=(false,eval a X.env)::starEach es X.env:=by rfl) (hpl:(backTo pos (starEach es X.env)).any (·.1)=false:=by rfl):QD X (.Call (.Name "max" p) (a::es) [] pos) (eB j06 g):=⟨z48 hc hm hb ha.o hg he hpl⟩
end
section
variable {X:Cx} {a b c e:Expr} {es:List Expr} {fa fb fc f:Den} {g:x21} {pos p p1 p2:Pos}
theorem y8i (hm:X.mg "list" = none) (hb:bootBuiltins "list" = some (.type "list")) (ha:QDA X [a] g) (hg:Gl X "list":=by rfl) (he:starEach [a] X.env=(false,eval a X.env)::starEach [] X.env:=by rfl) (hpl:(backTo pos (starEach [] X.env)).any (·.1)=false:=by rfl):QD X (.Call (.Name "list" p) [a] [] pos) (x8o g):=⟨y9c hm hb ha.o hg he hpl⟩
end
section
variable {X:Cx} {a b c e:Expr} {es:List Expr} {fa fb fc f:Den} {g:x21} {pos p p1 p2:Pos}
theorem x1n (hm:X.mg "tuple" = none) (hb:bootBuiltins "tuple" = some (.type "tuple")) (ha:QDA X [a] g) (hg:Gl X "tuple":=by rfl) (he:starEach [a] X.env=(false,eval a X.env)::starEach [] X.env:=by rfl) (hpl:(backTo pos (starEach [] X.env)).any (·.1)=false:=by rfl):QD X (.Call (.Name "tuple" p) [a] [] pos) (x1x g):=⟨z2t hm hb ha.o hg he hpl⟩
end
section
variable {X:Cx} {a:Expr} {g:x21} {pos p p1 pos1:Pos}
theorem x9d (hc:X.calm=true) (hm:X.mg "list" = none) (hb:bootBuiltins "list" = some (.type "list")) (hmr:X.mg "range" = none) (ha:QDA X [a] g) (hg:Gl X "list":=by rfl) (hgr:Gl X "range":=by rfl) (hs:starEach [a] X.env=[(false,eval a X.env)]:=by rfl) (he:starEach [.Call (.Name "range" p1) [a] [] pos1] X.env=(false,eval (.Call (.Name "range" p1) [a] [] pos1) X.env)::starEach [] X.env:=by rfl) (hpl:(backTo pos (starEach [] X.env)).any (·.1)=false:=by rfl):QD X (.Call (.Name "list" p) [.Call (.Name "range" p1) [a] [] pos1] [] pos) (x6v g):=⟨z2n hc hm hb hmr ha.o hg hgr hs he hpl⟩
end
section
variable {X:Cx} {a:Expr} {g:x21} {pos p p1 pos1:Pos}
theorem z3z (hc:X.calm=true) (hm:X.mg "tuple" = none) (hb:bootBuiltins "tuple" = some (.type "tuple")) (hmr:X.mg "range" = none) (ha:QDA X [a] g) (hg:Gl X "tuple":=by rfl) (hgr:Gl X "range":=by rfl) (hs:starEach [a] X.env=[(false,eval a X.env)]:=by rfl) (he:starEach [.Call (.Name "range" p1) [a] [] pos1] X.env=(false,eval (.Call (.Name "range" p1) [a] [] pos1) X.env)::starEach [] X.env:=by rfl) (hpl:(backTo pos (starEach [] X.env)).any (·.1)=false:=by rfl):QD X (.Call (.Name "tuple" p) [.Call (.Name "range" p1) [a] [] pos1] [] pos) (z43 g):=⟨z5o hc hm hb hmr ha.o hg hgr hs he hpl⟩
end
section
variable {X:Cx} {a b c e:Expr} {es:List Expr} {fa fb fc f:Den} {g:x21} {pos p p1 p2 cpos apos:Pos}
theorem z1j {k:Nat} (hr:Room k X.A) (ho:QD X a fa) (ha:QDA X [e] g) (hbase:attributeBase a "index" X.env (eval a X.env)=eval a X.env:=by rfl) (hfew:((backTo cpos (starEach [e] X.env)).all (fun x=>!x.1) && (backToKw cpos (keywordEach [] X.env)).all (fun x=>x.1.isSome)
   && decide ([e].length+([]:List Keyword).length+(if([]:List Keyword).isEmpty then 0 else 1)<30))=true:=by rfl) (hline:(apos.endLine == cpos.line)=true:=by rfl) (hs:starEach [e] X.env=(false,eval e X.env)::starEach [] X.env:=by rfl) (hplain:(backTo cpos (starEach [] X.env)).any (·.1)=false:=by rfl):QD X (.Call (.Attribute a "index" apos) [e] [] cpos) (y6o fa g):=⟨z1i hr ho.o ha.o hbase hfew hline hs hplain⟩
end
section
variable {X:Cx} {a b c e:Expr} {es:List Expr} {fa fb fc f:Den} {g:x21} {pos p p1 p2 cpos apos:Pos}
theorem x2q {i:Nat} {x:Str} (h:QE X (.Name x p1) (y0f i)) (ha:QDA X [e] g) (hbase:attributeBase (.Name x p1) "append" X.env (eval (.Name x p1) X.env)=eval (.Name x p1) X.env:=by rfl) (hfew:((backTo cpos (starEach [e] X.env)).all (fun x=>!x.1) && (backToKw cpos (keywordEach [] X.env)).all (fun x=>x.1.isSome)
   && decide ([e].length+([]:List Keyword).length+(if([]:List Keyword).isEmpty then 0 else 1)<30))=true:=by rfl) (hline:(apos.endLine == cpos.line)=true:=by rfl) (hs:starEach [e] X.env=(false,eval e X.env)::starEach [] X.env:=by rfl) (hplain:(backTo cpos (starEach [] X.env)).any (·.1)=false:=by rfl):QD X (.Call (.Attribute (.Name x p1) "append" apos) [e] [] cpos) (y09 i g):=⟨y82 h.o ha.o hbase hfew hline hs hplain⟩
end
section
variable {X:Cx} {a b c e:Expr} {es:List Expr} {fa fb fc f:Den} {g:x21} {pos p p1 p2 cpos apos:Pos}
theorem j08 {i:Nat} {x:Str} (h:QE X (.Name x p1) (y0f i)) (ha:QDA X [e] g) (hbase:attributeBase (.Name x p1) "pop" X.env (eval (.Name x p1) X.env)=eval (.Name x p1) X.env:=by rfl) (hfew:((backTo cpos (starEach [e] X.env)).all (fun x=>!x.1) && (backToKw cpos (keywordEach [] X.env)).all (fun x=>x.1.isSome)
   && decide ([e].length+([]:List Keyword).length+(if([]:List Keyword).isEmpty then 0 else 1)<30))=true:=by rfl) (hline:(apos.endLine == cpos.line)=true:=by rfl) (hs:starEach [e] X.env=(false,eval e X.env)::starEach [] X.env:=by rfl) (hplain:(backTo cpos (starEach [] X.env)).any (·.1)=false:=by rfl):QD X (.Call (.Attribute (.Name x p1) "pop" apos) [e] [] cpos) (z71 i g):=⟨j05 h.o ha.o hbase hfew hline hs hplain⟩
end
section
variable {X:Cx} {a b c e:Expr} {es:List Expr} {fa fb fc f:Den} {g:x21} {pos p p1 p2 cpos apos:Pos}
theorem x0v {n:Nat} {x:Str} (h:QE X (.Name x p1) (y0f n)) (hb:QD X b fb) (hs:x41 b:=by exact fun _ _=>rfl):QD X (.Subscript (.Name x p1) b pos) (x1q n fb):=⟨z79 h.o hb.o hs⟩
end
section
variable {X:Cx} {a b c e:Expr} {es:List Expr} {fa fb fc f:Den} {g:x21} {pos p p1 p2 cpos apos:Pos}
theorem y8q (ha:QD X a fa) (hb:QD X b fb):QD X (.BinOp a .Mult b pos) (y4n fa fb):=⟨z6g ha.o hb.o⟩
end
section
variable {X:Cx} {a b c e:Expr} {es:List Expr} {fa fb fc f:Den} {qa qb:y0q} {g:x21} {pos p p1 p2 cpos apos:Pos}
theorem z34 {n:Nat} {x:Str} (h:QE X (.Name x p1) (y0f n)):QQ X (.Name x p1) (z3c n):=⟨z98 h.o⟩
end
section
variable {X:Cx} {a b c e:Expr} {es:List Expr} {fa fb fc f:Den} {qa qb:y0q} {g:x21} {pos p p1 p2 cpos apos:Pos}
theorem z9x {n:Nat} {x:Str} (h:QE X (.Name x p1) (y0f n)) (hb:QQ X b qb) (hs:x41 b:=by exact fun _ _=>rfl):QQ X (.Subscript (.Name x p1) b pos) (qIx n qb):=⟨j1n h.o hb.o hs⟩
end
section
variable {X:Cx} {a b c e:Expr} {es:List Expr} {fa fb fc f:Den} {qa qb:y0q} {g:x21} {pos p p1 p2 cpos apos:Pos}
theorem z2r {n:Nat} {x:Str} (h:QE X (.Name x p1) (y0f n)) (ha:QQ X a qa) (hb:QQ X b qb) (he:QD X e f) (hi:x41 a:=by exact fun _ _=>rfl) (hasg:∀ v,assign (.Subscript (.Subscript (.Name x p1) a p2) b p) X.env v=(do
   let ov <- holding [v] (eval (.Subscript (.Name x p1) a p2) X.env)
   let iv <- holding [v,ov] (eval b X.env)
   standAt p
   holding [v,ov,iv] (setItem ov iv v)
   release [v,ov,iv] []):=by exact fun _=>rfl) (hs:swapsWithSole [.Subscript (.Subscript (.Name x p1) a p2) b p] e pos.line X.env=pure false:=by rfl):QDS X (.Assign [.Subscript (.Subscript (.Name x p1) a p2) b p] e pos) (y79 n qa qb f):=⟨z2w h.o ha.o hb.o he.o hi hasg hs⟩
end
section
variable {X:Cx} {a b c e:Expr} {es x2l:List Expr} {fa fb fc f:Den} {g:x21} {pos p p1 p2 cpos apos:Pos}
theorem y36 {op} (h:QD X a fa):QD X (.BoolOp op [a] pos) fa:=⟨j00 h.o⟩
end
section
variable {X:Cx} {a b c e:Expr} {es x2l:List Expr} {fa fb fc f:Den} {g:x21} {pos p p1 p2 cpos apos:Pos}
theorem y3a (ha:QD X a fa) (hb:QD X (.BoolOp .And (b::x2l) pos) fb):QD X (.BoolOp .And (a::b::x2l) pos) (y9n fa fb):=⟨z7e ha.o hb.o⟩
end
section
variable {X:Cx} {a b c e:Expr} {es x2l:List Expr} {fa fb fc f:Den} {g:x21} {pos p p1 p2 cpos apos:Pos}
theorem z97 (ha:QD X a fa):QD X (.UnaryOp .Not a pos) (j0m fa):=⟨z90 ha.o⟩
end
section
variable {X:Cx} {a b c e:Expr} {es x2l:List Expr} {fa fb fc f:Den} {g:x21} {pos p p1 p2 cpos apos:Pos}
theorem x08 {j k n:Nat} {x:Str} {F:List D->Option (D × Nat)} (C:Cal X.prog X.w X.K X.mg X.base k x n F) (hr:Room j X.A) (hk:k<=j) (ha:QDA X (e::es) g) (hg:Gl X x:=by rfl) (hdb:(x == ("__debug__":Str))=false:=by decide) (he:starEach (e::es) X.env=(false,eval e X.env)::starEach es X.env:=by rfl) (hpl:(backTo pos (starEach es X.env)).any (·.1)=false:=by rfl):QD X (.Call (.Name x p) (e::es) [] pos) (x0p F n g):=⟨z07 C hr hk ha.o hg hdb he hpl⟩
end
section
variable {X:Cx} {a b c e:Expr} {es elts:List Expr} {fa fb fc f:Den} {g:x21} {pos p p1 p2 tp:Pos} {kt:Nat}
theorem y8c (hm:X.mg "zip" = none) (ha:QDA X [a,b] g) (hg:Gl X "zip":=by rfl) (hs:starEach [a,b] X.env=[(false,eval a X.env),(false,eval b X.env)]:=by rfl) (hs2:starEach [b] X.env=[(false,eval b X.env)]:=by rfl):QDI X (.Tuple elts kt tp) (.Call (.Name "zip" p) [a,b] [] pos) (y1z g):=⟨z59 hm ha.o hg hs hs2⟩
end
section
variable {X:Cx} {k b:Nat} {e:Expr} {es:List Expr} {pt:x5m} {ps:x8t} {pos:Pos}
theorem x4i:QDGs X b [] x4n:=⟨z2d ⟩
end
section
variable {X:Cx} {k b:Nat} {e:Expr} {es:List Expr} {pt:x5m} {ps:x8t} {pos:Pos}
theorem x1i (h1:QDG X b e pt) (h2:QDGs X b es ps) (hs:(assignEach (e::es) X.env).map (·.2)=assign e X.env::(assignEach es X.env).map (·.2):=by rfl):QDGs X b (e::es) (x14 pt ps):=⟨y7o h1.o h2.o hs⟩
end
section
variable {X:Cx} {k b:Nat} {e:Expr} {es:List Expr} {pt:x5m} {ps:x8t} {pos:Pos}
theorem x5n {n:Nat} (hc:X.calm=true) (h:QDGs X b es ps) (hl:∀ ds ρ ρ',ps ds ρ=some ρ'->ds.length=n) (hn:(assignEach es X.env).length=n:=by rfl) (hst:(assignEach es X.env).findIdx? (·.1)=none:=by rfl):QDG X b (.Tuple es k pos) (y2l ps):=⟨z5a hc h.o hl hn hst⟩
end
section
variable {X:Cx} {a b c e:Expr} {es:List Expr} {fa fb fc f:Den} {g:x21} {pos p p1 p2:Pos}
theorem z3q (hc:X.calm=true) (hm:X.mg "all" = none) (ha:QDA X [a] g) (hg:Gl X "all":=by rfl) (he:starEach [a] X.env=(false,eval a X.env)::starEach [] X.env:=by rfl) (hpl:(backTo pos (starEach [] X.env)).any (·.1)=false:=by rfl):QD X (.Call (.Name "all" p) [a] [] pos) (eB z1d g):=⟨z8c hc hm ha.o hg he hpl⟩
end
section
variable {X:Cx} {a b c e:Expr} {es:List Expr} {fa fb fc f:Den} {ga gb:x2m} {g:x21} {pos p p1 p2 pT:Pos}
theorem y34 (T:IT) {t:Str} (hm:X.mg "isinstance" = none) (hmT:X.mg t=none) (hbT:bootBuiltins t=some (.type T.nm)) (ha:QD X a fa) (hg:Gl X "isinstance":=by rfl) (hgT:Gl X t:=by rfl) (hnT:t ≠ "__name__":=by decide) (hdT:(t == ("__debug__":Str))=false:=by decide) (hs:starEach [a,.Name t pT] X.env=(false,eval a X.env)::starEach [.Name t pT] X.env:=by rfl) (hpl:(backTo pos (starEach [.Name t pT] X.env)).any (·.1)=false:=by rfl):QD X (.Call (.Name "isinstance" p) [a,.Name t pT] [] pos) (z3n T fa):=⟨j09 T hm hmT hbT ha.o hg hgT hnT hdT hs hpl⟩
end
section
variable {X:Cx} {a b c e:Expr} {es:List Expr} {fa fb fc f:Den} {ga gb:x2m} {g:x21} {pos p p1 p2 pT:Pos}
theorem y5m (ha:QD X a fa) (hb:QD X b fb) (hc:QD X c fc) (hm:lastMarks [.LtE,.Lt] [b,c]=false:=by with_unfolding_all rfl):QD X (.Compare a [.LtE,.Lt] [b,c] pos) (eCh dLe dLt fa fb fc):=⟨y5k ha.o hb.o hc.o hm⟩
end
section
variable {X:Cx} {a b c e:Expr} {es:List Expr} {fa fb fc f:Den} {ga gb:x2m} {g:x21} {pos p p1 p2 pT:Pos}
theorem z3h (ha:QD X a fa) (hb:QD X b fb):QD X (.BinOp a .Add b pos) (j04 fa fb):=⟨z99 ha.o hb.o⟩
end
section
variable {X:Cx} {a b c e:Expr} {es:List Expr} {fa fb fc f:Den} {ga gb:x2m} {g:x21} {pos p p1 p2 pT:Pos}
theorem y65:QDO X none z1e:=⟨z0l ⟩
end
section
variable {X:Cx} {a b c e:Expr} {es:List Expr} {fa fb fc f:Den} {ga gb:x2m} {g:x21} {pos p p1 p2 pT:Pos}
theorem y60 (h:QD X e f):QDO X (some e) (y8v f):=⟨z2k h.o⟩
end
section
variable {X:Cx} {a b c e:Expr} {es:List Expr} {fa fb fc f:Den} {ga gb:x2m} {g:x21} {pos p p1 p2 pT:Pos}
theorem z95 {lo hi:Option Expr} {fl fh:z3d} (ha:QD X a fa) (hl:QDO X lo fl) (hh:QDO X hi fh):QD X (.Subscript a (.Slice lo hi none p2) pos) (eSl fa fl fh):=⟨j1j ha.o hl.o hh.o⟩
end
section
variable {X:Cx} {k b n:Nat} {a c e tg:Expr} {es:List Expr} {pt:x5m} {ps:x8t} {pos:Pos} {fa fb f:Den}
theorem z6a (he:QD X e f) (hg:QDG X 0 tg pt) (hs:swapsWithSole [tg] e pos.line X.env=pure false:=by rfl) (hw:swappedStores [tg] e X.env=pure none:=by rfl) (h1:(assignEach [tg] X.env).map (·.2)=[assign tg X.env]:=by rfl):QDS X (.Assign [tg] e pos) (z6z f pt):=⟨z5w he.o hg.o hs hw h1⟩
end
section
variable {X:Cx} {a b c e:Expr} {fa fb fc f:Den} {pos:Pos}
theorem z5x (ha:QD X a fa) (hb:QD X b fb):QD X (.BinOp a .Mult b pos) (z19 fa fb):=⟨z4w ha.o hb.o⟩
end
section
variable {X:Cx} {a b c e:Expr} {es:List Expr} {fa fb fc f:Den} {ga gb:x2m} {g:x21} {pos p p1 p2 cpos apos:Pos}
theorem z4g {x:Str} {i:Int} (h:∃ t,X.mg x=some (.int i t)) (hg:Gl X x:=by rfl) (hd:(x == ("__debug__":Str))=false:=by decide):QD X (.Name x pos) (eC (.int i)):=⟨z4k h hg hd⟩
end
section
variable {X:Cx} {a b c e:Expr} {es:List Expr} {fa fb fc f:Den} {ga gb gc:x2m} {g:x21} {qa qb:y0q} {s:x1l} {pos p p1 p2 cpos apos:Pos}
theorem y3i {st:Stmt}:QDS X st y4d:=⟨y7w ⟩
end
section
variable {X:Cx} {a b c e:Expr} {es:List Expr} {fa fb fc f:Den} {ga gb gc:x2m} {g:x21} {qa qb:y0q} {s:x1l} {pos p p1 p2 cpos apos:Pos}
theorem y8t {body:List Stmt} (hp:PassesOwn (model X.prog X.w) X.A X.env X.xe) (hc:QDT X c gc) (hb:QDSs X body s):QDS X (.While c body [] pos) (y63 gc s):=⟨y9d hp hc.o hb.o⟩
end
section
variable {X:Cx} {a b c e:Expr} {es:List Expr} {fa fb fc f:Den} {ga gb gc:x2m} {g:x21} {qa qb:y0q} {s:x1l} {pos p p1 p2 cpos apos:Pos}
theorem z55 (ha:QD X a fa) (hb:QD X b fb):QD X (.BinOp a .Add b pos) (y97 fa fb):=⟨z5q ha.o hb.o⟩
end
section
variable {X:Cx} {a b c e:Expr} {es:List Expr} {fa fb fc f:Den} {ga gb gc:x2m} {g:x21} {qa qb:y0q} {s:x1l} {pos p p1 p2 p3 cpos apos:Pos}
theorem y6d {n j:Nat} {c:Int} {x:Str} (hm:X.mg "len" = none) (h:QE X (.Name x p1) (y0f n)) (hg:Gl X "len":=by rfl) (hs:x41 (.Constant (.int c) j p2):=by exact fun _ _=>rfl) (he:starEach [.Subscript (.Name x p1) (.Constant (.int c) j p2) p3] X.env=(false,eval (.Subscript (.Name x p1) (.Constant (.int c) j p2) p3) X.env)::starEach [] X.env:=by rfl) (hpl:(backTo pos (starEach [] X.env)).any (·.1)=false:=by rfl):QQ X (.Call (.Name "len" p) [.Subscript (.Name x p1) (.Constant (.int c) j p2) p3] [] pos) (x88 n c):=⟨z26 hm h.o hg hs he hpl⟩
end
section
variable {X:Cx} {a b c e:Expr} {es:List Expr} {fa fb fc f:Den} {ga gb gc:x2m} {g:x21} {qa qb:y0q} {s:x1l} {pos p p1 p2 p3 cpos apos:Pos}
theorem z53 {k l:Str} {j1 j2:Nat} (hkl:k≠l) (ha:QQ X a qa) (hb:QQ X b qb):QD X (.Dict [some (.Constant (.str k) j1 p1),some (.Constant (.str l) j2 p2)] [a,b] pos) (y6t k l qa qb):=⟨z6w hkl ha.o hb.o⟩
end
section
variable {X:Cx} {a b c e:Expr} {es:List Expr} {fa fb fc f:Den} {ga gb gc:x2m} {g:x21} {qa qb:y0q} {s:x1l} {pos p p1 p2 p3 cpos apos:Pos}
theorem z5y {k:Nat} (hr:Room k X.A) (ho:QD X a fa) (he:QD X b fb) (hf:QD X c fc) (hbase:attributeBase a "get" X.env (eval a X.env)=eval a X.env:=by rfl) (hfew:((backTo cpos (starEach [b,c] X.env)).all (fun x=>!x.1) && (backToKw cpos (keywordEach [] X.env)).all (fun x=>x.1.isSome)
   && decide (([b,c]:List Expr).length+([]:List Keyword).length+(if([]:List Keyword).isEmpty then 0 else 1)<30))=true:=by rfl) (hline:(apos.endLine == cpos.line)=true:=by rfl) (htr:backTo cpos (starEach [b,c] X.env)=[(false,eval b X.env),(false,eval c X.env)]:=by rfl):QD X (.Call (.Attribute a "get" apos) [b,c] [] cpos) (z2z fa fb fc):=⟨z50 hr ho.o he.o hf.o hbase hfew hline htr⟩
end
section
variable {X:Cx} {a b c e:Expr} {es elts:List Expr} {fa fb fc f:Den} {g:x21} {pos p p1 p2 tp:Pos} {kt:Nat}
theorem y6b (hm:X.mg "enumerate" = none) (ha:QDA X [a] g) (hg:Gl X "enumerate":=by rfl) (hs:starEach [a] X.env=[(false,eval a X.env)]:=by rfl):QDI X (.Tuple elts kt tp) (.Call (.Name "enumerate" p) [a] [] pos) (y2d g):=⟨z18 hm ha.o hg hs⟩
end
section
variable {X:Cx} {e:Expr} {es:List Expr} {g:x21} {pos p:Pos}
theorem z1a {i j k n:Nat} {x:Str} {ob:D} {G:List D->Option (D × Nat)} (h:QE X (.Name x p) (y0f i)) (C:z4d X.prog X.w X.K X.mg X.base k ob n G) (hr:Room j X.A) (hk:k<=j) (ha:QDA X (e::es) g) (he:starEach (e::es) X.env=(false,eval e X.env)::starEach es X.env:=by rfl) (hpl:(backTo pos (starEach es X.env)).any (·.1)=false:=by rfl):QD X (.Call (.Name x p) (e::es) [] pos) (y06 ob G i n g):=⟨z0j h.o C hr hk ha.o he hpl⟩
end
theorem Cal.mkQ {P:Program} {w:World} {K:PySem.W.Frag} {mg:Str->Option Value} {base:Heap} {k:Nat} {x:Str} {st:Stmt} {N ps:List Str} {body:x1l} (a:At K mg x st ps) (S:FnScope N ps (x0e st))
  (h:∀ (f:Addr) (cdv:Value) (A:Around) (outer:List Env) (s:Shared) (H:Hp) (E:XK),Room k (A.deeper (envOfC x (x0e st) s.heap.objs.size f cdv))->QDSs (y26 CX0 P w K mg base N x (x0e st) f cdv A outer s H E).nox (x35 st) body) :
  Cal P w K mg base (k+1) x ps.length (fnD N.length body):=Cal.mk a S fun f cdv A outer s H E hr=>(h f cdv A outer s H E hr).o
theorem z3u {P:Program} {w:World} {K:PySem.W.Frag} {mg:Str->Option Value} {base:Heap} {k:Nat} {x:Str} {st:Stmt} {N ps:List Str} {body:x1l} {f:Addr} {fd:FuncData} (F:Fun K x x st f fd) (S:FnScope N ps (x0e st))
  (h:∀ (f:Addr) (cdv:Value) (A:Around) (outer:List Env) (s:Shared) (H:Hp) (E:XK),Room k (A.deeper (envOfC x (x0e st) s.heap.objs.size f cdv))->QDSs (y26 CX0 P w K mg base N x (x0e st) f cdv A outer s H E).nox (x35 st) body) :
  FnOk P w K mg base CX0 (k+1) f fd ps (spD K ps.length (fnD N.length body)):=z9d F S fun f cdv A outer s H E hr=>(h f cdv A outer s H E hr).o
end L3
namespace L3
open PySem PySem.Spec PyProof.Rows PySem.W L2
end L3
namespace L3
open PySem PySem.Spec PyProof.Rows PySem.W L2
noncomputable def y72 (X:Cx):List Str->List Nat->Prop
 | [],[]=>True
 | z::zs,i::is=>X.N[i]? = some z/\X.env.scope.names.lookup z=some .cell/\y72 X zs is
 | _,_=>False
theorem y72.len {X:Cx}:∀ {zs:List Str} {is:List Nat},y72 X zs is->is.length=zs.length
 | [],[],_=>rfl
 | _::_,_::_,h=>by simp[h.2.2.len]
theorem y72.at {X:Cx}:∀ {zs:List Str} {is:List Nat},y72 X zs is->∀ (j:Nat) (z:Str),zs[j]? = some z->∃ i,is[j]? = some i/\X.N[i]? = some z/\X.env.scope.names.lookup z=some .cell
 | [],[],_,_,_,e=>by simp at e
 | z::zs,i::is,h,0,_,e=>by simp at e; subst e; exact⟨i,rfl,h.1,h.2.1⟩
 | z::zs,i::is,h,j+1,y,e=>by
  obtain⟨i',a,b⟩:=h.2.2.at j y (by simpa using e)
  exact⟨i',by simpa using a,b⟩
section
variable {P:Program} {w:World} {K:PySem.W.Frag} {mg:Str->Option Value} {base:Heap} {N:List Str} {x:Str} {sc:Scope} {f c:Addr} {A:Around} {outer:List Env} {s₀:Shared} {H₀:Hp} {E:XK}
theorem z84 {y:Str} {Pt:Addr} {j k kb:Nat} {ps caps:List Str} {is:List Nat} {params:Arguments} {body eN:Expr} {scope:Scope} {fN fb:Den} {F:D->(List D->Option (D × Nat))->List D->Option (D × Nat)} {p lp pos:Pos}
  (L:Lm K mg base) (hx:x∈x6t) (ht:tabIn K x=some (c,Pt)) (S:LamScope ps caps scope) (hy:∃ fn,mg y=some (.ref fn)/\keepIn K (.ref fn)=true) (hr:Room j (A.deeper (envOfC x sc s₀.heap.objs.size f (.ref c)))) (hk:k<=j)
  (hF:∀ base' ob G,z4d P w K mg base' (kb+1) ob ps.length G->Cal P w K mg base' k y 2 (F ob G))
  (hbody:∀ (base':Heap) (f c':Addr) (cl:List (Str × Addr)) (q:Str) (A:Around) (outer:List Env) (s:Shared) (H:Hp),Room kb (A.deeper (envX q scope s.heap.objs.size f (.ref c') cl))->QD (cxL P w K mg base' (ps++caps) q scope f (.ref c') cl A outer s H) body fb)
  (hbind:∀ (q:Str) (cl:List (Str × Addr)) (pm cdv ctv:Value) (us:List Value),us.length=ps.length->bindArgs (kla_fn "<lambda>" q params body scope cl pm cdv ctv) ⟨us,[]⟩=pure (ps.zip us))
  (hN:y72 (y26 CX0 P w K mg base N x sc f (.ref c) A outer s₀ H₀ E).nox caps is) (ha:QD (y26 CX0 P w K mg base N x sc f (.ref c) A outer s₀ H₀ E).nox eN fN)
  (hse:∀ env:Env,starEach [eN,.Lambda params body scope lp] env=(false,eval eN env)::starEach [.Lambda params body scope lp] env)
  (hcl:closureFor scope (y26 CX0 P w K mg base N x sc f (.ref c) A outer s₀ H₀ E).nox.env=pure (x8a caps (y26 CX0 P w K mg base N x sc f (.ref c) A outer s₀ H₀ E).nox.env.cells):=by rfl) (hdf:∀ env,defaultsOf params env=([],[]):=by exact fun _=>rfl) (hg:Gl (y26 CX0 P w K mg base N x sc f (.ref c) A outer s₀ H₀ E).nox y:=by rfl) (hdb:(y == ("__debug__":Str))=false:=by decide) :
  QD (y26 CX0 P w K mg base N x sc f (.ref c) A outer s₀ H₀ E).nox (.Call (.Name y p) [eN,.Lambda params body scope lp] [] pos) (z70 F fb is fN):=by
 obtain⟨fn,h1,h2⟩:=hy
 exact⟨z7t (X:=(y26 CX0 P w K mg base N x sc f (.ref c) A outer s₀ H₀ E).nox) (c:=c) (P:=Pt) rfl L hx ht rfl S h1 h2 hr hk hF (fun base' f c' cl q A outer s H hr=>(hbody base' f c' cl q A outer s H hr).o) (hbind _) hN.at hN.len ha.o hcl (hdf _) hg hdb (hse _) (by rw[y3w]; rfl)⟩
end
theorem j28 {K:PySem.W.Frag} {mg:Str->Option Value} {h:Heap} {x:Str} {c P f:Addr} {oc:Value} {od:Option Addr} {fd:FuncData} {sl:Array (Option Value)} (X:K.In h) (G:h.Ns mainGlobals mg) (ht:tabIn K x=some (c,P)) (hm:mg x=some (.ref f)) (lk:K.lookup f=some ⟨oc,od,.func fd,sl⟩):fd.code=.ref c:=
 law_code X G ht hm (X _ _ lk) rfl
theorem Cal.mkL {P:Program} {w:World} {K:PySem.W.Frag} {mg:Str->Option Value} {base:Heap} {k:Nat} {x:Str} {st:Stmt} {N ps:List Str} {body:x1l} (KX:K.In base) (G:base.Ns mainGlobals mg) (ht:∃ c Pt,tabIn K x=some (c,Pt)) (a:At K mg x st ps) (S:FnScope N ps (x0e st))
  (h:∀ (f c Pt:Addr) (A:Around) (outer:List Env) (s:Shared) (H:Hp) (E:XK),tabIn K x=some (c,Pt)->Room k (A.deeper (envOfC x (x0e st) s.heap.objs.size f (.ref c)))->QDSs (y26 CX0 P w K mg base N x (x0e st) f (.ref c) A outer s H E).nox (x35 st) body) :
  Cal P w K mg base (k+1) x ps.length (fnD N.length body):=by
 obtain⟨f,fd,F,m,b⟩:=a
 obtain⟨c,Pt,ht⟩:=ht
 obtain⟨oc,od,kV,doc,pm,an,cdv,ct,osl,rfl,lk,hcd⟩:=F.ex
 have e:cdv=.ref c:=j28 KX G ht m lk
 subst e
 exact⟨f,_,ps,z7r lk hcd S (fun vs H Q E h=>h.1) fun A outer s H vs Q E hr hsp=>⟨_,(h f c Pt A outer s H E ht hr).o.nox,y6f hsp⟩,m,F.kp,b⟩
theorem j2k {α:Type}:∀ {l:List α},l.length=2->∃ a b,l=[a,b]
 | [a,b],_=>⟨a,b,rfl⟩
theorem LamScope.of {ps cs:List Str} {sc:Scope} (kind:sc.kind=.function) (co:sc.isCoroutine=false) (gen:sc.isGenerator=false) (nd:(ps++cs).Nodup) (par:∀ x∈ps,sc.names.lookup x=some .local) (cap:∀ x∈cs,sc.names.lookup x=some .free)
  (nocell:∀ y∈sc.names,y.2 ≠ .cell) (free:∀ y∈sc.names,y.2=.free->y.1∈cs):LamScope ps cs sc:=⟨kind,co,gen,nd,par,cap,nocell,fun x e=>free _ (PySem.mem_of_lookup e) rfl⟩
theorem j2c {K:PySem.W.Frag} {x:Str} {f c Pt:Addr} {oc o2:Value} {od od2:Option Addr} {fd:FuncData} {sl sl2:Array (Option Value)} {vs:Array Value} (a:nsIn K mainGlobals x=some (some (.ref f))) (l:K.lookup f=some ⟨oc,od,.func fd,sl⟩) (hc:fd.code=.ref c) (m:K.lookup c=some ⟨o2,od2,.fields vs,sl2⟩) (v:vs[11]? = some (.ref Pt)) :
  ∃ c Pt,tabIn K x=some (c,Pt):=⟨c,Pt,by unfold tabIn; rw[a]; simp only[l,hc,m,v]⟩
theorem j0o {K:PySem.W.Frag} {x:Str} (a:nsIn K mainGlobals x=some none):tabIn K x=none:=by unfold tabIn; rw[a]
noncomputable def x63 (K:PySem.W.Frag) (b:Addr):Bool:=x6t.any fun x=>match tabIn K x with
 | some (_,P)=>P == b
 | none=>false
theorem z2x {K:PySem.W.Frag} {b:Addr} (h:x63 K b=true):∃ x∈x6t,∃ c,tabIn K x=some (c,b):=by
 obtain⟨x,hx,e⟩:=List.any_eq_true.mp h
 split at e
 ·rename_i c P hP
  rw[eq_of_beq e]at hP
  exact⟨x,hx,c,hP⟩
 ·cases e
theorem z0z {K:PySem.W.Frag} {x:Str} {c P:Addr} (hx:x∈x6t) (e:tabIn K x=some (c,P)):x63 K P=true:=
 List.any_eq_true.mpr ⟨x,hx,by rw[e]; exact beq_self_eq_true P⟩
theorem y7q {P:Program} {w:World} {K:PySem.W.Frag} {mg mb:Str->Option Value} {CX:CXT} {k:Nat} {fa a:Addr} {fd:FuncData} {x:Str} {sp:Sp} {s₁:Shared} {vs:List Value} {ns:List Int}
  (KX:K.In s₁.heap) (hns:s₁.heap.Ns mainGlobals mg) (hb:s₁.heap.Ns builtinsNs mb) (hbb:∀ x:Str,x ≠ "__name__"->mb x=bootBuiltins x) (hlim:s₁.heap.NoLimit) (hg:s₁.gens = #[])
  (hbm:∃ bm o,mg "__builtins__" = some (.ref bm)/\bm≠builtinsNs/\s₁.heap.get? bm=some o/\o.cls=.type "module" /\ o.dict=some builtinsNs/\o.data=.plain)
  (hT:∀ x∈x6t,∀ c Pt,tabIn K x=some (c,Pt)->CodeHd s₁.heap c Pt/\s₁.heap.get? Pt=some (tabObj #[])) (hnt:noTabs K=true)
  (ha:s₁.heap.get? a=some { cls:=.type "list",data:=.seq vs.toArray }) (hi:IntsAre vs ns) (hl:ns.length<=sizeLine) (hr:Room k callerA)
  (F:∀ base:Heap,K.In base->base.Ns mainGlobals mg->Lm K mg base->FnOk P w K mg base CX k fa fd [x] sp) (hbind:∀ (s:Shared) (u:Value),BindsTo s fd ⟨[u],[]⟩ [(x,u)])
  (hsp:∀ H:Hp,TB K H->SqL K H a (ns.map V.int)->sp [.ref a] H (fun v _=>v=.bl true) fun _ _ _=>False)
  (hCX:∀ H e s',CX [] H s₁ (fun _ _ _=>False) e s'->False) :
  codeAny (model P w) callerA (.call (.ref fa) ⟨[.ref a],[]⟩) (fun r s'=>r=.ok (.ret (.bool true))/\OldK s₁.heap s'.heap/\s'.os=s₁.os/\AllBare s'.gens) s₁:=by
 have rv:=y4c hi
 have lenV:=hi.length
 have tabO:∀ b,x63 K b=true->(∃ c,CodeHd s₁.heap c b)/\s₁.heap.get? b=some (tabObj #[]):=fun b h=>by
  obtain⟨x,hx,c,e⟩:=z2x h
  obtain⟨h1,h2⟩:=hT x hx c b e
  exact⟨⟨c,h1⟩,h2⟩
 have core:∀ H:Hp,(∀ b,H b=none\/(b=a/\∃ o xs,H b=some (.frz o (.lst xs)))\/(x63 K b=true/\H b=some (.tbl #[])))->(∀ b,x63 K b=true->H b=some (.tbl #[]))->SqL K H a (ns.map V.int)->HOk P w H s₁.heap->(∀ o xs,H a=some (.frz o (.lst xs))->K.lookup a=none)->
   codeAny (model P w) callerA (.call (.ref fa) ⟨[.ref a],[]⟩) (fun r s'=>r=.ok (.ret (.bool true))/\OldK s₁.heap s'.heap/\s'.os=s₁.os/\AllBare s'.gens) s₁:=by
  intro H hO hO2 hS hok hK
  have base_of:∀ {b:Addr} {o:Obj},s₁.heap.get? b=some o->H b=none->(z02 s₁.heap H).get? b=some o:=fun e n=>z2j e n
  have noA:∀ {b:Addr} {o:Obj},s₁.heap.get? b=some o->o.cls ≠ .type "list"->o.cls ≠ .none->H b=none:=fun {b o} e d1 d2=>by
   rcases hO b with z | ⟨z,_⟩ | ⟨z,_⟩
   ·exact z
   ·subst z; rw[ha]at e; cases e; exact absurd rfl d1
   ·rw[(tabO b z).2]at e; cases e; exact absurd rfl d2
  have noD:∀ {b:Addr} {o:Obj} {es:Array DictEntry} {ep:Nat},s₁.heap.get? b=some o->o.data=.dict es ep->H b=none:=fun {b o es ep} e d=>by
   rcases hO b with z | ⟨z,_⟩ | ⟨z,_⟩
   ·exact z
   ·subst z; rw[ha]at e; cases e; exact nomatch (show Data.seq vs.toArray _=Data.dict es ep from d)
   ·rw[(tabO b z).2]at e; cases e; exact nomatch (show Data.fields _=Data.dict es ep from d)
  have nsK:∀ {b:Addr} {m:Str->Option Value},s₁.heap.Ns b m->(z02 s₁.heap H).Ns b m:=fun {b m} hh=>by
   obtain⟨o,es,ep,e,d,r⟩:=hh
   exact⟨o,es,ep,base_of e (noD e d),d,r⟩
  have hKb:K.In (z02 s₁.heap H):=fun b o e=>base_of (KX b o e) (by
   rcases hO b with z | ⟨z,o',xs,z2⟩ | ⟨z,_⟩
   ·exact z
   ·subst z; rw[hK _ _ z2]at e; cases e
   ·have e2:=KX b o e
    rw[(tabO b z).2]at e2
    cases e2
    have h2:=List.all_eq_true.mp hnt (b,tabObj #[]) (mem_of_lookupK e)
    exact absurd (show false=true from h2) Bool.false_ne_true)
  have hM:Mod K mg (z02 s₁.heap H):=by
   obtain⟨mc,h1,h2⟩:=hlim
   exact⟨hKb,nsK hns,⟨mb,nsK hb,hbb⟩,⟨mc,nsK h1,h2⟩⟩
  have hL:Lm K mg (z02 s₁.heap H):=by
   refine⟨?_,fun x hx c Pt e=>?_⟩
   ·obtain⟨bm,o,h1,h2,h3,h4,h5⟩:=hbm
    exact⟨bm,o,h1,h2,base_of h3 (noA h3 (by rw[h4]; decide) (by rw[h4]; nofun)),h4,h5⟩
   ·obtain⟨o,v1,v2,v3,v4,v5,v6,v7,v8,e1,e2,r⟩:=(hT x hx c Pt e).1
    exact⟨o,v1,v2,v3,v4,v5,v6,v7,v8,base_of e1 (noA e1 (by rw[e2]; decide) (by rw[e2]; nofun)),e2,r⟩
  have tb:TB K H:=by
   refine⟨fun Q ps e=>?_,fun Q ps e pos cv hc=>?_,fun x hx c Pt e=>⟨_,hO2 Pt (z0z hx e)⟩⟩ <;> rcases hO Q with z | ⟨_,o',xs,z⟩ | ⟨_,z⟩ <;> rw[e]at z <;> cases z
   ·exact True.intro
   ·cases hc
  have e0:Env0 P w K mg (z02 s₁.heap H) callerA [] s₁ H:=⟨rfl,hM,fun b o e=>z58 e,Nat.le_of_eq (y85 _ _),trivial,fun b hb=>absurd (show b∈([]:List Addr)from hb) (by simp),hok,.of_eq hg⟩
  refine codeAny_mono ((F _ hKb (nsK hns) hL).run callerA [] s₁ H ⟨[.ref a],[]⟩ [.ref a] [.ref a] _ _ hr e0 (hbind s₁ (.ref a)) (.cons rfl .nil) (hsp H tb hS)) fun r s' h=>?_
  cases r with
  | error e=>exact(hCX H e s' h).elim
  | ok fl=>
   cases fl with
   | next=>exact False.elim h
   | brk=>exact False.elim h
   | cont=>exact False.elim h
   | ret u=>
    obtain⟨v,H',os,bare,un,hok',r',q⟩:=h
    have q':v=.bl true:=q
    subst q'
    obtain rfl:u=Value.bool true:=r'
    have kp:∀ b o,s₁.heap.get? b=some o->x63 K b=false->s'.heap.get? b=some o:=fun b o e nt=>by
     rcases hO b with z | ⟨_,ob,xs,z⟩ | ⟨z,_⟩
     ·exact un.keep b o e z (by intro z; exact absurd (show b∈([]:List Addr)from z) (by simp)) (by simp)
     ·have z2:=un.frzs b ob _ z
      obtain⟨e1,_⟩:=hok b _ z
      obtain⟨e2,_⟩:=hok' b _ z2
      rw[e]at e1; cases e1
      exact e2
     ·rw[z]at nt; cases nt
    have gr:∀ b,x63 K b=true->∃ ps,s'.heap.get? b=some (tabObj ps):=fun b t=>by
     obtain⟨more,z⟩:=un.tbls b _ (hO2 b t)
     exact⟨_,hok' b _ z⟩
    refine⟨rfl,⟨fun b o e=>?_,fun b o e=>?_⟩,os,bare⟩
    ·cases t:x63 K b with
     | false=>exact .inl (kp b o e t)
     | true=>
      obtain⟨⟨c,C⟩,e1⟩:=tabO b t
      obtain⟨ps,e2⟩:=gr b t
      rw[e]at e1; cases e1
      exact .inr (.inl ⟨(C.tab e).isCodeTable,rfl,#[],ps,rfl,by rw[Array.empty_append]; exact e2⟩)
    ·cases t:x63 K b with
     | false=>exact⟨o,kp b o e t⟩
     | true=>obtain⟨ps,e2⟩:=gr b t; exact⟨_,e2⟩
 have aT:x63 K a=false:=by
  cases t:x63 K a with
  | false=>rfl
  | true=>
   have:=(tabO a t).2
   rw[ha]at this; cases this
 cases hk:K.lookup a with
 | some o=>
  have e:=KX a o hk
  rw[ha]at e
  cases e
  refine core (fun b=>if x63 K b=true then some (.tbl #[])else none) (fun b=>?_) (fun b h=>if_pos h) (.inr ⟨_,vs.toArray,_,hk,rfl,rfl,rfl,by rw[List.size_toArray,lenV]; exact hl,by simpa using rv⟩) (fun b u z=>?_) fun o xs z=>?_
  ·by_cases hb:x63 K b=true
   ·exact .inr (.inr ⟨hb,if_pos hb⟩)
   ·exact .inl (if_neg hb)
  ·by_cases hb:x63 K b=true
   ·have z':=(if_pos hb).symm.trans z
    cases z'
    exact(tabO b hb).2
   ·have z':=(if_neg hb).symm.trans z
    cases z'
  ·have z':=(if_neg (by rw[aT]; decide)).symm.trans z
   cases z'
 | none=>
  refine core (fun b=>if b=a then some (.frz { cls:=.type "list",data:=.seq vs.toArray } (.lst (ns.map V.int)))else if x63 K b=true then some (.tbl #[])else none) (fun b=>?_) (fun b h=>?_) (.inl (.inr ⟨{ cls:=.type "list",data:=.seq vs.toArray },if_pos rfl⟩)) (fun b u z=>?_) fun _ _ _=>hk
  ·by_cases hb:b=a
   ·exact .inr (.inl ⟨hb,_,_,if_pos hb⟩)
   ·by_cases ht:x63 K b=true
    ·exact .inr (.inr ⟨ht,(if_neg hb).trans (if_pos ht)⟩)
    ·exact .inl ((if_neg hb).trans (if_neg ht))
  ·have hb:b≠a:=fun z=>by rw[z,aT]at h; cases h
   exact(if_neg hb).trans (if_pos h)
  ·by_cases hb:b=a
   ·have z':=(if_pos hb).symm.trans z
    cases z'
    subst hb
    exact⟨ha,by rw[List.length_map]; exact hl,vs,_,rv,ha⟩
   ·by_cases ht:x63 K b=true
    ·have z':=((if_neg hb).trans (if_pos ht)).symm.trans z
     cases z'
     exact(tabO b ht).2
    ·have z':=((if_neg hb).trans (if_neg ht)).symm.trans z
     cases z'
noncomputable def j0s (q:Program) (K:PySem.W.Frag):Prop:=∀ x∈x6t,(∃ d,(recsOf q).find? (fun e=>e.name == x)=some d)\/tabIn K x=none
theorem j0s.of {q:Program} {K:PySem.W.Frag} (h1:(∃ d,(recsOf q).find? (fun e=>e.name == ("turned":Str))=some d)\/tabIn K "turned" = none) (h2:(∃ d,(recsOf q).find? (fun e=>e.name == ("chain_ladder":Str))=some d)\/tabIn K "chain_ladder" = none)
  (h3:(∃ d,(recsOf q).find? (fun e=>e.name == ("flat_ladder":Str))=some d)\/tabIn K "flat_ladder" = none) (h4:(∃ d,(recsOf q).find? (fun e=>e.name == ("paired":Str))=some d)\/tabIn K "paired" = none):j0s q K:=fun x hx=>by
 rcases List.mem_cons.mp hx with rfl | hx
 ·exact h1
 rcases List.mem_cons.mp hx with rfl | hx
 ·exact h2
 rcases List.mem_cons.mp hx with rfl | hx
 ·exact h3
 rcases List.mem_cons.mp hx with rfl | hx
 ·exact h4
 cases hx
theorem z1w {l:PySem.W.OpenLaw} {n k:Nat} {q:Program} {loose:List Str} {XP:(Str->Option Value)->Heap->Prop} {YP:World->Heap->Prop} {d:DefRec} {K:Params->PySem.W.Frag} {CX:World->CXT} {sp:World->Sp} {x:Str}
  (hn:l.most=some n) (hn2:n<=sizeLine) (hdf:d.params.defaults=[]) (hr:Room k callerA)
  (hY:∀ (w:World) (h:Heap),YP w h->(K w.params).In h)
  (F:∀ (w:World) (mg:Str->Option Value) (fa:Addr) (h:Heap),(K w.params).In h->h.Ns mainGlobals mg->mg d.name=some (.ref fa)->j0s q (K w.params)/\noTabs (K w.params)=true /\
    ∃ fd:FuncData,(∀ (s:Shared) (u:Value),BindsTo s fd ⟨[u],[]⟩ [(x,u)]) /\
     ∀ base:Heap,(K w.params).In base->base.Ns mainGlobals mg->Lm (K w.params) mg base->FnOk l.prog w (K w.params) mg base (CX w) k fa fd [x] (sp w))
  (hsp:∀ (w:World) (H:Hp) (a:Addr) (ns:List Int),ns.length<=n->TB (K w.params) H->SqL (K w.params) H a (ns.map V.int)->sp w [.ref a] H (fun v _=>v=.bl true) fun _ _ _=>False)
  (hCX:∀ (w:World) (H:Hp) (s:Shared) (e:Value) (s':Shared),CX w [] H s (fun _ _ _=>False) e s'->False) :
  PySem.W.WalkO q loose XP YP l.row.toRowW d [] (fun f vs=>PySem.call f vs):=by
 refine Att.z6b hn hdf fun w s₀ s₁ mg mb fa o pm cd doc a vs ns G Y ho hd hcd hmg hobj hints hlen hg=>?_
 have KX:=hY w _ Y
 obtain⟨hrec,hnt,fd,hb,hF⟩:=F w mg fa _ KX G.T.g hmg
 have hbm:=G.T.bmain
 refine y7q KX G.T.g G.T.b G.T.builtins G.T.nolimit hg ?_ (fun x hx c Pt e=>?_) hnt hobj hints (Nat.le_trans hlen hn2) hr hF hb (fun H hO hS=>hsp w H a ns hlen hO hS) fun H e s'=>hCX w H s₁ e s'
 ·obtain⟨bm,ob,b1,b2,b3,b4,b5,b6⟩:=hbm
  exact⟨bm,ob,b1,b2,b3,b4,b5,b6⟩
 ·rcases hrec x hx with⟨dd,hd⟩ | z
  ·exact tab_of G.T KX hd e
  ·rw[z]at e; cases e
end L3
namespace L3
open PySem PySem.Spec PyProof.Rows L2
theorem x4h {k:Nat} {pt:x5m} {tt:x2m} {te:Den} {deep:Bool}:∀ (ds:List D) (S:Nat->Rho) (b:Nat->Bool) (v:Nat->D),
  (∀ i (h:i<ds.length),∃ ρ1 ρ2,pt ds[i] (S i++List.replicate k none)=some ρ1/\tt ρ1=some (b i,ρ2) /\
    (if b i=true then ∃ q ρ3,te ρ2=some (v i,q,ρ3)/\¬ (deep=true/\(v i).isL=true/\q≠1)/\ρ3.take (S i).length=S (i+1)else ρ2.take (S i).length=S (i+1)))->
  x6k k pt tt te deep ds (S 0)=some (((List.range ds.length).filter b).map v,S ds.length)
 | [],S,b,v,_=>rfl
 | d::ds,S,b,v,h=>by
  obtain⟨ρ1,ρ2,h1,h2,h3⟩:=h 0 (by simp)
  have ih:=x4h ds (fun i=>S (i+1)) (fun i=>b (i+1)) (fun i=>v (i+1)) (fun i hi=>h (i+1) (by simpa using hi))
  have er:((List.range (d::ds).length).filter b).map v=(if b 0=true then [v 0]else [])++((List.range ds.length).filter fun i=>b (i+1)).map fun i=>v (i+1):=by
   rw[List.length_cons,List.range_succ_eq_map,List.filter_cons,List.filter_map]
   split <;> simp[Function.comp_def]
  rw[er]
  unfold x6k
  rw[show pt d (S 0++List.replicate k none)=some ρ1 from h1]
  simp only[h2]
  split at h3
  ·rename_i hb
   obtain⟨q,ρ3,h4,h5,h6⟩:=h3
   simp only[hb,if_true,h4,if_neg h5,h6,ih]
   rfl
  ·rename_i hb
   simp only[hb,h3,ih]
   rfl
theorem x4e {pt:x5m} {body:x1l}:∀ (ds:List D) (I:Nat->Rho->Prop) (ρ:Rho),(∀ i (h:i<ds.length) ρ,I i ρ->∃ ρ1 ρ2,pt ds[i] ρ=some ρ1/\(body ρ1=some (.nx ρ2)\/body ρ1=some (.ct ρ2))/\I (i+1) ρ2)->I 0 ρ->∃ ρ',x99 pt body ds ρ=some (.nx ρ')/\I ds.length ρ'
 | [],I,ρ,_,h0=>⟨ρ,rfl,h0⟩
 | d::ds,I,ρ,h,h0=>by
  obtain⟨ρ1,ρ2,h1,h2,h3⟩:=h 0 (by simp) ρ h0
  obtain⟨ρ',e,h4⟩:=x4e ds (fun i=>I (i+1)) ρ2 (fun i hi=>h (i+1) (by simpa using hi)) h3
  refine⟨ρ',?_,h4⟩
  unfold x99
  rw[show pt d ρ=some ρ1 from h1]
  rcases h2 with h2 | h2 <;> (simp only[h2]; exact e)
theorem x0j {f g:x1l} {ρ ρ1:Rho} (h:f ρ=some (.nx ρ1)):x1g f g ρ=g ρ1:=by unfold x1g; rw[h]
theorem x8n {f g:x1l} {ρ:Rho} {d:D} {q:Nat} (h:f ρ=some (.rt d q)):x1g f g ρ=some (.rt d q):=by unfold x1g; rw[h]
theorem x2w {n:Nat} {body:x1l} {ds:List D} {d:D} {q:Nat} (h:body (x3z n ds)=some (.rt d q)):fnD n body ds=some (d,q):=by unfold fnD; rw[h]
theorem x1e {k:Nat} {it:y1k} {pt:x5m} {tt:x2m} {te:Den} {deep:Bool} {ρ ρ1 ρ2:Rho} {ds vs:List D} (hi:it ρ=some (ds,ρ1)) (hc:x6k k pt tt te deep ds ρ1=some (vs,ρ2)):x2h k it pt tt te deep ρ=some (.lst vs,if deep=true then 2 else 1,ρ2):=by unfold x2h; rw[hi]; simp only[hc]
theorem z5f {i:Nat} {f:Den} {ρ ρ1:Rho} {d:D} {q:Nat} (h:f ρ=some (d,q,ρ1)):x2i i f ρ=some (.nx (ρ1.set i (some (d,q)))):=by unfold x2i; rw[h]
theorem x33 {f:Den} {ρ ρ1:Rho} {d:D} {q:Nat} (h:f ρ=some (d,q,ρ1)):x2u f ρ=some (.rt d q):=by unfold x2u; rw[h]
theorem x2x {it:y1k} {pt:x5m} {body:x1l} {ρ ρ1:Rho} {ds:List D} (h:it ρ=some (ds,ρ1)):x7b it pt body ρ=x99 pt body ds ρ1:=by unfold x7b; rw[h]
theorem z7c {g:x2m} {s s':x1l} {ρ ρ1:Rho} (h:g ρ=some (true,ρ1)):sIf g s s' ρ=s ρ1:=by unfold sIf; rw[h]; rfl
theorem y2g {g:x2m} {s s':x1l} {ρ ρ1:Rho} (h:g ρ=some (false,ρ1)):sIf g s s' ρ=s' ρ1:=by unfold sIf; rw[h]; rfl
theorem x1y {i:Nat} {f:Den} {ρ ρ1 ρ2:Rho} {d:D} {q:Nat} (h:f ρ=some (d,q,ρ1)) (e:ρ1.set i (some (d,q))=ρ2):x2i i f ρ=some (.nx ρ2):=by rw[z5f h,e]
theorem x15 {f:Den} {ρ ρ1:Rho} {d:D} {q:Nat} (h:f ρ=some (d,q,ρ1)):x01 f x0g ρ=some ([d],ρ1):=by unfold x01; rw[h]; rfl
theorem x1b {f:Den} {g:x21} {ρ ρ1 ρ2:Rho} {d:D} {q:Nat} {ds:List D} (h:f ρ=some (d,q,ρ1)) (h':g ρ1=some (ds,ρ2)):x01 f g ρ=some (d::ds,ρ2):=by unfold x01; rw[h]; simp only[h']
theorem x1j {g:x21} {ρ ρ1:Rho} {ds:List D} (h:g ρ=some ([.lst ds],ρ1)):x1x g ρ=some (.tup ds,9,ρ1):=by unfold x1x; rw[h]
theorem x9y {g:x21} {ρ ρ1:Rho} {ds:List D} (h:x10 g ρ=some (ds,ρ1)):x6v g ρ=some (.lst ds,1,ρ1):=by unfold x6v; rw[h]
theorem x0z {F:List D->Option (D × Nat)} {n:Nat} {g:x21} {ρ ρ1:Rho} {ds:List D} {d:D} {q:Nat} (h:g ρ=some (ds,ρ1)) (hl:ds.length=n) (hF:F ds=some (d,q)):x0p F n g ρ=some (d,q,ρ1):=by unfold x0p; rw[h]; simp only[hl,if_true,hF]
noncomputable def x0l (l:List Nat):List D:=l.map fun i=>.int (Int.ofNat i)
noncomputable def y2w (n:Nat) (f:Nat->Nat->Nat) (i:Nat):D:=.tup (x0l ((List.range n).map fun j=>f i j))
noncomputable def x07 (n:Nat) (f:Nat->Nat->Nat):D:=.tup ((List.range n).map fun i=>y2w n f i)
noncomputable def x7v (n:Nat) (f:Nat->Nat->Nat) (i:Nat):D:=.lst (x0l ((List.range n).map fun j=>f i j))
noncomputable def x3j (n:Nat) (f:Nat->Nat->Nat):D:=.lst ((List.range n).map fun i=>x7v n f i)
@[simp] theorem j0v {n:Nat} {f:Nat->Nat->Nat}:(x07 n f).isL=false:=rfl
@[simp] theorem j0r {n:Nat} {f:Nat->Nat->Nat} {i:Nat}:(y2w n f i).isL=false:=rfl
@[simp] theorem j0w {n:Nat} {f:Nat->Nat->Nat}:(x3j n f).isL=true:=rfl
@[simp] theorem j0x {n:Nat} {f:Nat->Nat->Nat} {i:Nat}:(x7v n f i).isL=true:=rfl
theorem x1h (l:List Nat):(x0l l).length=l.length:=by simp[x0l]
theorem x9g (l:List Nat) (i:Nat):(x0l l)[i]? = (l[i]?).map fun x=>.int (Int.ofNat x):=by simp[x0l]
theorem y2r {n i:Nat} (h:i<n):ixN n (Int.ofNat i)=some i:=by
 unfold ixN
 rw[if_pos (by exact Int.natCast_nonneg i),if_pos (by show(i:Int)<n; omega)]
 rfl
theorem y3h {α:Type} {xs:List α} {i:Nat} {x:α} (h:xs[i]? = some x):L2.atI xs (Int.ofNat i)=some x:=by
 unfold L2.atI
 rw[y2r (List.getElem?_eq_some_iff.mp h).1]
 exact h
theorem y8r {l:List Nat} {i x:Nat} (h:l[i]? = some x):L2.atI (x0l l) (Int.ofNat i)=some (.int (Int.ofNat x)):=y3h (by rw[x9g,h]; rfl)
theorem z3l {g:Nat->D} {n i:Nat} (h:i<n):L2.atI ((List.range n).map g) (Int.ofNat i)=some (g i):=y3h (by rw[List.getElem?_map,List.getElem?_range h]; rfl)
theorem x2e {g:Nat->Nat} {n i:Nat} (h:i<n):L2.atI (x0l ((List.range n).map g)) (Int.ofNat i)=some (.int (Int.ofNat (g i))):=y8r (by rw[List.getElem?_map,List.getElem?_range h]; rfl)
theorem x49 {n:Nat} {f:Nat->Nat->Nat} {i:Nat} (h:i<n):atD (x07 n f) (Int.ofNat i)=some (y2w n f i):=z3l h
theorem x4l {n:Nat} {f:Nat->Nat->Nat} {i j:Nat} (h:j<n):atD (y2w n f i) (Int.ofNat j)=some (.int (Int.ofNat (f i j))):=x2e h
theorem z40 {n:Nat} {f:Nat->Nat->Nat} {i:Nat} (h:i<n):atD (x3j n f) (Int.ofNat i)=some (x7v n f i):=z3l h
theorem z5d {n:Nat} {f:Nat->Nat->Nat} {i j:Nat} (h:j<n):atD (x7v n f i) (Int.ofNat j)=some (.int (Int.ofNat (f i j))):=x2e h
theorem x20 {n:Nat} {f:Nat->Nat->Nat}:x7c (x07 n f)=some n:=by simp[x07,x7c]
theorem x7r {n:Nat} {f:Nat->Nat->Nat}:x7c (x3j n f)=some n:=by simp[x3j,x7c]
theorem x6c {n:Nat} {f g:Nat->Nat->Nat} (h:∀ a b,a<n->b<n->f a b=g a b):x3j n f=x3j n g:=by
 unfold x3j x7v
 refine congrArg D.lst (List.map_congr_left fun a ha=>?_)
 refine congrArg (fun l=>D.lst (x0l l)) (List.map_congr_left fun b hb=>?_)
 exact h a b (List.mem_range.mp ha) (List.mem_range.mp hb)
theorem x81 {α:Type} {g:Nat->α} {n m:Nat} {x:α}:((List.range n).map g).set m x=(List.range n).map fun a=>if a=m then x else g a:=by
 apply List.ext_getElem?
 intro i
 by_cases hi:i<n
 ·by_cases h:m=i
  ·subst h
   rw[List.getElem?_set_self (by simpa using hi),List.getElem?_map,List.getElem?_range hi]
   simp
  ·rw[List.getElem?_set_ne h,List.getElem?_map,List.getElem?_map,List.getElem?_range hi]
   simp
   exact fun z=>absurd z.symm h
 ·rw[List.getElem?_eq_none (by simp; omega),List.getElem?_eq_none (by simp; omega)]
theorem x9b {g:Nat->Nat} {n:Nat}:x0l ((List.range n).map g)=(List.range n).map fun i=>.int (Int.ofNat (g i)):=by simp[x0l]
theorem z0v {n:Nat} {f:Nat->Nat->Nat} {a b v:Nat}:D.lst (((List.range n).map fun i=>x7v n f i).set a (.lst ((x0l ((List.range n).map fun j=>f a j)).set b (.int (Int.ofNat v)))))=x3j n fun i j=>if i=a/\j=b then v else f i j:=by
 unfold x3j
 rw[x81]
 refine congrArg D.lst (List.map_congr_left fun i hi=>?_)
 by_cases h:i=a
 ·subst h
  rw[if_pos rfl,x9b,x81]
  unfold x7v
  rw[x9b]
  refine congrArg D.lst (List.map_congr_left fun j hj=>?_)
  by_cases hj:j=b <;> simp[hj]
 ·rw[if_neg h]
  unfold x7v
  simp[h]
theorem j1m (n:Nat):D.lst (List.replicate n [D.int 0]).flatten=x7v n (fun _ _=>0) 0:=by
 unfold x7v x0l
 congr 1
 simp[List.flatten_replicate_singleton,List.map_const']
theorem y69:∀ ds:List D,x9h ds=ds.map toP
 | []=>rfl
 | d::ds=>by rw[x9h,y69 ds]; rfl
noncomputable def lay (d:D):Bool:=x7f d && (toP d).canLay0
theorem z7b {d:D} (h:lay d=true):x7f d=true:=(Bool.and_eq_true_iff.mp h).1
theorem z93 {d:D} (h:lay d=true):(toP d).canLay0=true:=(Bool.and_eq_true_iff.mp h).2
theorem x8e:∀ {ds:List D},(∀ d∈ds,lay d=true)->y0n ds=true
 | [],_=>rfl
 | d::ds,h=>by
  show(x7f d && y0n ds)=true
  rw[z7b (h d List.mem_cons_self),x8e fun x m=>h x (List.mem_cons_of_mem _ m)]
  rfl
noncomputable def dep (d:D):Nat:=(toP d).depth
theorem y8u:∀ {ds:List D},(∀ d∈ds,lay d=true)->PyData.canLayAll0 (x9h ds)=true
 | [],_=>rfl
 | d::ds,h=>by
  rw[x9h,PyData.canLayAll0,y8u fun x m=>h x (List.mem_cons_of_mem _ m),Bool.and_true]
  exact z93 (h d List.mem_cons_self)
theorem y8z {k:Nat}:∀ {ds:List D},(∀ d∈ds,dep d<=k)->PyData.depthAll (x9h ds)<=k
 | [],_=>Nat.zero_le _
 | d::ds,h=>by
  rw[x9h,PyData.depthAll]
  exact Nat.max_le.mpr ⟨h d List.mem_cons_self,y8z fun x m=>h x (List.mem_cons_of_mem _ m)⟩
noncomputable def Sh (k:Nat) (d:D):Prop:=lay d=true/\dep d<=k
theorem Sh.int {k:Nat} (i:Int):Sh k (.int i):=⟨rfl,Nat.zero_le _⟩
theorem Sh.bl {k:Nat} (i:Bool):Sh k (.bl i):=⟨rfl,Nat.zero_le _⟩
theorem Sh.non {k:Nat}:Sh k .non:=⟨rfl,Nat.zero_le _⟩
theorem Sh.tup {k:Nat} {ds:List D} (h:∀ d∈ds,Sh k d):Sh (k+1) (.tup ds):=⟨Bool.and_eq_true_iff.mpr ⟨x8e fun d m=>(h d m).1,y8u fun d m=>(h d m).1⟩,Nat.succ_le_succ (y8z fun d m=>(h d m).2)⟩
theorem Sh.lst {k:Nat} {ds:List D} (h:∀ d∈ds,Sh k d):Sh (k+1) (.lst ds):=⟨Bool.and_eq_true_iff.mpr ⟨x8e fun d m=>(h d m).1,y8u fun d m=>(h d m).1⟩,Nat.succ_le_succ (y8z fun d m=>(h d m).2)⟩
theorem Sh.ok {k:Nat} {d:D} (h:Sh k d) (hk:k<=64:=by decide):okD d=true:=by
 show(x7f d && ((toP d).canLay0 && decide ((toP d).depth<=64)))=true
 rw[z7b h.1,z93 h.1,Bool.true_and,Bool.true_and]
 exact decide_eq_true (Nat.le_trans h.2 hk)
theorem y9u {l:List Nat} {d:D} (m:d∈x0l l):Sh 0 d:=by
 obtain⟨x,_,rfl⟩:=List.mem_map.mp m
 exact .int _
theorem j1d (l:List Nat):Sh 1 (.lst (x0l l)):=.lst fun _ m=>y9u m
theorem z5g (l:List Nat):Sh 1 (.tup (x0l l)):=.tup fun _ m=>y9u m
theorem z69 (n:Nat) (f:Nat->Nat->Nat):Sh 2 (x07 n f):=.tup fun d m=>by
 obtain⟨x,_,rfl⟩:=List.mem_map.mp m
 exact z5g _
theorem x6z:∀ l l':List Nat,PyData.eqvAll (x9h (x0l l)) (x9h (x0l l'))=decide (l=l')
 | [],[]=>rfl
 | [],_::_=>rfl
 | _::_,[]=>rfl
 | x::l,y::l'=>by
  show(((x:Int) == (y:Int)) && PyData.eqvAll (x9h (x0l l)) (x9h (x0l l')))=_
  rw[x6z l l']
  by_cases h:x=y
  ·subst h; simp
  ·have:((x:Int) == (y:Int))=false:=by simp; omega
   rw[this]
   simp[h]
theorem j19 (l l':List Nat):eqD (.lst (x0l l)) (.lst (x0l l'))=decide (l=l'):=x6z l l'
theorem z65 (l l':List Nat):eqD (.tup (x0l l)) (.tup (x0l l'))=decide (l=l'):=x6z l l'
theorem y4r (i j:Int):eqD (.int i) (.int j)=decide (i=j):=by
 show(i == j)=_
 rw[Bool.beq_eq_decide_eq]
theorem y8o (i j:Nat):eqD (.int (Int.ofNat i)) (.int (Int.ofNat j))=decide (i=j):=by
 rw[y4r]
 exact decide_eq_decide.mpr ⟨fun h=>Int.ofNat.inj h,fun h=>by rw[h]⟩
theorem z7l (i j:Bool):eqD (.bl i) (.bl j)=decide (i=j):=by
 show(i == j)=_
 rw[Bool.beq_eq_decide_eq]
theorem j1e (l l':List Nat):dEq (.lst (x0l l)) (.lst (x0l l'))=some (.bl (decide (l=l'))):=by unfold dEq; rw[if_pos ⟨(j1d l).ok,(j1d l').ok⟩,j19]
theorem y9p (i j:Int):dEq (.int i) (.int j)=some (.bl (decide (i=j))):=by unfold dEq; rw[if_pos ⟨(Sh.int (k:=0) i).ok,(Sh.int (k:=0) j).ok⟩,y4r]
theorem z5s (i j:Int):dNe (.int i) (.int j)=some (.bl (!decide (i=j))):=by unfold dNe; rw[if_pos ⟨(Sh.int (k:=0) i).ok,(Sh.int (k:=0) j).ok⟩,y4r]
theorem y4v (i j:Nat):dEq (.int (Int.ofNat i)) (.int (Int.ofNat j))=some (.bl (decide (i=j))):=by unfold dEq; rw[if_pos ⟨(Sh.int (k:=0) _).ok,(Sh.int (k:=0) _).ok⟩,y8o]
theorem y05 (i j:Nat):dNe (.int (Int.ofNat i)) (.int (Int.ofNat j))=some (.bl (!decide (i=j))):=by unfold dNe; rw[if_pos ⟨(Sh.int (k:=0) _).ok,(Sh.int (k:=0) _).ok⟩,y8o]
theorem z3m (i j:Bool):dNe (.bl i) (.bl j)=some (.bl (!decide (i=j))):=by unfold dNe; rw[if_pos ⟨(Sh.bl (k:=0) i).ok,(Sh.bl (k:=0) j).ok⟩,z7l]
theorem x7m {α:Type} {p:α->Bool}:∀ {l:List α} {j:Nat} {x:α},l[j]? = some x->p x=true->(∀ i y,i<j->l[i]? = some y->p y=false)->l.findIdx? p=some j
 | [],j,x,h,_,_=>by simp at h
 | a::l,0,x,h,hp,_=>by
  simp at h; subst h
  simp[List.findIdx?_cons,hp]
 | a::l,j+1,x,h,hp,hn=>by
  have h0:p a=false:=hn 0 a (Nat.succ_pos _) rfl
  have ih:=x7m (l:=l) (j:=j) (x:=x) (by simpa using h) hp fun i y hi hy=>hn (i+1) y (Nat.succ_lt_succ hi) (by simpa using hy)
  simp[List.findIdx?_cons,h0,ih]
structure Lad (n:Nat) (f:Nat->Nat->Nat):Prop where
 lo:0<n
 hi:n<=16
 cl:∀ i j,i<n->j<n->f i j<n
 idem:∀ i,i<n->f i i=i
 comm:∀ i j,i<n->j<n->f i j=f j i
 assoc:∀ i j k,i<n->j<n->k<n->f (f i j) k=f i (f j k)
 bot:∃ z,z<n/\∀ j,j<n->f z j=j
noncomputable def j23 (n:Nat) (f:Nat->Nat->Nat):Bool:=
 decide (0<n) && decide (n<=16) && ((List.range n).all fun i=>(List.range n).all fun j=>decide (f i j<n)) && ((List.range n).all fun i=>decide (f i i=i)) && ((List.range n).all fun i=>(List.range n).all fun j=>decide (f i j=f j i)) &&
 ((List.range n).all fun i=>(List.range n).all fun j=>(List.range n).all fun k=>decide (f (f i j) k=f i (f j k))) && ((List.range n).any fun z=>(List.range n).all fun j=>decide (f z j=j))
theorem z46 {n:Nat} {f:Nat->Nat->Nat} (h:j23 n f=true):Lad n f:=by
 unfold j23 at h
 simp only[Bool.and_eq_true,decide_eq_true_eq,List.all_eq_true,List.any_eq_true,List.mem_range]at h
 obtain⟨⟨⟨⟨⟨⟨h1,h2⟩,h3⟩,h4⟩,h5⟩,h6⟩,z,hz,h7⟩:=h
 exact⟨h1,h2,fun i j hi hj=>h3 i hi j hj,h4,fun i j hi hj=>h5 i hi j hj,fun i j k hi hj hk=>h6 i hi j hj k hk,z,hz,h7⟩
theorem Lad.ren {n:Nat} {f:Nat->Nat->Nat} (L:Lad n f) {π ι:Nat->Nat} (h1:∀ i,i<n->π i<n) (h2:∀ i,i<n->ι i<n) (h3:∀ i,i<n->ι (π i)=i) (h4:∀ i,i<n->π (ι i)=i):Lad n fun a b=>π (f (ι a) (ι b)):=by
 obtain⟨l1,l2,cl,idem,comm,assoc,z,hz,bot⟩:=L
 refine⟨l1,l2,fun i j hi hj=>h1 _ (cl _ _ (h2 i hi) (h2 j hj)),fun i hi=>?_,fun i j hi hj=>?_,fun i j k hi hj hk=>?_,π z,h1 z hz,fun j hj=>?_⟩
 ·show π (f (ι i) (ι i))=i
  rw[idem _ (h2 i hi),h4 i hi]
 ·show π (f (ι i) (ι j))=π (f (ι j) (ι i))
  rw[comm _ _ (h2 i hi) (h2 j hj)]
 ·show π (f (ι (π (f (ι i) (ι j)))) (ι k))=π (f (ι i) (ι (π (f (ι j) (ι k)))))
  rw[h3 _ (cl _ _ (h2 i hi) (h2 j hj)),h3 _ (cl _ _ (h2 j hj) (h2 k hk)),assoc _ _ _ (h2 i hi) (h2 j hj) (h2 k hk)]
 ·show π (f (ι (π z)) (ι j))=j
  rw[h3 z hz,bot _ (h2 j hj),h4 j hj]
noncomputable def x5g (p:Nat->Nat->Nat) (n:Nat):Nat->List Nat
 | 0=>List.range n
 | k+1=>(x5g p n k).eraseIdx (p k (x5g p n k).length)
noncomputable def drawn (p:Nat->Nat->Nat) (n k:Nat):Nat:=(x5g p n k).getD (p k (x5g p n k).length) 0
theorem y1l:∀ (l:List Nat) (j:Nat),(x0l l).eraseIdx j=x0l (l.eraseIdx j)
 | [],_=>rfl
 | _::_,0=>rfl
 | a::l,j+1=>congrArg (D.int (Int.ofNat a) :: ·) (y1l l j)
theorem x7q {p:Nat->Nat->Nat} {n:Nat} (hp:∀ k m,0<m->p k m<m):∀ k,k<=n->(x5g p n k).length=n-k
 | 0,_=>by simp[x5g]
 | k+1,h=>by
  have ih:=x7q hp k (Nat.le_of_succ_le h)
  have:=hp k (n-k) (by omega)
  rw[x5g,List.length_eraseIdx,ih,if_pos this]
  omega
theorem y1t:∀ {l:List Nat} {j:Nat} (h:j<l.length),(l[j]::l.eraseIdx j).Perm l
 | a::l,0,_=>List.Perm.refl _
 | a::l,j+1,h=>(List.Perm.swap a (l[j]'(by simpa using h)) (l.eraseIdx j)).trans (List.Perm.cons a (y1t (by simpa using h)))
theorem y3t {p:Nat->Nat->Nat} {n:Nat} (hp:∀ k m,0<m->p k m<m):∀ k,k<=n->(((List.range k).map (drawn p n))++x5g p n k).Perm (List.range n)
 | 0,_=>by simp[x5g]
 | k+1,h=>by
  have ih:=y3t hp k (Nat.le_of_succ_le h)
  have hl:=x7q hp k (by omega:k<=n)
  have hj:p k (x5g p n k).length<(x5g p n k).length:=by rw[hl]; exact hp k _ (by omega)
  refine List.Perm.trans ?_ ih
  rw[List.range_succ,List.map_append,List.append_assoc]
  refine List.Perm.append_left _ ?_
  have e:drawn p n k=(x5g p n k)[p k (x5g p n k).length]:=by unfold drawn; rw[List.getD_eq_getElem?_getD,List.getElem?_eq_getElem hj]; rfl
  show(drawn p n k::(x5g p n (k+1))).Perm _
  rw[e,x5g]
  exact y1t hj
theorem x6i {p:Nat->Nat->Nat} {n:Nat} (hp:∀ k m,0<m->p k m<m):((List.range n).map (drawn p n)).Perm (List.range n):=by
 have h:=y3t hp n (Nat.le_refl n)
 have hl:=x7q hp n (Nat.le_refl n)
 rw[Nat.sub_self]at hl
 rw[List.length_eq_zero_iff.mp hl,List.append_nil]at h
 exact h
theorem y6m {p:Nat->Nat->Nat} {n:Nat} (hp:∀ k m,0<m->p k m<m) {i:Nat} (h:i<n):drawn p n i<n:=by
 have m:drawn p n i∈(List.range n).map (drawn p n):=List.mem_map.mpr ⟨i,List.mem_range.mpr h,rfl⟩
 exact List.mem_range.mp ((x6i hp).mem_iff.mp m)
noncomputable def x3a (p:Nat->Nat->Nat) (n a:Nat):Nat:=((List.range n).map (drawn p n)).idxOf a
theorem y1g {p:Nat->Nat->Nat} {n:Nat} (hp:∀ k m,0<m->p k m<m) {a:Nat} (h:a<n):x3a p n a<n:=by
 have m:a∈(List.range n).map (drawn p n):=(x6i hp).mem_iff.mpr (List.mem_range.mpr h)
 have:=List.idxOf_lt_length_of_mem m
 rw[List.length_map,List.length_range]at this
 exact this
theorem x7e {p:Nat->Nat->Nat} {n:Nat} (hp:∀ k m,0<m->p k m<m) {a:Nat} (h:a<n):drawn p n (x3a p n a)=a:=by
 have m:a∈(List.range n).map (drawn p n):=(x6i hp).mem_iff.mpr (List.mem_range.mpr h)
 have:=List.getElem_idxOf (List.idxOf_lt_length_of_mem m)
 rw[List.getElem_map,List.getElem_range]at this
 exact this
theorem x80 {p:Nat->Nat->Nat} {n:Nat} (hp:∀ k m,0<m->p k m<m) {i:Nat} (h:i<n):x3a p n (drawn p n i)=i:=by
 have nd:((List.range n).map (drawn p n)).Nodup:=(x6i hp).nodup_iff.mpr List.nodup_range
 have hi:i<((List.range n).map (drawn p n)).length:=by simpa using h
 have:=nd.idxOf_getElem i hi
 rw[List.getElem_map,List.getElem_range]at this
 exact this
end L3
namespace L3
open PySem PySem.Spec PyProof.Rows L2
theorem x8q {i n:Nat} {tt:x2m} {te:Den} {ρ:Rho} {deep:Bool} (hi:ρ.length=i) (b:Nat->Bool) (v:Nat->D) (q:Nat->Nat) (ht:∀ j,j<n->tt (ρ++[some (.int (Int.ofNat j),9)])=some (b j,ρ++[some (.int (Int.ofNat j),9)]))
  (he:∀ j,j<n->b j=true->te (ρ++[some (.int (Int.ofNat j),9)])=some (v j,q j,ρ++[some (.int (Int.ofNat j),9)])) (hd:deep=true->∀ j,(v j).isL=true->q j=1:=by intro h; cases h) :
  x6k 1 (x0k i) tt te deep (x0c n) ρ=some (((List.range n).filter b).map v,ρ):=by
 have h:=x4h (k:=1) (pt:=x0k i) (tt:=tt) (te:=te) (deep:=deep) (x0c n) (fun _=>ρ) b v (fun j hj=>?_)
 ·rw[x0r]at h
  exact h
 ·rw[x0r]at hj
  refine⟨ρ++[some (.int (Int.ofNat j),9)],_,?_,ht j hj,?_⟩
  ·have:(x0c n)[j]'(by rw[x0r]; exact hj)=.int (Int.ofNat j):=by simp[x0c]
   rw[this]
   unfold x0k
   rw[if_pos (by simp[hi])]
   subst hi
   simp[List.set_append]
  ·by_cases hb:b j=true
   ·rw[if_pos hb]
    exact⟨q j,_,he j hj hb,fun⟨h1,h2,h3⟩=>h3 (hd h1 j h2),by simp⟩
   ·rw[if_neg hb]
    simp
theorem y1m {z:Nat}:∀ n:Nat,(List.range n).filter (fun w=>decide (w=z))=if z<n then [z]else []
 | 0=>by simp
 | n+1=>by
  rw[List.range_succ,List.filter_append,y1m n]
  by_cases h:n=z
  ·subst h; simp
  ·have:¬ (n=z):=h
   by_cases h2:z<n
   ·rw[if_pos h2,if_pos (by omega)]; simp[h]
   ·rw[if_neg h2,if_neg (by omega)]; simp[h]
theorem y3g {n:Nat} {g:Nat->Nat}:(List.range n).map g=List.range n ↔ ∀ j,j<n->g j=j:=by
 constructor
 ·intro h j hj
  have:=congrArg (fun l=>l[j]?) h
  simpa [hj]using this
 ·intro h
  have e:=List.map_congr_left (l:=List.range n) (f:=g) (g:=id) fun a ha=>h a (List.mem_range.mp ha)
  rw[e,List.map_id]
namespace Lad
variable {n:Nat} {f:Nat->Nat->Nat} (L:Lad n f)
include L
theorem bot_uniq {z x:Nat} (hz:z<n) (bz:∀ j,j<n->f z j=j) (hx:x<n) (bx:∀ j,j<n->f x j=j):x=z:=by
 have h1:=bx z hz
 have h2:=bz x hx
 rw[L.comm x z hx hz]at h1
 omega
theorem fold_lt:∀ {l:List Nat} {a:Nat},a<n->(∀ x∈l,x<n)->l.foldl f a<n
 | [],a,ha,_=>ha
 | y::l,a,ha,h=>fold_lt (l:=l) (L.cl a y ha (h y List.mem_cons_self)) fun x m=>h x (List.mem_cons_of_mem _ m)
theorem y80:∀ {l:List Nat} {a x:Nat},a<n->x<n->(∀ x∈l,x<n)->f x a=a->f x (l.foldl f a)=l.foldl f a
 | [],a,x,_,_,_,e=>e
 | y::l,a,x,ha,hx,h,e=>by
  have hy:=h y List.mem_cons_self
  refine y80 (l:=l) (L.cl a y ha hy) hx (fun x m=>h x (List.mem_cons_of_mem _ m)) ?_
  rw[<- L.assoc x a y hx ha hy,e]
theorem fold_mem:∀ {l:List Nat} {a x:Nat},a<n->(∀ x∈l,x<n)->x∈l->f x (l.foldl f a)=l.foldl f a
 | y::l,a,x,ha,h,m=>by
  have hy:=h y List.mem_cons_self
  have hl:∀ x∈l,x<n:=fun x m=>h x (List.mem_cons_of_mem _ m)
  rcases List.mem_cons.mp m with rfl | m
  ·refine y80 L (l:=l) (L.cl a x ha hy) hy hl ?_
   rw[L.comm a x ha hy,<- L.assoc x x a hy hy ha,L.idem x hy]
  ·exact fold_mem (l:=l) (L.cl a y ha hy) hl m
theorem fold_out {z:Nat} (hz:z<n) (bz:∀ j,j<n->f z j=j):∀ {l:List Nat} {a:Nat},a<n->(∀ x∈l,x<n)->l.foldl f a=f a (l.foldl f z)
 | [],a,ha,_=>by show a=f a z; rw[L.comm a z ha hz,bz a ha]
 | y::l,a,ha,h=>by
  have hy:=h y List.mem_cons_self
  have hl:∀ x∈l,x<n:=fun x m=>h x (List.mem_cons_of_mem _ m)
  show l.foldl f (f a y)=f a (l.foldl f (f z y))
  rw[bz y hy,fold_out hz bz (L.cl a y ha hy) hl,fold_out hz bz hy hl,L.assoc a y _ ha hy (L.fold_lt hz hl)]
end Lad
end L3
namespace L3
open PySem PySem.Spec PyProof.Rows L2
theorem x7k {pt:x5m} {body:x1l} {d:D} {q:Nat}:∀ (ds:List D) (I:Rho->Prop) (ok:Nat->Bool) (ρ:Rho),
  (∀ i (h:i<ds.length) ρ,I ρ->∃ ρ1,pt ds[i] ρ=some ρ1/\(ok i=true->∃ ρ2,body ρ1=some (.nx ρ2)/\I ρ2)/\(ok i=false->body ρ1=some (.rt d q)))->I ρ->
  ((List.range ds.length).all ok=true->∃ ρ',x99 pt body ds ρ=some (.nx ρ')/\I ρ')/\((List.range ds.length).all ok=false->x99 pt body ds ρ=some (.rt d q))
 | [],I,ok,ρ,_,h0=>⟨fun _=>⟨ρ,rfl,h0⟩,fun h=>by simp at h⟩
 | x::ds,I,ok,ρ,h,h0=>by
  obtain⟨ρ1,h1,h2,h3⟩:=h 0 (by simp) ρ h0
  have e1:pt x ρ=some ρ1:=h1
  have er:(List.range (x::ds).length).all ok=(ok 0 && (List.range ds.length).all fun i=>ok (i+1)):=by
   rw[List.length_cons,List.range_succ_eq_map,List.all_cons,List.all_map]; rfl
  rw[er]
  cases hk:ok 0 with
  | false=>
   refine⟨fun z=>by simp at z,fun _=>?_⟩
   unfold x99
   simp only[e1,h3 hk]
  | true=>
   obtain⟨ρ2,h4,h5⟩:=h2 hk
   obtain⟨i1,i2⟩:=x7k ds I (fun i=>ok (i+1)) ρ2 (fun i hi=>h (i+1) (by simpa using hi)) h5
   rw[Bool.true_and]
   unfold x99
   simp only[e1,h4]
   exact⟨i1,i2⟩
theorem range_all {n:Nat} {p:Nat->Bool}:(List.range n).all p=true ↔ ∀ i,i<n->p i=true:=by
 rw[List.all_eq_true]
 exact⟨fun h i hi=>h i (List.mem_range.mpr hi),fun h i hi=>h i (List.mem_range.mp hi)⟩
theorem y6l (p:Nat->Bool):∀ l:List Nat,((List.range l.length).all fun i=>p (l.getD i 0))=l.all p
 | []=>rfl
 | a::l=>by
  rw[List.length_cons,List.range_succ_eq_map,List.all_cons,List.all_map,List.all_cons,<- y6l p l]
  rfl
theorem y49 {l:List Nat} {i:Nat} (h:i<(x0l l).length):(x0l l)[i]=.int (Int.ofNat (l.getD i 0)):=by
 have h':i<l.length:=by rw[x1h]at h; exact h
 simp[x0l,h']
theorem y24 {l:List Nat} {i:Nat} (h:i<l.length):l.getD i 0∈l:=by
 rw[List.getD_eq_getElem?_getD,List.getElem?_eq_getElem h]
 exact List.getElem_mem h
theorem j11 {i:Nat} {te:Den} {ρ:Rho} {deep:Bool} (l:List Nat) (hi:ρ.length=i) (v:Nat->D) (q:Nat->Nat)
  (he:∀ x,x∈l->te (ρ++[some (.int (Int.ofNat x),9)])=some (v x,q x,ρ++[some (.int (Int.ofNat x),9)])) (hd:deep=true->∀ j,(v j).isL=true->q j=1:=by intro h; cases h) :
  x6k 1 (x0k i) x1m te deep (x0l l) ρ=some (l.map v,ρ):=by
 have h:=x4h (k:=1) (pt:=x0k i) (tt:=x1m) (te:=te) (deep:=deep) (x0l l) (fun _=>ρ) (fun _=>true) (fun j=>v (l.getD j 0)) (fun j hj=>?_)
 ·rw[x1h,show(List.range l.length).filter (fun _=>true)=List.range l.length by simp]at h
  rw[h]
  have e:(List.range l.length).map (fun j=>v (l.getD j 0))=l.map v:=by
   apply List.ext_getElem?
   intro k
   by_cases hk:k<l.length
   ·simp[hk]
   ·rw[List.getElem?_eq_none (by simp; omega),List.getElem?_eq_none (by simp; omega)]
  rw[e]
 ·have hj':j<l.length:=by rw[x1h]at hj; exact hj
  refine⟨ρ++[some (.int (Int.ofNat (l.getD j 0)),9)],_,?_,rfl,?_⟩
  ·rw[y49 hj]
   unfold x0k
   rw[if_pos (by simp[hi])]
   subst hi
   simp[List.set_append]
  ·rw[if_pos rfl]
   exact⟨q _,_,he _ (y24 hj'),fun⟨h1,h2,h3⟩=>h3 (hd h1 _ h2),by simp⟩
theorem x2y {g:D->D->Option D} {fa fb:Den} {ρ ρ1 ρ2:Rho} {x y d:D} {q q':Nat} (ha:fa ρ=some (x,q,ρ1)) (hb:fb ρ1=some (y,q',ρ2)) (hg:g x y=some d):e2 g fa fb ρ=some (d,9,ρ2):=by unfold e2; rw[ha]; simp only[hb,hg]
theorem x8k {f:Den} {ρ ρ1:Rho} {b:Bool} {q:Nat} (h:f ρ=some (.bl b,q,ρ1)):x3u f ρ=some (b,ρ1):=by unfold x3u; rw[h]
theorem y54 {i:Nat} {g:x21} {ρ ρ1 ρ2:Rho} {ds:List D} {d:D} (hl:y94 ρ[i]? = true) (hg:g ρ=some ([d],ρ1)) (h1:ρ1[i]? = some (some (.lst ds,1))) (hn:ds.length<=1000) (e:ρ1.set i (some (.lst (ds++[d]),1))=ρ2):x3w (y09 i g) ρ=some (.nx ρ2):=by
 unfold x3w y09
 rw[if_pos hl,hg]
 simp only[h1,if_pos hn,e]
theorem z8z {b:List D->Option D} {g:x21} {ρ ρ1:Rho} {ds:List D} {d:D} (h:g ρ=some (ds,ρ1)) (hd:b ds=some d):eB b g ρ=some (d,9,ρ1):=by unfold eB; rw[h]; simp only[hd]
noncomputable def x0b (n:Nat) (r:Nat->Nat):D:=.tup (x0l ((List.range n).map r))
@[simp] theorem z8f {n:Nat} {r:Nat->Nat}:(x0b n r).isL=false:=rfl
theorem x25 {n i:Nat} {r:Nat->Nat} (h:i<n):atD (x0b n r) (Int.ofNat i)=some (.int (Int.ofNat (r i))):=x2e h
theorem y9g (l l':List Nat):dNe (.tup (x0l l)) (.tup (x0l l'))=some (.bl (!decide (l=l'))):=by unfold dNe; rw[if_pos ⟨(z5g l).ok,(z5g l').ok⟩,z65]
theorem j18 (l l':List Nat):dEq (.tup (x0l l)) (.tup (x0l l'))=some (.bl (decide (l=l'))):=by unfold dEq; rw[if_pos ⟨(z5g l).ok,(z5g l').ok⟩,z65]
theorem z4t {n:Nat} {r s:Nat->Nat} (h:∀ i,i<n->r i=s i):x0b n r=x0b n s:=congrArg (fun l=>D.tup (x0l l)) (List.map_congr_left fun i hi=>h i (List.mem_range.mp hi))
theorem z27 {n:Nat} {r s:Nat->Nat} (h:∀ i,i<n->r i=s i):dNe (x0b n r) (x0b n s)=some (.bl false):=by rw[z4t h]; unfold x0b; rw[y9g]; simp
theorem x8u {n:Nat} (g:Nat->Nat):D.tup ((List.range n).map fun i=>.int (Int.ofNat (g i)))=x0b n g:=by unfold x0b; rw[x9b]
namespace Lad
variable {n:Nat} {f:Nat->Nat->Nat} (L:Lad n f)
include L
theorem le_trans {x y z:Nat} (hx:x<n) (hy:y<n) (hz:z<n) (h1:f x y=y) (h2:f y z=z):f x z=z:=by
 rw[<- h2,<- L.assoc x y z hx hy hz,h1]
theorem le_anti {x y:Nat} (hx:x<n) (hy:y<n) (h1:f x y=y) (h2:f y x=x):x=y:=by
 rw[L.comm y x hy hx,h1]at h2; exact h2.symm
theorem le_l {x y:Nat} (hx:x<n) (hy:y<n):f x (f x y)=f x y:=by rw[<- L.assoc x x y hx hx hy,L.idem x hx]
theorem le_r {x y:Nat} (hx:x<n) (hy:y<n):f y (f x y)=f x y:=by rw[L.comm x y hx hy]; exact L.le_l hy hx
theorem lub {x y z:Nat} (hx:x<n) (hy:y<n) (hz:z<n) (h1:f x z=z) (h2:f y z=z):f (f x y) z=z:=by rw[L.assoc x y z hx hy hz,h2,h1]
theorem sup_least {z:Nat} (hz:z<n) (bz:∀ j,j<n->f z j=j) {b:Nat} (hb:b<n):∀ {l:List Nat},(∀ x∈l,x<n)->(∀ x∈l,f x b=b)->f (l.foldl f z) b=b
 | [],_,_=>bz b hb
 | y::l,h,k=>by
  have hy:=h y List.mem_cons_self
  have hl:∀ x∈l,x<n:=fun x m=>h x (List.mem_cons_of_mem _ m)
  have e:(y::l).foldl f z=f y (l.foldl f z):=by
   show l.foldl f (f z y)=_
   rw[bz y hy,L.fold_out hz bz hy hl]
  rw[e]
  exact L.lub hy (L.fold_lt hz hl) hb (k y List.mem_cons_self) (sup_least hz bz hb hl fun x m=>k x (List.mem_cons_of_mem _ m))
omit L
noncomputable def low (n:Nat) (f:Nat->Nat->Nat) (x:Nat):List Nat:=(List.range n).filter fun y=>decide (f y x=x)
theorem mem_low {x y:Nat}:y∈low n f x ↔ y<n/\f y x=x:=by simp[low]
noncomputable def lr (n:Nat) (f:Nat->Nat->Nat) (z:Nat) (r:Nat->Nat) (x:Nat):Nat:=((low n f x).map r).foldl f z
include L
variable {z:Nat} (hz:z<n) (bz:∀ j,j<n->f z j=j) {r s:Nat->Nat} (hr:∀ i,i<n->r i<n)
include hz bz hr
theorem lr_mem {x:Nat}:∀ y∈(low n f x).map r,y<n:=fun y m=>by
 obtain⟨k,hk,rfl⟩:=List.mem_map.mp m
 exact hr k (mem_low.mp hk).1
theorem lr_lt (x:Nat):lr n f z r x<n:=L.fold_lt hz (lr_mem L hz bz hr)
theorem lr_ub {x y:Nat} (hy:y<n) (h:f y x=x):f (r y) (lr n f z r x)=lr n f z r x:=L.fold_mem hz (lr_mem L hz bz hr) (List.mem_map.mpr ⟨y,mem_low.mpr ⟨hy,h⟩,rfl⟩)
theorem lr_least {x b:Nat} (hb:b<n) (h:∀ y,y<n->f y x=x->f (r y) b=b):f (lr n f z r x) b=b:=L.sup_least hz bz hb (lr_mem L hz bz hr) fun y m=>by
 obtain⟨k,hk,rfl⟩:=List.mem_map.mp m
 exact h k (mem_low.mp hk).1 (mem_low.mp hk).2
theorem lr_rises {x y:Nat} (hx:x<n) (hy:y<n) (h:f x y=y):f (lr n f z r x) (lr n f z r y)=lr n f z r y:=
 L.lr_least hz bz hr (L.lr_lt hz bz hr y) fun k hk e=>L.lr_ub hz bz hr hk (L.le_trans hk hx hy e h)
end Lad
end L3
namespace L3
open PySem PySem.Spec PyProof.Rows L2
theorem j3h {α:Type} {us:List α} (h:us.length=1):∃ a,us=[a]:=match us,h with | [a],_=>⟨a,rfl⟩
theorem j3f {α:Type} {us:List α} (h:us.length=2):∃ a b,us=[a,b]:=by
 cases us with
 | nil=>cases h
 | cons a us=>
  obtain⟨b,hh⟩:=j3h (Nat.succ.inj h)
  exact⟨a,b,by rw[hh]⟩
theorem j2p {α:Type} {us:List α} (h:us.length=3):∃ a b c,us=[a,b,c]:=by
 cases us with
 | nil=>cases h
 | cons a us=>
  obtain⟨b,c,hh⟩:=j3f (Nat.succ.inj h)
  exact⟨a,b,c,by rw[hh]⟩
theorem j3l {α:Type} {us:List α} (h:us.length=4):∃ a b c d,us=[a,b,c,d]:=by
 cases us with
 | nil=>cases h
 | cons a us=>
  obtain⟨b,c,d,hh⟩:=j2p (Nat.succ.inj h)
  exact⟨a,b,c,d,by rw[hh]⟩
theorem y9x {pt:x5m} {body:x1l} {d:D} {ds:List D} {ρ ρ1 ρ2:Rho} (h1:pt d ρ=some ρ1) (h2:body ρ1=some (.nx ρ2)):x99 pt body (d::ds) ρ=x99 pt body ds ρ2:=by
 show(match pt d ρ with | none=>none | some ρ1=>_)=_
 simp only[h1,h2]
theorem y4i {α J σ:Type} {pt:x5m} {body:x1l} (enc:α->D) (S:σ->J->Rho) (g:σ->α->σ) (I:σ->Prop):∀ (l:List α) (s:σ) (j:J),I s->
  (∀ x∈l,∀ s j,I s->I (g s x)/\∃ ρ1 j',pt (enc x) (S s j)=some ρ1/\body ρ1=some (.nx (S (g s x) j')))->∃ j',x99 pt body (l.map enc) (S s j)=some (.nx (S (l.foldl g s) j'))/\I (l.foldl g s)
 | [],s,j,i,_=>⟨j,rfl,i⟩
 | x::l,s,j,i,h=>by
  obtain⟨i1,ρ1,j1,h1,h2⟩:=h x List.mem_cons_self s j i
  obtain⟨j2,e,i2⟩:=y4i enc S g I l (g s x) j1 i1 fun y m=>h y (List.mem_cons_of_mem _ m)
  exact⟨j2,(y9x h1 h2).trans e,i2⟩
theorem y1h {c:x2m} {b:x1l} {Q:Rho->Prop} (I:Nat->Rho->Prop)
  (h:∀ k ρ,I k ρ->(∃ ρ1,c ρ=some (false,ρ1)/\Q ρ1)\/(∃ ρ1 ρ2 k',c ρ=some (true,ρ1)/\b ρ1=some (.nx ρ2)/\k'<k/\I k' ρ2)):∀ m k ρ,k<m->I k ρ->∃ ρ',x65 c b m ρ=some (.nx ρ')/\Q ρ'
 | 0,k,_,hk,_=>absurd hk (Nat.not_lt_zero k)
 | m+1,k,ρ,hk,i=>by
  rcases h k ρ i with⟨ρ1,h1,h2⟩ | ⟨ρ1,ρ2,k',h1,h2,h3,h4⟩
  ·exact⟨ρ1,by unfold x65; simp[h1],h2⟩
  ·obtain⟨ρ',e,q⟩:=y1h I h m k' ρ2 (by omega) h4
   refine⟨ρ',?_,q⟩
   unfold x65
   simp[h1,h2,e]
theorem y7j {c:x2m} {b:x1l} {Q:Rho->Prop} (I:Nat->Rho->Prop) {k:Nat} {ρ:Rho} (hk:k<1000) (i:I k ρ)
  (h:∀ k ρ,I k ρ->(∃ ρ1,c ρ=some (false,ρ1)/\Q ρ1)\/(∃ ρ1 ρ2 k',c ρ=some (true,ρ1)/\b ρ1=some (.nx ρ2)/\k'<k/\I k' ρ2)):∃ ρ',y63 c b ρ=some (.nx ρ')/\Q ρ':=y1h I h 1000 k ρ hk i
noncomputable def gv (v:List Nat) (i:Nat):Nat:=v.getD i 0
theorem y88 {v:List Nat} {i:Nat} (h:i<v.length):v[i]? = some (gv v i):=by unfold gv; simp[h]
theorem z9o {v:List Nat} {i:Nat} (h:i<v.length):gv v i∈v:=y24 h
theorem j0t {v:List Nat} {i:Nat} (h:i<v.length):atD (.tup (x0l v)) (Int.ofNat i)=some (.int (Int.ofNat (gv v i))):=y8r (y88 h)
theorem z9u {v:List Nat} {i:Nat} (h:i<v.length) (x j:Nat):gv (v.set i x) j=if j=i then x else gv v j:=by
 unfold gv
 rw[List.getD_eq_getElem?_getD,List.getD_eq_getElem?_getD]
 by_cases e:j=i
 ·subst e; rw[if_pos rfl,List.getElem?_set_self h]; rfl
 ·rw[if_neg e,List.getElem?_set_ne (fun z=>e z.symm)]
theorem y8h {u v:List Nat} (h:u.length=v.length) (k:∀ i,i<u.length->gv u i=gv v i):u=v:=by
 apply List.ext_getElem?
 intro i
 by_cases hi:i<u.length
 ·rw[y88 hi,y88 (by omega),k i hi]
 ·rw[List.getElem?_eq_none (by omega),List.getElem?_eq_none (by omega)]
theorem x3d {p i:Nat} (g:Nat->Nat) (h:i<p):gv ((List.range p).map g) i=g i:=by unfold gv; simp[h]
theorem j2h (v:List Nat):v=(List.range v.length).map (gv v):=y8h (by simp) fun i hi=>(x3d _ hi).symm
structure Vn (n p:Nat) (v:List Nat):Prop where
 len:v.length=p
 lt:∀ x∈v,x<n
theorem Vn.gv {n p:Nat} {v:List Nat} (h:Vn n p v) {i:Nat} (hi:i<p):gv v i<n:=h.lt _ (z9o (by rw[h.len]; exact hi))
theorem Vn.set {n p:Nat} {v:List Nat} (h:Vn n p v) {i x:Nat} (hx:x<n):Vn n p (v.set i x):=⟨by rw[List.length_set]; exact h.len,fun y hy=>by
 rcases List.mem_or_eq_of_mem_set hy with h' | h'
 ·exact h.lt y h'
 ·rw[h']; exact hx⟩
theorem Vn.map {n p:Nat} {g:Nat->Nat} (h:∀ i,i<p->g i<n):Vn n p ((List.range p).map g):=⟨by simp,fun x hx=>by
 obtain⟨i,hi,rfl⟩:=List.mem_map.mp hx
 exact h i (List.mem_range.mp hi)⟩
noncomputable def leV (f:Nat->Nat->Nat) (p:Nat) (u v:List Nat):Prop:=∀ i,i<p->f (gv u i) (gv v i)=gv v i
noncomputable abbrev ChS:=Nat × (List Nat->Nat)
noncomputable def doS (f:Nat->Nat->Nat) (v:List Nat) (s:ChS):List Nat:=v.set s.1 (f (gv v s.1) (s.2 v))
structure OkS (n p:Nat) (f:Nat->Nat->Nat) (s:ChS):Prop where
 pl:s.1<p
 lt:∀ v,Vn n p v->s.2 v<n
 mono:∀ u v,Vn n p u->Vn n p v->leV f p u v->f (s.2 u) (s.2 v)=s.2 v
noncomputable def ClS (f:Nat->Nat->Nat) (l:List ChS) (v:List Nat):Prop:=∀ s∈l,f (s.2 v) (gv v s.1)=gv v s.1
namespace Lad
variable {n:Nat} {f:Nat->Nat->Nat} (L:Lad n f) {p:Nat}
include L
theorem leV_refl {v:List Nat} (h:Vn n p v):leV f p v v:=fun i hi=>L.idem _ (h.gv hi)
theorem leV_trans {u v w:List Nat} (hu:Vn n p u) (hv:Vn n p v) (hw:Vn n p w) (a:leV f p u v) (b:leV f p v w):leV f p u w:=fun i hi=>L.le_trans (hu.gv hi) (hv.gv hi) (hw.gv hi) (a i hi) (b i hi)
theorem leV_anti {u v:List Nat} (hu:Vn n p u) (hv:Vn n p v) (a:leV f p u v) (b:leV f p v u):u=v:=
 y8h (hu.len.trans hv.len.symm) fun i hi=>by
  rw[hu.len]at hi
  exact L.le_anti (hu.gv hi) (hv.gv hi) (a i hi) (b i hi)
theorem doS_V {v:List Nat} {s:ChS} (hs:OkS n p f s) (h:Vn n p v):Vn n p (doS f v s):=h.set (L.cl _ _ (h.gv hs.pl) (hs.lt v h))
theorem doS_gv {v:List Nat} {s:ChS} (hs:OkS n p f s) (h:Vn n p v) (i:Nat):gv (doS f v s) i=if i=s.1 then f (gv v s.1) (s.2 v)else gv v i:=z9u (by rw[h.len]; exact hs.pl) _ _
theorem doS_up {v:List Nat} {s:ChS} (hs:OkS n p f s) (h:Vn n p v):leV f p v (doS f v s):=fun i hi=>by
 rw[L.doS_gv hs h]
 by_cases e:i=s.1
 ·subst e; rw[if_pos rfl]; exact L.le_l (h.gv hi) (hs.lt v h)
 ·rw[if_neg e]; exact L.idem _ (h.gv hi)
theorem doS_mono {u v:List Nat} {s:ChS} (hs:OkS n p f s) (hu:Vn n p u) (hv:Vn n p v) (a:leV f p u v):leV f p (doS f u s) (doS f v s):=fun i hi=>by
 rw[L.doS_gv hs hu,L.doS_gv hs hv]
 by_cases e:i=s.1
 ·subst e
  rw[if_pos rfl,if_pos rfl]
  have h1:=hu.gv hs.pl
  have h2:=hs.lt u hu
  have h3:=hv.gv hs.pl
  have h4:=hs.lt v hv
  exact L.lub h1 h2 (L.cl _ _ h3 h4) (L.le_trans h1 h3 (L.cl _ _ h3 h4) (a _ hs.pl) (L.le_l h3 h4)) (L.le_trans h2 h4 (L.cl _ _ h3 h4) (hs.mono u v hu hv a) (L.le_r h3 h4))
 ·rw[if_neg e,if_neg e]; exact a i hi
theorem doS_fix {v:List Nat} {s:ChS} (hs:OkS n p f s) (h:Vn n p v):doS f v s=v ↔ f (s.2 v) (gv v s.1)=gv v s.1:=by
 constructor
 ·intro e
  have:=congrArg (fun u=>gv u s.1) e
  rw[L.doS_gv hs h,if_pos rfl]at this
  rw[L.comm _ _ (hs.lt v h) (h.gv hs.pl)]
  exact this
 ·intro e
  refine y8h (by unfold doS; rw[List.length_set]) fun i hi=>?_
  rw[L.doS_gv hs h]
  by_cases e':i=s.1
  ·subst e'; rw[if_pos rfl,L.comm _ _ (h.gv hs.pl) (hs.lt v h)]; exact e
  ·rw[if_neg e']
theorem foldS_V:∀ {l:List ChS} {v:List Nat},(∀ s∈l,OkS n p f s)->Vn n p v->Vn n p (l.foldl (doS f) v)
 | [],v,_,h=>h
 | s::l,v,hs,h=>foldS_V (l:=l) (fun t m=>hs t (List.mem_cons_of_mem _ m)) (L.doS_V (hs s List.mem_cons_self) h)
theorem foldS_up:∀ {l:List ChS} {v:List Nat},(∀ s∈l,OkS n p f s)->Vn n p v->leV f p v (l.foldl (doS f) v)
 | [],v,_,h=>L.leV_refl h
 | s::l,v,hs,h=>by
  have h1:=L.doS_V (hs s List.mem_cons_self) h
  have hl:∀ t∈l,OkS n p f t:=fun t m=>hs t (List.mem_cons_of_mem _ m)
  exact L.leV_trans h h1 (L.foldS_V (l:=l) hl h1) (L.doS_up (hs s List.mem_cons_self) h) (foldS_up (l:=l) hl h1)
theorem foldS_below {a:List Nat} (ha:Vn n p a):∀ {l:List ChS} {v:List Nat},(∀ s∈l,OkS n p f s)->Vn n p v->ClS f l a->leV f p v a->leV f p (l.foldl (doS f) v) a
 | [],v,_,h,_,e=>e
 | s::l,v,hs,h,c,e=>by
  have s0:=hs s List.mem_cons_self
  have h1:=L.doS_V s0 h
  have hl:∀ t∈l,OkS n p f t:=fun t m=>hs t (List.mem_cons_of_mem _ m)
  refine foldS_below ha (l:=l) hl h1 (fun t m=>c t (List.mem_cons_of_mem _ m)) ?_
  have:=L.doS_mono s0 h ha e
  rw[(L.doS_fix s0 ha).mpr (c s List.mem_cons_self)]at this
  exact this
theorem foldS_fix:∀ {l:List ChS} {v:List Nat},(∀ s∈l,OkS n p f s)->Vn n p v->(l.foldl (doS f) v=v ↔ ClS f l v)
 | [],v,_,h=>⟨fun _ _ m=>(List.not_mem_nil m).elim,fun _=>rfl⟩
 | s::l,v,hs,h=>by
  have s0:=hs s List.mem_cons_self
  have h1:=L.doS_V s0 h
  have hl:∀ t∈l,OkS n p f t:=fun t m=>hs t (List.mem_cons_of_mem _ m)
  constructor
  ·intro e
   have e0:l.foldl (doS f) (doS f v s)=v:=e
   have up:=L.foldS_up hl h1
   rw[e0]at up
   have e1:doS f v s=v:=L.leV_anti h1 h up (L.doS_up s0 h)
   rw[e1]at e0
   have c:=(foldS_fix (l:=l) hl h).mp e0
   intro t m
   rcases List.mem_cons.mp m with rfl | m
   ·exact(L.doS_fix s0 h).mp e1
   ·exact c t m
  ·intro c
   show l.foldl (doS f) (doS f v s)=v
   rw[(L.doS_fix s0 h).mpr (c s List.mem_cons_self)]
   exact(foldS_fix (l:=l) hl h).mpr fun t m=>c t (List.mem_cons_of_mem _ m)
noncomputable def cnt (n:Nat) (f:Nat->Nat->Nat) (x:Nat):Nat:=((List.range n).filter fun y=>decide (f x y=y)).length
noncomputable def mu (n:Nat) (f:Nat->Nat->Nat) (v:List Nat):Nat:=(v.map (cnt n f)).sum
omit L in
theorem z9g (x:Nat):cnt n f x<=n:=by
 have:=List.length_filter_le (fun y=>decide (f x y=y)) (List.range n)
 rw[List.length_range]at this
 exact this
omit L in
theorem mu_le {v:List Nat} (h:Vn n p v):mu n f v<=p*n:=by
 have key:∀ l:List Nat,(l.map (cnt n f)).sum<=l.length*n:=by
  intro l
  induction l with
  | nil=>simp
  | cons x l ih=>
   have:=z9g (n:=n) (f:=f) x
   simp only[List.map_cons,List.sum_cons,List.length_cons,Nat.succ_mul]
   omega
 have:=key v
 rw[h.len]at this
 exact this
omit L in
theorem x85 {q r:Nat->Bool} {a:Nat}:∀ {l:List Nat},(∀ x∈l,r x=true->q x=true)->a∈l->q a=true->r a=false->(l.filter r).length<(l.filter q).length
 | y::l,h,ha,hq,hr=>by
  have hl:∀ x∈l,r x=true->q x=true:=fun x m=>h x (List.mem_cons_of_mem _ m)
  have le:∀ l:List Nat,(∀ x∈l,r x=true->q x=true)->(l.filter r).length<=(l.filter q).length:=by
   intro l
   induction l with
   | nil=>intro _; simp
   | cons z l ih=>
    intro h
    have i:=ih fun x m=>h x (List.mem_cons_of_mem _ m)
    by_cases hz:r z=true
    ·rw[List.filter_cons_of_pos hz,List.filter_cons_of_pos (h z List.mem_cons_self hz)]
     simp only[List.length_cons]; omega
    ·rw[List.filter_cons_of_neg hz]
     by_cases hz':q z=true
     ·rw[List.filter_cons_of_pos hz']; simp only[List.length_cons]; omega
     ·rw[List.filter_cons_of_neg hz']; exact i
  by_cases e:y=a
  ·subst e
   rw[List.filter_cons_of_neg (by rw[hr]; simp),List.filter_cons_of_pos hq]
   have:=le l hl
   simp only[List.length_cons]; omega
  ·have ha':a∈l:=by
    rcases List.mem_cons.mp ha with h' | h'
    ·exact absurd h'.symm e
    ·exact h'
   have i:=x85 (l:=l) hl ha' hq hr
   by_cases hz:r y=true
   ·rw[List.filter_cons_of_pos hz,List.filter_cons_of_pos (h y List.mem_cons_self hz)]
    simp only[List.length_cons]; omega
   ·rw[List.filter_cons_of_neg hz]
    by_cases hz':q y=true
    ·rw[List.filter_cons_of_pos hz']; simp only[List.length_cons]; omega
    ·rw[List.filter_cons_of_neg hz']; exact i
theorem cnt_lt {x y:Nat} (hx:x<n) (hy:y<n) (h:f x y=y) (ne:x≠y):cnt n f y<cnt n f x:=by
 refine x85 (a:=x) (fun k m hk=>?_) (List.mem_range.mpr hx) (decide_eq_true (L.idem x hx)) (decide_eq_false fun e=>ne (L.le_anti hx hy h e))
 exact decide_eq_true (L.le_trans hx hy (List.mem_range.mp m) h (of_decide_eq_true hk))
theorem mu_lt {u v:List Nat} (hu:Vn n p u) (hv:Vn n p v) (a:leV f p u v) (ne:u≠v):mu n f v<mu n f u:=by
 have key:∀ (u v:List Nat),u.length=v.length->(∀ x∈u,x<n)->(∀ x∈v,x<n)->(∀ i,i<u.length->f (gv u i) (gv v i)=gv v i)->((v.map (cnt n f)).sum<=(u.map (cnt n f)).sum)/\(u≠v->(v.map (cnt n f)).sum<(u.map (cnt n f)).sum):=by
  intro u
  induction u with
  | nil=>
   intro v hl _ _ _
   have:v=[]:=List.length_eq_zero_iff.mp hl.symm
   subst this
   exact⟨Nat.le_refl _,fun h=>absurd rfl h⟩
  | cons x u ih=>
   intro v hl h1 h2 h3
   cases v with
   | nil=>cases hl
   | cons y v=>
    have hl':u.length=v.length:=by simpa using hl
    obtain⟨i1,i2⟩:=ih v hl' (fun z m=>h1 z (List.mem_cons_of_mem _ m)) (fun z m=>h2 z (List.mem_cons_of_mem _ m)) (fun i hi=>h3 (i+1) (by simpa using hi))
    have e0:f x y=y:=h3 0 (by simp)
    have hx:=h1 x List.mem_cons_self
    have hy:=h2 y List.mem_cons_self
    simp only[List.map_cons,List.sum_cons]
    by_cases e:x=y
    ·subst e
     exact⟨by omega,fun h=>by have:=i2 (fun z=>h (by rw[z])); omega⟩
    ·have:=L.cnt_lt hx hy e0 e
     exact⟨by omega,fun _=>by omega⟩
 exact(key u v (hu.len.trans hv.len.symm) hu.lt hv.lt (fun i hi=>a i (by rw[<- hu.len]; exact hi))).2 ne
end Lad
end L3
namespace My
open PySem PySem.Spec PyProof.Rows L2 L3
noncomputable def top (i:Nat):Stmt:=PySem.Challenge.pw_ladderhall_k93_whole_couples.main.body.getD i (.Pass ⟨0,0,0,0⟩)
structure Bt (mg:Str->Option Value):Prop where
 m_all:mg "all" = none
 m_bool:mg "bool" = none
 m_enumerate:mg "enumerate" = none
 m_int:mg "int" = none
 m_isinstance:mg "isinstance" = none
 m_len:mg "len" = none
 m_list:mg "list" = none
 m_max:mg "max" = none
 m_range:mg "range" = none
 m_str:mg "str" = none
 m_tuple:mg "tuple" = none
 m_zip:mg "zip" = none
 k_MOST_WORTHS:∃ t,mg "MOST_WORTHS" = some (.int 16 t)
noncomputable section
variable {P:Program} {w:World} {K:PySem.W.Frag} {mg:Str->Option Value} {base:Heap}
noncomputable def x5t:x1l:=x1g (x2i 4 (x17 1))
 (x2u (e2 x2p (e2 x62 (eIx (x1q 0 (e2 y5o (x05 2) (x05 4))) (e2 y5o (x05 3) (x05 4))) (x05 4)) (eIx (x1q 1 (e2 y2x (x05 2) (x05 4))) (e2 y2x (x05 3) (x05 4)))))
noncomputable def x28:List D->Option (D × Nat):=fnD 5 (x5t)
theorem x5h:FnScope ["one","other","x","y","wide"] ["one","other","x","y"] (x0e (top 17)):=⟨rfl,rfl,rfl,by decide +kernel,rfl,by decide +kernel,by decide +kernel⟩
theorem x5v (B:Bt mg) (a:At K mg "joined_couple" (top 17) ["one","other","x","y"]):Cal P w K mg base 1 "joined_couple" 4 (x28):=
 Cal.mkQ (k:=0) a x5h fun f cdv A outer s H E hr=>
  x06 (x0q (i:=4) x5h.nd rfl (Or.inl rfl) (x0w B.m_len (qv 1 rfl (Or.inl rfl))))
  (x0f (x0o (x1a (x3c (x4k (x0v (qv 0 rfl (Or.inl rfl)) (x92 (x02 (qv 2 rfl (Or.inl rfl))) (x02 (qv 4 rfl (Or.inl rfl))))) (x92 (x02 (qv 3 rfl (Or.inl rfl))) (x02 (qv 4 rfl (Or.inl rfl))))) (x02 (qv 4 rfl (Or.inl rfl)))) (x4k (x0v (qv 1 rfl (Or.inl rfl)) (x66 (x02 (qv 2 rfl (Or.inl rfl))) (x02 (qv 4 rfl (Or.inl rfl))))) (x66 (x02 (qv 3 rfl (Or.inl rfl))) (x02 (qv 4 rfl (Or.inl rfl))))))))
noncomputable def y0g:x1l:=x1g (sIf (x3u (e2 dLt (x05 1) (x17 0))) (x2u (x1q 0 (x05 1))) (x6b))
 (x1g (sIf (x3u (e2 dEq (x05 0) (x79 (x0g)))) (x2u (eC (.int 0))) (x6b))
 (x2u (e2 x2p (e2 x62 (x1q 0 (e2 y2x (x05 1) (x17 0))) (eC (.int 31))) (x05 1))))
noncomputable def x45:List D->Option (D × Nat):=fnD 2 (y0g)
theorem y41:FnScope ["_law_script","_law_k"] ["_law_script","_law_k"] (x0e (top 36)):=⟨rfl,rfl,rfl,by decide +kernel,rfl,by decide +kernel,by decide +kernel⟩
theorem y4s (B:Bt mg) (a:At K mg "_law_cell" (top 36) ["_law_script","_law_k"]):Cal P w K mg base 1 "_law_cell" 2 (x45):=
 Cal.mkQ (k:=0) a y41 fun f cdv A outer s H E hr=>
  x06 (x2n (y5u (x02 (qv 1 rfl (Or.inl rfl))) (x0w B.m_len (qv 0 rfl (Or.inl rfl)))) (x0f (x0o (x0v (qv 0 rfl (Or.inl rfl)) (x02 (qv 1 rfl (Or.inl rfl)))))) (x1s))
  (x06 (x2n (y1a hr (x02 (qv 0 rfl (Or.inl rfl))) (x2v (x03))) (x0f (x0o (x0d))) (x1s))
  (x0f (x0o (x1a (x3c (x0v (qv 0 rfl (Or.inl rfl)) (x66 (x02 (qv 1 rfl (Or.inl rfl))) (x0w B.m_len (qv 0 rfl (Or.inl rfl))))) (x0d)) (x02 (qv 1 rfl (Or.inl rfl)))))))
noncomputable def y0m:x1l:=x1g (x2i 3 (e2 y2x (e2 x62 (e2 x2p (x0p x45 2 (x01 (x05 0) (x01 (x05 1) (x0g)))) (e2 x62 (eC (.int 6151)) (e2 x2p (x05 1) (eC (.int 1))))) (eC (.int 40692))) (eC (.int 2147483399))))
 (x2u (e2 y2x (e2 y2x (e2 x2p (e2 x62 (x05 3) (x05 3)) (e2 y5o (x05 3) (eC (.int 31)))) (eC (.int 2147483629))) (x05 2)))
noncomputable def x0a:List D->Option (D × Nat):=fnD 4 (y0m)
theorem x90:FnScope ["_law_script","_law_k","_law_many","_law_drawn"] ["_law_script","_law_k","_law_many"] (x0e (top 37)):=⟨rfl,rfl,rfl,by decide +kernel,rfl,by decide +kernel,by decide +kernel⟩
theorem y4o (B:Bt mg) (c__law_cell:Cal P w K mg base 1 "_law_cell" 2 x45) (a:At K mg "_law_pick" (top 37) ["_law_script","_law_k","_law_many"]):Cal P w K mg base 2 "_law_pick" 3 (x0a):=
 Cal.mkQ (k:=1) a x90 fun f cdv A outer s H E hr=>
  x06 (x0q (i:=3) x90.nd rfl (Or.inl rfl) (x66 (x3c (x1a (x08 c__law_cell hr (by decide) (x00 (x02 (qv 0 rfl (Or.inl rfl))) (x00 (x02 (qv 1 rfl (Or.inl rfl))) (x03) x04) x04)) (x3c (x0d) (x1a (x02 (qv 1 rfl (Or.inl rfl))) (x0d)))) (x0d)) (x0d)))
  (x0f (x0o (x66 (x66 (x1a (x3c (x02 (qv 3 rfl (Or.inl rfl))) (x02 (qv 3 rfl (Or.inl rfl)))) (x92 (x02 (qv 3 rfl (Or.inl rfl))) (x0d))) (x0d)) (x02 (qv 2 rfl (Or.inl rfl))))))
noncomputable def y3p:x1l:=x2u (x2h 1 (x10 (x01 (x05 0) (x0g))) (x0k 1) (x1m) (x2h 1 (x10 (x01 (x05 0) (x0g))) (x0k 2) (x1m) (eB j06 (x01 (x05 1) (x01 (x05 2) (x0g)))) false) false)
noncomputable def x16:List D->Option (D × Nat):=fnD 1 (y3p)
theorem y2e:FnScope ["_law_many"] ["_law_many"] (x0e (top 38)):=⟨rfl,rfl,rfl,by decide +kernel,rfl,by decide +kernel,by decide +kernel⟩
noncomputable abbrev x7w:List Str:=["_law_many","_law_one","_law_other"]
theorem y11:(x7w).Nodup:=by decide +kernel
noncomputable abbrev x7x:List Str:=["_law_many","_law_one"]
theorem y0z:(x7x).Nodup:=by decide +kernel
theorem y3x (B:Bt mg) (a:At K mg "_law_chain" (top 38) ["_law_many"]):Cal P w K mg base 1 "_law_chain" 1 (x16):=
 Cal.mkQ (k:=0) a y2e fun f cdv A outer s H E hr=>
  x0f (x0o (x24 (k:=1) (N':=x7x) false rfl ⟨rfl,by decide +kernel,rfl,rfl,rfl⟩ (x0s B.m_range (x00 (x02 (qv 0 rfl (Or.inr (Or.inl rfl)))) (x03) x04)) (fun _ _ _ _=>x0h (i:=1) (show 1<=1 by decide) y0z rfl (Or.inr rfl) (Or.inl rfl)) (fun _ _ _ _=>x1f) (fun _ _ _ _=>x24 (k:=1) (N':=x7w) false rfl ⟨rfl,by decide +kernel,rfl,rfl,rfl⟩ (x0s B.m_range (x00 (x02 (qv 0)) (x03) x04)) (fun _ _ _ _=>x0h (i:=2) (show 2<=2 by decide) y11 rfl (Or.inl rfl) (Or.inr rfl)) (fun _ _ _ _=>x1f) (fun _ _ _ _=>y9v rfl B.m_max PyProof.Rows.boot_max (x00 (x02 (qv 1)) (x00 (x02 (qv 2)) (x03) x04) x04)))))
noncomputable def y0x:x1l:=x1g (x2i 2 (x17 1))
 (x1g (x2i 3 (x79 (x0g)))
 (x1g (x7b (x10 (x01 (e2 x62 (x17 0) (x05 2)) (x0g))) (x0k 4) (x1g (x2i 5 (x79 (x0g)))
 (x1g (x7b (x10 (x01 (e2 x62 (x17 0) (x05 2)) (x0g))) (x0k 6) (x1g (x2i 7 (eIx (x1q 0 (e2 y5o (x05 4) (x05 2))) (e2 y5o (x05 6) (x05 2))))
 (x3w (y09 5 (x01 (e2 x2p (e2 x62 (x05 7) (x05 2)) (eIx (x1q 1 (e2 y2x (x05 4) (x05 2))) (e2 y2x (x05 6) (x05 2)))) (x0g))))))
 (x3w (y09 3 (x01 (x05 5) (x0g)))))))
 (x2u (x05 3))))
noncomputable def x1c:List D->Option (D × Nat):=fnD 8 (y0x)
theorem x1w:FnScope ["_law_one","_law_other","_law_many","_law_made","_law_here","_law_row","_law_there","_law_first"] ["_law_one","_law_other"] (x0e (top 39)):=⟨rfl,rfl,rfl,by decide +kernel,rfl,by decide +kernel,by decide +kernel⟩
theorem y12 (B:Bt mg) (a:At K mg "_law_couples" (top 39) ["_law_one","_law_other"]):Cal P w K mg base 1 "_law_couples" 2 (x1c):=
 Cal.mkQ (k:=0) a x1w fun f cdv A outer s H E hr=>
  x06 (x0q (i:=2) x1w.nd rfl (Or.inl rfl) (x0w B.m_len (qv 1 rfl (Or.inl rfl))))
  (x06 (x0q (i:=3) x1w.nd rfl (Or.inl rfl) (x2v (x03)))
  (x06 (x2c PassesOwn.never rfl (x0s B.m_range (x00 (x3c (x0w B.m_len (qv 0 rfl (Or.inl rfl))) (x02 (qv 2 rfl (Or.inl rfl)))) (x03) x11)) (x0h (i:=4) (show 0<=4 by decide) x1w.nd rfl (Or.inl rfl)) (x06 (x0q (i:=5) x1w.nd rfl (Or.inl rfl) (x2v (x03)))
  (x06 (x2c PassesOwn.never rfl (x0s B.m_range (x00 (x3c (x0w B.m_len (qv 0 rfl (Or.inl rfl))) (x02 (qv 2 rfl (Or.inl rfl)))) (x03) x11)) (x0h (i:=6) (show 0<=6 by decide) x1w.nd rfl (Or.inl rfl)) (x06 (x0q (i:=7) x1w.nd rfl (Or.inl rfl) (x4k (x0v (qv 0 rfl (Or.inl rfl)) (x92 (x02 (qv 4 rfl (Or.inl rfl))) (x02 (qv 2 rfl (Or.inl rfl))))) (x92 (x02 (qv 6 rfl (Or.inl rfl))) (x02 (qv 2 rfl (Or.inl rfl))))))
  (x0f (x31 (x2q (qv 5 rfl (Or.inl rfl)) (x00 (x1a (x3c (x02 (qv 7 rfl (Or.inl rfl))) (x02 (qv 2 rfl (Or.inl rfl)))) (x4k (x0v (qv 1 rfl (Or.inl rfl)) (x66 (x02 (qv 4 rfl (Or.inl rfl))) (x02 (qv 2 rfl (Or.inl rfl))))) (x66 (x02 (qv 6 rfl (Or.inl rfl))) (x02 (qv 2 rfl (Or.inl rfl)))))) (x03) x11))))))
  (x0f (x31 (x2q (qv 3 rfl (Or.inl rfl)) (x00 (x02 (qv 5 rfl (Or.inl rfl))) (x03) x04)))))))
  (x0f (x0o (x02 (qv 3 rfl (Or.inl rfl)))))))
noncomputable def x70:x1l:=x1g (x2i 1 (x79 (x0g)))
 (x1g (x7b (x10 (x01 (e2 x2p (x05 0) (eC (.int 2))) (x0g))) (x0k 2) (x1g (x2i 3 (x79 (x0g)))
 (x1g (x7b (x10 (x01 (e2 x2p (x05 0) (eC (.int 2))) (x0g))) (x0k 4) (x3w (y09 3 (x01 (eIf (y8k (x3u (e2 dIn (eC (.int 0)) (x75 (x01 (x05 2) (x01 (x05 4) (x0g)))))) (x3u (e2 dEq (x05 2) (x05 4)))) (eB j06 (x01 (x05 2) (x01 (x05 4) (x0g)))) (e2 x2p (x05 0) (eC (.int 1)))) (x0g)))))
 (x3w (y09 1 (x01 (x05 3) (x0g)))))))
 (x2u (x05 1)))
noncomputable def x0x:List D->Option (D × Nat):=fnD 5 (x70)
theorem x1r:FnScope ["_law_many","_law_made","_law_one","_law_row","_law_other"] ["_law_many"] (x0e (top 40)):=⟨rfl,rfl,rfl,by decide +kernel,rfl,by decide +kernel,by decide +kernel⟩
theorem x74 (B:Bt mg) (a:At K mg "_law_side_by_side" (top 40) ["_law_many"]):Cal P w K mg base 1 "_law_side_by_side" 1 (x0x):=
 Cal.mkQ (k:=0) a x1r fun f cdv A outer s H E hr=>
  x06 (x0q (i:=1) x1r.nd rfl (Or.inl rfl) (x2v (x03)))
  (x06 (x2c PassesOwn.never rfl (x0s B.m_range (x00 (x1a (x02 (qv 0 rfl (Or.inl rfl))) (x0d)) (x03) x11)) (x0h (i:=2) (show 0<=2 by decide) x1r.nd rfl (Or.inl rfl)) (x06 (x0q (i:=3) x1r.nd rfl (Or.inl rfl) (x2v (x03)))
  (x06 (x2c PassesOwn.never rfl (x0s B.m_range (x00 (x1a (x02 (qv 0 rfl (Or.inl rfl))) (x0d)) (x03) x11)) (x0h (i:=4) (show 0<=4 by decide) x1r.nd rfl (Or.inl rfl)) (x0f (x31 (x2q (qv 3 rfl (Or.inl rfl)) (x00 (z16 (z29 (y43 (j01 hr (x0d) (x3l (x00 (x02 (qv 2 rfl (Or.inl rfl))) (x00 (x02 (qv 4 rfl (Or.inl rfl))) (x03) x04) x04))) (y1x (y1a hr (x02 (qv 2 rfl (Or.inl rfl))) (x02 (qv 4 rfl (Or.inl rfl))))))) (y9v rfl B.m_max PyProof.Rows.boot_max (x00 (x02 (qv 2 rfl (Or.inl rfl))) (x00 (x02 (qv 4 rfl (Or.inl rfl))) (x03) x04) x04)) (x1a (x02 (qv 0 rfl (Or.inl rfl))) (x0d))) (x03) z0e)))))
  (x0f (x31 (x2q (qv 1 rfl (Or.inl rfl)) (x00 (x02 (qv 3 rfl (Or.inl rfl))) (x03) x04)))))))
  (x0f (x0o (x02 (qv 1 rfl (Or.inl rfl))))))
noncomputable def x9p:x1l:=x1g (x2i 2 (x0p x0a 3 (x01 (x05 0) (x01 (x05 1) (x01 (eC (.int 9)) (x0g))))))
 (x1g (sIf (x3u (e2 dLt (x05 2) (eC (.int 3)))) (x2u (x0p x16 1 (x01 (e2 x2p (eC (.int 1)) (x0p x0a 3 (x01 (x05 0) (x01 (e2 x2p (x05 1) (eC (.int 1))) (x01 (eC (.int 5)) (x0g)))))) (x0g)))) (x6b))
 (x1g (sIf (x3u (e2 dLt (x05 2) (eC (.int 5)))) (x2u (x0p x1c 2 (x01 (x0p x16 1 (x01 (eC (.int 2)) (x0g))) (x01 (x0p x16 1 (x01 (eIx (x79 (x01 (eC (.int 2)) (x01 (eC (.int 3)) (x01 (eC (.int 4)) (x0g))))) (x0p x0a 3 (x01 (x05 0) (x01 (e2 x2p (x05 1) (eC (.int 1))) (x01 (eC (.int 3)) (x0g)))))) (x0g))) (x0g))))) (x6b))
 (x1g (sIf (x3u (e2 dLt (x05 2) (eC (.int 7)))) (x2u (x0p x0x 1 (x01 (x0p x0a 3 (x01 (x05 0) (x01 (e2 x2p (x05 1) (eC (.int 1))) (x01 (eC (.int 5)) (x0g))))) (x0g)))) (x6b))
 (x1g (sIf (x3u (e2 dEq (x05 2) (eC (.int 7)))) (x2u (x0p x1c 2 (x01 (x0p x16 1 (x01 (eC (.int 2)) (x0g))) (x01 (x0p x1c 2 (x01 (x0p x16 1 (x01 (eC (.int 2)) (x0g))) (x01 (x0p x16 1 (x01 (eC (.int 2)) (x0g))) (x0g)))) (x0g))))) (x6b))
 (x1g (x2i 3 (x79 (x01 (x79 (x01 (eC (.int 0)) (x01 (eC (.int 1)) (x01 (eC (.int 2)) (x01 (eC (.int 3)) (x01 (eC (.int 4)) (x0g))))))) (x01 (x79 (x01 (eC (.int 1)) (x01 (eC (.int 1)) (x01 (eC (.int 2)) (x01 (eC (.int 4)) (x01 (eC (.int 4)) (x0g))))))) (x01 (x79 (x01 (eC (.int 2)) (x01 (eC (.int 2)) (x01 (eC (.int 2)) (x01 (eC (.int 4)) (x01 (eC (.int 4)) (x0g))))))) (x01 (x79 (x01 (eC (.int 3)) (x01 (eC (.int 4)) (x01 (eC (.int 4)) (x01 (eC (.int 3)) (x01 (eC (.int 4)) (x0g))))))) (x01 (x79 (x01 (eC (.int 4)) (x01 (eC (.int 4)) (x01 (eC (.int 4)) (x01 (eC (.int 4)) (x01 (eC (.int 4)) (x0g))))))) (x0g))))))))
 (x2u (x05 3)))))))
noncomputable def x4a:List D->Option (D × Nat):=fnD 4 (x9p)
theorem x5z:FnScope ["_law_script","_law_at","_law_kind","_law_rows"] ["_law_script","_law_at"] (x0e (top 41)):=⟨rfl,rfl,rfl,by decide +kernel,rfl,by decide +kernel,by decide +kernel⟩
theorem y5d (B:Bt mg) (c__law_pick:Cal P w K mg base 2 "_law_pick" 3 x0a) (c__law_chain:Cal P w K mg base 1 "_law_chain" 1 x16) (c__law_couples:Cal P w K mg base 1 "_law_couples" 2 x1c) (c__law_side_by_side:Cal P w K mg base 1 "_law_side_by_side" 1 x0x) (a:At K mg "_law_base" (top 41) ["_law_script","_law_at"]):Cal P w K mg base 3 "_law_base" 2 (x4a):=
 Cal.mkQ (k:=2) a x5z fun f cdv A outer s H E hr=>
  x06 (x0q (i:=2) x5z.nd rfl (Or.inl rfl) (x08 c__law_pick hr (by decide) (x00 (x02 (qv 0 rfl (Or.inl rfl))) (x00 (x02 (qv 1 rfl (Or.inl rfl))) (x00 (x0d) (x03) x09) x04) x04)))
  (x06 (x2n (y5u (x02 (qv 2 rfl (Or.inl rfl))) (x0d)) (x0f (x0o (x08 c__law_chain hr (by decide) (x00 (x1a (x0d) (x08 c__law_pick hr (by decide) (x00 (x02 (qv 0 rfl (Or.inl rfl))) (x00 (x1a (x02 (qv 1 rfl (Or.inl rfl))) (x0d)) (x00 (x0d) (x03) x09) x11) x04))) (x03) x11)))) (x1s))
  (x06 (x2n (y5u (x02 (qv 2 rfl (Or.inl rfl))) (x0d)) (x0f (x0o (x08 c__law_couples hr (by decide) (x00 (x08 c__law_chain hr (by decide) (x00 (x0d) (x03) x09)) (x00 (x08 c__law_chain hr (by decide) (x00 (x4k (x2v (x00 (x0d) (x00 (x0d) (x00 (x0d) (x03) x09) x09) x09)) (x08 c__law_pick hr (by decide) (x00 (x02 (qv 0 rfl (Or.inl rfl))) (x00 (x1a (x02 (qv 1 rfl (Or.inl rfl))) (x0d)) (x00 (x0d) (x03) x09) x11) x04))) (x03) x12)) (x03) x0m) x0m)))) (x1s))
  (x06 (x2n (y5u (x02 (qv 2 rfl (Or.inl rfl))) (x0d)) (x0f (x0o (x08 c__law_side_by_side hr (by decide) (x00 (x08 c__law_pick hr (by decide) (x00 (x02 (qv 0 rfl (Or.inl rfl))) (x00 (x1a (x02 (qv 1 rfl (Or.inl rfl))) (x0d)) (x00 (x0d) (x03) x09) x11) x04)) (x03) x0m)))) (x1s))
  (x06 (x2n (y1a hr (x02 (qv 2 rfl (Or.inl rfl))) (x0d)) (x0f (x0o (x08 c__law_couples hr (by decide) (x00 (x08 c__law_chain hr (by decide) (x00 (x0d) (x03) x09)) (x00 (x08 c__law_couples hr (by decide) (x00 (x08 c__law_chain hr (by decide) (x00 (x0d) (x03) x09)) (x00 (x08 c__law_chain hr (by decide) (x00 (x0d) (x03) x09)) (x03) x0m) x0m)) (x03) x0m) x0m)))) (x1s))
  (x06 (x0q (i:=3) x5z.nd rfl (Or.inl rfl) (x2v (x00 (x2v (x00 (x0d) (x00 (x0d) (x00 (x0d) (x00 (x0d) (x00 (x0d) (x03) x09) x09) x09) x09) x09)) (x00 (x2v (x00 (x0d) (x00 (x0d) (x00 (x0d) (x00 (x0d) (x00 (x0d) (x03) x09) x09) x09) x09) x09)) (x00 (x2v (x00 (x0d) (x00 (x0d) (x00 (x0d) (x00 (x0d) (x00 (x0d) (x03) x09) x09) x09) x09) x09)) (x00 (x2v (x00 (x0d) (x00 (x0d) (x00 (x0d) (x00 (x0d) (x00 (x0d) (x03) x09) x09) x09) x09) x09)) (x00 (x2v (x00 (x0d) (x00 (x0d) (x00 (x0d) (x00 (x0d) (x00 (x0d) (x03) x09) x09) x09) x09) x09)) (x03) y02) y02) y02) y02) y02)))
  (x0f (x0o (x02 (qv 3 rfl (Or.inl rfl))))))))))
noncomputable def x7i:x1l:=x1g (x2i 2 (x0p x4a 2 (x01 (x05 0) (x01 (x05 1) (x0g)))))
 (x1g (x2i 3 (x6v (x01 (x17 2) (x0g))))
 (x1g (x2i 4 (x2h 1 (x10 (x01 (x17 2) (x0g))) (x0k 8) (x1m) (z71 3 (x01 (x0p x0a 3 (x01 (x05 0) (x01 (e2 x2p (e2 x2p (x05 1) (eC (.int 2))) (x05 8)) (x01 (x17 3) (x0g))))) (x0g))) false))
 (x1g (x2i 5 (x2h 1 (x7a (x05 2)) (x0k 8) (x1m) (y4n (x79 (x01 (eC (.int 0)) (x0g))) (x17 2)) true))
 (x1g (x7b (x10 (x01 (x17 2) (x0g))) (x0k 6) (x7b (x10 (x01 (x17 2) (x0g))) (x0k 7) (y79 5 (qIx 4 (z3c 6)) (qIx 4 (z3c 7)) (x1q 4 (eIx (x1q 2 (x05 6)) (x05 7))))))
 (x2u (x1x (x01 (x2h 1 (x7a (x05 5)) (x0k 8) (x1m) (x1x (x01 (x05 8) (x0g))) false) (x0g))))))))
noncomputable def x2s:List D->Option (D × Nat):=fnD 8 (x7i)
theorem x22:FnScope ["_law_script","_law_at","_law_base_here","_law_left","_law_name","_law_made","_law_one","_law_other"] ["_law_script","_law_at"] (x0e (top 42)):=⟨rfl,rfl,rfl,by decide +kernel,rfl,by decide +kernel,by decide +kernel⟩
noncomputable abbrev x6r:List Str:=["_law_script","_law_at","_law_base_here","_law_left","_law_name","_law_made","_law_one","_law_other","_law_k"]
theorem x9u:(x6r).Nodup:=by decide +kernel
noncomputable abbrev x4p:List Str:=["_law_script","_law_at","_law_base_here","_law_left","_law_name","_law_made","_law_one","_law_other","_law_row"]
theorem x5y:(x4p).Nodup:=by decide +kernel
theorem y2t (B:Bt mg) (c__law_base:Cal P w K mg base 3 "_law_base" 2 x4a) (c__law_pick:Cal P w K mg base 2 "_law_pick" 3 x0a) (a:At K mg "_law_ladder" (top 42) ["_law_script","_law_at"]):Cal P w K mg base 4 "_law_ladder" 2 (x2s):=
 Cal.mkQ (k:=3) a x22 fun f cdv A outer s H E hr=>
  x06 (x0q (i:=2) x22.nd rfl (Or.inr rfl) (x08 c__law_base hr (by decide) (x00 (x02 (qv 0 rfl (Or.inr (Or.inl rfl)))) (x00 (x02 (qv 1 rfl (Or.inr (Or.inl rfl)))) (x03) x04) x04)))
  (x06 (x0q (i:=3) x22.nd rfl (Or.inr rfl) (x9d rfl B.m_list PyProof.Rows.boot_list B.m_range (x00 (x0w B.m_len (qv 2 rfl (Or.inr (Or.inl rfl)))) (x03) x0m)))
  (x06 (x7n (i:=4) (k:=1) (N':=x6r) false x22.nd rfl (Or.inl rfl) rfl rfl ⟨rfl,by decide +kernel,rfl,rfl,rfl⟩ (x0s B.m_range (x00 (x0w B.m_len (qv 2 rfl (Or.inr (Or.inl rfl)))) (x03) x0m)) (fun _ _ _ _=>x0h (i:=8) (show 8<=8 by decide) x9u rfl (Or.inl rfl) (Or.inr rfl)) (fun _ _ _ _=>x1f) (fun _ _ _ _=>j08 (qv 3) (x00 (x08 c__law_pick hr (by decide) (x00 (x02 (qv 0)) (x00 (x1a (x1a (x02 (qv 1)) (x0d)) (x02 (qv 8))) (x00 (x0w B.m_len (qv 3)) (x03) x0m) x11) x04)) (x03) x0m)))
  (x06 (x7n (i:=5) (k:=1) (N':=x4p) true x22.nd rfl (Or.inl rfl) rfl rfl ⟨rfl,by decide +kernel,rfl,rfl,rfl⟩ (x3y (x02 (qv 2 rfl (Or.inr (Or.inl rfl))))) (fun _ _ _ _=>x0h (i:=8) (show 8<=8 by decide) x5y rfl (Or.inl rfl) (Or.inr rfl)) (fun _ _ _ _=>x1f) (fun _ _ _ _=>y8q (x2v (x00 (x0d) (x03) x09)) (x0w B.m_len (qv 2))))
  (x06 (x2c PassesOwn.never rfl (x0s B.m_range (x00 (x0w B.m_len (qv 2 rfl (Or.inr (Or.inl rfl)))) (x03) x0m)) (x0h (i:=6) (show 0<=6 by decide) x22.nd rfl (Or.inl rfl)) (x0f (x2c PassesOwn.never rfl (x0s B.m_range (x00 (x0w B.m_len (qv 2 rfl (Or.inr (Or.inl rfl)))) (x03) x0m)) (x0h (i:=7) (show 0<=7 by decide) x22.nd rfl (Or.inl rfl)) (x0f (z2r (qv 5 rfl (Or.inl rfl)) (z9x (qv 4 rfl (Or.inl rfl)) (z34 (qv 6 rfl (Or.inl rfl)))) (z9x (qv 4 rfl (Or.inl rfl)) (z34 (qv 7 rfl (Or.inl rfl)))) (x0v (qv 4 rfl (Or.inl rfl)) (x4k (x0v (qv 2 rfl (Or.inr (Or.inl rfl))) (x02 (qv 6 rfl (Or.inl rfl)))) (x02 (qv 7 rfl (Or.inl rfl))))))))))
  (x0f (x0o (x1n B.m_tuple PyProof.Rows.boot_tuple (x00 (x24 (k:=1) (N':=x4p) false rfl ⟨rfl,by decide +kernel,rfl,rfl,rfl⟩ (x3y (x02 (qv 5 rfl (Or.inl rfl)))) (fun _ _ _ _=>x0h (i:=8) (show 8<=8 by decide) x5y rfl (Or.inl rfl) (Or.inr rfl)) (fun _ _ _ _=>x1f) (fun _ _ _ _=>x1n B.m_tuple PyProof.Rows.boot_tuple (x00 (x02 (qv 8)) (x03) x04))) (x03) x19))))))))
noncomputable abbrev y55 (ob:D) (G:List D->Option (D × Nat)):x1l:=x3w (y09 2 (x01 (x1x (x01 (x2h 1 (x10 (x01 (x05 0) (x0g))) (x0k 4) (x1m) (y06 ob G 1 2 (x01 (x05 3) (x01 (x05 4) (x0g)))) false) (x0g))) (x0g)))
noncomputable def y1f (ob:D) (G:List D->Option (D × Nat)):x1l:=x1g (x2i 2 (x79 (x0g)))
 (x1g (x7b (x10 (x01 (x05 0) (x0g))) (x0k 3) (x3w (y09 2 (x01 (x1x (x01 (x2h 1 (x10 (x01 (x05 0) (x0g))) (x0k 4) (x1m) (y06 ob G 1 2 (x01 (x05 3) (x01 (x05 4) (x0g)))) false) (x0g))) (x0g)))))
 (x2u (x1x (x01 (x05 2) (x0g)))))
noncomputable def x38 (ob:D) (G:List D->Option (D × Nat)):List D->Option (D × Nat):=fnD 4 (y1f ob G)
theorem x6y:FnScope ["many","entry","rows","x"] ["many","entry"] (x0e (top 15)):=⟨rfl,rfl,rfl,by decide +kernel,rfl,by decide +kernel,by decide +kernel⟩
noncomputable abbrev y0a:List Str:=["many","entry","rows","x","y"]
theorem y3s:(y0a).Nodup:=by decide +kernel
theorem y6u (B:Bt mg) {ob:D} {G:List D->Option (D × Nat)} (co:z4d P w K mg base 2 ob 2 G) (a:At K mg "table_of" (top 15) ["many","entry"]):Cal P w K mg base 3 "table_of" 2 (x38 ob G):=
 Cal.mkQ (k:=2) a x6y fun f cdv A outer s H E hr=>
  x06 (x0q (i:=2) x6y.nd rfl (Or.inl rfl) (x2v (x03)))
  (x06 (x2c PassesOwn.never rfl (x0s B.m_range (x00 (x02 (qv 0 rfl (Or.inl rfl))) (x03) x04)) (x0h (i:=3) (show 0<=3 by decide) x6y.nd rfl (Or.inr rfl)) (x0f (x31 (x2q (qv 2 rfl (Or.inl rfl)) (x00 (x1n B.m_tuple PyProof.Rows.boot_tuple (x00 (x24 (k:=1) (N':=y0a) false rfl ⟨rfl,by decide +kernel,rfl,rfl,rfl⟩ (x0s B.m_range (x00 (x02 (qv 0 rfl (Or.inl rfl))) (x03) x04)) (fun _ _ _ _=>x0h (i:=4) (show 4<=4 by decide) y3s rfl (Or.inl rfl) (Or.inr rfl)) (fun _ _ _ _=>x1f) (fun _ _ _ _=>z1a (qv 1) co hr (by decide) (x00 (x02 (qv 3)) (x00 (x02 (qv 4)) (x03) x04) x04))) (x03) x19)) (x03) x0m)))))
  (x0f (x0o (x1n B.m_tuple PyProof.Rows.boot_tuple (x00 (x02 (qv 2 rfl (Or.inl rfl))) (x03) x04)))))
noncomputable def z2e:Den:=x0p x28 4 (x01 (x05 3) (x01 (x05 2) (x01 (x05 0) (x01 (x05 1) (x0g)))))
noncomputable def y5z:x1l:=x1g (x2i 2 (x17 1))
 (x1g (sIf (x3u (e2 dGt (e2 x62 (x17 0) (x05 2)) (eC (.int 16)))) (y4d) (x6b))
 (x2u (z70 x38 z2e [1,0] (e2 x62 (x17 0) (x05 2)))))
noncomputable def x7g:List D->Option (D × Nat):=fnD 3 (y5z)
theorem y3r:FnScope ["one","other","wide"] ["one","other"] (x0e (top 16)):=⟨rfl,rfl,rfl,by decide +kernel,rfl,by decide +kernel,by decide +kernel⟩
theorem z0s (B:Bt mg) (L:Lm K mg base) (KX:K.In base) (NG:base.Ns mainGlobals mg) (tb:∃ c Pt,PySem.W.tabIn K "paired" = some (c,Pt)) (hT:∀ (base:Heap) (ob:D) (G:List D->Option (D × Nat)),z4d P w K mg base 2 ob 2 G->Cal P w K mg base 3 "table_of" 2 (x38 ob G)) (hy:∃ fn,mg "table_of" = some (.ref fn)/\PySem.W.keepIn K (.ref fn)=true) (e_joined_couple:∀ base:Heap,Cal P w K mg base 1 "joined_couple" 4 x28) (a:At K mg "paired" (top 16) ["one","other"]):Cal P w K mg base 4 "paired" 2 x7g:=
 Cal.mkL (k:=3) KX NG tb a y3r fun f c Pt A outer s H E ht hr=>
  x06 (x0q (i:=2) y3r.nd rfl (Or.inl rfl) (x0w B.m_len (qv 1 rfl (Or.inr (Or.inl rfl)))))
  (x06 (x2n (y9t (x3c (x0w B.m_len (qv 0 rfl (Or.inr (Or.inl rfl)))) (x02 (qv 2 rfl (Or.inl rfl)))) (z4g B.k_MOST_WORTHS)) (x0f (y3i)) (x1s))
  (x0f (x0o (z84 (ps:=["x","y"]) (caps:=["other","one"]) (is:=[1,0]) (kb:=1) L (by decide) ht (by exact LamScope.of rfl rfl rfl (by decide +kernel) (by decide +kernel) (by decide +kernel) (by decide +kernel) (by decide +kernel)) hy hr (by decide) hT (fun _ _ _ _ _ _ _ _ _ hr=>x08 (e_joined_couple _) hr (by decide) (x00 (x02 (qv 3 rfl (Or.inr (Or.inr rfl)))) (x00 (x02 (qv 2 rfl (Or.inr (Or.inr rfl)))) (x00 (x02 (qv 0 rfl (Or.inl rfl))) (x00 (x02 (qv 1 rfl (Or.inl rfl))) (x03) x04) x04) x04) x04)) (fun _ _ _ _ _ _ h=>by obtain⟨_,_,rfl⟩:=L3.j2k h; rfl) ⟨rfl,rfl,⟨rfl,rfl,trivial⟩⟩ (x3c (x0w B.m_len (qv 0 rfl (Or.inr (Or.inl rfl)))) (x02 (qv 2 rfl (Or.inl rfl)))) (fun _=>x11)))))
noncomputable def x6s:x1l:=x1g (x2i 2 (x17 1))
 (x2u (x1x (x01 (x2h 1 (x10 (x01 (e2 x62 (x17 0) (x05 2)) (x0g))) (x0k 3) (x1m) (e2 x2p (e2 x62 (x1q 0 (e2 y5o (x05 3) (x05 2))) (x05 2)) (x1q 1 (e2 y2x (x05 3) (x05 2)))) false) (x0g))))
noncomputable def x23:List D->Option (D × Nat):=fnD 3 (x6s)
theorem x5q:FnScope ["one","other","wide"] ["one","other"] (x0e (top 24)):=⟨rfl,rfl,rfl,by decide +kernel,rfl,by decide +kernel,by decide +kernel⟩
noncomputable abbrev x5o:List Str:=["one","other","wide","couple"]
theorem x95:(x5o).Nodup:=by decide +kernel
theorem y0u (B:Bt mg) (a:At K mg "paired_rules" (top 24) ["one","other"]):Cal P w K mg base 1 "paired_rules" 2 (x23):=
 Cal.mkQ (k:=0) a x5q fun f cdv A outer s H E hr=>
  x06 (x0q (i:=2) x5q.nd rfl (Or.inr rfl) (x0w B.m_len (qv 1 rfl (Or.inr (Or.inl rfl)))))
  (x0f (x0o (x1n B.m_tuple PyProof.Rows.boot_tuple (x00 (x24 (k:=1) (N':=x5o) false rfl ⟨rfl,by decide +kernel,rfl,rfl,rfl⟩ (x0s B.m_range (x00 (x3c (x0w B.m_len (qv 0 rfl (Or.inr (Or.inl rfl)))) (x02 (qv 2 rfl (Or.inr (Or.inl rfl))))) (x03) x11)) (fun _ _ _ _=>x0h (i:=3) (show 3<=3 by decide) x95 rfl (Or.inl rfl) (Or.inr rfl)) (fun _ _ _ _=>x1f) (fun _ _ _ _=>x1a (x3c (x0v (qv 0) (x92 (x02 (qv 3)) (x02 (qv 2)))) (x02 (qv 2))) (x0v (qv 1) (x66 (x02 (qv 3)) (x02 (qv 2)))))) (x03) x19))))
noncomputable def y1d:x1l:=x2u (eIx (x2h 1 (x10 (x01 (x17 0) (x0g))) (x0k 1) (x3u (e2 dEq (x8o (x01 (x1q 0 (x05 1)) (x0g))) (x6v (x01 (x17 0) (x0g))))) (x05 1) false) (eC (.int 0)))
noncomputable def x3m:List D->Option (D × Nat):=fnD 1 (y1d)
theorem y5l:FnScope ["_law_ladder_here"] ["_law_ladder_here"] (x0e (top 43)):=⟨rfl,rfl,rfl,by decide +kernel,rfl,by decide +kernel,by decide +kernel⟩
noncomputable abbrev x9m:List Str:=["_law_ladder_here","_law_worth"]
theorem y46:(x9m).Nodup:=by decide +kernel
theorem y6p (B:Bt mg) (a:At K mg "_law_low" (top 43) ["_law_ladder_here"]):Cal P w K mg base 1 "_law_low" 1 (x3m):=
 Cal.mkQ (k:=0) a y5l fun f cdv A outer s H E hr=>
  x0f (x0o (x4k (x24 (k:=1) (N':=x9m) false rfl ⟨rfl,by decide +kernel,rfl,rfl,rfl⟩ (x0s B.m_range (x00 (x0w B.m_len (qv 0 rfl (Or.inr (Or.inl rfl)))) (x03) x0m)) (fun _ _ _ _=>x0h (i:=1) (show 1<=1 by decide) y46 rfl (Or.inl rfl) (Or.inr rfl)) (fun _ _ _ _=>y25 (y1a hr (y8i B.m_list PyProof.Rows.boot_list (x00 (x0v (qv 0) (x02 (qv 1))) (x03) x12)) (x9d rfl B.m_list PyProof.Rows.boot_list B.m_range (x00 (x0w B.m_len (qv 0)) (x03) x0m)))) (fun _ _ _ _=>x02 (qv 1))) (x0d)))
noncomputable def x9r:x1l:=x1g (x2i 2 (x0p x3m 1 (x01 (x05 0) (x0g))))
 (x1g (x7b (x7a (x05 1)) (x0k 3) (x2i 2 (eIx (x1q 0 (x05 2)) (x05 3))))
 (x2u (x05 2)))
noncomputable def x34:List D->Option (D × Nat):=fnD 4 (x9r)
theorem x4j:FnScope ["_law_ladder_here","_law_worths","_law_here","_law_worth"] ["_law_ladder_here","_law_worths"] (x0e (top 44)):=⟨rfl,rfl,rfl,by decide +kernel,rfl,by decide +kernel,by decide +kernel⟩
theorem y4p (B:Bt mg) (c__law_low:Cal P w K mg base 1 "_law_low" 1 x3m) (a:At K mg "_law_join" (top 44) ["_law_ladder_here","_law_worths"]):Cal P w K mg base 2 "_law_join" 2 (x34):=
 Cal.mkQ (k:=1) a x4j fun f cdv A outer s H E hr=>
  x06 (x0q (i:=2) x4j.nd rfl (Or.inl rfl) (x08 c__law_low hr (by decide) (x00 (x02 (qv 0 rfl (Or.inl rfl))) (x03) x04)))
  (x06 (x2c PassesOwn.never rfl (x3y (x02 (qv 1 rfl (Or.inl rfl)))) (x0h (i:=3) (show 0<=3 by decide) x4j.nd rfl (Or.inl rfl)) (x0f (x0q (i:=2) x4j.nd rfl (Or.inl rfl) (x4k (x0v (qv 0 rfl (Or.inl rfl)) (x02 (qv 2 rfl (Or.inl rfl)))) (x02 (qv 3 rfl (Or.inl rfl)))))))
  (x0f (x0o (x02 (qv 2 rfl (Or.inl rfl))))))
noncomputable def x93:x1l:=x2u (x2h 1 (x10 (x01 (x17 0) (x0g))) (x0k 2) (x3u (e2 dEq (eIx (x1q 0 (x05 2)) (x05 1)) (x05 1))) (x05 2) false)
noncomputable def x2b:List D->Option (D × Nat):=fnD 2 (x93)
theorem y21:FnScope ["_law_ladder_here","_law_worth"] ["_law_ladder_here","_law_worth"] (x0e (top 45)):=⟨rfl,rfl,rfl,by decide +kernel,rfl,by decide +kernel,by decide +kernel⟩
noncomputable abbrev x84:List Str:=["_law_ladder_here","_law_worth","_law_one"]
theorem y15:(x84).Nodup:=by decide +kernel
theorem y47 (B:Bt mg) (a:At K mg "_law_under" (top 45) ["_law_ladder_here","_law_worth"]):Cal P w K mg base 1 "_law_under" 2 (x2b):=
 Cal.mkQ (k:=0) a y21 fun f cdv A outer s H E hr=>
  x0f (x0o (x24 (k:=1) (N':=x84) false rfl ⟨rfl,by decide +kernel,rfl,rfl,rfl⟩ (x0s B.m_range (x00 (x0w B.m_len (qv 0 rfl (Or.inr (Or.inl rfl)))) (x03) x0m)) (fun _ _ _ _=>x0h (i:=2) (show 2<=2 by decide) y15 rfl (Or.inl rfl) (Or.inr rfl)) (fun _ _ _ _=>y25 (y1a hr (x4k (x0v (qv 0) (x02 (qv 2))) (x02 (qv 1))) (x02 (qv 1)))) (fun _ _ _ _=>x02 (qv 2))))
noncomputable def x9t:x1l:=x1g (x2i 3 (x0p x3m 1 (x01 (x05 2) (x0g))))
 (x1g (x2i 4 (x79 (x0g)))
 (x1g (x7b (x10 (x01 (x17 2) (x0g))) (x0k 5) (x3w (y09 4 (x01 (eIx (x79 (x01 (x05 3) (x01 (x05 5) (x01 (x0p x0a 3 (x01 (x05 0) (x01 (e2 x2p (x05 1) (x05 5)) (x01 (x17 2) (x0g))))) (x0g))))) (x0p x0a 3 (x01 (x05 0) (x01 (e2 x2p (e2 x2p (x05 1) (eC (.int 8))) (x05 5)) (x01 (eC (.int 3)) (x0g)))))) (x0g)))))
 (x1g (x2i 6 (x79 (x0g)))
 (x1g (x7b (x10 (x01 (x17 2) (x0g))) (x0k 5) (x3w (y09 6 (x01 (x0p x34 2 (x01 (x05 2) (x01 (x2h 1 (x7a (x0p x2b 2 (x01 (x05 2) (x01 (x05 5) (x0g))))) (x0k 7) (x1m) (x1q 4 (x05 7)) false) (x0g)))) (x0g)))))
 (x2u (x1x (x01 (x05 6) (x0g))))))))
noncomputable def x1p:List D->Option (D × Nat):=fnD 7 (x9t)
theorem x36:FnScope ["_law_script","_law_at","_law_ladder_here","_law_low_here","_law_drawn","_law_worth","_law_made"] ["_law_script","_law_at","_law_ladder_here"] (x0e (top 46)):=⟨rfl,rfl,rfl,by decide +kernel,rfl,by decide +kernel,by decide +kernel⟩
noncomputable abbrev x91:List Str:=["_law_script","_law_at","_law_ladder_here","_law_low_here","_law_drawn","_law_worth","_law_made","_law_one"]
theorem y2i:(x91).Nodup:=by decide +kernel
theorem y4l (B:Bt mg) (c__law_low:Cal P w K mg base 1 "_law_low" 1 x3m) (c__law_pick:Cal P w K mg base 2 "_law_pick" 3 x0a) (c__law_join:Cal P w K mg base 2 "_law_join" 2 x34) (c__law_under:Cal P w K mg base 1 "_law_under" 2 x2b) (a:At K mg "_law_rule" (top 46) ["_law_script","_law_at","_law_ladder_here"]):Cal P w K mg base 3 "_law_rule" 3 (x1p):=
 Cal.mkQ (k:=2) a x36 fun f cdv A outer s H E hr=>
  x06 (x0q (i:=3) x36.nd rfl (Or.inl rfl) (x08 c__law_low hr (by decide) (x00 (x02 (qv 2 rfl (Or.inl rfl))) (x03) x04)))
  (x06 (x0q (i:=4) x36.nd rfl (Or.inr rfl) (x2v (x03)))
  (x06 (x2c PassesOwn.never rfl (x0s B.m_range (x00 (x0w B.m_len (qv 2 rfl (Or.inl rfl))) (x03) x0m)) (x0h (i:=5) (show 0<=5 by decide) x36.nd rfl (Or.inl rfl)) (x0f (x31 (x2q (qv 4 rfl (Or.inr (Or.inl rfl))) (x00 (x4k (x2v (x00 (x02 (qv 3 rfl (Or.inl rfl))) (x00 (x02 (qv 5 rfl (Or.inl rfl))) (x00 (x08 c__law_pick hr (by decide) (x00 (x02 (qv 0 rfl (Or.inl rfl))) (x00 (x1a (x02 (qv 1 rfl (Or.inl rfl))) (x02 (qv 5 rfl (Or.inl rfl)))) (x00 (x0w B.m_len (qv 2 rfl (Or.inl rfl))) (x03) x0m) x11) x04)) (x03) x0m) x04) x04)) (x08 c__law_pick hr (by decide) (x00 (x02 (qv 0 rfl (Or.inl rfl))) (x00 (x1a (x1a (x02 (qv 1 rfl (Or.inl rfl))) (x0d)) (x02 (qv 5 rfl (Or.inl rfl)))) (x00 (x0d) (x03) x09) x11) x04))) (x03) x12)))))
  (x06 (x0q (i:=6) x36.nd rfl (Or.inl rfl) (x2v (x03)))
  (x06 (x2c PassesOwn.never rfl (x0s B.m_range (x00 (x0w B.m_len (qv 2 rfl (Or.inl rfl))) (x03) x0m)) (x0h (i:=5) (show 0<=5 by decide) x36.nd rfl (Or.inl rfl)) (x0f (x31 (x2q (qv 6 rfl (Or.inl rfl)) (x00 (x08 c__law_join hr (by decide) (x00 (x02 (qv 2 rfl (Or.inl rfl))) (x00 (x24 (k:=1) (N':=x91) false rfl ⟨rfl,by decide +kernel,rfl,rfl,rfl⟩ (x3y (x08 c__law_under hr (by decide) (x00 (x02 (qv 2 rfl (Or.inl rfl))) (x00 (x02 (qv 5 rfl (Or.inl rfl))) (x03) x04) x04))) (fun _ _ _ _=>x0h (i:=7) (show 7<=7 by decide) y2i rfl (Or.inl rfl) (Or.inr rfl)) (fun _ _ _ _=>x1f) (fun _ _ _ _=>x0v (qv 4) (x02 (qv 7)))) (x03) x19) x04)) (x03) x0m)))))
  (x0f (x0o (x1n B.m_tuple PyProof.Rows.boot_tuple (x00 (x02 (qv 6 rfl (Or.inl rfl))) (x03) x04))))))))
noncomputable def y0y:x1l:=x1g (x7b (x10 (x01 (x17 0) (x0g))) (x0k 2) (x7b (x10 (x01 (x05 2) (x0g))) (x0k 3) (x1g (x2i 4 (eIx (x1q 0 (x1q 1 (x05 2))) (x1q 1 (x05 3))))
 (sIf (x3u (e2 dNe (x1q 1 (eIx (x1q 0 (x05 2)) (x05 3))) (x05 4))) (x2u (eC (.bl false))) (x6b)))))
 (x2u (eC (.bl true)))
noncomputable def x4q:List D->Option (D × Nat):=fnD 5 (y0y)
theorem x3b:FnScope ["_law_ladder_here","_law_rule_here","_law_one","_law_other","_law_due"] ["_law_ladder_here","_law_rule_here"] (x0e (top 47)):=⟨rfl,rfl,rfl,by decide +kernel,rfl,by decide +kernel,by decide +kernel⟩
theorem y14 (B:Bt mg) (a:At K mg "_law_spreads" (top 47) ["_law_ladder_here","_law_rule_here"]):Cal P w K mg base 1 "_law_spreads" 2 (x4q):=
 Cal.mkQ (k:=0) a x3b fun f cdv A outer s H E hr=>
  x06 (x2c PassesOwn.never rfl (x0s B.m_range (x00 (x0w B.m_len (qv 0 rfl (Or.inl rfl))) (x03) x0m)) (x0h (i:=2) (show 0<=2 by decide) x3b.nd rfl (Or.inl rfl)) (x0f (x2c PassesOwn.never rfl (x0s B.m_range (x00 (x02 (qv 2 rfl (Or.inl rfl))) (x03) x04)) (x0h (i:=3) (show 0<=3 by decide) x3b.nd rfl (Or.inl rfl)) (x06 (x0q (i:=4) x3b.nd rfl (Or.inl rfl) (x4k (x0v (qv 0 rfl (Or.inl rfl)) (x0v (qv 1 rfl (Or.inl rfl)) (x02 (qv 2 rfl (Or.inl rfl))))) (x0v (qv 1 rfl (Or.inl rfl)) (x02 (qv 3 rfl (Or.inl rfl))))))
  (x0f (x2n (x82 hr (x0v (qv 1 rfl (Or.inl rfl)) (x4k (x0v (qv 0 rfl (Or.inl rfl)) (x02 (qv 2 rfl (Or.inl rfl)))) (x02 (qv 3 rfl (Or.inl rfl))))) (x02 (qv 4 rfl (Or.inl rfl)))) (x0f (x0o (x6p))) (x1s)))))))
  (x0f (x0o (x6p)))
noncomputable def x7j:x1l:=x1g (x2i 3 (x0p x1p 3 (x01 (x05 0) (x01 (x05 1) (x01 (x05 2) (x0g))))))
 (x1g (sIf (y0r (x0p x4q 2 (x01 (x05 2) (x01 (x05 3) (x0g))))) (x2u (x05 3)) (x6b))
 (x1g (x2i 4 (x0p x0a 3 (x01 (x05 0) (x01 (e2 x2p (x05 1) (eC (.int 17))) (x01 (x17 2) (x0g))))))
 (x1g (x2i 5 (x79 (x01 (x1x (x01 (x6v (x01 (x17 2) (x0g))) (x0g))) (x01 (z19 (x75 (x01 (x05 4) (x0g))) (x17 2)) (x0g)))))
 (x1g (x3w (y09 5 (x01 (x1x (x01 (x2h 1 (x10 (x01 (x17 2) (x0g))) (x0k 6) (x1m) (eIx (x1q 2 (x05 6)) (x05 4)) false) (x0g))) (x0g))))
 (x2u (x1q 5 (x0p x0a 3 (x01 (x05 0) (x01 (e2 x2p (x05 1) (eC (.int 16))) (x01 (eC (.int 3)) (x0g)))))))))))
noncomputable def x2o:List D->Option (D × Nat):=fnD 6 (x7j)
theorem x2g:FnScope ["_law_script","_law_at","_law_ladder_here","_law_rule_here","_law_worth","_law_some"] ["_law_script","_law_at","_law_ladder_here"] (x0e (top 48)):=⟨rfl,rfl,rfl,by decide +kernel,rfl,by decide +kernel,by decide +kernel⟩
noncomputable abbrev x4c:List Str:=["_law_script","_law_at","_law_ladder_here","_law_rule_here","_law_worth","_law_some","_law_one"]
theorem x6m:(x4c).Nodup:=by decide +kernel
theorem x83 (B:Bt mg) (c__law_rule:Cal P w K mg base 3 "_law_rule" 3 x1p) (c__law_spreads:Cal P w K mg base 1 "_law_spreads" 2 x4q) (c__law_pick:Cal P w K mg base 2 "_law_pick" 3 x0a) (a:At K mg "_law_spread_rule" (top 48) ["_law_script","_law_at","_law_ladder_here"]):Cal P w K mg base 4 "_law_spread_rule" 3 (x2o):=
 Cal.mkQ (k:=3) a x2g fun f cdv A outer s H E hr=>
  x06 (x0q (i:=3) x2g.nd rfl (Or.inl rfl) (x08 c__law_rule hr (by decide) (x00 (x02 (qv 0 rfl (Or.inl rfl))) (x00 (x02 (qv 1 rfl (Or.inl rfl))) (x00 (x02 (qv 2 rfl (Or.inr (Or.inl rfl)))) (x03) x04) x04) x04)))
  (x06 (x2n (x4d (x08 c__law_spreads hr (by decide) (x00 (x02 (qv 2 rfl (Or.inr (Or.inl rfl)))) (x00 (x02 (qv 3 rfl (Or.inl rfl))) (x03) x04) x04))) (x0f (x0o (x02 (qv 3 rfl (Or.inl rfl))))) (x1s))
  (x06 (x0q (i:=4) x2g.nd rfl (Or.inr rfl) (x08 c__law_pick hr (by decide) (x00 (x02 (qv 0 rfl (Or.inl rfl))) (x00 (x1a (x02 (qv 1 rfl (Or.inl rfl))) (x0d)) (x00 (x0w B.m_len (qv 2 rfl (Or.inr (Or.inl rfl)))) (x03) x0m) x11) x04)))
  (x06 (x0q (i:=5) x2g.nd rfl (Or.inl rfl) (x2v (x00 (x1n B.m_tuple PyProof.Rows.boot_tuple (x00 (x9d rfl B.m_list PyProof.Rows.boot_list B.m_range (x00 (x0w B.m_len (qv 2 rfl (Or.inr (Or.inl rfl)))) (x03) x0m)) (x03) x0m)) (x00 (z5x (x3l (x00 (x02 (qv 4 rfl (Or.inr (Or.inl rfl)))) (x03) x04)) (x0w B.m_len (qv 2 rfl (Or.inr (Or.inl rfl))))) (x03) x11) x0m)))
  (x06 (x31 (x2q (qv 5 rfl (Or.inl rfl)) (x00 (x1n B.m_tuple PyProof.Rows.boot_tuple (x00 (x24 (k:=1) (N':=x4c) false rfl ⟨rfl,by decide +kernel,rfl,rfl,rfl⟩ (x0s B.m_range (x00 (x0w B.m_len (qv 2 rfl (Or.inr (Or.inl rfl)))) (x03) x0m)) (fun _ _ _ _=>x0h (i:=6) (show 6<=6 by decide) x6m rfl (Or.inl rfl) (Or.inr rfl)) (fun _ _ _ _=>x1f) (fun _ _ _ _=>x4k (x0v (qv 2) (x02 (qv 6))) (x02 (qv 4)))) (x03) x19)) (x03) x0m)))
  (x0f (x0o (x0v (qv 5 rfl (Or.inl rfl)) (x08 c__law_pick hr (by decide) (x00 (x02 (qv 0 rfl (Or.inl rfl))) (x00 (x1a (x02 (qv 1 rfl (Or.inl rfl))) (x0d)) (x00 (x0d) (x03) x09) x11) x04)))))))))
noncomputable abbrev x54:x1l:=x1g (x2i 7 (e2 x2p (e2 x2p (x05 1) (eC (.int 10))) (e2 x62 (eC (.int 22)) (x05 6))))
 (x1g (x2i 8 (x0p x1p 3 (x01 (x05 0) (x01 (e2 x2p (x05 7) (eC (.int 2))) (x01 (x05 2) (x0g))))))
 (x1g (sIf (y0r (x05 3)) (x2i 8 (x0p x2o 3 (x01 (x05 0) (x01 (e2 x2p (x05 7) (eC (.int 2))) (x01 (x05 2) (x0g)))))) (x6b))
 (x3w (y09 5 (x01 (x75 (x01 (x0p x0a 3 (x01 (x05 0) (x01 (x05 7) (x01 (x05 4) (x0g))))) (x01 (x0p x0a 3 (x01 (x05 0) (x01 (e2 x2p (x05 7) (eC (.int 1))) (x01 (x05 4) (x0g))))) (x01 (x05 8) (x0g))))) (x0g))))))
noncomputable abbrev x5d:x1l:=x1g (x2i 10 (x0p x0a 3 (x01 (x05 0) (x01 (e2 x2p (e2 x2p (x05 1) (eC (.int 3))) (e2 x62 (eC (.int 2)) (x05 6))) (x01 (x17 2) (x0g))))))
 (x3w (y09 9 (x01 (x75 (x01 (x0p x0a 3 (x01 (x05 0) (x01 (e2 x2p (e2 x2p (x05 1) (eC (.int 4))) (e2 x62 (eC (.int 2)) (x05 6))) (x01 (x05 4) (x0g))))) (x01 (x05 10) (x0g)))) (x0g))))
noncomputable def x8w:x1l:=x1g (x2i 4 (e2 x2p (eC (.int 1)) (x0p x0a 3 (x01 (x05 0) (x01 (x05 1) (x01 (eC (.int 5)) (x0g)))))))
 (x1g (x2i 5 (x79 (x0g)))
 (x1g (x7b (x10 (x01 (x0p x0a 3 (x01 (x05 0) (x01 (e2 x2p (x05 1) (eC (.int 1))) (x01 (eC (.int 8)) (x0g))))) (x0g))) (x0k 6) (x1g (x2i 7 (e2 x2p (e2 x2p (x05 1) (eC (.int 10))) (e2 x62 (eC (.int 22)) (x05 6))))
 (x1g (x2i 8 (x0p x1p 3 (x01 (x05 0) (x01 (e2 x2p (x05 7) (eC (.int 2))) (x01 (x05 2) (x0g))))))
 (x1g (sIf (y0r (x05 3)) (x2i 8 (x0p x2o 3 (x01 (x05 0) (x01 (e2 x2p (x05 7) (eC (.int 2))) (x01 (x05 2) (x0g)))))) (x6b))
 (x3w (y09 5 (x01 (x75 (x01 (x0p x0a 3 (x01 (x05 0) (x01 (x05 7) (x01 (x05 4) (x0g))))) (x01 (x0p x0a 3 (x01 (x05 0) (x01 (e2 x2p (x05 7) (eC (.int 1))) (x01 (x05 4) (x0g))))) (x01 (x05 8) (x0g))))) (x0g))))))))
 (x1g (x2i 9 (x79 (x0g)))
 (x1g (x7b (x10 (x01 (x0p x0a 3 (x01 (x05 0) (x01 (e2 x2p (x05 1) (eC (.int 2))) (x01 (eC (.int 4)) (x0g))))) (x0g))) (x0k 6) (x1g (x2i 10 (x0p x0a 3 (x01 (x05 0) (x01 (e2 x2p (e2 x2p (x05 1) (eC (.int 3))) (e2 x62 (eC (.int 2)) (x05 6))) (x01 (x17 2) (x0g))))))
 (x3w (y09 9 (x01 (x75 (x01 (x0p x0a 3 (x01 (x05 0) (x01 (e2 x2p (e2 x2p (x05 1) (eC (.int 4))) (e2 x62 (eC (.int 2)) (x05 6))) (x01 (x05 4) (x0g))))) (x01 (x05 10) (x0g)))) (x0g))))))
 (x2u (x75 (x01 (x05 4) (x01 (x1x (x01 (x05 5) (x0g))) (x01 (x1x (x01 (x05 9) (x0g))) (x0g))))))))))
noncomputable def x3s:List D->Option (D × Nat):=fnD 11 (x8w)
theorem x1o:FnScope ["_law_script","_law_at","_law_ladder_here","_law_spread","_law_places","_law_ways","_law_k","_law_base_here","_law_rule_here","_law_begins","_law_worth"] ["_law_script","_law_at","_law_ladder_here","_law_spread"] (x0e (top 49)):=⟨rfl,rfl,rfl,by decide +kernel,rfl,by decide +kernel,by decide +kernel⟩
theorem y3u (B:Bt mg) (c__law_pick:Cal P w K mg base 2 "_law_pick" 3 x0a) (c__law_rule:Cal P w K mg base 3 "_law_rule" 3 x1p) (c__law_spread_rule:Cal P w K mg base 4 "_law_spread_rule" 3 x2o) (a:At K mg "_law_chart" (top 49) ["_law_script","_law_at","_law_ladder_here","_law_spread"]):Cal P w K mg base 5 "_law_chart" 4 (x3s):=
 Cal.mkQ (k:=4) a x1o fun f cdv A outer s H E hr=>
  x06 (x0q (i:=4) x1o.nd rfl (Or.inl rfl) (x1a (x0d) (x08 c__law_pick hr (by decide) (x00 (x02 (qv 0 rfl (Or.inl rfl))) (x00 (x02 (qv 1 rfl (Or.inl rfl))) (x00 (x0d) (x03) x09) x04) x04))))
  (x06 (x0q (i:=5) x1o.nd rfl (Or.inl rfl) (x2v (x03)))
  (x06 (x2c PassesOwn.never rfl (x0s B.m_range (x00 (x08 c__law_pick hr (by decide) (x00 (x02 (qv 0 rfl (Or.inl rfl))) (x00 (x1a (x02 (qv 1 rfl (Or.inl rfl))) (x0d)) (x00 (x0d) (x03) x09) x11) x04)) (x03) x0m)) (x0h (i:=6) (show 0<=6 by decide) x1o.nd rfl (Or.inl rfl)) (x06 (x0q (i:=7) x1o.nd rfl (Or.inl rfl) (x1a (x1a (x02 (qv 1 rfl (Or.inl rfl))) (x0d)) (x3c (x0d) (x02 (qv 6 rfl (Or.inl rfl))))))
  (x06 (x0q (i:=8) x1o.nd rfl (Or.inl rfl) (x08 c__law_rule hr (by decide) (x00 (x02 (qv 0 rfl (Or.inl rfl))) (x00 (x1a (x02 (qv 7 rfl (Or.inl rfl))) (x0d)) (x00 (x02 (qv 2 rfl (Or.inl rfl))) (x03) x04) x11) x04)))
  (x06 (x2n (x4d (x02 (qv 3 rfl (Or.inl rfl)))) (x0f (x0q (i:=8) x1o.nd rfl (Or.inl rfl) (x08 c__law_spread_rule hr (by decide) (x00 (x02 (qv 0 rfl (Or.inl rfl))) (x00 (x1a (x02 (qv 7 rfl (Or.inl rfl))) (x0d)) (x00 (x02 (qv 2 rfl (Or.inl rfl))) (x03) x04) x11) x04)))) (x1s))
  (x0f (x31 (x2q (qv 5 rfl (Or.inl rfl)) (x00 (x3l (x00 (x08 c__law_pick hr (by decide) (x00 (x02 (qv 0 rfl (Or.inl rfl))) (x00 (x02 (qv 7 rfl (Or.inl rfl))) (x00 (x02 (qv 4 rfl (Or.inl rfl))) (x03) x04) x04) x04)) (x00 (x08 c__law_pick hr (by decide) (x00 (x02 (qv 0 rfl (Or.inl rfl))) (x00 (x1a (x02 (qv 7 rfl (Or.inl rfl))) (x0d)) (x00 (x02 (qv 4 rfl (Or.inl rfl))) (x03) x04) x11) x04)) (x00 (x02 (qv 8 rfl (Or.inl rfl))) (x03) x04) x0m) x0m)) (x03) x7l))))))))
  (x06 (x0q (i:=9) x1o.nd rfl (Or.inl rfl) (x2v (x03)))
  (x06 (x2c PassesOwn.never rfl (x0s B.m_range (x00 (x08 c__law_pick hr (by decide) (x00 (x02 (qv 0 rfl (Or.inl rfl))) (x00 (x1a (x02 (qv 1 rfl (Or.inl rfl))) (x0d)) (x00 (x0d) (x03) x09) x11) x04)) (x03) x0m)) (x0h (i:=6) (show 0<=6 by decide) x1o.nd rfl (Or.inl rfl)) (x06 (x0q (i:=10) x1o.nd rfl (Or.inl rfl) (x08 c__law_pick hr (by decide) (x00 (x02 (qv 0 rfl (Or.inl rfl))) (x00 (x1a (x1a (x02 (qv 1 rfl (Or.inl rfl))) (x0d)) (x3c (x0d) (x02 (qv 6 rfl (Or.inl rfl))))) (x00 (x0w B.m_len (qv 2 rfl (Or.inl rfl))) (x03) x0m) x11) x04)))
  (x0f (x31 (x2q (qv 9 rfl (Or.inl rfl)) (x00 (x3l (x00 (x08 c__law_pick hr (by decide) (x00 (x02 (qv 0 rfl (Or.inl rfl))) (x00 (x1a (x1a (x02 (qv 1 rfl (Or.inl rfl))) (x0d)) (x3c (x0d) (x02 (qv 6 rfl (Or.inl rfl))))) (x00 (x02 (qv 4 rfl (Or.inl rfl))) (x03) x04) x11) x04)) (x00 (x02 (qv 10 rfl (Or.inl rfl))) (x03) x04) x0m)) (x03) x7l))))))
  (x0f (x0o (x3l (x00 (x02 (qv 4 rfl (Or.inl rfl))) (x00 (x1n B.m_tuple PyProof.Rows.boot_tuple (x00 (x02 (qv 5 rfl (Or.inl rfl))) (x03) x04)) (x00 (x1n B.m_tuple PyProof.Rows.boot_tuple (x00 (x02 (qv 9 rfl (Or.inl rfl))) (x03) x04)) (x03) x0m) x0m) x04))))))))
noncomputable def y1o:x1l:=x2u (y9n (z3n .int (x05 0)) (j0m (z3n .bool (x05 0))))
noncomputable def x4z:List D->Option (D × Nat):=fnD 1 (y1o)
theorem y5r:FnScope ["thing"] ["thing"] (x0e (top 5)):=⟨rfl,rfl,rfl,by decide +kernel,rfl,by decide +kernel,by decide +kernel⟩
theorem y77 (B:Bt mg) (a:At K mg "is_whole" (top 5) ["thing"]):Cal P w K mg base 1 "is_whole" 1 (x4z):=
 Cal.mkQ (k:=0) a y5r fun f cdv A outer s H E hr=>
  x0f (x0o (y3a (y34 .int B.m_isinstance B.m_int PyProof.Rows.boot_int (x02 (qv 0 rfl (Or.inl rfl)))) (y36 (z97 (y34 .bool B.m_isinstance B.m_bool PyProof.Rows.boot_bool (x02 (qv 0 rfl (Or.inl rfl))))))))
noncomputable def x6u:x1l:=x2u (y9n (x0p x4z 1 (x01 (x05 0) (x0g))) (eCh dLe dLt (eC (.int 0)) (x05 0) (x05 1)))
noncomputable def x1d:List D->Option (D × Nat):=fnD 2 (x6u)
theorem y08:FnScope ["thing","many"] ["thing","many"] (x0e (top 6)):=⟨rfl,rfl,rfl,by decide +kernel,rfl,by decide +kernel,by decide +kernel⟩
theorem y13 (B:Bt mg) (c_is_whole:Cal P w K mg base 1 "is_whole" 1 x4z) (a:At K mg "is_number_of" (top 6) ["thing","many"]):Cal P w K mg base 2 "is_number_of" 2 (x1d):=
 Cal.mkQ (k:=1) a y08 fun f cdv A outer s H E hr=>
  x0f (x0o (y3a (x08 c_is_whole hr (by decide) (x00 (x02 (qv 0 rfl (Or.inl rfl))) (x03) x04)) (y36 (y5m (x0d) (x02 (qv 0 rfl (Or.inl rfl))) (x02 (qv 1 rfl (Or.inl rfl)))))))
noncomputable def x4w:x1l:=x1g (sIf (y8k (x61 (y0r (z3n .tuple (x05 0)))) (y8k (x3u (e2 dNe (x17 0) (eC (.int 2)))) (x61 (y0r (z3n .str (x1q 0 (eC (.int 0)))))))) (x2u (eC (.bl false))) (x6b))
 (x2u (x0p x1d 2 (x01 (x1q 0 (eC (.int 1))) (x01 (z2z (x05 1) (x1q 0 (eC (.int 0))) (eC (.int 0))) (x0g)))))
noncomputable def x26:List D->Option (D × Nat):=fnD 2 (x4w)
theorem x7s:FnScope ["thing","many_by_name"] ["thing","many_by_name"] (x0e (top 8)):=⟨rfl,rfl,rfl,by decide +kernel,rfl,by decide +kernel,by decide +kernel⟩
theorem x8d (B:Bt mg) (c_is_number_of:Cal P w K mg base 2 "is_number_of" 2 x1d) (a:At K mg "is_named_number" (top 8) ["thing","many_by_name"]):Cal P w K mg base 3 "is_named_number" 2 (x26):=
 Cal.mkQ (k:=2) a x7s fun f cdv A outer s H E hr=>
  x06 (x2n (z29 (y43 (x67 (x4d (y34 .tuple B.m_isinstance B.m_tuple PyProof.Rows.boot_tuple (x02 (qv 0 rfl (Or.inl rfl)))))) (y43 (x82 hr (x0w B.m_len (qv 0 rfl (Or.inl rfl))) (x0d)) (y1x (x67 (x4d (y34 .str B.m_isinstance B.m_str PyProof.Rows.boot_str (x0v (qv 0 rfl (Or.inl rfl)) (x0d))))))))) (x0f (x0o (x6p))) (x1s))
  (x0f (x0o (x08 c_is_number_of hr (by decide) (x00 (x0v (qv 0 rfl (Or.inl rfl)) (x0d)) (x00 (z5y hr (x02 (qv 1 rfl (Or.inl rfl))) (x0v (qv 0 rfl (Or.inl rfl)) (x0d)) (x0d)) (x03) x0m) x12))))
noncomputable def y42:x1l:=x2u (x0p x26 2 (x01 (x05 1) (x01 (y6t "begin" "way" (x88 0 2) (x88 0 1)) (x0g))))
noncomputable def x43:List D->Option (D × Nat):=fnD 2 (y42)
theorem y6q:FnScope ["chart","thing"] ["chart","thing"] (x0e (top 29)):=⟨rfl,rfl,rfl,by decide +kernel,rfl,by decide +kernel,by decide +kernel⟩
theorem y9r (B:Bt mg) (c_is_named_number:Cal P w K mg base 3 "is_named_number" 2 x26) (a:At K mg "is_step" (top 29) ["chart","thing"]):Cal P w K mg base 4 "is_step" 2 (x43):=
 Cal.mkQ (k:=3) a y6q fun f cdv A outer s H E hr=>
  x0f (x0o (x08 c_is_named_number hr (by decide) (x00 (x02 (qv 1 rfl (Or.inl rfl))) (x00 (z53 (by decide) (y6d B.m_len (qv 0 rfl (Or.inl rfl))) (y6d B.m_len (qv 0 rfl (Or.inl rfl)))) (x03) z5i) x04)))
noncomputable def x5i:x1l:=sIf (x61 (y0r (eB z1d (x01 (x2h 1 (x7a (x05 1)) (x0k 2) (x1m) (x0p x43 2 (x01 (x05 0) (x01 (x05 2) (x0g)))) false) (x0g))))) (y4d) (x6b)
noncomputable def x2k:List D->Option (D × Nat):=fnD 2 (x5i)
theorem x8b:FnScope ["chart","steps"] ["chart","steps"] (x0e (top 30)):=⟨rfl,rfl,rfl,by decide +kernel,rfl,by decide +kernel,by decide +kernel⟩
noncomputable abbrev x4v:List Str:=["chart","steps","step"]
theorem x7z:(x4v).Nodup:=by decide +kernel
theorem x9a (B:Bt mg) (c_is_step:Cal P w K mg base 4 "is_step" 2 x43) (a:At K mg "refuse_no_step" (top 30) ["chart","steps"]):Cal P w K mg base 5 "refuse_no_step" 2 (x2k):=
 Cal.mkQ (k:=4) a x8b fun f cdv A outer s H E hr=>
  x0f (x2n (x67 (x4d (z3q rfl B.m_all (x00 (x24 (k:=1) (N':=x4v) false rfl ⟨rfl,by decide +kernel,rfl,rfl,rfl⟩ (x3y (x02 (qv 1 rfl (Or.inl rfl)))) (fun _ _ _ _=>x0h (i:=2) (show 2<=2 by decide) x7z rfl (Or.inl rfl) (Or.inr rfl)) (fun _ _ _ _=>x1f) (fun _ _ _ _=>x08 c_is_step hr (by decide) (x00 (x02 (qv 0)) (x00 (x02 (qv 2)) (x03) x04) x04))) (x03) x19)))) (x0f (y3i)) (x1s))
noncomputable def x4y:x1l:=x1g (sIf (x3u (e2 dEq (x1q 2 (eC (.int 0))) (eC (.str "begin")))) (x2u (eIx (x1q 0 (eC (.int 2))) (x1q 2 (eC (.int 1))))) (x6b))
 (x1g (x2i 3 (eIx (x1q 0 (eC (.int 1))) (x1q 2 (eC (.int 1)))))
 (x2u (x75 (x01 (x1q 3 (eC (.int 1))) (x01 (eIx (x1q 3 (eC (.int 2))) (x1q 1 (x1q 3 (eC (.int 0))))) (x0g))))))
noncomputable def x29:List D->Option (D × Nat):=fnD 4 (x4y)
theorem x4g:FnScope ["chart","worths","step","way"] ["chart","worths","step"] (x0e (top 31)):=⟨rfl,rfl,rfl,by decide +kernel,rfl,by decide +kernel,by decide +kernel⟩
theorem x8p (B:Bt mg) (a:At K mg "place_and_worth" (top 31) ["chart","worths","step"]):Cal P w K mg base 1 "place_and_worth" 3 (x29):=
 Cal.mkQ (k:=0) a x4g fun f cdv A outer s H E hr=>
  x06 (x2n (y1a hr (x0v (qv 2 rfl (Or.inl rfl)) (x0d)) (y83)) (x0f (x0o (x4k (x0v (qv 0 rfl (Or.inl rfl)) (x0d)) (x0v (qv 2 rfl (Or.inl rfl)) (x0d))))) (x1s))
  (x06 (x0q (i:=3) x4g.nd rfl (Or.inl rfl) (x4k (x0v (qv 0 rfl (Or.inl rfl)) (x0d)) (x0v (qv 2 rfl (Or.inl rfl)) (x0d))))
  (x0f (x0o (x3l (x00 (x0v (qv 3 rfl (Or.inl rfl)) (x0d)) (x00 (x4k (x0v (qv 3 rfl (Or.inl rfl)) (x0d)) (x0v (qv 1 rfl (Or.inl rfl)) (x0v (qv 3 rfl (Or.inl rfl)) (x0d)))) (x03) x12) x12)))))
noncomputable def x68:x1l:=x1g (x2i 4 (x0p x29 3 (x01 (x05 1) (x01 (x05 2) (x01 (x05 3) (x0g))))))
 (x1g (x2i 5 (x1q 4 (eC (.int 0))))
 (x1g (x2i 6 (eIx (x1q 0 (x1q 2 (x05 5))) (x1q 4 (eC (.int 1)))))
 (x2u (j04 (j04 (eSl (x05 2) (z1e) (y8v (x05 5))) (x75 (x01 (x05 6) (x0g)))) (eSl (x05 2) (y8v (e2 x2p (x05 5) (eC (.int 1)))) (z1e))))))
noncomputable def x1u:List D->Option (D × Nat):=fnD 7 (x68)
theorem x30:FnScope ["ladder","chart","worths","step","coming","place","joined"] ["ladder","chart","worths","step"] (x0e (top 32)):=⟨rfl,rfl,rfl,by decide +kernel,rfl,by decide +kernel,by decide +kernel⟩
theorem y00 (B:Bt mg) (c_place_and_worth:Cal P w K mg base 1 "place_and_worth" 3 x29) (a:At K mg "worths_behind" (top 32) ["ladder","chart","worths","step"]):Cal P w K mg base 2 "worths_behind" 4 (x1u):=
 Cal.mkQ (k:=1) a x30 fun f cdv A outer s H E hr=>
  x06 (x0q (i:=4) x30.nd rfl (Or.inl rfl) (x08 c_place_and_worth hr (by decide) (x00 (x02 (qv 1 rfl (Or.inl rfl))) (x00 (x02 (qv 2 rfl (Or.inl rfl))) (x00 (x02 (qv 3 rfl (Or.inl rfl))) (x03) x04) x04) x04)))
  (x06 (x0q (i:=5) x30.nd rfl (Or.inl rfl) (x0v (qv 4 rfl (Or.inl rfl)) (x0d)))
  (x06 (x0q (i:=6) x30.nd rfl (Or.inl rfl) (x4k (x0v (qv 0 rfl (Or.inl rfl)) (x0v (qv 2 rfl (Or.inl rfl)) (x02 (qv 5 rfl (Or.inl rfl))))) (x0v (qv 4 rfl (Or.inl rfl)) (x0d))))
  (x0f (x0o (z3h (z3h (z95 (x02 (qv 2 rfl (Or.inl rfl))) (y65) (y60 (x02 (qv 5 rfl (Or.inl rfl))))) (x3l (x00 (x02 (qv 6 rfl (Or.inl rfl))) (x03) x04))) (z95 (x02 (qv 2 rfl (Or.inl rfl))) (y60 (x1a (x02 (qv 5 rfl (Or.inl rfl))) (x0d))) (y65)))))))
noncomputable abbrev y2f:x1l:=x1g (x2i 5 (x05 3))
 (x7b (x7a (x05 2)) (x0k 6) (x1g (x2i 7 (x0p x1u 4 (x01 (x05 0) (x01 (x05 1) (x01 (x05 3) (x01 (x05 6) (x0g)))))))
 (x1g (sIf (x3u (e2 dNe (x05 7) (x05 3))) (x3w (y09 4 (x01 (x05 6) (x0g)))) (x6b))
 (x2i 3 (x05 7)))))
noncomputable abbrev x9j:x1l:=x1g (x2i 7 (x0p x1u 4 (x01 (x05 0) (x01 (x05 1) (x01 (x05 3) (x01 (x05 6) (x0g)))))))
 (x1g (sIf (x3u (e2 dNe (x05 7) (x05 3))) (x3w (y09 4 (x01 (x05 6) (x0g)))) (x6b))
 (x2i 3 (x05 7)))
noncomputable def y9s:x1l:=x1g (x2i 4 (x79 (x0g)))
 (x1g (x2i 5 (eC .non))
 (x1g (y63 (x3u (e2 dNe (x05 3) (x05 5))) (x1g (x2i 5 (x05 3))
 (x7b (x7a (x05 2)) (x0k 6) (x1g (x2i 7 (x0p x1u 4 (x01 (x05 0) (x01 (x05 1) (x01 (x05 3) (x01 (x05 6) (x0g)))))))
 (x1g (sIf (x3u (e2 dNe (x05 7) (x05 3))) (x3w (y09 4 (x01 (x05 6) (x0g)))) (x6b))
 (x2i 3 (x05 7)))))))
 (x2u (x75 (x01 (x05 3) (x01 (x05 4) (x0g)))))))
noncomputable def y0l:List D->Option (D × Nat):=fnD 8 (y9s)
theorem x5c:FnScope ["ladder","chart","order","worths","raising","ahead","step","behind"] ["ladder","chart","order","worths"] (x0e (top 33)):=⟨rfl,rfl,rfl,by decide +kernel,rfl,by decide +kernel,by decide +kernel⟩
theorem z42 (B:Bt mg) (c_worths_behind:Cal P w K mg base 2 "worths_behind" 4 x1u) (a:At K mg "risen" (top 33) ["ladder","chart","order","worths"]):Cal P w K mg base 3 "risen" 4 (y0l):=
 Cal.mkQ (k:=2) a x5c fun f cdv A outer s H E hr=>
  x06 (x0q (i:=4) x5c.nd rfl (Or.inl rfl) (x2v (x03)))
  (x06 (x0q (i:=5) x5c.nd rfl (Or.inl rfl) (z7k))
  (x06 (y8t PassesOwn.never (x82 hr (x02 (qv 3 rfl (Or.inl rfl))) (x02 (qv 5 rfl (Or.inl rfl)))) (x06 (x0q (i:=5) x5c.nd rfl (Or.inl rfl) (x02 (qv 3 rfl (Or.inl rfl))))
  (x0f (x2c PassesOwn.never rfl (x3y (x02 (qv 2 rfl (Or.inl rfl)))) (x0h (i:=6) (show 0<=6 by decide) x5c.nd rfl (Or.inl rfl)) (x06 (x0q (i:=7) x5c.nd rfl (Or.inl rfl) (x08 c_worths_behind hr (by decide) (x00 (x02 (qv 0 rfl (Or.inl rfl))) (x00 (x02 (qv 1 rfl (Or.inl rfl))) (x00 (x02 (qv 3 rfl (Or.inl rfl))) (x00 (x02 (qv 6 rfl (Or.inl rfl))) (x03) x04) x04) x04) x04)))
  (x06 (x2n (x82 hr (x02 (qv 7 rfl (Or.inl rfl))) (x02 (qv 3 rfl (Or.inl rfl)))) (x0f (x31 (x2q (qv 4 rfl (Or.inl rfl)) (x00 (x02 (qv 6 rfl (Or.inl rfl))) (x03) x04)))) (x1s))
  (x0f (x0q (i:=3) x5c.nd rfl (Or.inl rfl) (x02 (qv 7 rfl (Or.inl rfl)))))))))))
  (x0f (x0o (x3l (x00 (x02 (qv 3 rfl (Or.inl rfl))) (x00 (x02 (qv 4 rfl (Or.inl rfl))) (x03) x04) x04))))))
noncomputable def x6q:x1l:=x2u (z43 (x01 (x05 0) (x0g)))
noncomputable def x2z:List D->Option (D × Nat):=fnD 1 (x6q)
theorem y0d:FnScope ["many"] ["many"] (x0e (top 11)):=⟨rfl,rfl,rfl,by decide +kernel,rfl,by decide +kernel,by decide +kernel⟩
theorem y10 (B:Bt mg) (a:At K mg "row_of_least" (top 11) ["many"]):Cal P w K mg base 1 "row_of_least" 1 (x2z):=
 Cal.mkQ (k:=0) a y0d fun f cdv A outer s H E hr=>
  x0f (x0o (z3z rfl B.m_tuple PyProof.Rows.boot_tuple B.m_range (x00 (x02 (qv 0 rfl (Or.inl rfl))) (x03) x04)))
noncomputable def y1s:x1l:=x2u (y6o (x05 0) (x01 (x0p x2z 1 (x01 (x17 0) (x0g))) (x0g)))
noncomputable def x37:List D->Option (D × Nat):=fnD 1 (y1s)
theorem y4x:FnScope ["ladder"] ["ladder"] (x0e (top 12)):=⟨rfl,rfl,rfl,by decide +kernel,rfl,by decide +kernel,by decide +kernel⟩
theorem y7d (B:Bt mg) (c_row_of_least:Cal P w K mg base 1 "row_of_least" 1 x2z) (a:At K mg "least_of" (top 12) ["ladder"]):Cal P w K mg base 2 "least_of" 1 (x37):=
 Cal.mkQ (k:=1) a y4x fun f cdv A outer s H E hr=>
  x0f (x0o (z1j hr (x02 (qv 0 rfl (Or.inl rfl))) (x00 (x08 c_row_of_least hr (by decide) (x00 (x0w B.m_len (qv 0 rfl (Or.inl rfl))) (x03) x0m)) (x03) x0m)))
noncomputable def y6j:x1l:=x2u (x1x (x01 (y4n (x79 (x01 (x0p x37 1 (x01 (x05 0) (x0g))) (x0g))) (x1q 1 (eC (.int 0)))) (x0g)))
noncomputable def x7y:List D->Option (D × Nat):=fnD 2 (y6j)
theorem y95:FnScope ["ladder","chart"] ["ladder","chart"] (x0e (top 26)):=⟨rfl,rfl,rfl,by decide +kernel,rfl,by decide +kernel,by decide +kernel⟩
theorem z13 (B:Bt mg) (c_least_of:Cal P w K mg base 2 "least_of" 1 x37) (a:At K mg "lowest" (top 26) ["ladder","chart"]):Cal P w K mg base 3 "lowest" 2 (x7y):=
 Cal.mkQ (k:=2) a y95 fun f cdv A outer s H E hr=>
  x0f (x0o (x1n B.m_tuple PyProof.Rows.boot_tuple (x00 (y8q (x2v (x00 (x08 c_least_of hr (by decide) (x00 (x02 (qv 0 rfl (Or.inl rfl))) (x03) x04)) (x03) x0m)) (x0v (qv 1 rfl (Or.inl rfl)) (x0d))) (x03) x11)))
noncomputable def y1b:x1l:=x1g (x3w (x0p x2k 2 (x01 (x05 1) (x01 (x05 2) (x0g)))))
 (x1g (x2i 3 (x0p y0l 4 (x01 (x05 0) (x01 (x05 1) (x01 (x05 2) (x01 (x0p x7y 2 (x01 (x05 0) (x01 (x05 1) (x0g)))) (x0g)))))))
 (x2u (x75 (x01 (x1q 3 (eC (.int 0))) (x01 (eB z2p (x01 (x1q 3 (eC (.int 1))) (x0g))) (x0g))))))
noncomputable def x4x:List D->Option (D × Nat):=fnD 4 (y1b)
theorem x9v:FnScope ["ladder","chart","order","ended"] ["ladder","chart","order"] (x0e (top 34)):=⟨rfl,rfl,rfl,by decide +kernel,rfl,by decide +kernel,by decide +kernel⟩
theorem y7g (B:Bt mg) (c_refuse_no_step:Cal P w K mg base 5 "refuse_no_step" 2 x2k) (c_risen:Cal P w K mg base 3 "risen" 4 y0l) (c_lowest:Cal P w K mg base 3 "lowest" 2 x7y) (a:At K mg "least_by" (top 34) ["ladder","chart","order"]):Cal P w K mg base 6 "least_by" 3 (x4x):=
 Cal.mkQ (k:=5) a x9v fun f cdv A outer s H E hr=>
  x06 (x31 (x08 c_refuse_no_step hr (by decide) (x00 (x02 (qv 1 rfl (Or.inl rfl))) (x00 (x02 (qv 2 rfl (Or.inl rfl))) (x03) x04) x04)))
  (x06 (x0q (i:=3) x9v.nd rfl (Or.inl rfl) (x08 c_risen hr (by decide) (x00 (x02 (qv 0 rfl (Or.inl rfl))) (x00 (x02 (qv 1 rfl (Or.inl rfl))) (x00 (x02 (qv 2 rfl (Or.inl rfl))) (x00 (x08 c_lowest hr (by decide) (x00 (x02 (qv 0 rfl (Or.inl rfl))) (x00 (x02 (qv 1 rfl (Or.inl rfl))) (x03) x04) x04)) (x03) x0m) x04) x04) x04)))
  (x0f (x0o (x3l (x00 (x0v (qv 3 rfl (Or.inl rfl)) (x0d)) (x00 (y8l B.m_len (x00 (x0v (qv 3 rfl (Or.inl rfl)) (x0d)) (x03) x12)) (x03) x0m) x12)))))
noncomputable def y0b:x1l:=x1g (x2i 1 (x2h 1 (x10 (x01 (eB z2p (x01 (x1q 0 (eC (.int 2))) (x0g))) (x0g))) (x0k 2) (x1m) (x75 (x01 (eC (.str "begin")) (x01 (x05 2) (x0g)))) false))
 (x2u (y97 (x05 1) (x2h 1 (x10 (x01 (eB z2p (x01 (x1q 0 (eC (.int 1))) (x0g))) (x0g))) (x0k 2) (x1m) (x75 (x01 (eC (.str "way")) (x01 (x05 2) (x0g)))) false)))
noncomputable def x47:List D->Option (D × Nat):=fnD 2 (y0b)
theorem x8v:FnScope ["chart","begins"] ["chart"] (x0e (top 28)):=⟨rfl,rfl,rfl,by decide +kernel,rfl,by decide +kernel,by decide +kernel⟩
noncomputable abbrev x5p:List Str:=["chart","begins","number"]
theorem x7d:(x5p).Nodup:=by decide +kernel
theorem y4t (B:Bt mg) (a:At K mg "all_steps" (top 28) ["chart"]):Cal P w K mg base 1 "all_steps" 1 (x47):=
 Cal.mkQ (k:=0) a x8v fun f cdv A outer s H E hr=>
  x06 (x7n (i:=1) (k:=1) (N':=x5p) false x8v.nd rfl (Or.inl rfl) rfl rfl ⟨rfl,by decide +kernel,rfl,rfl,rfl⟩ (x0s B.m_range (x00 (y8l B.m_len (x00 (x0v (qv 0 rfl (Or.inl rfl)) (x0d)) (x03) x12)) (x03) x0m)) (fun _ _ _ _=>x0h (i:=2) (show 2<=2 by decide) x7d rfl (Or.inl rfl) (Or.inr rfl)) (fun _ _ _ _=>x1f) (fun _ _ _ _=>x3l (x00 (y83) (x00 (x02 (qv 2)) (x03) x04) x09)))
  (x0f (x0o (z55 (x02 (qv 1 rfl (Or.inl rfl))) (x24 (k:=1) (N':=x5p) false rfl ⟨rfl,by decide +kernel,rfl,rfl,rfl⟩ (x0s B.m_range (x00 (y8l B.m_len (x00 (x0v (qv 0 rfl (Or.inl rfl)) (x0d)) (x03) x12)) (x03) x0m)) (fun _ _ _ _=>x0h (i:=2) (show 2<=2 by decide) x7d rfl (Or.inl rfl) (Or.inr rfl)) (fun _ _ _ _=>x1f) (fun _ _ _ _=>x3l (x00 (y83) (x00 (x02 (qv 2)) (x03) x04) x09))))))
noncomputable def y96:x1l:=x2u (eIx (x0p x4x 3 (x01 (x05 0) (x01 (x05 1) (x01 (x0p x47 1 (x01 (x05 1) (x0g))) (x0g))))) (eC (.int 0)))
noncomputable def x76:List D->Option (D × Nat):=fnD 2 (y96)
theorem z1c:FnScope ["ladder","chart"] ["ladder","chart"] (x0e (top 27)):=⟨rfl,rfl,rfl,by decide +kernel,rfl,by decide +kernel,by decide +kernel⟩
theorem z6p (B:Bt mg) (c_least_by:Cal P w K mg base 6 "least_by" 3 x4x) (c_all_steps:Cal P w K mg base 1 "all_steps" 1 x47) (a:At K mg "least" (top 27) ["ladder","chart"]):Cal P w K mg base 7 "least" 2 (x76):=
 Cal.mkQ (k:=6) a z1c fun f cdv A outer s H E hr=>
  x0f (x0o (x4k (x08 c_least_by hr (by decide) (x00 (x02 (qv 0 rfl (Or.inl rfl))) (x00 (x02 (qv 1 rfl (Or.inl rfl))) (x00 (x08 c_all_steps hr (by decide) (x00 (x02 (qv 1 rfl (Or.inl rfl))) (x03) x04)) (x03) x0m) x04) x04)) (x0d)))
noncomputable def x78:x1l:=x1g (sIf (y8k (x61 (y0r (z3n .tuple (x05 0)))) (x3u (e2 dNe (x17 0) (x05 1)))) (x2u (eC (.bl false))) (x6b))
 (x2u (eB z1d (x01 (x2h 1 (x7a (x05 0)) (x0k 3) (x1m) (x0p x1d 2 (x01 (x05 3) (x01 (x05 2) (x0g)))) false) (x0g))))
noncomputable def x32:List D->Option (D × Nat):=fnD 3 (x78)
theorem y40:FnScope ["thing","length","many"] ["thing","length","many"] (x0e (top 7)):=⟨rfl,rfl,rfl,by decide +kernel,rfl,by decide +kernel,by decide +kernel⟩
noncomputable abbrev x8x:List Str:=["thing","length","many","part"]
theorem y29:(x8x).Nodup:=by decide +kernel
theorem y5t (B:Bt mg) (c_is_number_of:Cal P w K mg base 2 "is_number_of" 2 x1d) (a:At K mg "is_row_of" (top 7) ["thing","length","many"]):Cal P w K mg base 3 "is_row_of" 3 (x32):=
 Cal.mkQ (k:=2) a y40 fun f cdv A outer s H E hr=>
  x06 (x2n (z29 (y43 (x67 (x4d (y34 .tuple B.m_isinstance B.m_tuple PyProof.Rows.boot_tuple (x02 (qv 0 rfl (Or.inl rfl)))))) (y1x (x82 hr (x0w B.m_len (qv 0 rfl (Or.inl rfl))) (x02 (qv 1 rfl (Or.inl rfl))))))) (x0f (x0o (x6p))) (x1s))
  (x0f (x0o (z3q rfl B.m_all (x00 (x24 (k:=1) (N':=x8x) false rfl ⟨rfl,by decide +kernel,rfl,rfl,rfl⟩ (x3y (x02 (qv 0 rfl (Or.inl rfl)))) (fun _ _ _ _=>x0h (i:=3) (show 3<=3 by decide) y29 rfl (Or.inl rfl) (Or.inr rfl)) (fun _ _ _ _=>x1f) (fun _ _ _ _=>x08 c_is_number_of hr (by decide) (x00 (x02 (qv 3)) (x00 (x02 (qv 2)) (x03) x04) x04))) (x03) x19))))
noncomputable abbrev x50:x1l:=x7b (x10 (x01 (x05 3) (x0g))) (x0k 5) (sIf (x3u (e2 dNe (x1q 2 (eIx (x1q 0 (x05 4)) (x05 5))) (eIx (x1q 1 (x1q 2 (x05 4))) (x1q 2 (x05 5))))) (x2u (eC (.bl false))) (x6b))
noncomputable abbrev x5f:x1l:=sIf (x3u (e2 dNe (x1q 2 (eIx (x1q 0 (x05 4)) (x05 5))) (eIx (x1q 1 (x1q 2 (x05 4))) (x1q 2 (x05 5))))) (x2u (eC (.bl false))) (x6b)
noncomputable def x3k:x1l:=x1g (x2i 3 (x17 0))
 (x1g (x7b (x10 (x01 (x05 3) (x0g))) (x0k 4) (x7b (x10 (x01 (x05 3) (x0g))) (x0k 5) (sIf (x3u (e2 dNe (x1q 2 (eIx (x1q 0 (x05 4)) (x05 5))) (eIx (x1q 1 (x1q 2 (x05 4))) (x1q 2 (x05 5))))) (x2u (eC (.bl false))) (x6b))))
 (x2u (eC (.bl true))))
noncomputable def x13:List D->Option (D × Nat):=fnD 6 (x3k)
theorem x1t:FnScope ["ladder","other","table","many","x","y"] ["ladder","other","table"] (x0e (top 21)):=⟨rfl,rfl,rfl,by decide +kernel,rfl,by decide +kernel,by decide +kernel⟩
theorem x5j (B:Bt mg) (a:At K mg "leads_joins_to_joins" (top 21) ["ladder","other","table"]):Cal P w K mg base 1 "leads_joins_to_joins" 3 (x13):=
 Cal.mkQ (k:=0) a x1t fun f cdv A outer s H E hr=>
  x06 (x0q (i:=3) x1t.nd rfl (Or.inl rfl) (x0w B.m_len (qv 0 rfl (Or.inl rfl))))
  (x06 (x2c PassesOwn.never rfl (x0s B.m_range (x00 (x02 (qv 3 rfl (Or.inl rfl))) (x03) x04)) (x0h (i:=4) (show 0<=4 by decide) x1t.nd rfl (Or.inl rfl)) (x0f (x2c PassesOwn.never rfl (x0s B.m_range (x00 (x02 (qv 3 rfl (Or.inl rfl))) (x03) x04)) (x0h (i:=5) (show 0<=5 by decide) x1t.nd rfl (Or.inl rfl)) (x0f (x2n (x82 hr (x0v (qv 2 rfl (Or.inl rfl)) (x4k (x0v (qv 0 rfl (Or.inl rfl)) (x02 (qv 4 rfl (Or.inl rfl)))) (x02 (qv 5 rfl (Or.inl rfl))))) (x4k (x0v (qv 1 rfl (Or.inl rfl)) (x0v (qv 2 rfl (Or.inl rfl)) (x02 (qv 4 rfl (Or.inl rfl))))) (x0v (qv 2 rfl (Or.inl rfl)) (x02 (qv 5 rfl (Or.inl rfl)))))) (x0f (x0o (x6p))) (x1s))))))
  (x0f (x0o (x6p))))
noncomputable def y62:x1l:=x1g (sIf (x61 (y0r (x0p x32 3 (x01 (x05 2) (x01 (x17 0) (x01 (x17 1) (x0g))))))) (x2u (eC (.bl false))) (x6b))
 (x2u (y9n (x0p x13 3 (x01 (x05 0) (x01 (x05 1) (x01 (x05 2) (x0g))))) (e2 dEq (x1q 2 (x0p x37 1 (x01 (x05 0) (x0g)))) (x0p x37 1 (x01 (x05 1) (x0g))))))
noncomputable def x6f:List D->Option (D × Nat):=fnD 3 (y62)
theorem y99:FnScope ["ladder","other","thing"] ["ladder","other","thing"] (x0e (top 23)):=⟨rfl,rfl,rfl,by decide +kernel,rfl,by decide +kernel,by decide +kernel⟩
theorem z1s (B:Bt mg) (c_is_row_of:Cal P w K mg base 3 "is_row_of" 3 x32) (c_leads_joins_to_joins:Cal P w K mg base 1 "leads_joins_to_joins" 3 x13) (c_least_of:Cal P w K mg base 2 "least_of" 1 x37) (a:At K mg "is_map" (top 23) ["ladder","other","thing"]):Cal P w K mg base 4 "is_map" 3 (x6f):=
 Cal.mkQ (k:=3) a y99 fun f cdv A outer s H E hr=>
  x06 (x2n (x67 (x4d (x08 c_is_row_of hr (by decide) (x00 (x02 (qv 2 rfl (Or.inl rfl))) (x00 (x0w B.m_len (qv 0 rfl (Or.inl rfl))) (x00 (x0w B.m_len (qv 1 rfl (Or.inl rfl))) (x03) x0m) x0m) x04)))) (x0f (x0o (x6p))) (x1s))
  (x0f (x0o (y3a (x08 c_leads_joins_to_joins hr (by decide) (x00 (x02 (qv 0 rfl (Or.inl rfl))) (x00 (x02 (qv 1 rfl (Or.inl rfl))) (x00 (x02 (qv 2 rfl (Or.inl rfl))) (x03) x04) x04) x04)) (y36 (z62 hr (x0v (qv 2 rfl (Or.inl rfl)) (x08 c_least_of hr (by decide) (x00 (x02 (qv 0 rfl (Or.inl rfl))) (x03) x04))) (x08 c_least_of hr (by decide) (x00 (x02 (qv 1 rfl (Or.inl rfl))) (x03) x04)))))))
noncomputable def y1c:x1l:=x2u (e2 dEq (eIx (x1q 0 (x05 1)) (x05 2)) (x05 2))
noncomputable def x2t:List D->Option (D × Nat):=fnD 3 (y1c)
theorem y4w:FnScope ["ladder","one","other"] ["ladder","one","other"] (x0e (top 13)):=⟨rfl,rfl,rfl,by decide +kernel,rfl,by decide +kernel,by decide +kernel⟩
theorem y6y (B:Bt mg) (a:At K mg "is_below" (top 13) ["ladder","one","other"]):Cal P w K mg base 1 "is_below" 3 (x2t):=
 Cal.mkQ (k:=0) a y4w fun f cdv A outer s H E hr=>
  x0f (x0o (z62 hr (x4k (x0v (qv 0 rfl (Or.inl rfl)) (x02 (qv 1 rfl (Or.inl rfl)))) (x02 (qv 2 rfl (Or.inl rfl)))) (x02 (qv 2 rfl (Or.inl rfl)))))
noncomputable def y9a:x1l:=x2u (x2h 1 (x10 (x01 (x17 0) (x0g))) (x0k 2) (y0r (x0p x2t 3 (x01 (x05 0) (x01 (x05 2) (x01 (x05 1) (x0g)))))) (x05 2) false)
noncomputable def x5s:List D->Option (D × Nat):=fnD 2 (y9a)
theorem z0w:FnScope ["ladder","worth"] ["ladder","worth"] (x0e (top 14)):=⟨rfl,rfl,rfl,by decide +kernel,rfl,by decide +kernel,by decide +kernel⟩
noncomputable abbrev y61:List Str:=["ladder","worth","x"]
theorem y7z:(y61).Nodup:=by decide +kernel
theorem z5z (B:Bt mg) (c_is_below:Cal P w K mg base 1 "is_below" 3 x2t) (a:At K mg "below" (top 14) ["ladder","worth"]):Cal P w K mg base 2 "below" 2 (x5s):=
 Cal.mkQ (k:=1) a z0w fun f cdv A outer s H E hr=>
  x0f (x0o (x24 (k:=1) (N':=y61) false rfl ⟨rfl,by decide +kernel,rfl,rfl,rfl⟩ (x0s B.m_range (x00 (x0w B.m_len (qv 0 rfl (Or.inr (Or.inl rfl)))) (x03) x0m)) (fun _ _ _ _=>x0h (i:=2) (show 2<=2 by decide) y7z rfl (Or.inl rfl) (Or.inr rfl)) (fun _ _ _ _=>y25 (x4d (x08 c_is_below hr (by decide) (x00 (x02 (qv 0)) (x00 (x02 (qv 2)) (x00 (x02 (qv 1)) (x03) x04) x04) x04)))) (fun _ _ _ _=>x02 (qv 2))))
noncomputable def y7m:x1l:=x1g (x7b (x10 (x01 (x17 0) (x0g))) (x0k 2) (x7b (x7a (x0p x5s 2 (x01 (x05 0) (x01 (x05 2) (x0g))))) (x0k 3) (sIf (x61 (y0r (x0p x2t 3 (x01 (x05 0) (x01 (x1q 1 (x05 3)) (x01 (x1q 1 (x05 2)) (x0g))))))) (x2u (eC (.bl false))) (x6b))))
 (x2u (eC (.bl true)))
noncomputable def x77:List D->Option (D × Nat):=fnD 4 (y7m)
theorem y2p:FnScope ["ladder","rule","y","x"] ["ladder","rule"] (x0e (top 19)):=⟨rfl,rfl,rfl,by decide +kernel,rfl,by decide +kernel,by decide +kernel⟩
theorem z4f (B:Bt mg) (c_below:Cal P w K mg base 2 "below" 2 x5s) (c_is_below:Cal P w K mg base 1 "is_below" 3 x2t) (a:At K mg "rises" (top 19) ["ladder","rule"]):Cal P w K mg base 3 "rises" 2 (x77):=
 Cal.mkQ (k:=2) a y2p fun f cdv A outer s H E hr=>
  x06 (x2c PassesOwn.never rfl (x0s B.m_range (x00 (x0w B.m_len (qv 0 rfl (Or.inl rfl))) (x03) x0m)) (x0h (i:=2) (show 0<=2 by decide) y2p.nd rfl (Or.inl rfl)) (x0f (x2c PassesOwn.never rfl (x3y (x08 c_below hr (by decide) (x00 (x02 (qv 0 rfl (Or.inl rfl))) (x00 (x02 (qv 2 rfl (Or.inl rfl))) (x03) x04) x04))) (x0h (i:=3) (show 0<=3 by decide) y2p.nd rfl (Or.inl rfl)) (x0f (x2n (x67 (x4d (x08 c_is_below hr (by decide) (x00 (x02 (qv 0 rfl (Or.inl rfl))) (x00 (x0v (qv 1 rfl (Or.inl rfl)) (x02 (qv 3 rfl (Or.inl rfl)))) (x00 (x0v (qv 1 rfl (Or.inl rfl)) (x02 (qv 2 rfl (Or.inl rfl)))) (x03) x12) x12) x04)))) (x0f (x0o (x6p))) (x1s))))))
  (x0f (x0o (x6p)))
noncomputable def y9f:x1l:=x2u (x0p x13 3 (x01 (x05 0) (x01 (x05 0) (x01 (x05 1) (x0g)))))
noncomputable def x4t:List D->Option (D × Nat):=fnD 2 (y9f)
theorem y6s:FnScope ["ladder","rule"] ["ladder","rule"] (x0e (top 20)):=⟨rfl,rfl,rfl,by decide +kernel,rfl,by decide +kernel,by decide +kernel⟩
theorem y9k (B:Bt mg) (c_leads_joins_to_joins:Cal P w K mg base 1 "leads_joins_to_joins" 3 x13) (a:At K mg "spreads" (top 20) ["ladder","rule"]):Cal P w K mg base 2 "spreads" 2 (x4t):=
 Cal.mkQ (k:=1) a y6s fun f cdv A outer s H E hr=>
  x0f (x0o (x08 c_leads_joins_to_joins hr (by decide) (x00 (x02 (qv 0 rfl (Or.inl rfl))) (x00 (x02 (qv 0 rfl (Or.inl rfl))) (x00 (x02 (qv 1 rfl (Or.inl rfl))) (x03) x04) x04) x04)))
noncomputable def z7o:x1l:=x1g (x2i 1 (x0p x2s 2 (x01 (x05 0) (x01 (eC (.int 0)) (x0g)))))
 (x1g (x2i 2 (x0p x2s 2 (x01 (x05 0) (x01 (eC (.int 20)) (x0g)))))
 (x1g (x2i 3 (x17 2))
 (x1g (sIf (y8k (x3u (e2 dGt (x17 1) (eC (.int 4)))) (x3u (e2 dGt (x05 3) (eC (.int 4))))) (x2u (eC (.bl true))) (x6b))
 (x1g (x2i 4 (x0p x7g 2 (x01 (x05 1) (x01 (x05 2) (x0g)))))
 (x1g (x2i 5 (x6v (x01 (x17 4) (x0g))))
 (x1g (sIf (x61 (y0r (x0p x6f 3 (x01 (x05 4) (x01 (x05 1) (x01 (x1x (x01 (x2h 1 (x7a (x05 5)) (x0k 19) (x1m) (e2 y5o (x05 19) (x05 3)) false) (x0g))) (x0g))))))) (x2u (eC (.bl false))) (x6b))
 (x1g (sIf (x61 (y0r (x0p x6f 3 (x01 (x05 4) (x01 (x05 2) (x01 (x1x (x01 (x2h 1 (x7a (x05 5)) (x0k 19) (x1m) (e2 y2x (x05 19) (x05 3)) false) (x0g))) (x0g))))))) (x2u (eC (.bl false))) (x6b))
 (x1g (x2i 6 (x1x (x01 (x2h 1 (x10 (x01 (x17 1) (x0g))) (x0k 19) (x1m) (x0p x0a 3 (x01 (x05 0) (x01 (e2 x2p (eC (.int 40)) (x05 19)) (x01 (x17 1) (x0g))))) false) (x0g))))
 (x1g (x2i 7 (x1x (x01 (x2h 1 (x10 (x01 (x05 3) (x0g))) (x0k 19) (x1m) (x0p x0a 3 (x01 (x05 0) (x01 (e2 x2p (eC (.int 45)) (x05 19)) (x01 (x05 3) (x0g))))) false) (x0g))))
 (x1g (x2i 8 (x0p x23 2 (x01 (x05 6) (x01 (x05 7) (x0g)))))
 (x1g (sIf (x3u (e2 dNe (x05 8) (x1x (x01 (x2h 1 (x7a (x05 5)) (x0k 19) (x1m) (e2 x2p (e2 x62 (x1q 6 (e2 y5o (x05 19) (x05 3))) (x05 3)) (x1q 7 (e2 y2x (x05 19) (x05 3)))) false) (x0g))))) (x2u (eC (.bl false))) (x6b))
 (x1g (sIf (x3u (e2 dNe (x0p x77 2 (x01 (x05 4) (x01 (x05 8) (x0g)))) (y9n (x0p x77 2 (x01 (x05 1) (x01 (x05 6) (x0g)))) (x0p x77 2 (x01 (x05 2) (x01 (x05 7) (x0g))))))) (x2u (eC (.bl false))) (x6b))
 (x1g (sIf (x3u (e2 dNe (x0p x4t 2 (x01 (x05 4) (x01 (x05 8) (x0g)))) (y9n (x0p x4t 2 (x01 (x05 1) (x01 (x05 6) (x0g)))) (x0p x4t 2 (x01 (x05 2) (x01 (x05 7) (x0g))))))) (x2u (eC (.bl false))) (x6b))
 (x1g (z6z (x0p x3s 4 (x01 (x05 0) (x01 (eC (.int 60)) (x01 (x05 1) (x01 (eC (.bl false)) (x0g)))))) (y2l (x14 (x0k 9) (x14 (x0k 10) (x14 (x0k 11) (x4n))))))
 (x1g (x2i 12 (x1x (x01 (x2h 4 (y2d (x01 (x05 10) (x0g))) (y2l (x14 (x0k 19) (x14 (y2l (x14 (x0k 20) (x14 (x0k 21) (x14 (x0k 22) (x4n))))) (x4n)))) (x1m) (x75 (x01 (x05 20) (x01 (x05 21) (x01 (x0p x1p 3 (x01 (x05 0) (x01 (e2 x2p (eC (.int 250)) (e2 x62 (eC (.int 20)) (x05 19))) (x01 (x05 2) (x0g))))) (x0g))))) false) (x0g))))
 (x1g (x2i 13 (x1x (x01 (x2h 3 (y2d (x01 (x05 11) (x0g))) (y2l (x14 (x0k 19) (x14 (y2l (x14 (x0k 20) (x14 (x0k 21) (x4n)))) (x4n)))) (x1m) (x75 (x01 (x05 20) (x01 (x0p x0a 3 (x01 (x05 0) (x01 (e2 x2p (eC (.int 400)) (x05 19)) (x01 (x05 3) (x0g))))) (x0g)))) false) (x0g))))
 (x1g (x2i 14 (x2h 2 (y1z (x01 (x05 10) (x01 (x05 12) (x0g)))) (y2l (x14 (x0k 19) (x14 (x0k 20) (x4n)))) (x1m) (x75 (x01 (x1q 19 (eC (.int 0))) (x01 (x1q 19 (eC (.int 1))) (x01 (x0p x23 2 (x01 (x1q 19 (eC (.int 2))) (x01 (x1q 20 (eC (.int 2))) (x0g)))) (x0g))))) false))
 (x1g (x2i 15 (x2h 3 (y1z (x01 (x05 11) (x01 (x05 13) (x0g)))) (y2l (x14 (y2l (x14 (x0k 19) (x14 (x0k 20) (x4n)))) (x14 (x0k 21) (x4n)))) (x1m) (x75 (x01 (x05 19) (x01 (e2 x2p (e2 x62 (x05 20) (x05 3)) (x1q 21 (eC (.int 1)))) (x0g)))) false))
 (x1g (x2i 16 (x0p x76 2 (x01 (x05 1) (x01 (x75 (x01 (x05 9) (x01 (x05 10) (x01 (x05 11) (x0g))))) (x0g)))))
 (x1g (x2i 17 (x0p x76 2 (x01 (x05 2) (x01 (x75 (x01 (x05 9) (x01 (x05 12) (x01 (x05 13) (x0g))))) (x0g)))))
 (x1g (x2i 18 (x1x (x01 (x2h 1 (x10 (x01 (x05 9) (x0g))) (x0k 19) (x1m) (e2 x2p (e2 x62 (x1q 16 (x05 19)) (x05 3)) (x1q 17 (x05 19))) false) (x0g))))
 (x2u (e2 dEq (x0p x76 2 (x01 (x05 4) (x01 (x75 (x01 (x05 9) (x01 (x1x (x01 (x05 14) (x0g))) (x01 (x1x (x01 (x05 15) (x0g))) (x0g))))) (x0g)))) (x05 18))))))))))))))))))))))))
noncomputable def y73:List D->Option (D × Nat):=fnD 19 (z7o)
theorem x3e:FnScope ["_law_script","_law_one","_law_other","_law_many","_law_both","_law_couples_here","_law_first","_law_second","_law_rule_here","_law_places","_law_ways","_law_begins","_law_there","_law_ends","_law_joined","_law_starts","_law_mine","_law_yours","_law_due"] ["_law_script"] (x0e (top 50)):=⟨rfl,rfl,rfl,by decide +kernel,rfl,by decide +kernel,by decide +kernel⟩
noncomputable abbrev y04:List Str:=["_law_script","_law_one","_law_other","_law_many","_law_both","_law_couples_here","_law_first","_law_second","_law_rule_here","_law_places","_law_ways","_law_begins","_law_there","_law_ends","_law_joined","_law_starts","_law_mine","_law_yours","_law_due","_law_k"]
theorem x8g:(y04).Nodup:=by decide +kernel
noncomputable abbrev z39:List Str:=["_law_script","_law_one","_law_other","_law_many","_law_both","_law_couples_here","_law_first","_law_second","_law_rule_here","_law_places","_law_ways","_law_begins","_law_there","_law_ends","_law_joined","_law_starts","#16","_law_yours","_law_due","_law_k","_law_start","_law_goal","_law_mine"]
theorem y2b:(z39).Nodup:=by decide +kernel
noncomputable abbrev z36:List Str:=["_law_script","_law_one","_law_other","_law_many","_law_both","_law_couples_here","_law_first","_law_second","_law_rule_here","_law_places","_law_ways","_law_begins","_law_there","_law_ends","_law_joined","_law_starts","_law_mine","_law_yours","_law_due","_law_k","_law_place","_law_worth"]
theorem y5n:(z36).Nodup:=by decide +kernel
noncomputable abbrev z3i:List Str:=["_law_script","_law_one","_law_other","_law_many","_law_both","_law_couples_here","_law_first","_law_second","_law_rule_here","_law_places","_law_ways","_law_begins","_law_there","_law_ends","_law_joined","_law_starts","_law_mine","_law_yours","_law_due","_law_way","_law_more"]
theorem y9m:(z3i).Nodup:=by decide +kernel
noncomputable abbrev z3j:List Str:=["_law_script","_law_one","_law_other","_law_many","_law_both","_law_couples_here","_law_first","_law_second","_law_rule_here","_law_places","_law_ways","_law_begins","_law_there","_law_ends","_law_joined","_law_starts","_law_mine","_law_yours","_law_due","_law_place","_law_worth","_law_more"]
theorem y4y:(z3j).Nodup:=by decide +kernel
theorem z54 (B:Bt mg) (c__law_ladder:Cal P w K mg base 4 "_law_ladder" 2 x2s) (c_paired:Cal P w K mg base 4 "paired" 2 x7g) (c_is_map:Cal P w K mg base 4 "is_map" 3 x6f) (c__law_pick:Cal P w K mg base 2 "_law_pick" 3 x0a) (c_paired_rules:Cal P w K mg base 1 "paired_rules" 2 x23) (c_rises:Cal P w K mg base 3 "rises" 2 x77) (c_spreads:Cal P w K mg base 2 "spreads" 2 x4t) (c__law_chart:Cal P w K mg base 5 "_law_chart" 4 x3s) (c__law_rule:Cal P w K mg base 3 "_law_rule" 3 x1p) (c_least:Cal P w K mg base 7 "least" 2 x76) {f:Addr} {fd:FuncData} (F:Fun K "law" "law" (top 50) f fd):FnOk P w K mg base CX0 8 f fd ["_law_script"] (spD K 1 y73):=
 z3u (k:=7) F x3e fun f cdv A outer s H E hr=>
  x06 (x0q (i:=1) x3e.nd rfl (Or.inr rfl) (x08 c__law_ladder hr (by decide) (x00 (x02 (qv 0 rfl (Or.inr (Or.inl rfl)))) (x00 (x0d) (x03) x09) x04)))
  (x06 (x0q (i:=2) x3e.nd rfl (Or.inr rfl) (x08 c__law_ladder hr (by decide) (x00 (x02 (qv 0 rfl (Or.inr (Or.inl rfl)))) (x00 (x0d) (x03) x09) x04)))
  (x06 (x0q (i:=3) x3e.nd rfl (Or.inr rfl) (x0w B.m_len (qv 2 rfl (Or.inr (Or.inl rfl)))))
  (x06 (x2n (z29 (y43 (y9t (x0w B.m_len (qv 1 rfl (Or.inr (Or.inl rfl)))) (x0d)) (y1x (y9t (x02 (qv 3 rfl (Or.inr (Or.inl rfl)))) (x0d))))) (x0f (x0o (x6p))) (x1s))
  (x06 (x0q (i:=4) x3e.nd rfl (Or.inl rfl) (x08 c_paired hr (by decide) (x00 (x02 (qv 1 rfl (Or.inr (Or.inl rfl)))) (x00 (x02 (qv 2 rfl (Or.inr (Or.inl rfl)))) (x03) x04) x04)))
  (x06 (x0q (i:=5) x3e.nd rfl (Or.inl rfl) (x9d rfl B.m_list PyProof.Rows.boot_list B.m_range (x00 (x0w B.m_len (qv 4 rfl (Or.inl rfl))) (x03) x0m)))
  (x06 (x2n (x67 (x4d (x08 c_is_map hr (by decide) (x00 (x02 (qv 4 rfl (Or.inl rfl))) (x00 (x02 (qv 1 rfl (Or.inr (Or.inl rfl)))) (x00 (x1n B.m_tuple PyProof.Rows.boot_tuple (x00 (x24 (k:=1) (N':=y04) false rfl ⟨rfl,by decide +kernel,rfl,rfl,rfl⟩ (x3y (x02 (qv 5 rfl (Or.inl rfl)))) (fun _ _ _ _=>x0h (i:=19) (show 19<=19 by decide) x8g rfl (Or.inl rfl) (Or.inr rfl)) (fun _ _ _ _=>x1f) (fun _ _ _ _=>x92 (x02 (qv 19)) (x02 (qv 3)))) (x03) x19)) (x03) x0m) x04) x04)))) (x0f (x0o (x6p))) (x1s))
  (x06 (x2n (x67 (x4d (x08 c_is_map hr (by decide) (x00 (x02 (qv 4 rfl (Or.inl rfl))) (x00 (x02 (qv 2 rfl (Or.inr (Or.inl rfl)))) (x00 (x1n B.m_tuple PyProof.Rows.boot_tuple (x00 (x24 (k:=1) (N':=y04) false rfl ⟨rfl,by decide +kernel,rfl,rfl,rfl⟩ (x3y (x02 (qv 5 rfl (Or.inl rfl)))) (fun _ _ _ _=>x0h (i:=19) (show 19<=19 by decide) x8g rfl (Or.inl rfl) (Or.inr rfl)) (fun _ _ _ _=>x1f) (fun _ _ _ _=>x66 (x02 (qv 19)) (x02 (qv 3)))) (x03) x19)) (x03) x0m) x04) x04)))) (x0f (x0o (x6p))) (x1s))
  (x06 (x0q (i:=6) x3e.nd rfl (Or.inr rfl) (x1n B.m_tuple PyProof.Rows.boot_tuple (x00 (x24 (k:=1) (N':=y04) false rfl ⟨rfl,by decide +kernel,rfl,rfl,rfl⟩ (x0s B.m_range (x00 (x0w B.m_len (qv 1 rfl (Or.inr (Or.inl rfl)))) (x03) x0m)) (fun _ _ _ _=>x0h (i:=19) (show 19<=19 by decide) x8g rfl (Or.inl rfl) (Or.inr rfl)) (fun _ _ _ _=>x1f) (fun _ _ _ _=>x08 c__law_pick hr (by decide) (x00 (x02 (qv 0)) (x00 (x1a (x0d) (x02 (qv 19))) (x00 (x0w B.m_len (qv 1)) (x03) x0m) x11) x04))) (x03) x19)))
  (x06 (x0q (i:=7) x3e.nd rfl (Or.inr rfl) (x1n B.m_tuple PyProof.Rows.boot_tuple (x00 (x24 (k:=1) (N':=y04) false rfl ⟨rfl,by decide +kernel,rfl,rfl,rfl⟩ (x0s B.m_range (x00 (x02 (qv 3 rfl (Or.inr (Or.inl rfl)))) (x03) x04)) (fun _ _ _ _=>x0h (i:=19) (show 19<=19 by decide) x8g rfl (Or.inl rfl) (Or.inr rfl)) (fun _ _ _ _=>x1f) (fun _ _ _ _=>x08 c__law_pick hr (by decide) (x00 (x02 (qv 0)) (x00 (x1a (x0d) (x02 (qv 19))) (x00 (x02 (qv 3)) (x03) x04) x11) x04))) (x03) x19)))
  (x06 (x0q (i:=8) x3e.nd rfl (Or.inl rfl) (x08 c_paired_rules hr (by decide) (x00 (x02 (qv 6 rfl (Or.inr (Or.inl rfl)))) (x00 (x02 (qv 7 rfl (Or.inr (Or.inl rfl)))) (x03) x04) x04)))
  (x06 (x2n (x82 hr (x02 (qv 8 rfl (Or.inl rfl))) (x1n B.m_tuple PyProof.Rows.boot_tuple (x00 (x24 (k:=1) (N':=y04) false rfl ⟨rfl,by decide +kernel,rfl,rfl,rfl⟩ (x3y (x02 (qv 5 rfl (Or.inl rfl)))) (fun _ _ _ _=>x0h (i:=19) (show 19<=19 by decide) x8g rfl (Or.inl rfl) (Or.inr rfl)) (fun _ _ _ _=>x1f) (fun _ _ _ _=>x1a (x3c (x0v (qv 6) (x92 (x02 (qv 19)) (x02 (qv 3)))) (x02 (qv 3))) (x0v (qv 7) (x66 (x02 (qv 19)) (x02 (qv 3)))))) (x03) x19))) (x0f (x0o (x6p))) (x1s))
  (x06 (x2n (x82 hr (x08 c_rises hr (by decide) (x00 (x02 (qv 4 rfl (Or.inl rfl))) (x00 (x02 (qv 8 rfl (Or.inl rfl))) (x03) x04) x04)) (y3a (x08 c_rises hr (by decide) (x00 (x02 (qv 1 rfl (Or.inr (Or.inl rfl)))) (x00 (x02 (qv 6 rfl (Or.inr (Or.inl rfl)))) (x03) x04) x04)) (y36 (x08 c_rises hr (by decide) (x00 (x02 (qv 2 rfl (Or.inr (Or.inl rfl)))) (x00 (x02 (qv 7 rfl (Or.inr (Or.inl rfl)))) (x03) x04) x04))))) (x0f (x0o (x6p))) (x1s))
  (x06 (x2n (x82 hr (x08 c_spreads hr (by decide) (x00 (x02 (qv 4 rfl (Or.inl rfl))) (x00 (x02 (qv 8 rfl (Or.inl rfl))) (x03) x04) x04)) (y3a (x08 c_spreads hr (by decide) (x00 (x02 (qv 1 rfl (Or.inr (Or.inl rfl)))) (x00 (x02 (qv 6 rfl (Or.inr (Or.inl rfl)))) (x03) x04) x04)) (y36 (x08 c_spreads hr (by decide) (x00 (x02 (qv 2 rfl (Or.inr (Or.inl rfl)))) (x00 (x02 (qv 7 rfl (Or.inr (Or.inl rfl)))) (x03) x04) x04))))) (x0f (x0o (x6p))) (x1s))
  (x06 (z6a (x08 c__law_chart hr (by decide) (x00 (x02 (qv 0 rfl (Or.inr (Or.inl rfl)))) (x00 (x0d) (x00 (x02 (qv 1 rfl (Or.inr (Or.inl rfl)))) (x00 (x6p) (x03) x09) x04) x09) x04)) (x5n (n:=3) rfl (x1i (x0h (i:=9) (show 0<=9 by decide) x3e.nd rfl (Or.inl rfl)) (x1i (x0h (i:=10) (show 0<=10 by decide) x3e.nd rfl (Or.inl rfl)) (x1i (x0h (i:=11) (show 0<=11 by decide) x3e.nd rfl (Or.inl rfl)) (x4i)))) y8p))
  (x06 (x0q (i:=12) x3e.nd rfl (Or.inl rfl) (x1n B.m_tuple PyProof.Rows.boot_tuple (x00 (x24 (k:=4) (N':=z39) false rfl ⟨rfl,by decide +kernel,rfl,rfl,rfl⟩ (y6b B.m_enumerate (x00 (x02 (qv 10 rfl (Or.inl rfl))) (x03) x04)) (fun _ _ _ _=>x5n (n:=2) rfl (x1i (x0h (i:=19) (show 19<=19 by decide) y2b rfl (Or.inl rfl) (Or.inr rfl)) (x1i (x5n (n:=3) rfl (x1i (x0h (i:=20) (show 19<=20 by decide) y2b rfl (Or.inl rfl) (Or.inr rfl)) (x1i (x0h (i:=21) (show 19<=21 by decide) y2b rfl (Or.inl rfl) (Or.inr rfl)) (x1i (x0h (i:=22) (show 19<=22 by decide) y2b rfl (Or.inl rfl) (Or.inr rfl)) (x4i)))) y8p) (x4i))) x8h) (fun _ _ _ _=>x1f) (fun _ _ _ _=>x3l (x00 (x02 (qv 20)) (x00 (x02 (qv 21)) (x00 (x08 c__law_rule hr (by decide) (x00 (x02 (qv 0)) (x00 (x1a (x0d) (x3c (x0d) (x02 (qv 19)))) (x00 (x02 (qv 2)) (x03) x04) x11) x04)) (x03) x0m) x04) x04))) (x03) x19)))
  (x06 (x0q (i:=13) x3e.nd rfl (Or.inl rfl) (x1n B.m_tuple PyProof.Rows.boot_tuple (x00 (x24 (k:=3) (N':=z36) false rfl ⟨rfl,by decide +kernel,rfl,rfl,rfl⟩ (y6b B.m_enumerate (x00 (x02 (qv 11 rfl (Or.inl rfl))) (x03) x04)) (fun _ _ _ _=>x5n (n:=2) rfl (x1i (x0h (i:=19) (show 19<=19 by decide) y5n rfl (Or.inl rfl) (Or.inr rfl)) (x1i (x5n (n:=2) rfl (x1i (x0h (i:=20) (show 19<=20 by decide) y5n rfl (Or.inl rfl) (Or.inr rfl)) (x1i (x0h (i:=21) (show 19<=21 by decide) y5n rfl (Or.inl rfl) (Or.inr rfl)) (x4i))) x8h) (x4i))) x8h) (fun _ _ _ _=>x1f) (fun _ _ _ _=>x3l (x00 (x02 (qv 20)) (x00 (x08 c__law_pick hr (by decide) (x00 (x02 (qv 0)) (x00 (x1a (x0d) (x02 (qv 19))) (x00 (x02 (qv 3)) (x03) x04) x11) x04)) (x03) x0m) x04))) (x03) x19)))
  (x06 (x7n (i:=14) (k:=2) (N':=z3i) false x3e.nd rfl (Or.inl rfl) rfl rfl ⟨rfl,by decide +kernel,rfl,rfl,rfl⟩ (y8c B.m_zip (x00 (x02 (qv 10 rfl (Or.inl rfl))) (x00 (x02 (qv 12 rfl (Or.inl rfl))) (x03) x04) x04)) (fun _ _ _ _=>x5n (n:=2) rfl (x1i (x0h (i:=19) (show 19<=19 by decide) y9m rfl (Or.inl rfl) (Or.inr rfl)) (x1i (x0h (i:=20) (show 19<=20 by decide) y9m rfl (Or.inl rfl) (Or.inr rfl)) (x4i))) x8h) (fun _ _ _ _=>x1f) (fun _ _ _ _=>x3l (x00 (x0v (qv 19) (x0d)) (x00 (x0v (qv 19) (x0d)) (x00 (x08 c_paired_rules hr (by decide) (x00 (x0v (qv 19) (x0d)) (x00 (x0v (qv 20) (x0d)) (x03) x12) x12)) (x03) x0m) x12) x12)))
  (x06 (x7n (i:=15) (k:=3) (N':=z3j) false x3e.nd rfl (Or.inl rfl) rfl rfl ⟨rfl,by decide +kernel,rfl,rfl,rfl⟩ (y8c B.m_zip (x00 (x02 (qv 11 rfl (Or.inl rfl))) (x00 (x02 (qv 13 rfl (Or.inl rfl))) (x03) x04) x04)) (fun _ _ _ _=>x5n (n:=2) rfl (x1i (x5n (n:=2) rfl (x1i (x0h (i:=19) (show 19<=19 by decide) y4y rfl (Or.inl rfl) (Or.inr rfl)) (x1i (x0h (i:=20) (show 19<=20 by decide) y4y rfl (Or.inl rfl) (Or.inr rfl)) (x4i))) x8h) (x1i (x0h (i:=21) (show 19<=21 by decide) y4y rfl (Or.inl rfl) (Or.inr rfl)) (x4i))) x8h) (fun _ _ _ _=>x1f) (fun _ _ _ _=>x3l (x00 (x02 (qv 19)) (x00 (x1a (x3c (x02 (qv 20)) (x02 (qv 3))) (x0v (qv 21) (x0d))) (x03) x11) x04)))
  (x06 (x0q (i:=16) x3e.nd rfl (Or.inr rfl) (x08 c_least hr (by decide) (x00 (x02 (qv 1 rfl (Or.inr (Or.inl rfl)))) (x00 (x3l (x00 (x02 (qv 9 rfl (Or.inl rfl))) (x00 (x02 (qv 10 rfl (Or.inl rfl))) (x00 (x02 (qv 11 rfl (Or.inl rfl))) (x03) x04) x04) x04)) (x03) x7l) x04)))
  (x06 (x0q (i:=17) x3e.nd rfl (Or.inr rfl) (x08 c_least hr (by decide) (x00 (x02 (qv 2 rfl (Or.inr (Or.inl rfl)))) (x00 (x3l (x00 (x02 (qv 9 rfl (Or.inl rfl))) (x00 (x02 (qv 12 rfl (Or.inl rfl))) (x00 (x02 (qv 13 rfl (Or.inl rfl))) (x03) x04) x04) x04)) (x03) x7l) x04)))
  (x06 (x0q (i:=18) x3e.nd rfl (Or.inl rfl) (x1n B.m_tuple PyProof.Rows.boot_tuple (x00 (x24 (k:=1) (N':=y04) false rfl ⟨rfl,by decide +kernel,rfl,rfl,rfl⟩ (x0s B.m_range (x00 (x02 (qv 9 rfl (Or.inl rfl))) (x03) x04)) (fun _ _ _ _=>x0h (i:=19) (show 19<=19 by decide) x8g rfl (Or.inl rfl) (Or.inr rfl)) (fun _ _ _ _=>x1f) (fun _ _ _ _=>x1a (x3c (x0v (qv 16) (x02 (qv 19))) (x02 (qv 3))) (x0v (qv 17) (x02 (qv 19))))) (x03) x19)))
  (x0f (x0o (z62 hr (x08 c_least hr (by decide) (x00 (x02 (qv 4 rfl (Or.inl rfl))) (x00 (x3l (x00 (x02 (qv 9 rfl (Or.inl rfl))) (x00 (x1n B.m_tuple PyProof.Rows.boot_tuple (x00 (x02 (qv 14 rfl (Or.inl rfl))) (x03) x04)) (x00 (x1n B.m_tuple PyProof.Rows.boot_tuple (x00 (x02 (qv 15 rfl (Or.inl rfl))) (x03) x04)) (x03) x0m) x0m) x04)) (x03) x7l) x04)) (x02 (qv 18 rfl (Or.inl rfl)))))))))))))))))))))))))))
end
noncomputable abbrev scr (ns:List Int):D:=.lst (ns.map D.int)
noncomputable def z0r (ns:List Int) (k:Int):Int:=if k<ns.length then ns.getD k.toNat 0 else if ns=[]then 0 else ns.getD (k % ns.length).toNat 0*31+k
theorem z35 {ns:List Int} {k:Int} (h0:0<=k) (h:k<ns.length):L2.atI (ns.map D.int) k=some (.int (ns.getD k.toNat 0)):=by
 obtain⟨m,rfl⟩:∃ m:Nat,k=Int.ofNat m:=⟨k.toNat,by show k=(k.toNat:Int); omega⟩
 have hk:m<ns.length:=by have:(m:Int)<ns.length:=h; omega
 apply y3h
 rw[List.getElem?_map,List.getElem?_eq_getElem hk]
 simp[hk]
theorem z9r (ns:List Int):Sh 1 (scr ns):=.lst fun d m=>by
 obtain⟨x,_,rfl⟩:=List.mem_map.mp m
 exact .int _
theorem z3s (ns:List Int):dEq (scr ns) (.lst [])=some (.bl (decide (ns=[]))):=by
 unfold dEq
 rw[if_pos ⟨(z9r ns).ok,(j1d []).ok⟩]
 cases ns <;> rfl
theorem z5k (ns:List Int) (k:Int) (h0:0<=k):x45 [scr ns,.int k]=some (.int (z0r ns k),9):=by
 unfold x45 y0g z0r
 by_cases h:k<ns.length
 ·simp[h,z35 h0 h,x7c,atD]
 ·by_cases hn:ns=[]
  ·subst hn
   have h':¬ k<0:=by omega
   simp[h',x7c,z3s]
  ·have hp:(0:Int)<ns.length:=by have:=List.length_pos_iff.mpr hn; omega
   have h1:=Int.emod_nonneg k (Int.ne_of_gt hp)
   have h2:=Int.emod_lt_of_pos k hp
   have h3:=z35 h1 h2
   have hp':=List.length_pos_iff.mpr hn
   simp[h,x7c,atD,z3s,hn,hp',h3]
noncomputable def x94 (ns:List Int) (k:Int):Int:=(z0r ns k+6151*(k+1))*40692 % 2147483399
noncomputable def x52 (ns:List Int) (k m:Int):Int:=(x94 ns k*x94 ns k+x94 ns k / 31) % 2147483629 % m
theorem x5e (ns:List Int) (k m:Int) (h0:0<=k) (hm:0<m):x0a [scr ns,.int k,.int m]=some (.int (x52 ns k m),9):=by
 have d0:0<=x94 ns k:=Int.emod_nonneg _ (by decide)
 have d1:x94 ns k<2147483399:=Int.emod_lt_of_pos _ (by decide)
 have g1:-18446744073709551616<x94 ns k:=by omega
 have g2:x94 ns k<18446744073709551616:=by omega
 have hd:(z0r ns k+6151*(k+1))*40692 % 2147483399=x94 ns k:=rfl
 unfold x0a y0m x52
 simp[z5k ns k h0,hm,hd,g1,g2]
theorem x44 (ns:List Int) (k:Int) {m:Int} (hm:0<m):0<=x52 ns k m:=Int.emod_nonneg _ (Int.ne_of_gt hm)
theorem x58 (ns:List Int) (k:Int) {m:Int} (hm:0<m):x52 ns k m<m:=Int.emod_lt_of_pos _ hm
noncomputable def tf (rows:List (List Nat)) (i j:Nat):Nat:=(rows.getD i []).getD j 0
noncomputable def x39 (rows:List (List Nat)):D:=x3j rows.length (tf rows)
noncomputable def ch (n:Nat):List (List Nat):=(List.range n).map fun i=>(List.range n).map fun j=>max i j
noncomputable def cp (a b:List (List Nat)):List (List Nat):=(List.range (a.length*b.length)).map fun i=>(List.range (a.length*b.length)).map fun j=>tf a (i / b.length) (j / b.length)*b.length+tf b (i % b.length) (j % b.length)
noncomputable def sb (n:Nat):List (List Nat):=(List.range (n+2)).map fun i=>(List.range (n+2)).map fun j=>if i=0\/j=0\/i=j then max i j else n+1
noncomputable def n5:List (List Nat):=[[0,1,2,3,4],[1,1,2,4,4],[2,2,2,4,4],[3,4,4,3,4],[4,4,4,4,4]]
noncomputable def y32:List (List (List Nat)):=[ch 1,ch 2,ch 3,ch 4,ch 5,cp (ch 2) (ch 2),cp (ch 2) (ch 3),cp (ch 2) (ch 4),sb 0,sb 1,sb 2,sb 3,sb 4,cp (ch 2) (cp (ch 2) (ch 2)),n5]
theorem ch1:x16 [.int 1]=some (x39 (ch 1),1):=by rfl
theorem ch2:x16 [.int 2]=some (x39 (ch 2),1):=by rfl
theorem ch3:x16 [.int 3]=some (x39 (ch 3),1):=by rfl
theorem ch4:x16 [.int 4]=some (x39 (ch 4),1):=by rfl
theorem ch5:x16 [.int 5]=some (x39 (ch 5),1):=by rfl
theorem sb0:x0x [.int 0]=some (x39 (sb 0),0):=by rfl
theorem sb1:x0x [.int 1]=some (x39 (sb 1),0):=by rfl
theorem sb2:x0x [.int 2]=some (x39 (sb 2),0):=by rfl
theorem sb3:x0x [.int 3]=some (x39 (sb 3),0):=by rfl
theorem sb4:x0x [.int 4]=some (x39 (sb 4),0):=by rfl
theorem j2b:x1c [x39 (ch 2),x39 (ch 2)]=some (x39 (cp (ch 2) (ch 2)),0):=by rfl
theorem j2w:x1c [x39 (ch 2),x39 (ch 3)]=some (x39 (cp (ch 2) (ch 3)),0):=by rfl
theorem j2z:x1c [x39 (ch 2),x39 (ch 4)]=some (x39 (cp (ch 2) (ch 4)),0):=by rfl
theorem j1k:x1c [x39 (ch 2),x39 (cp (ch 2) (ch 2))]=some (x39 (cp (ch 2) (cp (ch 2) (ch 2))),0):=by rfl
theorem z45 (ns:List Int) (t:Int) (h0:0<=t):∃ rows∈y32,∃ q,x4a [scr ns,.int t]=some (x39 rows,q):=by
 have k0:=x44 ns t (m:=9) (by decide)
 have k1:=x58 ns t (m:=9) (by decide)
 have p0:=x44 ns (t+1) (m:=5) (by decide)
 have p1:=x58 ns (t+1) (m:=5) (by decide)
 have r0:=x44 ns (t+1) (m:=3) (by decide)
 have r1:=x58 ns (t+1) (m:=3) (by decide)
 have e9:=x5e ns t 9 h0 (by decide)
 have e5:=x5e ns (t+1) 5 (by omega) (by decide)
 have e3:=x5e ns (t+1) 3 (by omega) (by decide)
 have mem:∀ i:Nat,i<15->y32.getD i []∈y32:=fun i hi=>by
  rw[List.getD_eq_getElem?_getD,List.getElem?_eq_getElem (show i<y32.length from hi)]
  exact List.getElem_mem _
 have hc:∀ p:Int,0<=p->p<5->∃ rows∈y32,x16 [.int (1+p)]=some (x39 rows,1):=fun p a b=>by
  have:p=0\/p=1\/p=2\/p=3\/p=4:=by omega
  rcases this with rfl | rfl | rfl | rfl | rfl
  ·exact⟨_,mem 0 (by decide),ch1⟩
  ·exact⟨_,mem 1 (by decide),ch2⟩
  ·exact⟨_,mem 2 (by decide),ch3⟩
  ·exact⟨_,mem 3 (by decide),ch4⟩
  ·exact⟨_,mem 4 (by decide),ch5⟩
 have hs:∀ p:Int,0<=p->p<5->∃ rows∈y32,x0x [.int p]=some (x39 rows,0):=fun p a b=>by
  have:p=0\/p=1\/p=2\/p=3\/p=4:=by omega
  rcases this with rfl | rfl | rfl | rfl | rfl
  ·exact⟨_,mem 8 (by decide),sb0⟩
  ·exact⟨_,mem 9 (by decide),sb1⟩
  ·exact⟨_,mem 10 (by decide),sb2⟩
  ·exact⟨_,mem 11 (by decide),sb3⟩
  ·exact⟨_,mem 12 (by decide),sb4⟩
 have hp:∀ r:Int,0<=r->r<3->∃ x rows1 rows,atD (.lst [.int 2,.int 3,.int 4]) r=some (.int x)/\x16 [.int x]=some (x39 rows1,1)/\rows∈y32/\x1c [x39 (ch 2),x39 rows1]=some (x39 rows,0):=fun r a b=>by
  have:r=0\/r=1\/r=2:=by omega
  rcases this with rfl | rfl | rfl
  ·exact⟨2,_,_,rfl,ch2,mem 5 (by decide),j2b⟩
  ·exact⟨3,_,_,rfl,ch3,mem 6 (by decide),j2w⟩
  ·exact⟨4,_,_,rfl,ch4,mem 7 (by decide),j2z⟩
 unfold x4a x9p
 generalize x52 ns t 9=k at *
 generalize x52 ns (t+1) 5=p at *
 generalize x52 ns (t+1) 3=r at *
 by_cases h3:k<3
 ·obtain⟨rows,hm,e⟩:=hc p p0 p1
  exact⟨rows,hm,1,by simp[e9,e5,h3,e]⟩
 by_cases h5:k<5
 ·obtain⟨x,rows1,rows,ea,e1,hm,e2'⟩:=hp r r0 r1
  exact⟨rows,hm,0,by simp[e9,e3,h3,h5,ch2,ea,e1,e2']⟩
 by_cases h7:k<7
 ·obtain⟨rows,hm,e⟩:=hs p p0 p1
  exact⟨rows,hm,0,by simp[e9,e5,h3,h5,h7,e]⟩
 have:k=7\/k=8:=by omega
 rcases this with rfl | rfl
 ·exact⟨_,mem 13 (by decide),0,by simp[e9,y9p,ch2,j2b]; exact j1k⟩
 ·refine⟨_,mem 14 (by decide),0,?_⟩
  simp[e9,y9p]
  rfl
theorem z0x:∀ rows∈y32,j23 rows.length (tf rows)=true:=by decide +kernel
noncomputable def pk (ns:List Int) (t:Int) (k m:Nat):Nat:=(x52 ns (t+2+Int.ofNat k) (Int.ofNat m)).toNat
theorem z60 (ns:List Int) (t:Int) (k m:Nat) (h:0<m):pk ns t k m<m:=by
 have h1:=x44 ns (t+2+Int.ofNat k) (m:=Int.ofNat m) (by show(0:Int)<m; omega)
 have h2:=x58 ns (t+2+Int.ofNat k) (m:=Int.ofNat m) (by show(0:Int)<m; omega)
 have h3:(Int.ofNat m)=(m:Int):=rfl
 unfold pk
 omega
theorem j22 (ns:List Int) (t:Int) (k m:Nat) (h:0<m):x52 ns (t+2+Int.ofNat k) (Int.ofNat m)=Int.ofNat (pk ns t k m):=by
 have h1:=x44 ns (t+2+Int.ofNat k) (m:=Int.ofNat m) (by show(0:Int)<m; omega)
 unfold pk
 show _=((x52 ns (t+2+Int.ofNat k) (Int.ofNat m)).toNat:Int)
 omega
section
variable (ns:List Int) (t:Int) (n:Nat) (B:Nat->Nat->Nat) (q:Nat)
theorem z0u (h0:0<=t) (hn:n<=16):x6k 1 (x0k 8) x1m (z71 3 (x01 (x0p x0a 3 (x01 (x05 0) (x01 (e2 x2p (e2 x2p (x05 1) (eC (.int 2))) (x05 8)) (x01 (x17 3) (x0g))))) (x0g))) false (x0c n)
  [some (scr ns,0),some (.int t,9),some (x3j n B,q),some (.lst (x0c n),1),none,none,none,none] =
  some (x0l ((List.range n).map (drawn (pk ns t) n)),[some (scr ns,0),some (.int t,9),some (x3j n B,q),some (.lst [],1),none,none,none,none]):=by
 have hp:=z60 ns t
 have h:=x4h (k:=1) (pt:=x0k 8) (tt:=x1m) (te:=z71 3 (x01 (x0p x0a 3 (x01 (x05 0) (x01 (e2 x2p (e2 x2p (x05 1) (eC (.int 2))) (x05 8)) (x01 (x17 3) (x0g))))) (x0g))) (deep:=false) (x0c n)
  (fun k=>[some (scr ns,0),some (.int t,9),some (x3j n B,q),some (.lst (x0l (x5g (pk ns t) n k)),1),none,none,none,none]) (fun _=>true) (fun k=>.int (Int.ofNat (drawn (pk ns t) n k))) (fun k hk=>?_)
 ·rw[x0r]at h
  have hl:x5g (pk ns t) n n=[]:=List.length_eq_zero_iff.mp (by rw[x7q hp n (Nat.le_refl n)]; omega)
  rw[hl]at h
  have e1:(List.range n).filter (fun _=>true)=List.range n:=by simp
  rw[e1]at h
  simp only[x0l,List.map_map,Function.comp_def]
  exact h
 ·rw[x0r]at hk
  have hl:=x7q hp k (Nat.le_of_lt hk)
  have hlp:0<(x5g (pk ns t) n k).length:=by rw[hl]; omega
  have e:=j22 ns t k _ hlp
  have hj:=z60 ns t k _ hlp
  have hpk:=x5e ns (t+2+Int.ofNat k) (Int.ofNat (x5g (pk ns t) n k).length) (by show 0<=t+2+(k:Int); omega) (by show(0:Int)<((x5g (pk ns t) n k).length:Int); omega)
  have hs:seqIndex? (Int.ofNat (pk ns t k (x5g (pk ns t) n k).length)) (x0l (x5g (pk ns t) n k)).length=some (pk ns t k (x5g (pk ns t) n k).length):=(y58 (y2r (by rw[x1h]; exact hj))).1
  have hg:(x0l (x5g (pk ns t) n k))[pk ns t k (x5g (pk ns t) n k).length]? = some (.int (Int.ofNat (drawn (pk ns t) n k))):=by
   rw[x9g]
   unfold drawn
   rw[List.getD_eq_getElem?_getD,List.getElem?_eq_getElem hj]
   rfl
  have hb:pk ns t k (x5g (pk ns t) n k).length<=16:=by omega
  have he:(x0l (x5g (pk ns t) n k)).eraseIdx (pk ns t k (x5g (pk ns t) n k).length)=x0l (x5g (pk ns t) n (k+1)):=by rw[x5g,y1l]
  refine⟨[some (scr ns,0),some (.int t,9),some (x3j n B,q),some (.lst (x0l (x5g (pk ns t) n k)),1),none,none,none,none,some (.int (Int.ofNat k),9)],_,by simp[x0c],rfl,?_⟩
  rw[if_pos rfl]
  refine⟨9,[some (scr ns,0),some (.int t,9),some (x3j n B,q),some (.lst (x0l (x5g (pk ns t) n (k+1))),1),none,none,none,none,some (.int (Int.ofNat k),9)],?_,by simp,by simp⟩
  have b1:(-1000:Int)<=Int.ofNat (pk ns t k (x5g (pk ns t) n k).length):=by show(-1000:Int)<=(pk ns t k (x5g (pk ns t) n k).length:Int); omega
  have b2:Int.ofNat (pk ns t k (x5g (pk ns t) n k).length)<=1000:=by show(pk ns t k (x5g (pk ns t) n k).length:Int)<=1000; omega
  have hl':x7c (.lst (x0l (x5g (pk ns t) n k)))=some (x5g (pk ns t) n k).length:=by simp[x7c,x1h]
  rw[e]at hpk
  simp[-Int.ofNat_eq_natCast,hl',hpk,hs,hg,he,b1,b2]
theorem z6m (hn:n<=16) (x:Option (D × Nat)):x6k 1 (x0k 8) x1m (y4n (x79 (x01 (eC (.int 0)) (x0g))) (x17 2)) true ((List.range n).map fun i=>x7v n B i)
  [some (scr ns,0),some (.int t,9),some (x3j n B,0),some (.lst [],1),x,none,none,none] =
  some ((List.range n).map fun i=>x7v n (fun _ _=>0) i,[some (scr ns,0),some (.int t,9),some (x3j n B,0),some (.lst [],1),x,none,none,none]):=by
 have h:=x4h (k:=1) (pt:=x0k 8) (tt:=x1m) (te:=y4n (x79 (x01 (eC (.int 0)) (x0g))) (x17 2)) (deep:=true) ((List.range n).map fun i=>x7v n B i)
  (fun _=>[some (scr ns,0),some (.int t,9),some (x3j n B,0),some (.lst [],1),x,none,none,none]) (fun _=>true) (fun i=>x7v n (fun _ _=>0) i) (fun k hk=>?_)
 ·rw[List.length_map,List.length_range,show(List.range n).filter (fun _=>true)=List.range n by simp]at h
  exact h
 ·refine⟨[some (scr ns,0),some (.int t,9),some (x3j n B,0),some (.lst [],1),x,none,none,none,some (x7v n B k,0)],_,by simp[x7v],rfl,?_⟩
  rw[if_pos rfl]
  refine⟨1,[some (scr ns,0),some (.int t,9),some (x3j n B,0),some (.lst [],1),x,none,none,none,some (x7v n B k,0)],?_,by simp,by simp⟩
  have z:x7v n (fun _ _=>0) k=D.lst (List.replicate n [D.int 0]).flatten:=(j1m n).symm
  have b1:(-1000:Int)<=n:=by omega
  have b2:(n:Int)<=1000:=by omega
  have b3:n<=1000:=by omega
  rw[z]
  simp[x7r,b1,b2,b3]
noncomputable def gst (π ι:Nat->Nat) (i j a b:Nat):Nat:=if ι a<i\/(ι a=i/\ι b<j)then π (B (ι a) (ι b))else 0
noncomputable abbrev y4q:x1l:=y79 5 (qIx 4 (z3c 6)) (qIx 4 (z3c 7)) (x1q 4 (eIx (x1q 2 (x05 6)) (x05 7)))
section
variable {n B} {π ι:Nat->Nat} (cl:∀ i j,i<n->j<n->B i j<n) (h1:∀ i,i<n->π i<n) (h2:∀ i,i<n->ι i<n) (h3:∀ i,i<n->ι (π i)=i) (h4:∀ i,i<n->π (ι i)=i)
include cl h1 h2 h3 h4
theorem y8y {f:Nat->Nat->Nat} {i j:Nat} (hi:i<n) (hj:j<n) {y:Option (D × Nat)} :
  y4q [some (scr ns,0),some (.int t,9),some (x3j n B,0),some (.lst [],1),some (.lst (x0l ((List.range n).map π)),1),some (x3j n f,2),some (.int (Int.ofNat i),9),some (.int (Int.ofNat j),9)] =
  some (.nx [some (scr ns,0),some (.int t,9),some (x3j n B,0),some (.lst [],1),some (.lst (x0l ((List.range n).map π)),1),some (x3j n (fun a b=>if a=π i/\b=π j then π (B i j)else f a b),2),some (.int (Int.ofNat i),9),some (.int (Int.ofNat j),9)]):=by
 have a1:=z40 (f:=B) hi
 have a2:=z5d (f:=B) (i:=i) hj
 have a3:atD (.lst (x0l ((List.range n).map π))) (Int.ofNat (B i j))=some (.int (Int.ofNat (π (B i j)))):=x2e (cl i j hi hj)
 have a4:atD (.lst (x0l ((List.range n).map π))) (Int.ofNat i)=some (.int (Int.ofNat (π i))):=x2e hi
 have a5:atD (.lst (x0l ((List.range n).map π))) (Int.ofNat j)=some (.int (Int.ofNat (π j))):=x2e hj
 have a6:ixN ((List.range n).map fun a=>x7v n f a).length (Int.ofNat (π i))=some (π i):=y2r (by simpa using h1 i hi)
 have a7:((List.range n).map fun a=>x7v n f a)[π i]? = some (.lst (x0l ((List.range n).map fun b=>f (π i) b))):=by rw[List.getElem?_map,List.getElem?_range (h1 i hi)]; rfl
 have a8:ixN (x0l ((List.range n).map fun b=>f (π i) b)).length (Int.ofNat (π j))=some (π j):=y2r (by simpa [x1h]using h1 j hj)
 have a9:=z0v (n:=n) (f:=f) (a:=π i) (b:=π j) (v:=π (B i j))
 rw[<- a9]
 show y4q [some (scr ns,0),some (.int t,9),some (x3j n B,0),some (.lst [],1),some (.lst (x0l ((List.range n).map π)),1),some (.lst ((List.range n).map fun a=>x7v n f a),2),some (.int (Int.ofNat i),9),some (.int (Int.ofNat j),9)]=_
 unfold y4q
 simp only[y79,x1q,eIx,x05,qIx,z3c,List.getElem?_cons_succ,List.getElem?_cons_zero,D.isL,if_true,a1,a2,a3,a4,a5,a6,a7,a8,ne_eq,not_true_eq_false,false_and,and_false,if_false,Bool.false_eq_true,reduceCtorEq,Nat.not_lt_zero,Nat.lt_irrefl,x4o,List.set_cons_succ,List.set_cons_zero]
noncomputable abbrev y6h (f:Nat->Nat->Nat) (x y:Option (D × Nat)):Rho:=[some (scr ns,0),some (.int t,9),some (x3j n B,0),some (.lst [],1),some (.lst (x0l ((List.range n).map π)),1),some (x3j n f,2),x,y]
omit cl h1 h2 h3 h4
theorem x6j {i:Nat} (h:i<(x0c n).length):(x0c n)[i]=.int (Int.ofNat i):=by simp[x0c]
include cl h1 h2 h3 h4
theorem z2c {i j:Nat} (hi:i<n) (hj:j<n):x3j n (fun a b=>if a=π i/\b=π j then π (B i j)else gst B π ι i j a b)=x3j n (gst B π ι i (j+1)):=by
 refine x6c fun a b ha hb=>?_
 unfold gst
 by_cases h:a=π i/\b=π j
 ·obtain⟨rfl,rfl⟩:=h
  rw[if_pos ⟨rfl,rfl⟩,h3 i hi,h3 j hj,if_pos (.inr ⟨rfl,Nat.lt_succ_self _⟩)]
 ·rw[if_neg h]
  have:¬ (ι a=i/\ι b=j):=fun⟨e1,e2⟩=>h ⟨by rw[<- e1,h4 a ha],by rw[<- e2,h4 b hb]⟩
  by_cases c:ι a<i\/ι a=i/\ι b<j
  ·rw[if_pos c,if_pos (by omega)]
  ·rw[if_neg c,if_neg (by omega)]
theorem z5h {i:Nat}:x3j n (gst B π ι i n)=x3j n (gst B π ι (i+1) 0):=by
 refine x6c fun a b ha hb=>?_
 have:=h2 b hb
 unfold gst
 by_cases c:ι a<i\/ι a=i/\ι b<n
 ·rw[if_pos c,if_pos (by omega)]
 ·rw[if_neg c,if_neg (by omega)]
theorem z1f (hn:n<=16) {i:Nat} (hi:i<n) (y:Option (D × Nat)):∃ y',x99 (x0k 7) y4q (x0c n) (y6h ns t (n:=n) (B:=B) (π:=π) (gst B π ι i 0) (some (.int (Int.ofNat i),9)) y) =
  some (.nx (y6h ns t (n:=n) (B:=B) (π:=π) (gst B π ι (i+1) 0) (some (.int (Int.ofNat i),9)) y')):=by
 obtain⟨ρ',e,y',rfl⟩:=x4e (pt:=x0k 7) (body:=y4q) (x0c n) (fun j ρ=>∃ y,ρ=y6h ns t (n:=n) (B:=B) (π:=π) (gst B π ι i j) (some (.int (Int.ofNat i),9)) y) (y6h ns t (n:=n) (B:=B) (π:=π) (gst B π ι i 0) (some (.int (Int.ofNat i),9)) y) (fun j hj ρ hh0=>by
  obtain⟨y,hy⟩:=hh0
  subst hy
  rw[x0r]at hj
  refine⟨y6h ns t (n:=n) (B:=B) (π:=π) (gst B π ι i j) (some (.int (Int.ofNat i),9)) (some (.int (Int.ofNat j),9)),_,by rw[x6j]; simp,.inl (y8y ns t cl h1 h2 h3 h4 hi hj (y:=none)),?_⟩
  rw[z2c cl h1 h2 h3 h4 hi hj]
  exact⟨_,rfl⟩) ⟨y,rfl⟩
 refine⟨y',?_⟩
 rw[e,x0r]
 show some (Out.nx [_,_,_,_,_,some (x3j n (gst B π ι i n),2),_,_])=_
 rw[z5h cl h1 h2 h3 h4]
theorem z2f (hn:n<=16) (x y:Option (D × Nat)):∃ x' y',x99 (x0k 6) (x7b (x10 (x01 (x17 2) x0g)) (x0k 7) y4q) (x0c n) (y6h ns t (n:=n) (B:=B) (π:=π) (fun _ _=>0) x y) =
  some (.nx (y6h ns t (n:=n) (B:=B) (π:=π) (fun a b=>π (B (ι a) (ι b))) x' y')):=by
 have z:x3j n (fun _ _=>0)=x3j n (gst B π ι 0 0):=x6c fun a b _ _=>by unfold gst; rw[if_neg (by omega)]
 have z':x3j n (gst B π ι n 0)=x3j n (fun a b=>π (B (ι a) (ι b))):=x6c fun a b ha _=>by unfold gst; rw[if_pos (.inl (h2 a ha))]
 obtain⟨ρ',e,x',y',rfl⟩:=x4e (pt:=x0k 6) (body:=x7b (x10 (x01 (x17 2) x0g)) (x0k 7) y4q) (x0c n) (fun i ρ=>∃ x y,ρ=y6h ns t (n:=n) (B:=B) (π:=π) (gst B π ι i 0) x y) (y6h ns t (n:=n) (B:=B) (π:=π) (gst B π ι 0 0) x y) (fun i hi ρ hh0=>by
  obtain⟨x,y,hy⟩:=hh0
  subst hy
  rw[x0r]at hi
  obtain⟨y',hy'⟩:=z1f ns t cl h1 h2 h3 h4 hn hi y
  refine⟨y6h ns t (n:=n) (B:=B) (π:=π) (gst B π ι i 0) (some (.int (Int.ofNat i),9)) y,_,by rw[x6j]; simp,.inl (show _=some (Out.nx (y6h ns t (n:=n) (B:=B) (π:=π) (gst B π ι (i+1) 0) (some (.int (Int.ofNat i),9)) y'))from ?_),⟨_,_,rfl⟩⟩
  have b1:(-1000:Int)<=Int.ofNat n:=by show(-1000:Int)<=n; omega
  have b2:Int.ofNat n<=1000:=by show(n:Int)<=1000; omega
  have e:x10 (x01 (x17 2) x0g) (y6h ns t (n:=n) (B:=B) (π:=π) (gst B π ι i 0) (some (.int (Int.ofNat i),9)) y)=some (x0c n,y6h ns t (n:=n) (B:=B) (π:=π) (gst B π ι i 0) (some (.int (Int.ofNat i),9)) y):=by
   simp[-Int.ofNat_eq_natCast,x7r,b1,b2]
   rfl
  unfold x7b
  rw[e]
  exact hy') ⟨x,y,rfl⟩
 refine⟨x',y',?_⟩
 show x99 _ _ _ [_,_,_,_,_,some (x3j n (fun _ _=>0),2),_,_]=some (.nx [_,_,_,_,_,some (x3j n (fun a b=>π (B (ι a) (ι b))),2),_,_])
 rw[z,<- z']
 rw[x0r]at e
 exact e
end
end
theorem z0b {n:Nat} {f:Nat->Nat->Nat} {a b c d e:Option (D × Nat)} {x y:Option (D × Nat)}:x6k 1 (x0k 8) x1m (x1x (x01 (x05 8) x0g)) false ((List.range n).map fun i=>x7v n f i) [a,b,c,d,e,some (x3j n f,0),x,y] =
  some ((List.range n).map fun i=>y2w n f i,[a,b,c,d,e,some (x3j n f,0),x,y]):=by
 have h:=x4h (k:=1) (pt:=x0k 8) (tt:=x1m) (te:=x1x (x01 (x05 8) x0g)) (deep:=false) ((List.range n).map fun i=>x7v n f i)
  (fun _=>[a,b,c,d,e,some (x3j n f,0),x,y]) (fun _=>true) (fun i=>y2w n f i) (fun k hk=>?_)
 ·rw[List.length_map,List.length_range,show(List.range n).filter (fun _=>true)=List.range n by simp]at h
  exact h
 ·refine⟨[a,b,c,d,e,some (x3j n f,0),x,y,some (x7v n f k,0)],_,by simp[x7v],rfl,?_⟩
  rw[if_pos rfl]
  exact⟨9,[a,b,c,d,e,some (x3j n f,0),x,y,some (x7v n f k,0)],by simp[x7v,y2w],by simp,by simp⟩
theorem x46 {n:Nat} (hn:n<=1000) {i:Nat} {ρ:Rho} {d:D} {q:Nat} (h:ρ[i]? = some (some (d,q))) (hl:x7c d=some n):x10 (x01 (x17 i) x0g) ρ=some (x0c n,ρ):=by
 have b1:(-1000:Int)<=Int.ofNat n:=by show(-1000:Int)<=n; omega
 have b2:Int.ofNat n<=1000:=by show(n:Int)<=1000; omega
 simp only[x10,x01,x17,x0g,h,hl]
 rw[if_pos ⟨b1,b2⟩]
 rfl
theorem z3e (ns:List Int) (t:Int) (h0:0<=t):∃ n f,Lad n f/\x2s [scr ns,.int t]=some (x07 n f,9):=by
 obtain⟨rows,hm,q,hb⟩:=z45 ns t h0
 have L:=z46 (z0x rows hm)
 unfold x39 at hb
 revert hb L
 generalize rows.length=n
 generalize tf rows=B
 intro hb L
 have hp:=z60 ns t
 have hn:n<=1000:=Nat.le_trans L.hi (by decide)
 refine⟨n,fun a b=>drawn (pk ns t) n (B (x3a (pk ns t) n a) (x3a (pk ns t) n b)),L.ren (fun i hi=>y6m hp hi) (fun i hi=>y1g hp hi) (fun i hi=>x80 hp hi) (fun i hi=>x7e hp hi),?_⟩
 unfold x2s x7i
 refine x2w ?_
 have s0:x3z 8 [scr ns,.int t]=[some (scr ns,0),some (.int t,9),none,none,none,none,none,none]:=rfl
 rw[s0]
 refine(x0j (ρ1:=[some (scr ns,0),some (.int t,9),some (x3j n B,q),none,none,none,none,none]) ?_).trans ?_
 ·simp[hb]
 refine(x0j (ρ1:=[some (scr ns,0),some (.int t,9),some (x3j n B,q),some (.lst (x0c n),1),none,none,none,none]) ?_).trans ?_
 ·exact x1y (x9y (x46 hn rfl x7r)) rfl
 refine(x0j (ρ1:=[some (scr ns,0),some (.int t,9),some (x3j n B,q),some (.lst [],1),some (.lst (x0l ((List.range n).map (drawn (pk ns t) n))),1),none,none,none]) ?_).trans ?_
 ·exact x1y (x1e (x46 hn rfl x7r) (z0u ns t n B q h0 L.hi)) rfl
 refine(x0j (ρ1:=[some (scr ns,0),some (.int t,9),some (x3j n B,0),some (.lst [],1),some (.lst (x0l ((List.range n).map (drawn (pk ns t) n))),1),some (x3j n (fun _ _=>0),2),none,none]) ?_).trans ?_
 ·have e:x7a (x05 2) [some (scr ns,0),some (.int t,9),some (x3j n B,q),some (.lst [],1),some (.lst (x0l ((List.range n).map (drawn (pk ns t) n))),1),none,none,none]=some ((List.range n).map fun i=>x7v n B i,[some (scr ns,0),some (.int t,9),some (x3j n B,0),some (.lst [],1),some (.lst (x0l ((List.range n).map (drawn (pk ns t) n))),1),none,none,none]):=by
   by_cases hq:q=0
   ·subst hq; simp[x3j,hn]
   ·simp[x3j,hn,hq]
  exact x1y (x1e e (z6m ns t n B L.hi _)) rfl
 obtain⟨x',y',hf⟩:=z2f ns t (n:=n) (B:=B) (π:=drawn (pk ns t) n) (ι:=x3a (pk ns t) n) L.cl (fun i hi=>y6m hp hi) (fun i hi=>y1g hp hi) (fun i hi=>x80 hp hi) (fun i hi=>x7e hp hi) L.hi none none
 refine(x0j ((x2x (x46 hn rfl x7r)).trans hf)).trans ?_
 refine x33 (ρ1:=[some (scr ns,0),some (.int t,9),some (x3j n B,0),some (.lst [],1),some (.lst (x0l ((List.range n).map (drawn (pk ns t) n))),1),some (x3j n (fun a b=>drawn (pk ns t) n (B (x3a (pk ns t) n a) (x3a (pk ns t) n b))),0),x',y']) ?_
 have e:x7a (x05 5) (y6h ns t (n:=n) (B:=B) (π:=drawn (pk ns t) n) (fun a b=>drawn (pk ns t) n (B (x3a (pk ns t) n a) (x3a (pk ns t) n b))) x' y')=some ((List.range n).map fun i=>x7v n (fun a b=>drawn (pk ns t) n (B (x3a (pk ns t) n a) (x3a (pk ns t) n b))) i,[some (scr ns,0),some (.int t,9),some (x3j n B,0),some (.lst [],1),some (.lst (x0l ((List.range n).map (drawn (pk ns t) n))),1),some (x3j n (fun a b=>drawn (pk ns t) n (B (x3a (pk ns t) n a) (x3a (pk ns t) n b))),0),x',y']):=by
  simp[x3j,hn]
 have e2:=x1e (k:=1) (pt:=x0k 8) (tt:=x1m) (te:=x1x (x01 (x05 8) x0g)) (deep:=false) e z0b
 exact x1j (x15 e2)
section
variable {n:Nat} {f:Nat->Nat->Nat}
theorem x73 {x w:Nat} (hx:x<n) (hw:w<n):x2t [x07 n f,.int (Int.ofNat x),.int (Int.ofNat w)]=some (.bl (decide (f x w=w)),9):=by
 unfold x2t y1c
 simp[-Int.ofNat_eq_natCast,x49 hx,x4l hw,y4v]
theorem z1v (hn:n<=1000) {w:Nat} (hw:w<n):x5s [x07 n f,.int (Int.ofNat w)]=some (.lst (x0l ((List.range n).filter fun x=>decide (f x w=w))),1):=by
 unfold x5s y9a
 refine x2w (x33 (x1e (deep:=false) (ρ2:=[some (x07 n f,9),some (.int (Int.ofNat w),9)]) (x46 hn rfl x20) ?_))
 refine x8q (i:=2) (ρ:=[some (x07 n f,9),some (.int (Int.ofNat w),9)]) (deep:=false) rfl (fun x=>decide (f x w=w)) (fun x=>.int (Int.ofNat x)) (fun _=>9) (fun j hj=>?_) (fun j hj _=>?_)
 ·simp[-Int.ofNat_eq_natCast,x73 hj hw]
 ·simp[-Int.ofNat_eq_natCast]
end
section
variable {n:Nat} {f:Nat->Nat->Nat}
theorem z0f (hn:n<=1000) {w:Nat} (hw:w<n):x2b [x07 n f,.int (Int.ofNat w)]=some (.lst (x0l ((List.range n).filter fun x=>decide (f x w=w))),1):=by
 unfold x2b x93
 refine x2w (x33 (x1e (deep:=false) (ρ2:=[some (x07 n f,9),some (.int (Int.ofNat w),9)]) (x46 hn rfl x20) ?_))
 refine x8q (i:=2) (ρ:=[some (x07 n f,9),some (.int (Int.ofNat w),9)]) (deep:=false) rfl (fun x=>decide (f x w=w)) (fun x=>.int (Int.ofNat x)) (fun _=>9) (fun j hj=>?_) (fun j hj _=>?_)
 ·simp[-Int.ofNat_eq_natCast,x49 hj,x4l hw,y4v]
 ·simp[-Int.ofNat_eq_natCast]
variable (L:Lad n f) {z:Nat} (hz:z<n) (bz:∀ j,j<n->f z j=j)
include L hz bz
theorem j0e {w:Nat} (hw:w<n):decide ((List.range n).map (fun j=>f w j)=List.range n)=decide (w=z):=by
 rw[decide_eq_decide,y3g]
 exact⟨fun h=>L.bot_uniq hz bz hw h,fun h=>by subst h; exact bz⟩
theorem z32 (hn:n<=1000):x3m [x07 n f]=some (.int (Int.ofNat z),9):=by
 unfold x3m y1d
 refine x2w (x33 (ρ1:=[some (x07 n f,9)]) ?_)
 have hc:x2h 1 (x10 (x01 (x17 0) (x0g))) (x0k 1) (x3u (e2 dEq (x8o (x01 (x1q 0 (x05 1)) (x0g))) (x6v (x01 (x17 0) (x0g))))) (x05 1) false (x3z 1 [x07 n f])=some (.lst (x0l [z]),1,[some (x07 n f,9)]):=by
  refine(x1e (deep:=false) (ρ2:=[some (x07 n f,9)]) (x46 hn rfl x20) (x8q rfl (fun x=>decide (x=z)) (fun x=>.int (Int.ofNat x)) (fun _=>9) (fun j hj=>?_) (fun j hj _=>?_))).trans ?_
  ·have e1:x8o (x01 (x1q 0 (x05 1)) x0g) ([some (x07 n f,9)]++[some (.int (Int.ofNat j),9)])=some (.lst (x0l ((List.range n).map fun k=>f j k)),1,[some (x07 n f,9),some (.int (Int.ofNat j),9)]):=by
    simp[-Int.ofNat_eq_natCast,x49 hj,y2w]
   have e2':x6v (x01 (x17 0) x0g) [some (x07 n f,9),some (.int (Int.ofNat j),9)]=some (.lst (x0l (List.range n)),1,[some (x07 n f,9),some (.int (Int.ofNat j),9)]):=x9y (x46 hn rfl x20)
   unfold x3u e2
   rw[e1]
   simp only[e2',j1e,j0e L hz bz hj]
   rfl
  ·simp[-Int.ofNat_eq_natCast]
  ·rw[y1m,if_pos hz]
   rfl
 unfold eIx
 rw[hc]
 simp[-Int.ofNat_eq_natCast,atD,x0l,L2.atI,ixN]
theorem z57 (hn:n<=1000) {l:List Nat} (hl:l.length<=1000) (hm:∀ x∈l,x<n):x34 [x07 n f,.lst (x0l l)]=some (.int (Int.ofNat (l.foldl f z)),9):=by
 unfold x34 x9r
 refine x2w ?_
 refine(x0j (ρ1:=[some (x07 n f,9),some (.lst (x0l l),0),some (.int (Int.ofNat z),9),none]) ?_).trans ?_
 ·simp[-Int.ofNat_eq_natCast,z32 L hz bz hn]
 obtain⟨ρ',e,y,rfl⟩:=x4e (pt:=x0k 3) (body:=x2i 2 (eIx (x1q 0 (x05 2)) (x05 3))) (x0l l) (fun i ρ=>∃ y,ρ=[some (x07 n f,9),some (.lst (x0l l),0),some (.int (Int.ofNat ((l.take i).foldl f z)),9),y]) [some (x07 n f,9),some (.lst (x0l l),0),some (.int (Int.ofNat z),9),none] (fun i hi ρ hh0=>by
  obtain⟨y,hy⟩:=hh0
  subst hy
  have hi':i<l.length:=by rw[x1h]at hi; exact hi
  have hg:(x0l l)[i]=.int (Int.ofNat l[i]):=by simp[x0l]
  have hx:l[i]<n:=hm _ (List.getElem_mem hi')
  have ha:(l.take i).foldl f z<n:=L.fold_lt hz fun x m=>hm x (List.mem_of_mem_take m)
  refine⟨[some (x07 n f,9),some (.lst (x0l l),0),some (.int (Int.ofNat ((l.take i).foldl f z)),9),some (.int (Int.ofNat l[i]),9)],[some (x07 n f,9),some (.lst (x0l l),0),some (.int (Int.ofNat ((l.take (i+1)).foldl f z)),9),some (.int (Int.ofNat l[i]),9)],?_,.inl ?_,⟨_,rfl⟩⟩
  ·rw[hg]; simp
  ·rw[List.take_succ_eq_append_getElem hi',List.foldl_append]
   simp[-Int.ofNat_eq_natCast,x49 ha,x4l hx]) ⟨none,rfl⟩
 rw[x1h,List.take_length]at e
 refine(x0j ((x2x (ds:=x0l l) (ρ1:=[some (x07 n f,9),some (.lst (x0l l),0),some (.int (Int.ofNat z),9),none]) ?_).trans e)).trans ?_
 ·simp[x1h,hl]
 ·simp[-Int.ofNat_eq_natCast]
end
section
variable {n:Nat} {f:Nat->Nat->Nat}
variable (L:Lad n f) {z:Nat} (hz:z<n) (bz:∀ j,j<n->f z j=j)
include L hz bz
theorem y2u (hn:n<=1000):x37 [x07 n f]=some (.int (Int.ofNat z),9):=by
 have b1:(-1000:Int)<=Int.ofNat n:=by show(-1000:Int)<=n; omega
 have b2:Int.ofNat n<=1000:=by show(n:Int)<=1000; omega
 have hr:x2z [.int (Int.ofNat n)]=some (.tup (x0l (List.range n)),9):=by
  unfold x2z x6q
  simp[-Int.ofNat_eq_natCast,b1,b2]
  rfl
 have hi:j0q (.tup (x0l (List.range n))) ((List.range n).map fun i=>y2w n f i)=some z:=by
  unfold j0q
  rw[y69,List.map_map]
  have ev:∀ i,i<n->PyData.eqv (toP (y2w n f i)) (toP (.tup (x0l (List.range n))))=decide (i=z):=fun i hi=>(z65 _ _).trans (j0e L hz bz hi)
  refine x7m (x:=toP (y2w n f z)) ?_ ?_ ?_
  ·rw[List.getElem?_map,List.getElem?_range hz]; rfl
  ·rw[ev z hz]; simp
  ·intro i y hi hy
   have hi':i<n:=Nat.lt_trans hi hz
   rw[List.getElem?_map,List.getElem?_range hi']at hy
   cases hy
   refine(ev i hi').trans ?_
   simp; omega
 have h1:okD (.tup ((List.range n).map fun i=>y2w n f i))=true:=(z69 n f).ok
 have h2:okD (.tup (x0l (List.range n)))=true:=(z5g _).ok
 have hl:x7c (.tup ((List.range n).map fun i=>y2w n f i))=some n:=x20 (f:=f)
 unfold x37 y1s x07
 simp[-Int.ofNat_eq_natCast,hr,hl,h1,h2,hi]
end
section
variable {n:Nat} {f:Nat->Nat->Nat}
noncomputable def x9l (n:Nat) (f:Nat->Nat->Nat) (r:Nat->Nat):Bool:=(List.range n).all fun y=>(Lad.low n f y).all fun x=>decide (f (r x) (r y)=r y)
theorem x8i {r:Nat->Nat}:x9l n f r=true ↔ ∀ y x,y<n->x<n->f x y=y->f (r x) (r y)=r y:=by
 unfold x9l
 rw[L3.range_all]
 simp only[List.all_eq_true,Lad.mem_low,decide_eq_true_eq]
 exact⟨fun h y x hy hx e=>h y hy x ⟨hx,e⟩,fun h y hy x e=>h y x hy e.1 e.2⟩
theorem y27 (hn:n<=1000) {r:Nat->Nat} (hr:∀ i,i<n->r i<n):x77 [x07 n f,x0b n r]=some (.bl (x9l n f r),9):=by
 unfold x77 y7m
 refine x2w ?_
 have hs:x3z 4 [x07 n f,x0b n r]=[some (x07 n f,9),some (x0b n r,9),none,none]:=rfl
 rw[hs]
 obtain⟨h1,h2⟩:=x7k (pt:=x0k 2) (body:=x7b (x7a (x0p x5s 2 (x01 (x05 0) (x01 (x05 2) (x0g))))) (x0k 3) (sIf (x61 (y0r (x0p x2t 3 (x01 (x05 0) (x01 (x1q 1 (x05 3)) (x01 (x1q 1 (x05 2)) (x0g))))))) (x2u (eC (.bl false))) (x6b))) (d:=.bl false) (q:=9) (x0c n) (fun ρ=>∃ x y,ρ=[some (x07 n f,9),some (x0b n r,9),x,y]) (fun y=>(Lad.low n f y).all fun x=>decide (f (r x) (r y)=r y)) [some (x07 n f,9),some (x0b n r,9),none,none] (fun y hy ρ ⟨a,b,e⟩=>by
  subst e
  have hy':y<n:=by rw[x0r]at hy; exact hy
  refine⟨[some (x07 n f,9),some (x0b n r,9),some (.int (Int.ofNat y),9),b],by rw[show(x0c n)[y]=.int (Int.ofNat y)by simp[x0c]]; simp,?_⟩
  have hl:(x0l (Lad.low n f y)).length<=1000:=by
   rw[x1h]
   have:=List.length_filter_le (fun x=>decide (f x y=y)) (List.range n)
   rw[List.length_range]at this
   exact Nat.le_trans this hn
  have hi:x7a (x0p x5s 2 (x01 (x05 0) (x01 (x05 2) (x0g)))) [some (x07 n f,9),some (x0b n r,9),some (.int (Int.ofNat y),9),b]=some (x0l (Lad.low n f y),[some (x07 n f,9),some (x0b n r,9),some (.int (Int.ofNat y),9),b]):=by
   have hb:x5s [x07 n f,.int (Int.ofNat y)]=some (.lst (x0l (Lad.low n f y)),1):=z1v hn hy'
   simp[-Int.ofNat_eq_natCast,hb,hl]
  obtain⟨i1,i2⟩:=x7k (pt:=x0k 3) (body:=sIf (x61 (y0r (x0p x2t 3 (x01 (x05 0) (x01 (x1q 1 (x05 3)) (x01 (x1q 1 (x05 2)) (x0g))))))) (x2u (eC (.bl false))) (x6b)) (d:=.bl false) (q:=9) (x0l (Lad.low n f y)) (fun ρ=>∃ b,ρ=[some (x07 n f,9),some (x0b n r,9),some (.int (Int.ofNat y),9),b]) (fun i=>decide (f (r ((Lad.low n f y).getD i 0)) (r y)=r y)) [some (x07 n f,9),some (x0b n r,9),some (.int (Int.ofNat y),9),b] (fun i hi' ρ ⟨b,e⟩=>by
   subst e
   have hm:=y24 (l:=Lad.low n f y) (i:=i) (by rw[x1h]at hi'; exact hi')
   have hx:=(Lad.mem_low.mp hm).1
   rw[y49 hi']
   refine⟨[some (x07 n f,9),some (x0b n r,9),some (.int (Int.ofNat y),9),some (.int (Int.ofNat ((Lad.low n f y).getD i 0)),9)],by simp,fun ok=>⟨[some (x07 n f,9),some (x0b n r,9),some (.int (Int.ofNat y),9),some (.int (Int.ofNat ((Lad.low n f y).getD i 0)),9)],?_,⟨_,rfl⟩⟩,fun no=>?_⟩
   ·have ok':=of_decide_eq_true ok
    simp[-Int.ofNat_eq_natCast,-List.getD_eq_getElem?_getD,x25 hx,x25 hy',x73 (f:=f) (hr _ hx) (hr _ hy'),ok']
   ·have no':=of_decide_eq_false no
    simp[-Int.ofNat_eq_natCast,-List.getD_eq_getElem?_getD,x25 hx,x25 hy',x73 (f:=f) (hr _ hx) (hr _ hy'),no']) ⟨b,rfl⟩
  rw[x1h,y6l (fun x=>decide (f (r x) (r y)=r y))]at i1 i2
  refine⟨fun ok=>?_,fun no=>(x2x hi).trans (i2 no)⟩
  obtain⟨ρ2,e,b',rfl⟩:=i1 ok
  exact⟨_,(x2x hi).trans e,_,_,rfl⟩) ⟨none,none,rfl⟩
 rw[x0r]at h1 h2
 cases h:x9l n f r with
 | true=>
  obtain⟨ρ',e,x,y,rfl⟩:=h1 h
  exact(x0j ((x2x (x46 hn rfl x20)).trans e)).trans rfl
 | false=>exact x8n ((x2x (x46 hn rfl x20)).trans (h2 h))
end
section
variable {n:Nat} {f:Nat->Nat->Nat}
variable (L:Lad n f) {z:Nat} (hz:z<n) (bz:∀ j,j<n->f z j=j)
include L hz bz
theorem y0p (ns:List Int) (t:Int) (h0:0<=t):∃ d:Nat->Nat,(∀ i,i<n->d i<n)/\x1p [scr ns,.int t,x07 n f]=some (x0b n (Lad.lr n f z d),9):=by
 have hn:n<=1000:=Nat.le_trans L.hi (by decide)
 have hnp:(0:Int)<Int.ofNat n:=by show(0:Int)<(n:Int); omega
 -- what is drawn for a worth
 have dr:∀ i,∃ v,v<n/\(i<n->∀ ρ:Rho,ρ[0]? = some (some (scr ns,0))->ρ[1]? = some (some (.int t,9))->ρ[2]? = some (some (x07 n f,9))->ρ[3]? = some (some (.int (Int.ofNat z),9))->ρ[5]? = some (some (.int (Int.ofNat i),9))->
   eIx (x79 (x01 (x05 3) (x01 (x05 5) (x01 (x0p x0a 3 (x01 (x05 0) (x01 (e2 x2p (x05 1) (x05 5)) (x01 (x17 2) (x0g))))) (x0g))))) (x0p x0a 3 (x01 (x05 0) (x01 (e2 x2p (e2 x2p (x05 1) (eC (.int 8))) (x05 5)) (x01 (eC (.int 3)) (x0g))))) ρ=some (.int (Int.ofNat v),9,ρ)):=fun i=>by
  have e1:=x5e ns (t+Int.ofNat i) (Int.ofNat n) (by show 0<=t+(i:Int); omega) hnp
  have e2':=x5e ns (t+8+Int.ofNat i) 3 (by show 0<=t+8+(i:Int); omega) (by decide)
  have l1:=x44 ns (t+Int.ofNat i) hnp
  have l2:=x58 ns (t+Int.ofNat i) hnp
  have k1:=x44 ns (t+8+Int.ofNat i) (m:=3) (by decide)
  have k2:=x58 ns (t+8+Int.ofNat i) (m:=3) (by decide)
  generalize x52 ns (t+Int.ofNat i) (Int.ofNat n)=a at *
  generalize x52 ns (t+8+Int.ofNat i) 3=b at *
  obtain⟨a',rfl⟩:∃ a':Nat,a=Int.ofNat a':=⟨a.toNat,by show a=(a.toNat:Int); omega⟩
  have ha':a'<n:=by have:(a':Int)<(n:Int):=l2; omega
  by_cases hi:i<n
  ·have hb:b=0\/b=1\/b=2:=by omega
   rcases hb with rfl | rfl | rfl
   ·refine⟨z,hz,fun _ ρ h0 h1 h2 h3 h5=>?_⟩
    simp[-Int.ofNat_eq_natCast,h0,h1,h2,h3,h5,x20,e1,e2',atD,L2.atI,ixN]
   ·refine⟨i,hi,fun _ ρ h0 h1 h2 h3 h5=>?_⟩
    simp[-Int.ofNat_eq_natCast,h0,h1,h2,h3,h5,x20,e1,e2',atD,L2.atI,ixN]
   ·refine⟨a',ha',fun _ ρ h0 h1 h2 h3 h5=>?_⟩
    simp[-Int.ofNat_eq_natCast,h0,h1,h2,h3,h5,x20,e1,e2',atD,L2.atI,ixN]
  ·exact⟨z,hz,fun h=>absurd h hi⟩
 obtain⟨d,hd⟩:∃ d:Nat->Nat,∀ i,d i<n/\(i<n->∀ ρ:Rho,ρ[0]? = some (some (scr ns,0))->ρ[1]? = some (some (.int t,9))->ρ[2]? = some (some (x07 n f,9))->ρ[3]? = some (some (.int (Int.ofNat z),9))->ρ[5]? = some (some (.int (Int.ofNat i),9))->
   eIx (x79 (x01 (x05 3) (x01 (x05 5) (x01 (x0p x0a 3 (x01 (x05 0) (x01 (e2 x2p (x05 1) (x05 5)) (x01 (x17 2) (x0g))))) (x0g))))) (x0p x0a 3 (x01 (x05 0) (x01 (e2 x2p (e2 x2p (x05 1) (eC (.int 8))) (x05 5)) (x01 (eC (.int 3)) (x0g))))) ρ=some (.int (Int.ofNat (d i)),9,ρ)):=
  ⟨fun i=>(dr i).choose,fun i=>(dr i).choose_spec⟩
 refine⟨d,fun i _=>(hd i).1,?_⟩
 unfold x1p x9t
 refine x2w ?_
 have hs:x3z 7 [scr ns,.int t,x07 n f]=[some (scr ns,0),some (.int t,9),some (x07 n f,9),none,none,none,none]:=rfl
 rw[hs]
 refine(x0j (ρ1:=[some (scr ns,0),some (.int t,9),some (x07 n f,9),some (.int (Int.ofNat z),9),none,none,none]) ?_).trans ?_
 ·simp[-Int.ofNat_eq_natCast,z32 L hz bz hn]
 refine(x0j (ρ1:=[some (scr ns,0),some (.int t,9),some (x07 n f,9),some (.int (Int.ofNat z),9),some (.lst [],1),none,none]) ?_).trans ?_
 ·simp
 obtain⟨ρ',e,y,rfl⟩:=x4e (pt:=x0k 5) (body:=x3w (y09 4 (x01 (eIx (x79 (x01 (x05 3) (x01 (x05 5) (x01 (x0p x0a 3 (x01 (x05 0) (x01 (e2 x2p (x05 1) (x05 5)) (x01 (x17 2) (x0g))))) (x0g))))) (x0p x0a 3 (x01 (x05 0) (x01 (e2 x2p (e2 x2p (x05 1) (eC (.int 8))) (x05 5)) (x01 (eC (.int 3)) (x0g)))))) (x0g)))) (x0c n)
  (fun i ρ=>∃ y,ρ=[some (scr ns,0),some (.int t,9),some (x07 n f,9),some (.int (Int.ofNat z),9),some (.lst (x0l ((List.range i).map d)),1),y,none])
  [some (scr ns,0),some (.int t,9),some (x07 n f,9),some (.int (Int.ofNat z),9),some (.lst [],1),none,none] (fun i hi ρ hh0=>by
   obtain⟨y,hy⟩:=hh0
   subst hy
   have hi':i<n:=by rw[x0r]at hi; exact hi
   have hdi:=(hd i).2 hi' [some (scr ns,0),some (.int t,9),some (x07 n f,9),some (.int (Int.ofNat z),9),some (.lst (x0l ((List.range i).map d)),1),some (.int (Int.ofNat i),9),none] rfl rfl rfl rfl rfl
   refine⟨[some (scr ns,0),some (.int t,9),some (x07 n f,9),some (.int (Int.ofNat z),9),some (.lst (x0l ((List.range i).map d)),1),some (.int (Int.ofNat i),9),none],[some (scr ns,0),some (.int t,9),some (x07 n f,9),some (.int (Int.ofNat z),9),some (.lst (x0l ((List.range (i+1)).map d)),1),some (.int (Int.ofNat i),9),none],?_,.inl ?_,⟨_,rfl⟩⟩
   ·rw[show(x0c n)[i]=.int (Int.ofNat i)by simp[x0c]]; simp
   ·have ex:x0l ((List.range (i+1)).map d)=x0l ((List.range i).map d)++[.int (Int.ofNat (d i))]:=by rw[List.range_succ]; simp[x0l]
    have hl:(x0l ((List.range i).map d)).length<=1000:=by rw[x1h,List.length_map,List.length_range]; omega
    exact y54 rfl (x15 hdi) rfl hl (by rw[ex]; rfl)) ⟨none,rfl⟩
 rw[x0r]at e
 refine(x0j ((x2x (x46 hn rfl x20)).trans e)).trans ?_
 refine(x0j (ρ1:=[some (scr ns,0),some (.int t,9),some (x07 n f,9),some (.int (Int.ofNat z),9),some (.lst (x0l ((List.range n).map d)),1),y,some (.lst [],1)]) ?_).trans ?_
 ·simp
 have hdn:∀ i,i<n->d i<n:=fun i _=>(hd i).1
 obtain⟨ρ',e,y',rfl⟩:=x4e (pt:=x0k 5) (body:=x3w (y09 6 (x01 (x0p x34 2 (x01 (x05 2) (x01 (x2h 1 (x7a (x0p x2b 2 (x01 (x05 2) (x01 (x05 5) (x0g))))) (x0k 7) (x1m) (x1q 4 (x05 7)) false) (x0g)))) (x0g)))) (x0c n)
  (fun i ρ=>∃ y,ρ=[some (scr ns,0),some (.int t,9),some (x07 n f,9),some (.int (Int.ofNat z),9),some (.lst (x0l ((List.range n).map d)),1),y,some (.lst (x0l ((List.range i).map (Lad.lr n f z d))),1)])
  [some (scr ns,0),some (.int t,9),some (x07 n f,9),some (.int (Int.ofNat z),9),some (.lst (x0l ((List.range n).map d)),1),y,some (.lst [],1)] (fun i hi ρ hh0=>by
   obtain⟨y,hy⟩:=hh0
   subst hy
   have hi':i<n:=by rw[x0r]at hi; exact hi
   refine⟨[some (scr ns,0),some (.int t,9),some (x07 n f,9),some (.int (Int.ofNat z),9),some (.lst (x0l ((List.range n).map d)),1),some (.int (Int.ofNat i),9),some (.lst (x0l ((List.range i).map (Lad.lr n f z d))),1)],[some (scr ns,0),some (.int t,9),some (x07 n f,9),some (.int (Int.ofNat z),9),some (.lst (x0l ((List.range n).map d)),1),some (.int (Int.ofNat i),9),some (.lst (x0l ((List.range (i+1)).map (Lad.lr n f z d))),1)],?_,.inl ?_,⟨_,rfl⟩⟩
   ·rw[show(x0c n)[i]=.int (Int.ofNat i)by simp[x0c]]; simp
   ·have ex:x0l ((List.range (i+1)).map (Lad.lr n f z d))=x0l ((List.range i).map (Lad.lr n f z d))++[.int (Int.ofNat (Lad.lr n f z d i))]:=by rw[List.range_succ]; simp[x0l]
    have hl:(x0l ((List.range i).map (Lad.lr n f z d))).length<=1000:=by rw[x1h,List.length_map,List.length_range]; omega
    have hlow:(Lad.low n f i).length<=1000:=by
     have:=List.length_filter_le (fun y=>decide (f y i=i)) (List.range n)
     rw[List.length_range]at this
     exact Nat.le_trans this hn
    have hit:x7a (x0p x2b 2 (x01 (x05 2) (x01 (x05 5) (x0g)))) [some (scr ns,0),some (.int t,9),some (x07 n f,9),some (.int (Int.ofNat z),9),some (.lst (x0l ((List.range n).map d)),1),some (.int (Int.ofNat i),9),some (.lst (x0l ((List.range i).map (Lad.lr n f z d))),1)]=some (x0l (Lad.low n f i),[some (scr ns,0),some (.int t,9),some (x07 n f,9),some (.int (Int.ofNat z),9),some (.lst (x0l ((List.range n).map d)),1),some (.int (Int.ofNat i),9),some (.lst (x0l ((List.range i).map (Lad.lr n f z d))),1)]):=by
     have hb:x2b [x07 n f,.int (Int.ofNat i)]=some (.lst (x0l (Lad.low n f i)),1):=z0f hn hi'
     simp[-Int.ofNat_eq_natCast,hb,x1h,hlow]
    have hc:=x1e (k:=1) (te:=x1q 4 (x05 7)) (deep:=false) hit (j11 (i:=7) (Lad.low n f i) rfl (fun y=>.int (Int.ofNat (d y))) (fun _=>9) (fun y hy=>by
     have hyn:=(Lad.mem_low.mp hy).1
     have hat:atD (.lst (x0l ((List.range n).map d))) (Int.ofNat y)=some (.int (Int.ofNat (d y))):=x2e hyn
     simp[-Int.ofNat_eq_natCast,hat]))
    have hm:∀ y∈(Lad.low n f i).map d,y<n:=Lad.lr_mem L hz bz hdn
    have e':((Lad.low n f i).map fun y=>D.int (Int.ofNat (d y)))=x0l ((Lad.low n f i).map d):=by simp[x0l]
    rw[e']at hc
    have hj:x34 [x07 n f,.lst (x0l ((Lad.low n f i).map d))]=some (.int (Int.ofNat (Lad.lr n f z d i)),9):=z57 L hz bz hn (by rw[List.length_map]; exact hlow) hm
    have ha:=x15 (x0z (n:=2) (x1b (f:=x05 2) (q:=9) (d:=x07 n f) (ρ:=[some (scr ns,0),some (.int t,9),some (x07 n f,9),some (.int (Int.ofNat z),9),some (.lst (x0l ((List.range n).map d)),1),some (.int (Int.ofNat i),9),some (.lst (x0l ((List.range i).map (Lad.lr n f z d))),1)]) (ρ1:=[some (scr ns,0),some (.int t,9),some (x07 n f,9),some (.int (Int.ofNat z),9),some (.lst (x0l ((List.range n).map d)),1),some (.int (Int.ofNat i),9),some (.lst (x0l ((List.range i).map (Lad.lr n f z d))),1)]) rfl (x15 hc)) rfl hj)
    exact y54 rfl ha rfl hl (by rw[ex]; rfl)) ⟨y,rfl⟩
 rw[x0r]at e
 refine(x0j ((x2x (x46 hn rfl x20)).trans e)).trans ?_
 exact x33 (x1j (x15 (q:=0) (ρ1:=[some (scr ns,0),some (.int t,9),some (x07 n f,9),some (.int (Int.ofNat z),9),some (.lst (x0l ((List.range n).map d)),1),y',some (.lst (x0l ((List.range n).map (Lad.lr n f z d))),0)]) rfl))
end
noncomputable def x4u (n:Nat):D->Bool
 | .int i=>decide (0<=i) && decide (i<(n:Int))
 | _=>false
noncomputable def x3t (m n:Nat):D->Bool
 | .tup ds=>decide (ds.length=m) && ds.all (x4u n)
 | _=>false
theorem x2f (d:D):x4z [d]=some (.bl (match d with | .int _=>true | _=>false),9):=by
 unfold x4z y1o
 cases d <;> simp[isD]
theorem x69 (n:Nat) (d:D):x1d [d,.int (Int.ofNat n)]=some (.bl (x4u n d),9):=by
 unfold x1d x6u
 cases d with
 | int i=>
  have h:=x2f (.int i)
  by_cases h0:0<=i
  ·by_cases h1:i<(n:Int)
   ·simp[h,x4u,h0,h1]
   ·simp[h,x4u,h0,h1]
  ·simp[h,x4u,h0]
 | non=>simp[x2f,x4u]
 | bl b=>simp[x2f,x4u]
 | str x=>simp[x2f,x4u]
 | tup ds=>simp[x2f,x4u]
 | lst ds=>simp[x2f,x4u]
 | dic ks ds=>simp[x2f,x4u]
 | exc nm=>simp[x2f,x4u]
 | ob f fo vs ds=>simp[x2f,x4u]
theorem y84 (m n:Nat) (d:D) (hl:∀ ds,d=.tup ds->ds.length<=1000):x32 [d,.int (Int.ofNat m),.int (Int.ofNat n)]=some (.bl (x3t m n d),9):=by
 unfold x32 x78
 cases d with
 | tup ds=>
  have hl:=hl ds rfl
  refine x2w ?_
  have hs:x3z 3 [.tup ds,.int (Int.ofNat m),.int (Int.ofNat n)]=[some (.tup ds,9),some (.int (Int.ofNat m),9),some (.int (Int.ofNat n),9)]:=rfl
  rw[hs]
  by_cases hm:ds.length=m
  ·refine(x0j (ρ1:=[some (.tup ds,9),some (.int (Int.ofNat m),9),some (.int (Int.ofNat n),9)]) ?_).trans ?_
   ·simp[-Int.ofNat_eq_natCast,isD,x7c,hm,y05]
   ·have hi:x7a (x05 0) [some (.tup ds,9),some (.int (Int.ofNat m),9),some (.int (Int.ofNat n),9)]=some (ds,[some (.tup ds,9),some (.int (Int.ofNat m),9),some (.int (Int.ofNat n),9)]):=by simp[hl]
    have hc:=x4h (k:=1) (pt:=x0k 3) (tt:=x1m) (te:=x0p x1d 2 (x01 (x05 3) (x01 (x05 2) (x0g)))) (deep:=false) ds (fun _=>[some (.tup ds,9),some (.int (Int.ofNat m),9),some (.int (Int.ofNat n),9)]) (fun _=>true) (fun i=>.bl (x4u n (ds.getD i .non))) (fun i hi=>by
     have hg:ds.getD i .non=ds[i]:=by simp[hi]
     refine⟨[some (.tup ds,9),some (.int (Int.ofNat m),9),some (.int (Int.ofNat n),9),some (ds[i],x4o ds[i])],[some (.tup ds,9),some (.int (Int.ofNat m),9),some (.int (Int.ofNat n),9),some (ds[i],x4o ds[i])],by simp[-x4o],rfl,?_⟩
     rw[if_pos rfl]
     refine⟨9,[some (.tup ds,9),some (.int (Int.ofNat m),9),some (.int (Int.ofNat n),9),some (ds[i],x4o ds[i])],?_,by simp,by simp⟩
     have hv:∃ q,x05 3 [some (.tup ds,9),some (.int (Int.ofNat m),9),some (.int (Int.ofNat n),9),some (ds[i],x4o ds[i])]=some (ds[i],q,[some (.tup ds,9),some (.int (Int.ofNat m),9),some (.int (Int.ofNat n),9),some (ds[i],x4o ds[i])]):=by
      cases hL:(ds[i]).isL with
      | false=>exact⟨9,by simp[-x4o,hL]⟩
      | true=>exact⟨0,by simp[hL]⟩
     obtain⟨q,hv⟩:=hv
     rw[hg]
     exact x0z (x1b hv (x15 (q:=9) rfl)) rfl (x69 n _))
    rw[show(List.range ds.length).filter (fun _=>true)=List.range ds.length by simp]at hc
    have e:(List.range ds.length).map (fun i=>D.bl (x4u n (ds.getD i .non)))=ds.map fun d=>.bl (x4u n d):=by
     apply List.ext_getElem?
     intro k
     by_cases hk:k<ds.length
     ·simp[hk]
     ·rw[List.getElem?_eq_none (by simp; omega),List.getElem?_eq_none (by simp; omega)]
    rw[e]at hc
    refine x33 (z8z (x15 (x1e (deep:=false) hi hc)) ?_)
    simp only[z1d,y6k,Option.map_some,x3t,hm]
    simp[List.all_map,Function.comp_def]
  ·have e:x3t m n (.tup ds)=false:=by simp[x3t,hm]
   rw[e]
   refine x8n ?_
   simp[-Int.ofNat_eq_natCast,isD,x7c,y05,hm]
 | non=>simp[isD,x3t]
 | bl b=>simp[isD,x3t]
 | int i=>simp[isD,x3t]
 | str x=>simp[isD,x3t]
 | lst ds=>simp[isD,x3t]
 | dic ks ds=>simp[isD,x3t]
 | exc nm=>simp[isD,x3t]
 | ob f fo vs ds=>simp[isD,x3t]
theorem y7e (m n:Nat) (hm:m<=1000) (d:D):x32 [d,.int (Int.ofNat m),.int (Int.ofNat n)]=some (.bl (x3t m n d),9):=by
 by_cases h:∀ ds,d=.tup ds->ds.length<=1000
 ·exact y84 m n d h
 ·cases d with
  | tup ds=>
   have hne:ds.length≠m:=fun e=>h fun ds' e'=>by cases e'; omega
   have e:x3t m n (.tup ds)=false:=by simp[x3t,hne]
   unfold x32 x78
   refine x2w ?_
   rw[e]
   refine x8n ?_
   simp[-Int.ofNat_eq_natCast,isD,x7c,y05,hne]
  | _=>exact absurd (fun ds e=>nomatch e) h
theorem x9c {n:Nat} (hn:n<=1000) {i q:Nat} {ρ:Rho} (h:ρ[i]? = some (some (.int (Int.ofNat n),q))):x10 (x01 (x05 i) x0g) ρ=some (x0c n,ρ):=by
 have b1:(-1000:Int)<=Int.ofNat n:=by show(-1000:Int)<=n; omega
 have b2:Int.ofNat n<=1000:=by show(n:Int)<=1000; omega
 simp only[x10,x01,x05,x0g,h,D.isL_int,if_true]
 rw[if_pos ⟨b1,b2⟩]
 rfl
section
variable {n:Nat} {f:Nat->Nat->Nat}
noncomputable def z72 (n:Nat) (f:Nat->Nat->Nat) (r:Nat->Nat):Bool:=(List.range n).all fun x=>(List.range n).all fun y=>decide (r (f x y)=f (r x) (r y))
theorem y2h {r:Nat->Nat}:z72 n f r=true ↔ ∀ x y,x<n->y<n->r (f x y)=f (r x) (r y):=by
 unfold z72
 rw[L3.range_all]
 exact⟨fun h x y hx hy=>of_decide_eq_true (L3.range_all.mp (h x hx) y hy),fun h x hx=>L3.range_all.mpr fun y hy=>decide_eq_true (h x y hx hy)⟩
noncomputable def ljB (n:Nat) (f g:Nat->Nat->Nat) (r:Nat->Nat):Bool:=(List.range n).all fun x=>(List.range n).all fun y=>decide (r (f x y)=g (r x) (r y))
theorem y5a {g:Nat->Nat->Nat} {r:Nat->Nat}:ljB n f g r=true ↔ ∀ x y,x<n->y<n->r (f x y)=g (r x) (r y):=by
 unfold ljB
 rw[L3.range_all]
 exact⟨fun h x y hx hy=>of_decide_eq_true (L3.range_all.mp (h x hx) y hy),fun h x hx=>L3.range_all.mpr fun y hy=>decide_eq_true (h x y hx hy)⟩
variable (L:Lad n f)
include L
theorem y67 {m:Nat} {g:Nat->Nat->Nat} {r:Nat->Nat} (hr:∀ i,i<n->r i<m):x13 [x07 n f,x07 m g,x0b n r]=some (.bl (ljB n f g r),9):=by
 have hn:n<=1000:=Nat.le_trans L.hi (by decide)
 unfold x13 x3k
 refine x2w ?_
 refine(x0j (ρ1:=[some (x07 n f,9),some (x07 m g,9),some (x0b n r,9),some (.int (Int.ofNat n),9),none,none]) ?_).trans ?_
 ·simp[x20]
 obtain⟨h1,h2⟩:=x7k (pt:=x0k 4) (body:=x50) (d:=.bl false) (q:=9) (x0c n) (fun ρ=>∃ x y,ρ=[some (x07 n f,9),some (x07 m g,9),some (x0b n r,9),some (.int (Int.ofNat n),9),x,y]) (fun x=>(List.range n).all fun y=>decide (r (f x y)=g (r x) (r y))) [some (x07 n f,9),some (x07 m g,9),some (x0b n r,9),some (.int (Int.ofNat n),9),none,none] (fun x hx ρ ⟨a,b,e⟩=>by
  subst e
  have hx':x<n:=by rw[x0r]at hx; exact hx
  refine⟨[some (x07 n f,9),some (x07 m g,9),some (x0b n r,9),some (.int (Int.ofNat n),9),some (.int (Int.ofNat x),9),b],by rw[show(x0c n)[x]=.int (Int.ofNat x)by simp[x0c]]; simp,?_⟩
  obtain⟨i1,i2⟩:=x7k (pt:=x0k 5) (body:=x5f) (d:=.bl false) (q:=9) (x0c n) (fun ρ=>∃ y,ρ=[some (x07 n f,9),some (x07 m g,9),some (x0b n r,9),some (.int (Int.ofNat n),9),some (.int (Int.ofNat x),9),y]) (fun y=>decide (r (f x y)=g (r x) (r y))) [some (x07 n f,9),some (x07 m g,9),some (x0b n r,9),some (.int (Int.ofNat n),9),some (.int (Int.ofNat x),9),b] (fun y hy ρ ⟨b,e⟩=>by
   subst e
   have hy':y<n:=by rw[x0r]at hy; exact hy
   refine⟨[some (x07 n f,9),some (x07 m g,9),some (x0b n r,9),some (.int (Int.ofNat n),9),some (.int (Int.ofNat x),9),some (.int (Int.ofNat y),9)],by rw[show(x0c n)[y]=.int (Int.ofNat y)by simp[x0c]]; simp,fun ok=>⟨[some (x07 n f,9),some (x07 m g,9),some (x0b n r,9),some (.int (Int.ofNat n),9),some (.int (Int.ofNat x),9),some (.int (Int.ofNat y),9)],?_,⟨_,rfl⟩⟩,fun no=>?_⟩
   ·have ok':=of_decide_eq_true ok
    simp[-Int.ofNat_eq_natCast,x49 hx',x4l hy',x25 (L.cl x y hx' hy'),x25 hx',x25 hy',x49 (hr x hx'),x4l (hr y hy'),y05,ok']
   ·have no':=of_decide_eq_false no
    simp[-Int.ofNat_eq_natCast,x49 hx',x4l hy',x25 (L.cl x y hx' hy'),x25 hx',x25 hy',x49 (hr x hx'),x4l (hr y hy'),y05,no']) ⟨b,rfl⟩
  rw[x0r]at i1 i2
  refine⟨fun ok=>?_,fun no=>(x2x (x9c hn (i:=3) (q:=9) rfl)).trans (i2 no)⟩
  obtain⟨ρ2,e,b',rfl⟩:=i1 ok
  exact⟨_,(x2x (x9c hn (i:=3) (q:=9) rfl)).trans e,_,_,rfl⟩) ⟨none,none,rfl⟩
 rw[x0r]at h1 h2
 cases h:ljB n f g r with
 | true=>
  obtain⟨ρ',e,x,y,rfl⟩:=h1 h
  exact(x0j ((x2x (x9c hn (i:=3) (q:=9) rfl)).trans e)).trans rfl
 | false=>exact x8n ((x2x (x9c hn (i:=3) (q:=9) rfl)).trans (h2 h))
theorem x8l {r:Nat->Nat} (hr:∀ i,i<n->r i<n):x4t [x07 n f,x0b n r]=some (.bl (z72 n f r),9):=
 x2w (x33 (x0z (ds:=[x07 n f,x07 n f,x0b n r]) rfl rfl (y67 L hr)))
end
noncomputable def pkr (ns:List Int) (c:Int) (n k:Nat):Nat:=(x52 ns (c+Int.ofNat k) (Int.ofNat n)).toNat
theorem z38 (ns:List Int) (c:Int) {n:Nat} (hn:0<n) (k:Nat):pkr ns c n k<n:=by
 have hnp:(0:Int)<Int.ofNat n:=by show(0:Int)<(n:Int); omega
 have h1:=x44 ns (c+Int.ofNat k) hnp
 have h2:=x58 ns (c+Int.ofNat k) hnp
 have h3:Int.ofNat n=(n:Int):=rfl
 unfold pkr
 omega
theorem z09 {i:Nat} {ρ:Rho} {d:D} (h:ρ[i]? = some (some (d,x4o d))):x05 i ρ=some (d,x4o d,ρ):=by
 unfold x05
 rw[h]
 cases hL:d.isL with
 | false=>simp[hL]
 | true=>simp[hL]
theorem j12 {i:Nat} {te:Den} {ρ:Rho} (ds:List D) (hi:ρ.length=i) (v:D->D) (q:D->Nat)
  (he:∀ d,d∈ds->te (ρ++[some (d,x4o d)])=some (v d,q d,ρ++[some (d,x4o d)])) :
  x6k 1 (x0k i) x1m te false ds ρ=some (ds.map v,ρ):=by
 have h:=x4h (k:=1) (pt:=x0k i) (tt:=x1m) (te:=te) (deep:=false) ds (fun _=>ρ) (fun _=>true) (fun j=>v (ds.getD j .non)) (fun j hj=>?_)
 ·rw[show(List.range ds.length).filter (fun _=>true)=List.range ds.length by simp]at h
  rw[h]
  have e:(List.range ds.length).map (fun j=>v (ds.getD j .non))=ds.map v:=by
   apply List.ext_getElem?
   intro k
   by_cases hk:k<ds.length
   ·simp[hk]
   ·rw[List.getElem?_eq_none (by simp; omega),List.getElem?_eq_none (by simp; omega)]
  rw[e]
 ·have hg:ds.getD j .non=ds[j]:=by simp[hj]
  refine⟨ρ++[some (ds[j],x4o ds[j])],_,?_,rfl,?_⟩
  ·unfold x0k
   rw[if_pos (by simp[hi])]
   subst hi
   simp[-x4o,List.set_append]
  ·rw[if_pos rfl,hg]
   exact⟨q _,_,he _ (List.getElem_mem hj),by simp,by simp⟩
theorem z05 {i:Nat} {te:Den} {it:y1k} {ρ:Rho} {ds:List D} (hi:ρ.length=i) (hit:it ρ=some (ds,ρ)) (b:D->Bool) (q:D->Nat)
  (he:∀ d,d∈ds->te (ρ++[some (d,x4o d)])=some (.bl (b d),q d,ρ++[some (d,x4o d)])) :
  eB z1d (x01 (x2h 1 it (x0k i) x1m te false) x0g) ρ=some (.bl (ds.all b),9,ρ):=by
 refine z8z (x15 (x1e (deep:=false) hit (j12 ds hi (fun d=>.bl (b d)) q he))) ?_
 simp only[z1d,y6k,Option.map_some]
 simp[List.all_map,Function.comp_def]
noncomputable def x71 (ds:List D) (i:Nat):Nat:=match ds[i]? with
 | some (.int k)=>k.toNat
 | _=>0
theorem z3f {m n:Nat} {ds:List D} (h:x3t m n (.tup ds)=true):ds.length=m/\∀ i,i<m->ds[i]? = some (.int (Int.ofNat (x71 ds i)))/\x71 ds i<n:=by
 unfold x3t at h
 simp only[Bool.and_eq_true,decide_eq_true_eq,List.all_eq_true]at h
 obtain⟨hl,ha⟩:=h
 refine⟨hl,fun i hi=>?_⟩
 have hi':i<ds.length:=by omega
 have hm:=ha ds[i] (List.getElem_mem hi')
 have hg:ds[i]? = some ds[i]:=List.getElem?_eq_getElem hi'
 unfold x71
 rw[hg]
 cases e:ds[i]with
 | int k=>
  rw[e]at hm
  unfold x4u at hm
  simp only[Bool.and_eq_true,decide_eq_true_eq]at hm
  refine⟨?_,?_⟩
  ·show some (D.int k)=some (D.int ((k.toNat:Nat):Int))
   rw[Int.toNat_of_nonneg hm.1]
  ·show k.toNat<n
   omega
 | _=>rw[e]at hm; cases hm
theorem z92 {m n:Nat} {ds:List D} (h:x3t m n (.tup ds)=true):D.tup ds=x0b m (x71 ds):=by
 obtain⟨hl,key⟩:=z3f h
 unfold x0b
 congr 1
 apply List.ext_getElem?
 intro i
 by_cases hi:i<m
 ·rw[(key i hi).1,x9g,List.getElem?_map,List.getElem?_range hi]
  rfl
 ·rw[List.getElem?_eq_none (by omega),List.getElem?_eq_none (by simp[x1h]; omega)]
theorem x3o {n i:Nat} {r:Nat->Nat} (hi:i<n):x71 (x0l ((List.range n).map r)) i=r i:=by
 unfold x71
 rw[x9g,List.getElem?_map,List.getElem?_range hi]
 rfl
structure Cht where
 p:Nat
 W:List (Nat × Nat × (Nat->Nat))
 B:List (Nat × Nat)
noncomputable def x18 (n:Nat) (w:Nat × Nat × (Nat->Nat)):D:=.tup [.int (Int.ofNat w.1),.int (Int.ofNat w.2.1),x0b n w.2.2]
noncomputable def x1k (b:Nat × Nat):D:=.tup [.int (Int.ofNat b.1),.int (Int.ofNat b.2)]
noncomputable def x0t (n:Nat) (C:Cht):D:=.tup [.int (Int.ofNat C.p),.tup (C.W.map (x18 n)),.tup (C.B.map x1k)]
noncomputable def okW (n:Nat) (f:Nat->Nat->Nat) (p:Nat) (w:Nat × Nat × (Nat->Nat)):Prop:=w.1<p/\w.2.1<p/\(∀ i,i<n->w.2.2 i<n)/\∀ x y,x<n->y<n->f x y=y->f (w.2.2 x) (w.2.2 y)=w.2.2 y
noncomputable def okB (n:Nat) (p:Nat) (b:Nat × Nat):Prop:=b.1<p/\b.2<n
structure Cht.Ok (n:Nat) (f:Nat->Nat->Nat) (C:Cht):Prop where
 p1:1<=C.p
 p8:C.p<=8
 w60:C.W.length<=60
 b60:C.B.length<=60
 ws:∀ w∈C.W,okW n f C.p w
 bs:∀ b∈C.B,okB n C.p b
@[simp] theorem z73 {n:Nat} {C:Cht}:(x0t n C).isL=false:=rfl
@[simp] theorem j0n {n:Nat} {w:Nat × Nat × (Nat->Nat)}:(x18 n w).isL=false:=rfl
@[simp] theorem j0p {b:Nat × Nat}:(x1k b).isL=false:=rfl
theorem x53 (ns:List Int) {k:Int} (hk:0<=k) {m:Int} (hm:0<m):∃ v:Nat,(v:Int)<m/\x0a [scr ns,.int k,.int m]=some (.int (Int.ofNat v),9):=by
 have h1:=x44 ns k hm
 have h2:=x58 ns k hm
 refine⟨(x52 ns k m).toNat,by omega,?_⟩
 rw[x5e ns k m hk hm]
 have:x52 ns k m=Int.ofNat (x52 ns k m).toNat:=by show _=(((x52 ns k m).toNat:Nat):Int); omega
 rw[<- this]
theorem x3v {m:Nat} (hm:m<=1000) {fe:Den} {ρ ρ':Rho} {q:Nat} (h:fe ρ=some (.int (Int.ofNat m),q,ρ')):x10 (x01 fe x0g) ρ=some (x0c m,ρ'):=by
 have b1:(-1000:Int)<=Int.ofNat m:=by show(-1000:Int)<=m; omega
 have b2:Int.ofNat m<=1000:=by show(m:Int)<=1000; omega
 simp only[x10,x01,x0g,h]
 rw[if_pos ⟨b1,b2⟩]
 rfl
section
variable {n:Nat} {f:Nat->Nat->Nat} (L:Lad n f) {z:Nat} (hz:z<n) (bz:∀ j,j<n->f z j=j)
include L hz bz
theorem y74 (ns:List Int) (t:Int) (h0:0<=t) {p:Nat} (hp:1<=p) (m:Nat) (hm:m<=7) :
  ∃ W:List (Nat × Nat × (Nat->Nat)),W.length=m/\(∀ w∈W,okW n f p w)/\∃ a b c,x99 (x0k 6) x54 (x0c m) [some (scr ns,0),some (.int t,9),some (x07 n f,9),some (.bl false,9),some (.int (Int.ofNat p),9),some (.lst [],1),none,none,none,none,none]=some (.nx [some (scr ns,0),some (.int t,9),some (x07 n f,9),some (.bl false,9),some (.int (Int.ofNat p),9),some (.lst (W.map (x18 n)),1),a,b,c,none,none]):=by
 have hpp:(0:Int)<Int.ofNat p:=by show(0:Int)<(p:Int); omega
 obtain⟨ρ',e,W,hl,hok,a,b,c,rfl⟩:=x4e (pt:=x0k 6) (body:=x54) (x0c m) (fun i ρ=>∃ W:List (Nat × Nat × (Nat->Nat)),W.length=i/\(∀ w∈W,okW n f p w)/\∃ a b c,ρ=[some (scr ns,0),some (.int t,9),some (x07 n f,9),some (.bl false,9),some (.int (Int.ofNat p),9),some (.lst (W.map (x18 n)),1),a,b,c,none,none]) [some (scr ns,0),some (.int t,9),some (x07 n f,9),some (.bl false,9),some (.int (Int.ofNat p),9),some (.lst [],1),none,none,none,none,none] (fun i hi ρ hh0=>by
  obtain⟨W,hl,hok,a,b,c,hr⟩:=hh0
  subst hr
  have hi':i<m:=by rw[x0r]at hi; exact hi
  obtain⟨x,hx⟩:∃ x:Int,x=t+10+22*Int.ofNat i:=⟨_,rfl⟩
  have hx0:0<=x:=by have:Int.ofNat i=(i:Int):=rfl; omega
  obtain⟨d,hd,hR⟩:=y0p L hz bz ns (x+2) (by omega)
  obtain⟨s,hs,es⟩:=x53 ns hx0 hpp
  obtain⟨g,hg,eg⟩:=x53 ns (show 0<=x+1 by omega) hpp
  have hs':s<p:=by have:(s:Int)<(p:Int):=hs; omega
  have hg':g<p:=by have:(g:Int)<(p:Int):=hg; omega
  have hok':okW n f p (s,g,Lad.lr n f z d):=⟨hs',hg',fun i _=>L.lr_lt hz bz hd i,fun x y hx hy e=>L.lr_rises hz bz hd hx hy e⟩
  generalize Lad.lr n f z d=r at *
  have hW:W.length<=1000:=by omega
  refine⟨[some (scr ns,0),some (.int t,9),some (x07 n f,9),some (.bl false,9),some (.int (Int.ofNat p),9),some (.lst (W.map (x18 n)),1),some (.int (Int.ofNat i),9),b,c,none,none],[some (scr ns,0),some (.int t,9),some (x07 n f,9),some (.bl false,9),some (.int (Int.ofNat p),9),some (.lst ((W++[(s,g,r)]).map (x18 n)),1),some (.int (Int.ofNat i),9),some (.int x,9),some (x0b n r,9),none,none],by rw[x6j]; simp,.inl ?_,W++[(s,g,r)],by simp[hl],fun w hw=>?_,_,_,_,rfl⟩
  ·unfold x54
   refine(x0j (ρ1:=[some (scr ns,0),some (.int t,9),some (x07 n f,9),some (.bl false,9),some (.int (Int.ofNat p),9),some (.lst (W.map (x18 n)),1),some (.int (Int.ofNat i),9),some (.int x,9),c,none,none]) (by rw[hx]; simp[-Int.ofNat_eq_natCast])).trans ?_
   refine(x0j (ρ1:=[some (scr ns,0),some (.int t,9),some (x07 n f,9),some (.bl false,9),some (.int (Int.ofNat p),9),some (.lst (W.map (x18 n)),1),some (.int (Int.ofNat i),9),some (.int x,9),some (x0b n r,9),none,none]) (by simp[-Int.ofNat_eq_natCast,hR])).trans ?_
   refine(x0j (ρ1:=[some (scr ns,0),some (.int t,9),some (x07 n f,9),some (.bl false,9),some (.int (Int.ofNat p),9),some (.lst (W.map (x18 n)),1),some (.int (Int.ofNat i),9),some (.int x,9),some (x0b n r,9),none,none]) (by simp[-Int.ofNat_eq_natCast])).trans ?_
   simp[-Int.ofNat_eq_natCast,es,eg,hW,x18]
  ·rcases List.mem_append.mp hw with h | h
   ·exact hok w h
   ·rw[List.mem_singleton.mp h]; exact hok') ⟨[],rfl,(fun _ z=>nomatch z),none,none,none,rfl⟩
 rw[x0r]at hl
 exact⟨W,hl,hok,a,b,c,e⟩
theorem y7b (ns:List Int) (t:Int) (h0:0<=t) {p:Nat} (hp:1<=p) (m:Nat) (hm:m<=3) (W:Option (D × Nat)) (a b c:Option (D × Nat)) :
  ∃ B:List (Nat × Nat),B.length=m/\(∀ w∈B,okB n p w)/\∃ a' h,x99 (x0k 6) x5d (x0c m) [some (scr ns,0),some (.int t,9),some (x07 n f,9),some (.bl false,9),some (.int (Int.ofNat p),9),W,a,b,c,some (.lst [],1),none]=some (.nx [some (scr ns,0),some (.int t,9),some (x07 n f,9),some (.bl false,9),some (.int (Int.ofNat p),9),W,a',b,c,some (.lst (B.map x1k),1),h]):=by
 have hpp:(0:Int)<Int.ofNat p:=by show(0:Int)<(p:Int); omega
 have hnp:(0:Int)<Int.ofNat n:=by have:=L.lo; show(0:Int)<(n:Int); omega
 obtain⟨ρ',e,B,hl,hok,a',h,rfl⟩:=x4e (pt:=x0k 6) (body:=x5d) (x0c m) (fun i ρ=>∃ B:List (Nat × Nat),B.length=i/\(∀ w∈B,okB n p w)/\∃ a h,ρ=[some (scr ns,0),some (.int t,9),some (x07 n f,9),some (.bl false,9),some (.int (Int.ofNat p),9),W,a,b,c,some (.lst (B.map x1k),1),h]) [some (scr ns,0),some (.int t,9),some (x07 n f,9),some (.bl false,9),some (.int (Int.ofNat p),9),W,a,b,c,some (.lst [],1),none] (fun i hi ρ hh0=>by
  obtain⟨B,hl,hok,a,h,hr⟩:=hh0
  subst hr
  have hi':i<m:=by rw[x0r]at hi; exact hi
  have hii:Int.ofNat i=(i:Int):=rfl
  obtain⟨v,hv,ev⟩:=x53 ns (show 0<=t+3+2*Int.ofNat i by omega) hnp
  obtain⟨g,hg,eg⟩:=x53 ns (show 0<=t+4+2*Int.ofNat i by omega) hpp
  have hv':v<n:=by have:(v:Int)<(n:Int):=hv; omega
  have hg':g<p:=by have:(g:Int)<(p:Int):=hg; omega
  have hB:B.length<=1000:=by omega
  refine⟨[some (scr ns,0),some (.int t,9),some (x07 n f,9),some (.bl false,9),some (.int (Int.ofNat p),9),W,some (.int (Int.ofNat i),9),b,c,some (.lst (B.map x1k),1),h],[some (scr ns,0),some (.int t,9),some (x07 n f,9),some (.bl false,9),some (.int (Int.ofNat p),9),W,some (.int (Int.ofNat i),9),b,c,some (.lst ((B++[(g,v)]).map x1k),1),some (.int (Int.ofNat v),9)],by rw[x6j]; simp,.inl ?_,B++[(g,v)],by simp[hl],fun w hw=>?_,_,_,rfl⟩
  ·unfold x5d
   refine(x0j (ρ1:=[some (scr ns,0),some (.int t,9),some (x07 n f,9),some (.bl false,9),some (.int (Int.ofNat p),9),W,some (.int (Int.ofNat i),9),b,c,some (.lst (B.map x1k),1),some (.int (Int.ofNat v),9)]) (by simp[-Int.ofNat_eq_natCast,x20,ev])).trans ?_
   simp[-Int.ofNat_eq_natCast,eg,hB,x1k]
  ·rcases List.mem_append.mp hw with h | h
   ·exact hok w h
   ·rw[List.mem_singleton.mp h]; exact⟨hg',hv'⟩) ⟨[],rfl,(fun _ z=>nomatch z),a,none,rfl⟩
 rw[x0r]at hl
 exact⟨B,hl,hok,a',h,e⟩
theorem y3e (ns:List Int) (t:Int) (h0:0<=t):∃ C:Cht,C.Ok n f/\C.p<=5/\C.W.length<=7/\C.B.length<=3/\x3s [scr ns,.int t,x07 n f,.bl false]=some (x0t n C,9):=by
 obtain⟨p0,hp0,ep⟩:=x53 ns h0 (m:=5) (by decide)
 obtain⟨mw,hmw,ew⟩:=x53 ns (show 0<=t+1 by omega) (m:=8) (by decide)
 obtain⟨mb,hmb,eb⟩:=x53 ns (show 0<=t+2 by omega) (m:=4) (by decide)
 obtain⟨p,hp⟩:∃ p:Nat,p=p0+1:=⟨_,rfl⟩
 have hp':(1:Int)+Int.ofNat p0=Int.ofNat p:=by show(1:Int)+(p0:Int)=(p:Int); omega
 obtain⟨W,hWl,hWok,a,b,c,eW⟩:=y74 L hz bz ns t h0 (p:=p) (by omega) mw (by omega)
 obtain⟨B,hBl,hBok,a',h,eB⟩:=y7b L hz bz ns t h0 (p:=p) (by omega) mb (by omega) (some (.lst (W.map (x18 n)),1)) a b c
 refine⟨⟨p,W,B⟩,⟨by show 1<=p; omega,by show p<=8; omega,by show W.length<=60; omega,by show B.length<=60; omega,hWok,hBok⟩,by show p<=5; omega,by show W.length<=7; omega,by show B.length<=3; omega,?_⟩
 unfold x3s x8w
 refine x2w ?_
 show x1g _ _ [some (scr ns,0),some (.int t,9),some (x07 n f,9),some (.bl false,9),none,none,none,none,none,none,none]=_
 refine(x0j (ρ1:=[some (scr ns,0),some (.int t,9),some (x07 n f,9),some (.bl false,9),some (.int (Int.ofNat p),9),none,none,none,none,none,none]) (by simp[-Int.ofNat_eq_natCast,ep,hp'])).trans ?_
 refine(x0j (ρ1:=[some (scr ns,0),some (.int t,9),some (x07 n f,9),some (.bl false,9),some (.int (Int.ofNat p),9),some (.lst [],1),none,none,none,none,none]) (by simp)).trans ?_
 refine(x0j ((x2x (ρ1:=[some (scr ns,0),some (.int t,9),some (x07 n f,9),some (.bl false,9),some (.int (Int.ofNat p),9),some (.lst [],1),none,none,none,none,none]) (x3v (m:=mw) (by omega) (q:=9) (by simp[-Int.ofNat_eq_natCast,ew]))).trans eW)).trans ?_
 refine(x0j (ρ1:=[some (scr ns,0),some (.int t,9),some (x07 n f,9),some (.bl false,9),some (.int (Int.ofNat p),9),some (.lst (W.map (x18 n)),1),a,b,c,some (.lst [],1),none]) (by simp)).trans ?_
 refine(x0j ((x2x (ρ1:=[some (scr ns,0),some (.int t,9),some (x07 n f,9),some (.bl false,9),some (.int (Int.ofNat p),9),some (.lst (W.map (x18 n)),1),a,b,c,some (.lst [],1),none]) (x3v (m:=mb) (by omega) (q:=9) (by simp[-Int.ofNat_eq_natCast,eb]))).trans eB)).trans ?_
 simp[-Int.ofNat_eq_natCast,x0t]
end
noncomputable def y5j (b:Nat × Nat):ChS:=(b.1,fun _=>b.2)
noncomputable def y8w (w:Nat × Nat × (Nat->Nat)):ChS:=(w.2.1,fun v=>w.2.2 (gv v w.1))
noncomputable def x48 (C:Cht):List ChS:=C.B.map y5j++C.W.map y8w
section
variable {n:Nat} {f:Nat->Nat->Nat} (L:Lad n f) {C:Cht} (hC:C.Ok n f)
include L hC
theorem y23:∀ s∈x48 C,OkS n C.p f s:=fun s hs=>by
 unfold x48 at hs
 rcases List.mem_append.mp hs with h | h
 ·obtain⟨b,hb,rfl⟩:=List.mem_map.mp h
  have k:=hC.bs b hb
  exact⟨k.1,fun _ _=>k.2,fun _ _ _ _ _=>L.idem _ k.2⟩
 ·obtain⟨w,hw,rfl⟩:=List.mem_map.mp h
  have k:=hC.ws w hw
  exact⟨k.2.1,fun v hv=>k.2.2.1 _ (hv.gv k.1),fun u v hu hv e=>k.2.2.2 _ _ (hu.gv k.1) (hv.gv k.1) (e _ k.1)⟩
end
noncomputable abbrev Sn:=Bool × Nat
noncomputable def x0n (s:Sn):D:=.tup [.str (if s.1 then "begin" else "way"),.int (Int.ofNat s.2)]
@[simp] theorem z8u {s:Sn}:(x0n s).isL=false:=rfl
noncomputable def okN (C:Cht) (s:Sn):Prop:=s.2<(if s.1 then C.B.length else C.W.length)
noncomputable def x3p (C:Cht) (s:Sn):ChS:=if s.1 then y5j (C.B.getD s.2 (0,0))else y8w (C.W.getD s.2 (0,0,id))
noncomputable def z0t (C:Cht):List Sn:=(List.range C.B.length).map (fun k=>(true,k))++(List.range C.W.length).map (fun k=>(false,k))
theorem z4p (C:Cht):∀ s∈z0t C,okN C s:=fun s hs=>by
 unfold z0t at hs
 rcases List.mem_append.mp hs with h | h
 ·obtain⟨k,hk,rfl⟩:=List.mem_map.mp h
  exact List.mem_range.mp hk
 ·obtain⟨k,hk,rfl⟩:=List.mem_map.mp h
  exact List.mem_range.mp hk
theorem y6g {α β:Type} (l:List α) (d:α) (g:α->β):(List.range l.length).map (fun k=>g (l.getD k d))=l.map g:=by
 apply List.ext_getElem?
 intro k
 by_cases hk:k<l.length
 ·simp[hk]
 ·rw[List.getElem?_eq_none (by simp; omega),List.getElem?_eq_none (by simp; omega)]
theorem z0h (C:Cht):(z0t C).map (x3p C)=x48 C:=by
 unfold z0t x48
 rw[List.map_append,List.map_map,List.map_map,<- y6g C.B (0,0) y5j,<- y6g C.W (0,0,id) y8w]
 rfl
theorem y20 {C:Cht} {s:Sn} (h:okN C s):x3p C s∈x48 C:=by
 unfold okN at h
 unfold x3p x48
 cases hb:s.1 with
 | true=>
  rw[hb]at h
  have h':s.2<C.B.length:=h
  refine List.mem_append_left _ (List.mem_map.mpr ⟨C.B.getD s.2 (0,0),?_,rfl⟩)
  rw[List.getD_eq_getElem?_getD,List.getElem?_eq_getElem h']
  exact List.getElem_mem h'
 | false=>
  rw[hb]at h
  have h':s.2<C.W.length:=h
  refine List.mem_append_right _ (List.mem_map.mpr ⟨C.W.getD s.2 (0,0,id),?_,rfl⟩)
  rw[List.getD_eq_getElem?_getD,List.getElem?_eq_getElem h']
  exact List.getElem_mem h'
theorem z1g:dEq (.str "begin") (.str "begin")=some (.bl true):=by
 have h:okD (.str "begin")=true:=by decide +kernel
 unfold dEq
 rw[if_pos ⟨h,h⟩]
 rfl
theorem z7s:dEq (.str "way") (.str "begin")=some (.bl false):=by
 have h:okD (.str "begin")=true:=by decide +kernel
 have h':okD (.str "way")=true:=by decide +kernel
 have e:eqD (.str "way") (.str "begin")=false:=by decide +kernel
 unfold dEq
 rw[if_pos ⟨h',h⟩,e]
theorem z7h {v:List Nat} {p:Nat} (hp:p<v.length):L3.z7y (x0l v) none (some (Int.ofNat p))=x0l (v.take p):=by
 unfold L3.z7y
 have e1:HT.sIx (x0l v).length 0 none=0:=rfl
 have e2:HT.sIx (x0l v).length (x0l v).length (some (Int.ofNat p))=p:=by
  rw[x1h]
  have:¬ ((p:Int)<0):=by omega
  simp[HT.sIx,this]
  omega
 rw[e1,e2,List.drop_zero,Nat.sub_zero]
 simp only[x0l,List.map_take]
theorem z25 {v:List Nat} {p:Nat} (hp:p<v.length):L3.z7y (x0l v) (some (Int.ofNat p+1)) none=x0l (v.drop (p+1)):=by
 unfold L3.z7y
 have e1:HT.sIx (x0l v).length 0 (some (Int.ofNat p+1))=p+1:=by
  rw[x1h]
  have:¬ ((p:Int)+1<0):=by omega
  simp[HT.sIx,this]
  omega
 have e2:HT.sIx (x0l v).length (x0l v).length none=(x0l v).length:=rfl
 rw[e1,e2,List.take_of_length_le (by rw[List.length_drop]; exact Nat.le_refl _)]
 simp only[x0l,List.map_drop]
theorem z6h {v:List Nat} {p x:Nat} (hp:p<v.length):x0l (v.take p)++[.int (Int.ofNat x)]++x0l (v.drop (p+1))=x0l (v.set p x):=by
 rw[List.set_eq_take_append_cons_drop,if_pos hp]
 simp[x0l]
section
variable {n:Nat} {f:Nat->Nat->Nat} (L:Lad n f) {C:Cht} (hC:C.Ok n f)
include L hC
theorem z1k {v:List Nat} (hv:Vn n C.p v) {s:Sn} (hs:okN C s):x29 [x0t n C,.tup (x0l v),x0n s]=some (.tup [.int (Int.ofNat (x3p C s).1),.int (Int.ofNat ((x3p C s).2 v))],9):=by
 obtain⟨b,k⟩:=s
 unfold okN at hs
 unfold x29 x4y
 have c1:atD (x0t n C) 1=some (.tup (C.W.map (x18 n))):=rfl
 have c2:atD (x0t n C) 2=some (.tup (C.B.map x1k)):=rfl
 cases b with
 | true=>
  have hk:k<C.B.length:=hs
  have s0:atD (x0n (true,k)) 0=some (.str "begin"):=rfl
  have s1:atD (x0n (true,k)) 1=some (.int (Int.ofNat k)):=rfl
  have e:atD (.tup (C.B.map x1k)) (Int.ofNat k)=some (x1k (C.B.getD k (0,0))):=y3h (by rw[List.getElem?_map,List.getElem?_eq_getElem hk]; simp[hk])
  have hst:x3p C (true,k)=y5j (C.B.getD k (0,0)):=rfl
  rw[hst]
  generalize C.B.getD k (0,0)=b at *
  generalize x0n (true,k)=sd at *
  have hb:x1k b=.tup [.int (Int.ofNat (y5j b).1),.int (Int.ofNat ((y5j b).2 v))]:=rfl
  rw[<- hb]
  simp[-Int.ofNat_eq_natCast,s0,s1,c2,e,z1g]
 | false=>
  have hk:k<C.W.length:=hs
  have s0:atD (x0n (false,k)) 0=some (.str "way"):=rfl
  have s1:atD (x0n (false,k)) 1=some (.int (Int.ofNat k)):=rfl
  have e:atD (.tup (C.W.map (x18 n))) (Int.ofNat k)=some (x18 n (C.W.getD k (0,0,id))):=y3h (by rw[List.getElem?_map,List.getElem?_eq_getElem hk]; simp[hk])
  have hst:x3p C (false,k)=y8w (C.W.getD k (0,0,id)):=rfl
  have hw:C.W.getD k (0,0,id)∈C.W:=by
   rw[List.getD_eq_getElem?_getD,List.getElem?_eq_getElem hk]
   exact List.getElem_mem hk
  have ok:=hC.ws _ hw
  rw[hst]
  generalize C.W.getD k (0,0,id)=w at *
  have w0:atD (x18 n w) 0=some (.int (Int.ofNat w.1)):=rfl
  have w1:atD (x18 n w) 1=some (.int (Int.ofNat w.2.1)):=rfl
  have w2:atD (x18 n w) 2=some (x0b n w.2.2):=rfl
  have a0:=j0t (v:=v) (i:=w.1) (by rw[hv.len]; exact ok.1)
  have a1:=x25 (r:=w.2.2) (hv.gv ok.1)
  have hst':x0n (false,k)=x0n (false,k):=rfl
  generalize hsd:x0n (false,k)=sd at *
  have hL:sd.isL=false:=by rw[<- hsd]; rfl
  show _=some (D.tup [.int (Int.ofNat w.2.1),.int (Int.ofNat (w.2.2 (gv v w.1)))],9)
  generalize hwt:x18 n w=wt at *
  have hL2:wt.isL=false:=by rw[<- hwt]; rfl
  simp[-Int.ofNat_eq_natCast,s0,s1,c1,e,z7s,w0,w1,w2,a0,a1,hL,hL2]
theorem y91 {v:List Nat} (hv:Vn n C.p v) {s:Sn} (hs:okN C s):x1u [x07 n f,x0t n C,.tup (x0l v),x0n s]=some (.tup (x0l (doS f v (x3p C s))),9):=by
 have ok:=y23 L hC _ (y20 hs)
 have hp:=z1k L hC hv hs
 have hx:=ok.lt v hv
 have hg:=hv.gv ok.pl
 have hpl:(x3p C s).1<v.length:=by rw[hv.len]; exact ok.pl
 have hp8:=hC.p8
 have hl:=hv.len
 unfold doS
 generalize (x3p C s).1=g at *
 generalize (x3p C s).2 v=x at *
 have a0:=j0t hpl
 have a1:=x49 (f:=f) hg
 have a2:=x4l (f:=f) (i:=gv v g) hx
 have s1:=z7h hpl
 have s2:=z25 hpl
 have s3:=z6h (x:=f (gv v g) x) hpl
 have l1:(x0l (v.take g)).length=g:=by rw[x1h,List.length_take]; omega
 have l2:(x0l (v.drop (g+1))).length=v.length-(g+1):=by rw[x1h,List.length_drop]
 unfold x1u x68
 refine x2w ?_
 show x1g _ _ [some (x07 n f,9),some (x0t n C,9),some (.tup (x0l v),9),some (x0n s,9),none,none,none]=_
 refine(x0j (ρ1:=[some (x07 n f,9),some (x0t n C,9),some (.tup (x0l v),9),some (x0n s,9),some (.tup [.int (Int.ofNat g),.int (Int.ofNat x)],9),none,none]) (by simp[-Int.ofNat_eq_natCast,hp])).trans ?_
 have t0:atD (.tup [.int (Int.ofNat g),.int (Int.ofNat x)]) 0=some (.int (Int.ofNat g)):=rfl
 have t1:atD (.tup [.int (Int.ofNat g),.int (Int.ofNat x)]) 1=some (.int (Int.ofNat x)):=rfl
 refine(x0j (ρ1:=[some (x07 n f,9),some (x0t n C,9),some (.tup (x0l v),9),some (x0n s,9),some (.tup [.int (Int.ofNat g),.int (Int.ofNat x)],9),some (.int (Int.ofNat g),9),none]) (by simp[-Int.ofNat_eq_natCast,t0])).trans ?_
 refine(x0j (ρ1:=[some (x07 n f,9),some (x0t n C,9),some (.tup (x0l v),9),some (x0n s,9),some (.tup [.int (Int.ofNat g),.int (Int.ofNat x)],9),some (.int (Int.ofNat g),9),some (.int (Int.ofNat (f (gv v g) x)),9)]) (by simp[-Int.ofNat_eq_natCast,a0,a1,a2,t1])).trans ?_
 rw[<- s3]
 have m1:(x0l (v.take g)).length+1<=1000:=by omega
 have m2:(x0l (v.take g)).length+1+(x0l (v.drop (g+1))).length<=1000:=by omega
 generalize x0l (v.take g)=u1 at *
 generalize x0l (v.drop (g+1))=u2 at *
 have m1':u1.length<=999:=by omega
 simp[-Int.ofNat_eq_natCast,s1,s2,m1,m1',m2]
structure LowS (n:Nat) (f:Nat->Nat->Nat) (p:Nat) (l:List ChS) (v u:List Nat):Prop where
 V:Vn n p u
 cl:ClS f l u
 up:leV f p v u
 le:∀ a,Vn n p a->ClS f l a->leV f p v a->leV f p u a
theorem z1o {v:List Nat} (hv:Vn n C.p v) {l:List Sn} (hl:∀ s∈l,okN C s) (hlen:l.length<=1000) :
  ∃ (u:List Nat) (R:List Sn),LowS n f C.p (l.map (x3p C)) v u/\(∀ s∈R,s∈l)/\(R.map (x3p C)).foldl (doS f) v=u/\Lad.mu n f u+R.length<=Lad.mu n f v/\y0l [x07 n f,x0t n C,.lst (l.map x0n),.tup (x0l v)]=some (.tup [.tup (x0l u),.lst (R.map x0n)],9):=by
 have hp8:=hC.p8
 have hn8:=L.hi
 have hmu:=Lad.mu_le (f:=f) hv
 have hmu':C.p*n<=8*16:=Nat.mul_le_mul hp8 hn8
 have hS:∀ t∈l.map (x3p C),OkS n C.p f t:=fun t ht=>by
  obtain⟨s,hs,rfl⟩:=List.mem_map.mp ht
  exact y23 L hC _ (y20 (hl s hs))
 -- one round
 have round:∀ (w:List Nat) (R:List Sn) (a:Option (D × Nat)) (j:(Option (D × Nat) × Option (D × Nat))),Vn n C.p w->(∀ s∈R,s∈l)->(R.map (x3p C)).foldl (doS f) v=w->Lad.mu n f w+R.length<=Lad.mu n f v->
   ∃ (R':List Sn) (j':(Option (D × Nat) × Option (D × Nat))),(∀ s∈R',s∈l)/\(R'.map (x3p C)).foldl (doS f) v=(l.map (x3p C)).foldl (doS f) w/\Lad.mu n f ((l.map (x3p C)).foldl (doS f) w)+R'.length<=Lad.mu n f v /\
    x99 (x0k 6) x9j (l.map x0n) [some (x07 n f,9),some (x0t n C,9),some (.lst (l.map x0n),0),some (.tup (x0l w),9),some (.lst ((R).map x0n),1),a,(j).1,(j).2]=some (.nx [some (x07 n f,9),some (x0t n C,9),some (.lst (l.map x0n),0),some (.tup (x0l ((l.map (x3p C)).foldl (doS f) w)),9),some (.lst ((R').map x0n),1),a,(j').1,(j').2]):=fun w R a j hw h1 h2 h3=>by
  obtain⟨j',e,i1,i2,i3,i4⟩:=y4i (J:=(Option (D × Nat) × Option (D × Nat))) (pt:=x0k 6) (body:=x9j) x0n (fun(σ:List Nat × List Sn) j=>[some (x07 n f,9),some (x0t n C,9),some (.lst (l.map x0n),0),some (.tup (x0l σ.1),9),some (.lst ((σ.2).map x0n),1),a,(j).1,(j).2]) (fun σ s=>(doS f σ.1 (x3p C s),if doS f σ.1 (x3p C s)=σ.1 then σ.2 else σ.2++[s]))
   (fun σ=>Vn n C.p σ.1/\(∀ s∈σ.2,s∈l)/\(σ.2.map (x3p C)).foldl (doS f) v=σ.1/\Lad.mu n f σ.1+σ.2.length<=Lad.mu n f v) l (w,R) j ⟨hw,h1,h2,h3⟩ (fun s hs σ j hh0=>by
    obtain⟨k1,k2,k3,k4⟩:=hh0
    obtain⟨x,Q⟩:=σ
    dsimp only at k1 k2 k3 k4 ⊢
    have ok:=y23 L hC _ (y20 (hl s hs))
    have hb:=y91 L hC k1 (hl s hs)
    have hx':=L.doS_V ok k1
    by_cases he:doS f x (x3p C s)=x
    ·rw[if_pos he]
     refine⟨⟨hx',k2,by rw[he]; exact k3,by rw[he]; exact k4⟩,[some (x07 n f,9),some (x0t n C,9),some (.lst (l.map x0n),0),some (.tup (x0l x),9),some (.lst ((Q).map x0n),1),a,(((some (x0n s,9),j.2):(Option (D × Nat) × Option (D × Nat)))).1,(((some (x0n s,9),j.2):(Option (D × Nat) × Option (D × Nat)))).2],(some (x0n s,9),some (.tup (x0l (doS f x (x3p C s))),9)),by simp,?_⟩
     unfold x9j
     refine(x0j (ρ1:=[some (x07 n f,9),some (x0t n C,9),some (.lst (l.map x0n),0),some (.tup (x0l x),9),some (.lst ((Q).map x0n),1),a,(((some (x0n s,9),some (.tup (x0l (doS f x (x3p C s))),9)):(Option (D × Nat) × Option (D × Nat)))).1,(((some (x0n s,9),some (.tup (x0l (doS f x (x3p C s))),9)):(Option (D × Nat) × Option (D × Nat)))).2]) (by simp[hb])).trans ?_
     refine(x0j (ρ1:=[some (x07 n f,9),some (x0t n C,9),some (.lst (l.map x0n),0),some (.tup (x0l x),9),some (.lst ((Q).map x0n),1),a,(((some (x0n s,9),some (.tup (x0l (doS f x (x3p C s))),9)):(Option (D × Nat) × Option (D × Nat)))).1,(((some (x0n s,9),some (.tup (x0l (doS f x (x3p C s))),9)):(Option (D × Nat) × Option (D × Nat)))).2]) (by rw[he]; simp[y9g])).trans ?_
     simp
    ·rw[if_neg he]
     have hlt:=L.mu_lt k1 hx' (L.doS_up ok k1) (fun z=>he z.symm)
     refine⟨⟨hx',fun t ht=>?_,?_,by rw[List.length_append]; show _+(Q.length+1)<=_; omega⟩,[some (x07 n f,9),some (x0t n C,9),some (.lst (l.map x0n),0),some (.tup (x0l x),9),some (.lst ((Q).map x0n),1),a,(((some (x0n s,9),j.2):(Option (D × Nat) × Option (D × Nat)))).1,(((some (x0n s,9),j.2):(Option (D × Nat) × Option (D × Nat)))).2],(some (x0n s,9),some (.tup (x0l (doS f x (x3p C s))),9)),by simp,?_⟩
     ·rcases List.mem_append.mp ht with h | h
      ·exact k2 t h
      ·rw[List.mem_singleton.mp h]; exact hs
     ·rw[List.map_append,List.foldl_append,k3]; rfl
     ·unfold x9j
      have hQ:Q.length<=1000:=by omega
      refine(x0j (ρ1:=[some (x07 n f,9),some (x0t n C,9),some (.lst (l.map x0n),0),some (.tup (x0l x),9),some (.lst ((Q).map x0n),1),a,(((some (x0n s,9),some (.tup (x0l (doS f x (x3p C s))),9)):(Option (D × Nat) × Option (D × Nat)))).1,(((some (x0n s,9),some (.tup (x0l (doS f x (x3p C s))),9)):(Option (D × Nat) × Option (D × Nat)))).2]) (by simp[hb])).trans ?_
      refine(x0j (ρ1:=[some (x07 n f,9),some (x0t n C,9),some (.lst (l.map x0n),0),some (.tup (x0l x),9),some (.lst (((Q++[s])).map x0n),1),a,(((some (x0n s,9),some (.tup (x0l (doS f x (x3p C s))),9)):(Option (D × Nat) × Option (D × Nat)))).1,(((some (x0n s,9),some (.tup (x0l (doS f x (x3p C s))),9)):(Option (D × Nat) × Option (D × Nat)))).2]) (by
       generalize doS f x (x3p C s)=y at *
       simp[y9g,he,hQ])).trans ?_
      simp)
  have ef:∀ (l:List Sn) (σ:List Nat × List Sn),(l.foldl (fun(σ:List Nat × List Sn) s=>(doS f σ.1 (x3p C s),if doS f σ.1 (x3p C s)=σ.1 then σ.2 else σ.2++[s])) σ).1=(l.map (x3p C)).foldl (doS f) σ.1:=by
   intro l
   induction l with
   | nil=>intro σ; rfl
   | cons s l ih=>intro σ; exact ih _
  have ef':=ef l (w,R)
  generalize l.foldl (fun(σ:List Nat × List Sn) s=>(doS f σ.1 (x3p C s),if doS f σ.1 (x3p C s)=σ.1 then σ.2 else σ.2++[s])) (w,R)=σ at *
  obtain⟨x,Q⟩:=σ
  dsimp only at ef' i1 i2 i3 i4 e
  have ef2:x=(l.map (x3p C)).foldl (doS f) w:=ef'
  subst ef2
  exact⟨Q,j',i2,i3,i4,e⟩
 -- all rounds
 obtain⟨ρ',e,u,R,j,hu,hR1,hR2,hR3,rfl⟩:=y7j (c:=x3u (e2 dNe (x05 3) (x05 5))) (b:=y2f)
  (Q:=fun ρ=>∃ (u:List Nat) (R:List Sn),∃ j:(Option (D × Nat) × Option (D × Nat)),LowS n f C.p (l.map (x3p C)) v u/\(∀ s∈R,s∈l)/\(R.map (x3p C)).foldl (doS f) v=u/\Lad.mu n f u+R.length<=Lad.mu n f v/\ρ=[some (x07 n f,9),some (x0t n C,9),some (.lst (l.map x0n),0),some (.tup (x0l u),9),some (.lst ((R).map x0n),1),some (.tup (x0l u),9),(j).1,(j).2])
  (fun k ρ=>∃ (w:List Nat) (R:List Sn),∃ j:(Option (D × Nat) × Option (D × Nat)),∃ a:D,Vn n C.p w/\leV f C.p v w/\(∀ x,Vn n C.p x->ClS f (l.map (x3p C)) x->leV f C.p v x->leV f C.p w x)/\(∀ s∈R,s∈l)/\(R.map (x3p C)).foldl (doS f) v=w/\Lad.mu n f w+R.length<=Lad.mu n f v /\
    ((a=.non/\k=Lad.mu n f w+1)\/∃ y,a=.tup (x0l y)/\Vn n C.p y/\w=(l.map (x3p C)).foldl (doS f) y/\k=Lad.mu n f w+(if y=w then 0 else 1))/\ρ=[some (x07 n f,9),some (x0t n C,9),some (.lst (l.map x0n),0),some (.tup (x0l w),9),some (.lst ((R).map x0n),1),some (a,9),(j).1,(j).2])
  (k:=Lad.mu n f v+1) (ρ:=[some (x07 n f,9),some (x0t n C,9),some (.lst (l.map x0n),0),some (.tup (x0l v),9),some (.lst ((([]:List Sn)).map x0n),1),some (.non,9),(((none,none):(Option (D × Nat) × Option (D × Nat)))).1,(((none,none):(Option (D × Nat) × Option (D × Nat)))).2]) (by omega) ⟨v,[],(none,none),.non,hv,L.leV_refl hv,fun x _ _ h=>h,(fun _ z=>nomatch z),rfl,Nat.le_refl _,.inl ⟨rfl,rfl⟩,rfl⟩ (fun k ρ hh0=>by
   obtain⟨w,R,j,a,hw,h1,h2,h3,h4,h5,h6,hr⟩:=hh0
   subst hr
   have next:(x3u (e2 dNe (x05 3) (x05 5)) [some (x07 n f,9),some (x0t n C,9),some (.lst (l.map x0n),0),some (.tup (x0l w),9),some (.lst ((R).map x0n),1),some (a,9),(j).1,(j).2]=some (true,[some (x07 n f,9),some (x0t n C,9),some (.lst (l.map x0n),0),some (.tup (x0l w),9),some (.lst ((R).map x0n),1),some (a,9),(j).1,(j).2]))->Lad.mu n f w+1<=k->∃ ρ1 ρ2 k',x3u (e2 dNe (x05 3) (x05 5)) [some (x07 n f,9),some (x0t n C,9),some (.lst (l.map x0n),0),some (.tup (x0l w),9),some (.lst ((R).map x0n),1),some (a,9),(j).1,(j).2]=some (true,ρ1)/\y2f ρ1=some (.nx ρ2)/\k'<k/\∃ (w:List Nat) (R:List Sn),∃ j:(Option (D × Nat) × Option (D × Nat)),∃ a:D,Vn n C.p w/\leV f C.p v w/\(∀ x,Vn n C.p x->ClS f (l.map (x3p C)) x->leV f C.p v x->leV f C.p w x)/\(∀ s∈R,s∈l)/\(R.map (x3p C)).foldl (doS f) v=w/\Lad.mu n f w+R.length<=Lad.mu n f v /\
   ((a=.non/\k'=Lad.mu n f w+1)\/∃ y,a=.tup (x0l y)/\Vn n C.p y/\w=(l.map (x3p C)).foldl (doS f) y/\k'=Lad.mu n f w+(if y=w then 0 else 1))/\ρ2=[some (x07 n f,9),some (x0t n C,9),some (.lst (l.map x0n),0),some (.tup (x0l w),9),some (.lst ((R).map x0n),1),some (a,9),(j).1,(j).2]:=fun ht hk=>by
    obtain⟨R',j',r1,r2,r3,r4⟩:=round w R (some (.tup (x0l w),9)) j hw h3 h4 h5
    have hw':=L.foldS_V hS hw
    have up:=L.foldS_up hS hw
    refine⟨_,[some (x07 n f,9),some (x0t n C,9),some (.lst (l.map x0n),0),some (.tup (x0l ((l.map (x3p C)).foldl (doS f) w)),9),some (.lst ((R').map x0n),1),some (.tup (x0l w),9),(j').1,(j').2],Lad.mu n f ((l.map (x3p C)).foldl (doS f) w)+(if w=(l.map (x3p C)).foldl (doS f) w then 0 else 1),ht,?_,?_,_,R',j',.tup (x0l w),hw',L.leV_trans hv hw hw' h1 up,fun x hx cx hvx=>L.foldS_below hx hS hw cx (h2 x hx cx hvx),r1,r2,r3,.inr ⟨w,rfl,hw,rfl,rfl⟩,rfl⟩
    ·unfold y2f
     refine(x0j (ρ1:=[some (x07 n f,9),some (x0t n C,9),some (.lst (l.map x0n),0),some (.tup (x0l w),9),some (.lst ((R).map x0n),1),some (.tup (x0l w),9),(j).1,(j).2]) (by simp)).trans ?_
     exact(x2x (ds:=l.map x0n) (ρ1:=[some (x07 n f,9),some (x0t n C,9),some (.lst (l.map x0n),0),some (.tup (x0l w),9),some (.lst ((R).map x0n),1),some (.tup (x0l w),9),(j).1,(j).2]) (by simp[hlen])).trans r4
    ·by_cases he:w=(l.map (x3p C)).foldl (doS f) w
     ·rw[if_pos he,<- he]; omega
     ·rw[if_neg he]
      have:=L.mu_lt hw hw' up he
      omega
   rcases h6 with⟨rfl,hk⟩ | ⟨y,rfl,hy,hwy,hk⟩
   ·refine .inr (next ?_ (by omega))
    have hne:dNe (.tup (x0l w)) .non=some (.bl true):=by
     unfold dNe
     rw[if_pos ⟨(z5g w).ok,(Sh.non (k:=0)).ok⟩]
     rfl
    simp[hne]
   ·by_cases hyw:y=w
    ·subst hyw
     refine .inl ⟨[some (x07 n f,9),some (x0t n C,9),some (.lst (l.map x0n),0),some (.tup (x0l y),9),some (.lst ((R).map x0n),1),some (.tup (x0l y),9),(j).1,(j).2],by simp[y9g],y,R,j,⟨hw,(L.foldS_fix hS hw).mp hwy.symm,h1,h2⟩,h3,h4,h5,rfl⟩
    ·rw[if_neg hyw]at hk
     refine .inr (next ?_ (by omega))
     have:¬ (w=y):=fun z=>hyw z.symm
     simp[y9g,this])
 refine⟨u,R,hu,hR1,hR2,hR3,?_⟩
 unfold y0l y9s
 refine x2w ?_
 show x1g _ _ [some (x07 n f,9),some (x0t n C,9),some (.lst (l.map x0n),0),some (.tup (x0l v),9),none,none,none,none]=_
 refine(x0j (ρ1:=[some (x07 n f,9),some (x0t n C,9),some (.lst (l.map x0n),0),some (.tup (x0l v),9),some (.lst [],1),none,none,none]) (by simp)).trans ?_
 refine(x0j (ρ1:=[some (x07 n f,9),some (x0t n C,9),some (.lst (l.map x0n),0),some (.tup (x0l v),9),some (.lst ((([]:List Sn)).map x0n),1),some (.non,9),(((none,none):(Option (D × Nat) × Option (D × Nat)))).1,(((none,none):(Option (D × Nat) × Option (D × Nat)))).2]) (by simp)).trans ?_
 refine(x0j e).trans ?_
 simp
end
theorem dg1 (a b:D):y4k ["begin","way"] [a,b] "begin" = some a:=by unfold y4k; rw[if_pos rfl]
theorem dg2 (a b:D):y4k ["begin","way"] [a,b] "way" = some b:=by
 unfold y4k
 rw[if_neg (by decide)]
 unfold y4k
 rw[if_pos rfl]
section
variable {n:Nat} {f:Nat->Nat->Nat} {C:Cht}
theorem z1h {s:Sn} (hs:okN C s):x26 [x0n s,.dic ["begin","way"] [.int (Int.ofNat C.B.length),.int (Int.ofNat C.W.length)]]=some (.bl true,9):=by
 obtain⟨b,k⟩:=s
 unfold okN at hs
 have l2:dNe (.int 2) (.int 2)=some (.bl false):=(z5s _ _).trans (by simp)
 unfold x26 x4w
 cases b with
 | true=>
  have hk:k<C.B.length:=hs
  have n1:x1d [.int (Int.ofNat k),.int (Int.ofNat C.B.length)]=some (.bl true,9):=by
   rw[x69]
   have:x4u C.B.length (.int (Int.ofNat k))=true:=by
    show(decide ((0:Int)<=(k:Int)) && decide ((k:Int)<(C.B.length:Int)))=true
    simp; exact hk
   rw[this]
  have s0:atD (.tup [.str "begin",.int (Int.ofNat k)]) 0=some (.str "begin"):=rfl
  have s1:atD (.tup [.str "begin",.int (Int.ofNat k)]) 1=some (.int (Int.ofNat k)):=rfl
  have ll:x7c (.tup [.str "begin",.int (Int.ofNat k)])=some 2:=rfl
  have g1:=dg1 (.int (Int.ofNat C.B.length)) (.int (Int.ofNat C.W.length))
  show fnD _ _ [.tup [.str "begin",.int (Int.ofNat k)],_]=_
  simp[-Int.ofNat_eq_natCast,isD,ll,l2,s0,s1,g1,n1]
 | false=>
  have hk:k<C.W.length:=hs
  have n1:x1d [.int (Int.ofNat k),.int (Int.ofNat C.W.length)]=some (.bl true,9):=by
   rw[x69]
   have:x4u C.W.length (.int (Int.ofNat k))=true:=by
    show(decide ((0:Int)<=(k:Int)) && decide ((k:Int)<(C.W.length:Int)))=true
    simp; exact hk
   rw[this]
  have s0:atD (.tup [.str "way",.int (Int.ofNat k)]) 0=some (.str "way"):=rfl
  have s1:atD (.tup [.str "way",.int (Int.ofNat k)]) 1=some (.int (Int.ofNat k)):=rfl
  have ll:x7c (.tup [.str "way",.int (Int.ofNat k)])=some 2:=rfl
  have g1:=dg2 (.int (Int.ofNat C.B.length)) (.int (Int.ofNat C.W.length))
  show fnD _ _ [.tup [.str "way",.int (Int.ofNat k)],_]=_
  simp[-Int.ofNat_eq_natCast,isD,ll,l2,s0,s1,g1,n1]
theorem y7f {s:Sn} (hs:okN C s):x43 [x0t n C,x0n s]=some (.bl true,9):=by
 have h:=z1h hs
 unfold x43 y42
 have e1:x88 0 2 [some (x0t n C,9),some (x0n s,9)]=some (Int.ofNat C.B.length):=by
  show some (Int.ofNat (C.B.map x1k).length)=_
  rw[List.length_map]
 have e2':x88 0 1 [some (x0t n C,9),some (x0n s,9)]=some (Int.ofNat C.W.length):=by
  show some (Int.ofNat (C.W.map (x18 n)).length)=_
  rw[List.length_map]
 have ed:y6t "begin" "way" (x88 0 2) (x88 0 1) [some (x0t n C,9),some (x0n s,9)]=some (.dic ["begin","way"] [.int (Int.ofNat C.B.length),.int (Int.ofNat C.W.length)],9,[some (x0t n C,9),some (x0n s,9)]):=by
  unfold y6t
  rw[e1,e2']
 exact x2w (x33 (x0z (x1b (f:=x05 1) (d:=x0n s) (q:=9) (ρ:=[some (x0t n C,9),some (x0n s,9)]) (ρ1:=[some (x0t n C,9),some (x0n s,9)]) rfl (x15 ed)) rfl h))
theorem x8r {l:List Sn} (hl:∀ s∈l,okN C s) (hlen:l.length<=1000):x2k [x0t n C,.lst (l.map x0n)]=some (.non,9):=by
 have hit:x7a (x05 1) [some (x0t n C,9),some (.lst (l.map x0n),0)]=some (l.map x0n,[some (x0t n C,9),some (.lst (l.map x0n),0)]):=by simp[hlen]
 have e:=z05 (i:=2) (te:=x0p x43 2 (x01 (x05 0) (x01 (x05 2) (x0g)))) (ρ:=[some (x0t n C,9),some (.lst (l.map x0n),0)]) rfl hit (fun _=>true) (fun _=>9) (fun d hd=>by
  obtain⟨s,hs,rfl⟩:=List.mem_map.mp hd
  simp[y7f (n:=n) (hl s hs)])
 have ea:(l.map x0n).all (fun _=>true)=true:=by simp
 rw[ea]at e
 unfold x2k x5i
 show(match sIf _ _ _ [some (x0t n C,9),some (.lst (l.map x0n),0)]with | some (.rt d q)=>some (d,q) | some (.nx _)=>some (D.non,9) | _=>none)=_
 have ei:sIf (x61 (y0r (eB z1d (x01 (x2h 1 (x7a (x05 1)) (x0k 2) (x1m) (x0p x43 2 (x01 (x05 0) (x01 (x05 2) (x0g)))) false) (x0g))))) (y4d) (x6b) [some (x0t n C,9),some (.lst (l.map x0n),0)]=some (.nx [some (x0t n C,9),some (.lst (l.map x0n),0)]):=by
  refine(y2g ?_).trans rfl
  unfold x61 y0r
  rw[e]
  rfl
 rw[ei]
theorem z0d:(z0t C).length=C.B.length+C.W.length:=by simp[z0t]
theorem y3z (hB:C.B.length<=60) (hW:C.W.length<=60):x47 [x0t n C]=some (.lst ((z0t C).map x0n),1):=by
 unfold x47 y0b
 refine x2w ?_
 show x1g _ _ [some (x0t n C,9),none]=_
 have c1:atD (x0t n C) 1=some (.tup (C.W.map (x18 n))):=rfl
 have c2:atD (x0t n C) 2=some (.tup (C.B.map x1k)):=rfl
 have lB:x7c (.tup (C.B.map x1k))=some C.B.length:=by simp[x7c]
 have lW:x7c (.tup (C.W.map (x18 n)))=some C.W.length:=by simp[x7c]
 have h1:=x1e (k:=1) (tt:=x1m) (te:=x75 (x01 (eC (.str "begin")) (x01 (x05 2) (x0g)))) (deep:=false) (x3v (m:=C.B.length) (by omega) (fe:=eB z2p (x01 (x1q 0 (eC (.int 2))) (x0g))) (ρ:=[some (x0t n C,9),none]) (ρ':=[some (x0t n C,9),none]) (q:=9) (by simp[-Int.ofNat_eq_natCast,c2,lB])) (x8q (i:=2) rfl (fun _=>true) (fun k=>x0n (true,k)) (fun _=>9) (fun k hk=>rfl) (fun k hk _=>by simp[-Int.ofNat_eq_natCast,x0n]))
 rw[show(List.range C.B.length).filter (fun _=>true)=List.range C.B.length by simp]at h1
 refine(x0j (ρ1:=[some (x0t n C,9),some (.lst ((List.range C.B.length).map fun k=>x0n (true,k)),1)]) (x1y h1 rfl)).trans ?_
 have h2:=x1e (k:=1) (tt:=x1m) (te:=x75 (x01 (eC (.str "way")) (x01 (x05 2) (x0g)))) (deep:=false) (x3v (m:=C.W.length) (by omega) (fe:=eB z2p (x01 (x1q 0 (eC (.int 1))) (x0g))) (ρ:=[some (x0t n C,9),some (.lst ((List.range C.B.length).map fun k=>x0n (true,k)),0)]) (ρ':=[some (x0t n C,9),some (.lst ((List.range C.B.length).map fun k=>x0n (true,k)),0)]) (q:=9) (by simp[-Int.ofNat_eq_natCast,c1,lW])) (x8q (i:=2) rfl (fun _=>true) (fun k=>x0n (false,k)) (fun _=>9) (fun k hk=>rfl) (fun k hk _=>by simp[-Int.ofNat_eq_natCast,x0n]))
 rw[show(List.range C.W.length).filter (fun _=>true)=List.range C.W.length by simp]at h2
 have ea:(z0t C).map x0n=((List.range C.B.length).map fun k=>x0n (true,k))++((List.range C.W.length).map fun k=>x0n (false,k)):=by
  unfold z0t
  rw[List.map_append,List.map_map,List.map_map]
  rfl
 rw[ea]
 refine x33 (ρ1:=[some (x0t n C,9),some (.lst ((List.range C.B.length).map fun k=>x0n (true,k)),0)]) ?_
 have v1:x05 1 [some (x0t n C,9),some (.lst ((List.range C.B.length).map fun k=>x0n (true,k)),1)]=some (.lst ((List.range C.B.length).map fun k=>x0n (true,k)),0,[some (x0t n C,9),some (.lst ((List.range C.B.length).map fun k=>x0n (true,k)),0)]):=rfl
 unfold y97
 rw[v1]
 have hl:((List.range C.B.length).map fun k=>x0n (true,k)).length+((List.range C.W.length).map fun k=>x0n (false,k)).length<=1000:=by
  rw[List.length_map,List.length_map,List.length_range,List.length_range]; omega
 generalize ((List.range C.B.length).map fun k=>x0n (true,k))=x at *
 generalize ((List.range C.W.length).map fun k=>x0n (false,k))=y at *
 rw[if_neg (by decide)]at h2
 simp only[h2,if_pos hl]
end
section
variable {n:Nat} {f:Nat->Nat->Nat} (L:Lad n f) {z:Nat} (hz:z<n) (bz:∀ j,j<n->f z j=j) {C:Cht} (hC:C.Ok n f)
noncomputable def y53 (p z:Nat):List Nat:=List.replicate p z
theorem z8y {p:Nat} (hz:z<n):Vn n p (y53 p z):=⟨by simp[y53],fun x hx=>by rw[(List.mem_replicate.mp hx).2]; exact hz⟩
theorem z51 {p i:Nat} (hi:i<p):gv (y53 p z) i=z:=by unfold gv y53; simp[hi]
theorem y5f {p:Nat} (bz:∀ j,j<n->f z j=j) {v:List Nat} (hv:Vn n p v):leV f p (y53 p z) v:=fun i hi=>by rw[z51 hi]; exact bz _ (hv.gv hi)
include L hz bz hC
theorem y8j:x7y [x07 n f,x0t n C]=some (.tup (x0l (y53 C.p z)),9):=by
 have hn:n<=1000:=Nat.le_trans L.hi (by decide)
 have hp8:=hC.p8
 have c0:atD (x0t n C) 0=some (.int (Int.ofNat C.p)):=rfl
 have hl:=y2u L hz bz hn
 unfold x7y y6j
 have e:(List.replicate C.p [D.int (Int.ofNat z)]).flatten=x0l (y53 C.p z):=by
  simp[x0l,y53,List.flatten_replicate_singleton]
 have b1:(-1000:Int)<=Int.ofNat C.p:=by show(-1000:Int)<=(C.p:Int); omega
 have b2:Int.ofNat C.p<=1000:=by show(C.p:Int)<=1000; omega
 have b3:(Int.ofNat C.p).toNat=C.p:=rfl
 have b4:C.p<=1000:=by omega
 simp[-Int.ofNat_eq_natCast,-List.flatten_replicate_singleton,hl,c0,b1,b2,b3,b4,e]
theorem y4m {l:List Sn} (hl:∀ s∈l,okN C s) (hlen:l.length<=1000) :
  ∃ (u:List Nat) (R:List Sn),LowS n f C.p (l.map (x3p C)) (y53 C.p z) u/\(∀ s∈R,s∈l)/\(R.map (x3p C)).foldl (doS f) (y53 C.p z)=u/\Lad.mu n f u+R.length<=Lad.mu n f (y53 C.p z)/\x4x [x07 n f,x0t n C,.lst (l.map x0n)]=some (.tup [.tup (x0l u),.int (Int.ofNat R.length)],9):=by
 obtain⟨u,R,h1,h2,h3,h4,e⟩:=z1o L hC (z8y (p:=C.p) hz) hl hlen
 refine⟨u,R,h1,h2,h3,h4,?_⟩
 have r0:=x8r (n:=n) hl hlen
 have r1:=y8j L hz bz hC
 have a0:atD (.tup [.tup (x0l u),.lst (R.map x0n)]) 0=some (.tup (x0l u)):=rfl
 have a1:atD (.tup [.tup (x0l u),.lst (R.map x0n)]) 1=some (.lst (R.map x0n)):=rfl
 have a2:x7c (.lst (R.map x0n))=some R.length:=by simp[x7c]
 unfold x4x y1b
 simp[-Int.ofNat_eq_natCast,r0,r1,e,a0,a1,a2]
theorem x72:∃ u,LowS n f C.p (x48 C) (y53 C.p z) u/\x76 [x07 n f,x0t n C]=some (.tup (x0l u),9):=by
 have hB:=hC.b60
 have hW:=hC.w60
 obtain⟨u,R,h1,h2,h3,h4,e⟩:=y4m L hz bz hC (z4p C) (by rw[z0d]; omega)
 rw[z0h]at h1
 refine⟨u,h1,?_⟩
 have r0:=y3z (n:=n) hB hW
 have a0:atD (.tup [.tup (x0l u),.int (Int.ofNat R.length)]) 0=some (.tup (x0l u)):=rfl
 unfold x76 y96
 simp[-Int.ofNat_eq_natCast,r0,e,a0]
end
theorem x4r {α:Type} {k:Nat} {pt:x5m} {tt:x2m} {te:Den} {ρ:Rho} (enc:α->D) (ext:α->Rho) (b:α->Bool) (v:α->D) (q:α->Nat):∀ l:List α,
  (∀ x∈l,pt (enc x) (ρ++List.replicate k none)=some (ρ++ext x)/\tt (ρ++ext x)=some (b x,ρ++ext x)/\(b x=true->te (ρ++ext x)=some (v x,q x,ρ++ext x)))->x6k k pt tt te false (l.map enc) ρ=some ((l.filter b).map v,ρ)
 | [],_=>rfl
 | x::l,h=>by
  obtain⟨h1,h2,h3⟩:=h x List.mem_cons_self
  have ih:=x4r enc ext b v q l (fun y m=>h y (List.mem_cons_of_mem _ m))
  have ht:(ρ++ext x).take ρ.length=ρ:=by simp
  rw[List.map_cons]
  unfold x6k
  rw[h1]
  simp only[h2]
  cases hb:b x with
  | true=>
   simp only[if_true,h3 hb,ht,ih]
   rw[List.filter_cons_of_pos hb]
   simp
  | false=>
   simp only[ht,ih]
   rw[List.filter_cons_of_neg (by rw[hb]; simp)]
   simp
theorem z2i {i:Nat} {ρ:Rho} {x:D × Nat} (h:ρ[i]? = some (some x)):ρ.set i (some x)=ρ:=by
 apply List.ext_getElem?
 intro k
 by_cases hk:i=k
 ·subst hk
  rw[h,List.getElem?_set_self (List.getElem?_eq_some_iff.mp h).1]
 ·rw[List.getElem?_set_ne hk]
theorem x7h {i q:Nat} {ρ:Rho} {ds:List D} (h:ρ[i]? = some (some (.lst ds,q))):x05 i ρ=some (.lst ds,0,ρ.set i (some (.lst ds,0))):=by
 unfold x05
 rw[h]
 by_cases hq:q=0
 ·subst hq
  rw[z2i h]
  rfl
 ·simp[hq]
theorem y2j {g:x2m} {ρ ρ1:Rho} {b:Bool} (e:g ρ=some (b,ρ1)):x61 g ρ=some (!b,ρ1):=by unfold x61; rw[e]
theorem y1w {f:Den} {ρ ρ1:Rho} {b:Bool} {q:Nat} (h:f ρ=some (.bl b,q,ρ1)):y0r f ρ=some (b,ρ1):=by unfold y0r; rw[h]; cases b <;> rfl
theorem x9i {i q n:Nat} {ρ:Rho} {d:D} (h:ρ[i]? = some (some (d,q))) (hl:x7c d=some n):x17 i ρ=some (.int (Int.ofNat n),9,ρ):=by unfold x17; rw[h]; simp only[hl]
theorem x55 {i q:Nat} {ρ:Rho} {x d:D} {b:Den} {k:Int} {q':Nat} (hb:b ρ=some (.int k,q',ρ)) (h:ρ[i]? = some (some (x,q))) (ha:atD x k=some d) (hd:d.isL=false):x1q i b ρ=some (d,9,ρ):=by
 unfold x1q
 rw[h]
 simp only[hb,h,ha,hd,x4o]
 simp
theorem z3g {ρ:Rho} {x d:D} {a b:Den} {k:Int} {q q':Nat} {ρ1 ρ2:Rho} (h:a ρ=some (x,q,ρ1)) (hb:b ρ1=some (.int k,q',ρ2)) (ha:atD x k=some d) (hx:x.isL=false) (hd:d.isL=false):eIx a b ρ=some (d,9,ρ2):=by
 unfold eIx
 rw[h]
 simp only[hb,ha,hd,hx,x4o]
 simp
theorem z4u (ns:List Int) {c:Int} (hc:0<=c) {n:Nat} (hn:0<n):∃ v,v<n/\x0a [scr ns,.int c,.int (Int.ofNat n)]=some (.int (Int.ofNat v),9):=by
 have hnp:(0:Int)<Int.ofNat n:=by show(0:Int)<(n:Int); omega
 have h1:=x44 ns c hnp
 have h2:=x58 ns c hnp
 have h3:Int.ofNat n=(n:Int):=rfl
 obtain⟨v,hv⟩:=Int.eq_ofNat_of_zero_le h1
 refine⟨v,by rw[hv,h3]at h2; omega,?_⟩
 rw[x5e ns c _ hc hnp,hv]
 rfl
noncomputable def ov (f:Nat->Nat->Nat) (w i:Nat):Nat:=if f i w=w then 0 else 1
structure IsMap (n:Nat) (f:Nat->Nat->Nat) (z m:Nat) (g:Nat->Nat->Nat) (h:Nat->Nat):Prop where
 lt:∀ i,i<n->h i<m
 jn:∀ x y,x<n->y<n->h (f x y)=g (h x) (h y)
 bt:∀ j,j<m->g (h z) j=j
end My
namespace My
open PySem PySem.Spec PyProof.Rows L2 L3
end My
namespace My
open PySem PySem.Spec PyProof.Rows L2 L3
noncomputable def j0u (n:Nat) (f:Nat->Nat->Nat) (z m:Nat) (g:Nat->Nat->Nat) (z':Nat) (d:D):Bool:=match d with
 | .tup ds=>x3t n m (.tup ds) && (ljB n f g (x71 ds) && decide (x71 ds z=z'))
 | _=>false
theorem y5s {n m:Nat} {r:Nat->Nat} (hr:∀ i,i<n->r i<m):x3t n m (x0b n r)=true:=by
 show(decide ((x0l ((List.range n).map r)).length=n) && (x0l ((List.range n).map r)).all (x4u m))=true
 rw[x1h,List.length_map,List.length_range,decide_eq_true rfl,Bool.true_and,List.all_eq_true]
 intro d hd
 obtain⟨x,hx,rfl⟩:=List.mem_map.mp hd
 obtain⟨i,hi,rfl⟩:=List.mem_map.mp hx
 have:=hr i (List.mem_range.mp hi)
 show(decide ((0:Int)<=Int.ofNat (r i)) && decide (Int.ofNat (r i)<(m:Int)))=true
 have q1:(0:Int)<=Int.ofNat (r i):=Int.natCast_nonneg _
 have q2:Int.ofNat (r i)<(m:Int):=by show((r i:Nat):Int)<(m:Int); omega
 rw[decide_eq_true q1,decide_eq_true q2]
 rfl
section
variable {n m:Nat} {f g:Nat->Nat->Nat} {z z':Nat}
theorem z44 {d:D} (h:x3t n m d=false):j0u n f z m g z' d=false:=by
 cases d with
 | tup ds=>show(x3t n m (.tup ds) && _)=false; rw[h]; rfl
 | _=>rfl
theorem y7n (hz:z<n) {r:Nat->Nat} (hr:∀ i,i<n->r i<m) (cl:∀ i j,i<n->j<n->f i j<n):j0u n f z m g z' (x0b n r)=(ljB n f g r && decide (r z=z')):=by
 show(x3t n m (x0b n r) && (ljB n f g (x71 (x0l ((List.range n).map r))) && decide (x71 (x0l ((List.range n).map r)) z=z')))=_
 rw[y5s hr,Bool.true_and,x3o hz]
 congr 1
 rw[Bool.eq_iff_iff,y5a,y5a]
 constructor
 ·intro h x y hx hy
  have:=h x y hx hy
  rw[x3o hx,x3o hy,x3o (cl x y hx hy)]at this
  exact this
 ·intro h x y hx hy
  rw[x3o hx,x3o hy,x3o (cl x y hx hy)]
  exact h x y hx hy
variable (L:Lad n f) (hz:z<n) (bz:∀ j,j<n->f z j=j) (M:Lad m g) (hz':z'<m) (bz':∀ j,j<m->g z' j=j)
include L hz bz M hz' bz'
theorem IsMap.least {h:Nat->Nat} (p:IsMap n f z m g h):h z=z':=M.le_anti (p.lt z hz) hz' (p.bt z' hz') (bz' _ (p.lt z hz))
theorem y6c {r:Nat->Nat} (hr:∀ i,i<n->r i<m):j0u n f z m g z' (x0b n r)=true ↔ IsMap n f z m g r:=by
 rw[y7n hz hr L.cl,Bool.and_eq_true,y5a,decide_eq_true_eq]
 exact⟨fun⟨h1,h2⟩=>⟨hr,h1,fun j hj=>by rw[h2]; exact bz' j hj⟩,fun p=>⟨p.jn,p.least L hz bz M hz' bz'⟩⟩
theorem y3o (d:D):x6f [x07 n f,x07 m g,d]=some (.bl (j0u n f z m g z' d),9):=by
 have hn:n<=1000:=Nat.le_trans L.hi (by decide)
 have hm:m<=1000:=Nat.le_trans M.hi (by decide)
 have v2:x05 2 [some (x07 n f,9),some (x07 m g,9),some (d,x4o d)]=some (d,x4o d,[some (x07 n f,9),some (x07 m g,9),some (d,x4o d)]):=z09 rfl
 have v0:x05 0 [some (x07 n f,9),some (x07 m g,9),some (d,x4o d)]=some (x07 n f,9,[some (x07 n f,9),some (x07 m g,9),some (d,x4o d)]):=rfl
 have v1:x05 1 [some (x07 n f,9),some (x07 m g,9),some (d,x4o d)]=some (x07 m g,9,[some (x07 n f,9),some (x07 m g,9),some (d,x4o d)]):=rfl
 have l0:x17 0 [some (x07 n f,9),some (x07 m g,9),some (d,x4o d)]=some (.int (Int.ofNat n),9,[some (x07 n f,9),some (x07 m g,9),some (d,x4o d)]):=x9i rfl x20
 have l1:x17 1 [some (x07 n f,9),some (x07 m g,9),some (d,x4o d)]=some (.int (Int.ofNat m),9,[some (x07 n f,9),some (x07 m g,9),some (d,x4o d)]):=x9i rfl x20
 have c1:=x0z (n:=3) (x1b v2 (x1b l0 (x15 l1))) rfl (y7e n m hn d)
 unfold x6f y62
 refine x2w ?_
 show x1g _ _ [some (x07 n f,9),some (x07 m g,9),some (d,x4o d)]=_
 cases hR:x3t n m d with
 | false=>
  rw[hR]at c1
  rw[z44 hR]
  exact x8n ((z7c (y2j (y1w c1))).trans rfl)
 | true=>
  rw[hR]at c1
  refine(x0j ((y2g (y2j (y1w c1))).trans rfl)).trans ?_
  cases d with
  | tup ds=>
   have e:=z92 hR
   have hb:∀ i,i<n->x71 ds i<m:=fun i hi=>((z3f hR).2 i hi).2
   have r:=y67 L (g:=g) hb
   rw[<- e]at r
   have c2:=x0z (n:=3) (x1b v0 (x1b v1 (x15 v2))) rfl r
   have k1:=x0z (n:=1) (x15 v0) rfl (y2u L hz bz hn)
   have k2:=x0z (n:=1) (x15 v1) rfl (y2u M hz' bz' hm)
   have at1:atD (.tup ds) (Int.ofNat z)=some (.int (Int.ofNat (x71 ds z))):=by rw[e]; exact x25 hz
   have k3:=x2y (x55 (i:=2) k1 rfl at1 rfl) k2 (y4v _ _)
   refine x33 (ρ1:=[some (x07 n f,9),some (x07 m g,9),some ((D.tup ds),x4o (D.tup ds))]) ?_
   show _=some (D.bl (x3t n m (.tup ds) && (ljB n f g (x71 ds) && decide (x71 ds z=z'))),9,_)
   rw[hR,Bool.true_and]
   unfold y9n
   rw[c2]
   cases hl:ljB n f g (x71 ds)with
   | false=>rfl
   | true=>exact k3
  | _=>cases hR
omit M hz' bz'
noncomputable def bk (n:Nat) (f:Nat->Nat->Nat) (z:Nat) (g:Nat->Nat->Nat) (h:Nat->Nat) (w:Nat):Nat:=((List.range n).filter fun x=>decide (g (h x) w=w)).foldl f z
include M
include hz' bz'
end
theorem y6n {α J:Type} {pt:x5m} {body:x1l} (enc:α->D) (S:List D->J->Rho) (v:α->D):∀ (l:List α) (acc:List D) (j:J),acc.length+l.length<=1000->
  (∀ a∈l,∀ ds j,ds.length<=1000->∃ ρ1 j',pt (enc a) (S ds j)=some ρ1/\body ρ1=some (.nx (S (ds++[v a]) j')))->∃ j',x99 pt body (l.map enc) (S acc j)=some (.nx (S (acc++l.map v) j'))
 | [],acc,j,_,_=>⟨j,by rw[List.map_nil,List.map_nil,List.append_nil]; rfl⟩
 | a::l,acc,j,hl,h=>by
  rw[List.length_cons]at hl
  obtain⟨ρ1,j1,h1,h2⟩:=h a List.mem_cons_self acc j (by omega)
  obtain⟨j2,e⟩:=y6n enc S v l (acc++[v a]) j1 (by rw[List.length_append]; show _+1+_<=1000; omega) fun b hb=>h b (List.mem_cons_of_mem _ hb)
  refine⟨j2,?_⟩
  rw[List.map_cons,y9x h1 h2,e,List.append_assoc]
  rfl
theorem y9q {n:Nat} (hn:n<=1000) {i q:Nat} {ρ:Rho} (h:ρ[i]? = some (some (.int (Int.ofNat n),q))):x10 (x01 (x05 i) x0g) ρ=some (x0c n,ρ):=by
 have b1:(-1000:Int)<=Int.ofNat n:=by show(-1000:Int)<=n; omega
 have b2:Int.ofNat n<=1000:=by show(n:Int)<=1000; omega
 simp[-Int.ofNat_eq_natCast,h,b1,b2]
 rfl
theorem y92 {ob:D} {G:List D->Option (D × Nat)} {i n:Nat} {g:x21} {ρ ρ1:Rho} {ds:List D} {d:D} {q:Nat} (ho:ρ[i]? = some (some (ob,9))) (h:g ρ=some (ds,ρ1)) (hl:ds.length=n) (hG:G ds=some (d,q)):y06 ob G i n g ρ=some (d,q,ρ1):=by
 unfold y06
 rw[if_pos ho]
 exact x0z h hl hG
theorem z2m {n:Nat} (hn:n<=1000) {ob:D} (hb:ob.isL=false) {G:List D->Option (D × Nat)} {g:Nat->Nat->Nat} (hG:∀ x y,x<n->y<n->G [.int (Int.ofNat x),.int (Int.ofNat y)]=some (.int (Int.ofNat (g x y)),9)) :
  x38 ob G [.int (Int.ofNat n),ob]=some (x07 n g,9):=by
 unfold x38 y1f
 have s0:x3z 4 [.int (Int.ofNat n),ob]=[some (.int (Int.ofNat n),9),some (ob,9),none,none]:=by simp[hb]
 refine x2w ?_
 rw[s0]
 refine(x0j (ρ1:=[some (.int (Int.ofNat n),9),some (ob,9),some (.lst [],1),none]) rfl).trans ?_
 obtain⟨j',e⟩:=y6n (α:=Nat) (J:=Option (D × Nat)) (pt:=x0k 3) (body:=y55 ob G) (fun x=>D.int (Int.ofNat x)) (fun ds j=>[some (.int (Int.ofNat n),9),some (ob,9),some (.lst ds,1),j]) (fun x=>y2w n g x) (List.range n) [] none (by simpa using hn) (fun x hx ds j hds=>by
  have hx':x<n:=List.mem_range.mp hx
  refine⟨[some (.int (Int.ofNat n),9),some (ob,9),some (.lst ds,1),some (.int (Int.ofNat x),9)],some (.int (Int.ofNat x),9),rfl,?_⟩
  refine y54 (ρ1:=[some (.int (Int.ofNat n),9),some (ob,9),some (.lst ds,1),some (.int (Int.ofNat x),9)]) rfl (x15 (x1j (x15 (x1e (deep:=false) (ds:=x0c n) (ρ1:=[some (.int (Int.ofNat n),9),some (ob,9),some (.lst ds,1),some (.int (Int.ofNat x),9)]) (y9q hn rfl) (x8q (i:=4) (deep:=false) rfl (fun _=>true) (fun y=>.int (Int.ofNat (g x y))) (fun _=>9) (fun j hj=>rfl) (fun y hy _=>y92 rfl rfl rfl (hG x y hx' hy))))))) rfl hds ?_
  have e1:(List.range n).filter (fun _=>true)=List.range n:=by simp
  have e2:(List.range n).map (fun y=>D.int (Int.ofNat (g x y)))=x0l ((List.range n).map fun y=>g x y):=by unfold x0l; rw[List.map_map]; rfl
  rw[e1,e2]
  rfl)
 refine(x0j ((x2x (ds:=x0c n) (ρ1:=[some (.int (Int.ofNat n),9),some (ob,9),some (.lst [],1),none]) (y9q hn rfl)).trans e)).trans ?_
 refine x33 (x1j (x15 (q:=0) (d:=.lst ([]++(List.range n).map fun x=>y2w n g x)) (ρ1:=[some (.int (Int.ofNat n),9),some (ob,9),some (.lst ([]++(List.range n).map fun x=>y2w n g x),0),j']) rfl))
theorem y87 {i j:Int} (c:(-(2 ^ 64)<i/\i<2 ^ 64)\/(-(2 ^ 64)<j/\j<2 ^ 64)):x62 (.int i) (.int j)=some (.int (i*j)):=by
 unfold x62 gI
 dsimp only
 rw[if_pos c]
theorem sm5 {a:Nat} (h:a<1000):-(2 ^ 64)<(Int.ofNat a)/\(Int.ofNat a)<2 ^ 64:=by
 have e:Int.ofNat a=(a:Int):=rfl
 rw[e]
 constructor <;> omega
theorem y0k {a b:Nat} (h:a<1000):x62 (.int (Int.ofNat a)) (.int (Int.ofNat b))=some (.int (Int.ofNat (a*b))):=by
 rw[y87 (.inl (sm5 h))]
 rfl
theorem y3j {a b:Nat} (h:0<b) (h2:b<1000):y5o (.int (Int.ofNat a)) (.int (Int.ofNat b))=some (.int (Int.ofNat (a / b))):=by
 have h1:(0:Int)<Int.ofNat b:=by show(0:Int)<(b:Int); omega
 have h3:Int.ofNat b<1073741824:=by show(b:Int)<1073741824; omega
 unfold y5o gI
 show(if _ then some (D.int (Int.ofNat a / Int.ofNat b))else none)=_
 rw[if_pos ⟨h1,h3⟩]
 rfl
theorem y37 {a b:Nat} (h:0<b):y2x (.int (Int.ofNat a)) (.int (Int.ofNat b))=some (.int (Int.ofNat (a % b))):=by
 have h1:(0:Int)<Int.ofNat b:=by show(0:Int)<(b:Int); omega
 unfold y2x gI
 show(if _ then some (D.int (Int.ofNat a % Int.ofNat b))else none)=_
 rw[if_pos h1]
 rfl
theorem y3c (a b:Nat):x2p (.int (Int.ofNat a)) (.int (Int.ofNat b))=some (.int (Int.ofNat (a+b))):=rfl
theorem y44 {i n:Nat} {f:Nat->Nat->Nat} {ρ:Rho} (h:ρ[i]? = some (some (x07 n f,9))):x17 i ρ=some (.int (Int.ofNat n),9,ρ):=by
 simp[-Int.ofNat_eq_natCast,h,x20]
theorem z64 {fb fN:Den} {is:List Nat} {n:Nat} (hn:n<=1000) {q:Nat} {ρ ρ1:Rho} {cds:List D} {g:Nat->Nat->Nat} (hN:fN ρ=some (.int (Int.ofNat n),q,ρ1)) (hc:z7u is ρ1=some cds)
  (hG:∀ x y,x<n->y<n->∃ ρ',fb (x3z ([D.int (Int.ofNat x),D.int (Int.ofNat y)]++cds).length ([D.int (Int.ofNat x),D.int (Int.ofNat y)]++cds))=some (.int (Int.ofNat (g x y)),9,ρ')):z70 x38 fb is fN ρ=some (x07 n g,9,ρ1):=by
 have hG':∀ x y,x<n->y<n->z03 fb cds [.int (Int.ofNat x),.int (Int.ofNat y)]=some (.int (Int.ofNat (g x y)),9):=fun x y hx hy=>by
  obtain⟨ρ',e⟩:=hG x y hx hy
  unfold z03
  rw[e]
 have hT:∀ ob:D,ob.isL=false->x38 ob (z03 fb cds) [.int (Int.ofNat n),ob]=some (x07 n g,9):=fun ob hb=>z2m hn hb hG'
 unfold z70
 simp only[hN,hc]
 rw[if_pos (fun fa fo vs=>(hT _ rfl).trans (hT (ob0 cds) rfl).symm),hT (ob0 cds) rfl]
noncomputable def cpf (m:Nat) (f g:Nat->Nat->Nat) (x y:Nat):Nat:=f (x / m) (y / m)*m+g (x % m) (y % m)
theorem z00 {n m:Nat} {f g:Nat->Nat->Nat} (hm:0<m) (hm2:m<1000) (hn:n<1000) (cf:∀ i j,i<n->j<n->f i j<n) (cg:∀ i j,i<m->j<m->g i j<m) {x y:Nat} (hx:x<n*m) (hy:y<n*m) :
  x28 [x07 n f,x07 m g,.int (Int.ofNat x),.int (Int.ofNat y)]=some (.int (Int.ofNat (cpf m f g x y)),9):=by
 have x1:x / m<n:=Nat.div_lt_of_lt_mul (by rw[Nat.mul_comm]; exact hx)
 have y1:y / m<n:=Nat.div_lt_of_lt_mul (by rw[Nat.mul_comm]; exact hy)
 have x2:=Nat.mod_lt x hm
 have y2:=Nat.mod_lt y hm
 have hf:=cf _ _ x1 y1
 unfold x28 x5t
 refine x2w ((x0j (ρ1:=[some (x07 n f,9),some (x07 m g,9),some (.int (Int.ofNat x),9),some (.int (Int.ofNat y),9),some (.int (Int.ofNat m),9)]) (x1y (y44 rfl) rfl)).trans (x33 (ρ1:=[some (x07 n f,9),some (x07 m g,9),some (.int (Int.ofNat x),9),some (.int (Int.ofNat y),9),some (.int (Int.ofNat m),9)]) (x2y (x2y (q:=9) (q':=9) (z3g (x:=y2w n f (x / m)) (q:=9) (q':=9) (x55 (x:=x07 n f) (q:=9) (q':=9) (x2y (q:=9) (q':=9) rfl rfl (y3j hm hm2)) rfl (x49 x1) rfl) (x2y (q:=9) (q':=9) rfl rfl (y3j hm hm2)) (x4l y1) rfl rfl) rfl (y0k (Nat.lt_trans hf hn))) (z3g (x:=y2w m g (x % m)) (q:=9) (q':=9) (x55 (x:=x07 m g) (q:=9) (q':=9) (x2y (q:=9) (q':=9) rfl rfl (y37 hm)) rfl (x49 x2) rfl) (x2y (q:=9) (q':=9) rfl rfl (y37 hm)) (x4l y2) rfl rfl) (y3c _ _))))
theorem y8s {n m:Nat} {f g:Nat->Nat->Nat} (hm:0<m) (hn:0<n) (h16:n*m<=16) (cf:∀ i j,i<n->j<n->f i j<n) (cg:∀ i j,i<m->j<m->g i j<m):x7g [x07 n f,x07 m g]=some (x07 (n*m) (cpf m f g),9):=by
 have hn2:n<1000:=by have:=Nat.le_mul_of_pos_right n hm; omega
 have hm2:m<1000:=by have:=Nat.le_mul_of_pos_left m hn; omega
 have b:¬ ((16:Int)<Int.ofNat (n*m)):=by show ¬ ((16:Int)<((n*m:Nat):Int)); omega
 have em:e2 x62 (x17 0) (x05 2) [some (x07 n f,9),some (x07 m g,9),some (.int (Int.ofNat m),9)]=some (.int (Int.ofNat (n*m)),9,[some (x07 n f,9),some (x07 m g,9),some (.int (Int.ofNat m),9)]):=x2y (q':=9) (y44 rfl) rfl (y0k hn2)
 unfold x7g y5z
 refine x2w ((x0j (ρ1:=[some (x07 n f,9),some (x07 m g,9),some (.int (Int.ofNat m),9)]) (x1y (y44 rfl) rfl)).trans ((x0j (ρ1:=[some (x07 n f,9),some (x07 m g,9),some (.int (Int.ofNat m),9)]) ?_).trans (x33 (z64 (cds:=[x07 m g,x07 n f]) (Nat.le_trans h16 (by decide)) em rfl fun x y hx hy=>⟨_,x0z (ds:=[x07 n f,x07 m g,.int (Int.ofNat x),.int (Int.ofNat y)]) rfl rfl (z00 hm hm2 hn2 cf cg hx hy)⟩))))
 have e3:=x8k (x2y (g:=dGt) (fb:=eC (.int 16)) (q':=9) (d:=.bl (decide ((16:Int)<Int.ofNat (n*m)))) em rfl rfl)
 rw[decide_eq_false b]at e3
 exact(y2g e3).trans rfl
section
variable {m:Nat} (hm:0<m)
include hm
theorem x3q {a b:Nat} (hb:b<m):(a*m+b) / m=a:=by rw[Nat.add_comm,Nat.add_mul_div_right _ _ hm,Nat.div_eq_of_lt hb,Nat.zero_add]
theorem x3r {a b:Nat} (hb:b<m):(a*m+b) % m=b:=by rw[Nat.add_comm,Nat.add_mul_mod_self_right,Nat.mod_eq_of_lt hb]
theorem x5l {n a b:Nat} (ha:a<n) (hb:b<m):a*m+b<n*m:=by
 have:=Nat.mul_le_mul_right m (Nat.succ_le_of_lt ha)
 rw[Nat.succ_mul]at this
 omega
theorem z37 {a b v:Nat} (hb:b<m):a*m+b=v ↔ a=v / m/\b=v % m:=by
 constructor
 ·intro e
  exact⟨by rw[<- e,x3q hm hb],by rw[<- e,x3r hm hb]⟩
 ·intro h
  rw[h.1,h.2]
  exact Nat.div_add_mod' v m
theorem x5k {n x:Nat} (hx:x<n*m):x / m<n:=Nat.div_lt_of_lt_mul (by rw[Nat.mul_comm]; exact hx)
end
section
variable {n m:Nat} {f g:Nat->Nat->Nat} (L:Lad n f) (M:Lad m g) {zf zg:Nat} (hf:zf<n) (bf:∀ j,j<n->f zf j=j) (hg:zg<m) (bg:∀ j,j<m->g zg j=j)
include L M
theorem y0i {x y:Nat} (hx:x<n*m) (hy:y<n*m):cpf m f g x y / m=f (x / m) (y / m):=x3q M.lo (M.cl _ _ (Nat.mod_lt x M.lo) (Nat.mod_lt y M.lo))
theorem x9z {x y:Nat} (hx:x<n*m) (hy:y<n*m):cpf m f g x y % m=g (x % m) (y % m):=x3r M.lo (M.cl _ _ (Nat.mod_lt x M.lo) (Nat.mod_lt y M.lo))
theorem z8o {x y:Nat} (hx:x<n*m) (hy:y<n*m):cpf m f g x y<n*m:=x5l M.lo (L.cl _ _ (x5k M.lo hx) (x5k M.lo hy)) (M.cl _ _ (Nat.mod_lt x M.lo) (Nat.mod_lt y M.lo))
theorem x5w {x y:Nat} (hx:x<n*m) (hy:y<n*m):cpf m f g x y=y ↔ f (x / m) (y / m)=y / m/\g (x % m) (y % m)=y % m:=z37 M.lo (M.cl _ _ (Nat.mod_lt x M.lo) (Nat.mod_lt y M.lo))
include hf bf hg bg
theorem y8g (h8:n*m<=16):Lad (n*m) (cpf m f g):=by
 have l:=fun x (hx:x<n*m)=>x5k M.lo hx
 have r:=fun x=>Nat.mod_lt x M.lo
 refine⟨Nat.mul_pos L.lo M.lo,h8,fun i j hi hj=>z8o L M hi hj,fun i hi=>?_,fun i j hi hj=>?_,fun i j k hi hj hk=>?_,zf*m+zg,x5l M.lo hf hg,fun j hj=>?_⟩
 ·exact(x5w L M hi hi).mpr ⟨L.idem _ (l i hi),M.idem _ (r i)⟩
 ·unfold cpf
  rw[L.comm _ _ (l i hi) (l j hj),M.comm _ _ (r i) (r j)]
 ·show f (cpf m f g i j / m) (k / m)*m+g (cpf m f g i j % m) (k % m)=f (i / m) (cpf m f g j k / m)*m+g (i % m) (cpf m f g j k % m)
  rw[y0i L M hi hj,x9z L M hi hj,y0i L M hj hk,x9z L M hj hk,L.assoc _ _ _ (l i hi) (l j hj) (l k hk),M.assoc _ _ _ (r i) (r j) (r k)]
 ·refine(x5w L M (x5l M.lo hf hg) hj).mpr ⟨?_,?_⟩
  ·rw[x3q M.lo hg,bf _ (l j hj)]
  ·rw[x3r M.lo hg,bg _ (r j)]
theorem y8m {j:Nat} (hj:j<n*m):cpf m f g (zf*m+zg) j=j:=by
 refine(x5w L M (x5l M.lo hf hg) hj).mpr ⟨?_,?_⟩
 ·rw[x3q M.lo hg,bf _ (x5k M.lo hj)]
 ·rw[x3r M.lo hg,bg _ (Nat.mod_lt j M.lo)]
end
noncomputable def prf (m:Nat) (r s:Nat->Nat) (k:Nat):Nat:=r (k / m)*m+s (k % m)
section
variable {n m:Nat} {f g:Nat->Nat->Nat} (L:Lad n f) (M:Lad m g) {r s:Nat->Nat} (hr:∀ i,i<n->r i<n) (hs:∀ i,i<m->s i<m)
include M hs
theorem x9q (k:Nat):prf m r s k / m=r (k / m):=x3q M.lo (hs _ (Nat.mod_lt k M.lo))
theorem y0o (k:Nat):prf m r s k % m=s (k % m):=x3r M.lo (hs _ (Nat.mod_lt k M.lo))
include hr
theorem x6w {k:Nat} (hk:k<n*m):prf m r s k<n*m:=x5l M.lo (hr _ (x5k M.lo hk)) (hs _ (Nat.mod_lt k M.lo))
include L
theorem y6e {x y:Nat} (hx:x<n*m) (hy:y<n*m):cpf m f g (prf m r s x) (prf m r s y)=prf m r s y ↔ f (r (x / m)) (r (y / m))=r (y / m)/\g (s (x % m)) (s (y % m))=s (y % m):=by
 rw[x5w L M (x6w M hr hs hx) (x6w M hr hs hy),x9q M hs,x9q M hs,y0o M hs,y0o M hs]
theorem y7y:x9l (n*m) (cpf m f g) (prf m r s)=(x9l n f r && x9l m g s):=by
 rw[Bool.eq_iff_iff,Bool.and_eq_true,x8i,x8i,x8i]
 constructor
 ·intro h
  refine⟨fun y x hy hx e=>?_,fun y x hy hx e=>?_⟩
  ·have lx:=x5l (b:=0) M.lo hx M.lo
   have ly:=x5l (b:=0) M.lo hy M.lo
   have k:=((y6e L M hr hs lx ly).mp (h _ _ ly lx ((x5w L M lx ly).mpr ⟨by rw[x3q M.lo M.lo,x3q M.lo M.lo]; exact e,by rw[x3r M.lo M.lo,x3r M.lo M.lo]; exact M.idem 0 M.lo⟩))).1
   rw[x3q M.lo M.lo,x3q M.lo M.lo]at k
   exact k
  ·have lx:=x5l (a:=0) M.lo L.lo hx
   have ly:=x5l (a:=0) M.lo L.lo hy
   have k:=((y6e L M hr hs lx ly).mp (h _ _ ly lx ((x5w L M lx ly).mpr ⟨by rw[x3q M.lo hx,x3q M.lo hy]; exact L.idem 0 L.lo,by rw[x3r M.lo hx,x3r M.lo hy]; exact e⟩))).2
   rw[x3r M.lo hx,x3r M.lo hy]at k
   exact k
 ·intro h y x hy hx e
  obtain⟨e1,e2⟩:=(x5w L M hx hy).mp e
  exact(y6e L M hr hs hx hy).mpr ⟨h.1 _ _ (x5k M.lo hy) (x5k M.lo hx) e1,h.2 _ _ (Nat.mod_lt y M.lo) (Nat.mod_lt x M.lo) e2⟩
theorem y0c {x y:Nat} (hx:x<n*m) (hy:y<n*m):prf m r s (cpf m f g x y)=cpf m f g (prf m r s x) (prf m r s y) ↔ r (f (x / m) (y / m))=f (r (x / m)) (r (y / m))/\s (g (x % m) (y % m))=g (s (x % m)) (s (y % m)):=by
 have e1:prf m r s (cpf m f g x y)=r (f (x / m) (y / m))*m+s (g (x % m) (y % m)):=by
  show r (cpf m f g x y / m)*m+s (cpf m f g x y % m)=_
  rw[y0i L M hx hy,x9z L M hx hy]
 have h1:=M.cl _ _ (Nat.mod_lt x M.lo) (Nat.mod_lt y M.lo)
 rw[e1,z37 M.lo (hs _ h1),y0i L M (x6w M hr hs hx) (x6w M hr hs hy),x9z L M (x6w M hr hs hx) (x6w M hr hs hy),x9q M hs,x9q M hs,y0o M hs,y0o M hs]
theorem y5c:z72 (n*m) (cpf m f g) (prf m r s)=(z72 n f r && z72 m g s):=by
 rw[Bool.eq_iff_iff,Bool.and_eq_true,y2h,y2h,y2h]
 constructor
 ·intro h
  refine⟨fun x y hx hy=>?_,fun x y hx hy=>?_⟩
  ·have lx:=x5l (b:=0) M.lo hx M.lo
   have ly:=x5l (b:=0) M.lo hy M.lo
   have k:=((y0c L M hr hs lx ly).mp (h _ _ lx ly)).1
   rw[x3q M.lo M.lo,x3q M.lo M.lo]at k
   exact k
  ·have lx:=x5l (a:=0) M.lo L.lo hx
   have ly:=x5l (a:=0) M.lo L.lo hy
   have k:=((y0c L M hr hs lx ly).mp (h _ _ lx ly)).2
   rw[x3r M.lo hx,x3r M.lo hy]at k
   exact k
 ·intro h x y hx hy
  exact(y0c L M hr hs hx hy).mpr ⟨h.1 _ _ (x5k M.lo hx) (x5k M.lo hy),h.2 _ _ (Nat.mod_lt x M.lo) (Nat.mod_lt y M.lo)⟩
end
noncomputable abbrev W2:=(Nat × Nat × (Nat->Nat)) × (Nat->Nat)
noncomputable abbrev B2:=(Nat × Nat) × Nat
noncomputable def chL (p:Nat) (W:List W2) (B:List B2):Cht:=⟨p,W.map fun a=>a.1,B.map fun b=>b.1⟩
noncomputable def chR (p:Nat) (W:List W2) (B:List B2):Cht:=⟨p,W.map fun a=>(a.1.1,a.1.2.1,a.2),B.map fun b=>(b.1.1,b.2)⟩
noncomputable def chB (m p:Nat) (W:List W2) (B:List B2):Cht:=⟨p,W.map fun a=>(a.1.1,a.1.2.1,prf m a.1.2.2 a.2),B.map fun b=>(b.1.1,b.1.2*m+b.2)⟩
theorem clC {f:Nat->Nat->Nat} {C:Cht} {v:List Nat}:ClS f (x48 C) v ↔ (∀ w∈C.W,f (w.2.2 (gv v w.1)) (gv v w.2.1)=gv v w.2.1)/\∀ b∈C.B,f b.2 (gv v b.1)=gv v b.1:=by
 constructor
 ·intro h
  exact⟨fun w hw=>h (y8w w) (List.mem_append_right _ (List.mem_map.mpr ⟨w,hw,rfl⟩)),fun b hb=>h (y5j b) (List.mem_append_left _ (List.mem_map.mpr ⟨b,hb,rfl⟩))⟩
 ·intro h s hs
  rcases List.mem_append.mp hs with k | k
  ·obtain⟨b,hb,rfl⟩:=List.mem_map.mp k
   exact h.2 b hb
  ·obtain⟨w,hw,rfl⟩:=List.mem_map.mp k
   exact h.1 w hw
section
variable {n m:Nat} {f g:Nat->Nat->Nat} (L:Lad n f) (M:Lad m g) {p:Nat} {W:List W2} {B:List B2} (hl:(chL p W B).Ok n f) (hr:(chR p W B).Ok m g)
include L M hl hr
theorem z5m {a:W2} (ha:a∈W):okW n f p a.1/\okW m g p (a.1.1,a.1.2.1,a.2):=⟨hl.ws _ (List.mem_map.mpr ⟨a,ha,rfl⟩),hr.ws _ (List.mem_map.mpr ⟨a,ha,rfl⟩)⟩
theorem z6n {b:B2} (hb:b∈B):okB n p b.1/\okB m p (b.1.1,b.2):=⟨hl.bs _ (List.mem_map.mpr ⟨b,hb,rfl⟩),hr.bs _ (List.mem_map.mpr ⟨b,hb,rfl⟩)⟩
theorem z8h:(chB m p W B).Ok (n*m) (cpf m f g):=by
 refine⟨hl.p1,hl.p8,?_,?_,fun w hw=>?_,fun b hb=>?_⟩
 ·have:=hl.w60
  unfold chL at this; unfold chB
  simpa using this
 ·have:=hl.b60
  unfold chL at this; unfold chB
  simpa using this
 ·obtain⟨a,ha,rfl⟩:=List.mem_map.mp hw
  obtain⟨o1,o2⟩:=z5m L M hl hr ha
  refine⟨o1.1,o1.2.1,fun i hi=>x6w M o1.2.2.1 o2.2.2.1 hi,fun x y hx hy e=>?_⟩
  obtain⟨e1,e2⟩:=(x5w L M hx hy).mp e
  exact(y6e L M o1.2.2.1 o2.2.2.1 hx hy).mpr ⟨o1.2.2.2 _ _ (x5k M.lo hx) (x5k M.lo hy) e1,o2.2.2.2 _ _ (Nat.mod_lt x M.lo) (Nat.mod_lt y M.lo) e2⟩
 ·obtain⟨a,ha,rfl⟩:=List.mem_map.mp hb
  obtain⟨o1,o2⟩:=z6n L M hl hr ha
  exact⟨o1.1,x5l M.lo o1.2 o2.2⟩
theorem clB {x:List Nat} (hx:Vn (n*m) p x):ClS (cpf m f g) (x48 (chB m p W B)) x ↔ ClS f (x48 (chL p W B)) ((List.range p).map fun i=>gv x i / m)/\ClS g (x48 (chR p W B)) ((List.range p).map fun i=>gv x i % m):=by
 rw[clC,clC,clC]
 have key:∀ a∈W,(cpf m f g (prf m a.1.2.2 a.2 (gv x a.1.1)) (gv x a.1.2.1)=gv x a.1.2.1 ↔ f (a.1.2.2 (gv ((List.range p).map fun i=>gv x i / m) a.1.1)) (gv ((List.range p).map fun i=>gv x i / m) a.1.2.1)=gv ((List.range p).map fun i=>gv x i / m) a.1.2.1/\g (a.2 (gv ((List.range p).map fun i=>gv x i % m) a.1.1)) (gv ((List.range p).map fun i=>gv x i % m) a.1.2.1)=gv ((List.range p).map fun i=>gv x i % m) a.1.2.1):=fun a ha=>by
  obtain⟨o1,o2⟩:=z5m L M hl hr ha
  rw[x3d _ o1.1,x3d _ o1.2.1,x3d _ o1.1,x3d _ o1.2.1,x5w L M (x6w M o1.2.2.1 o2.2.2.1 (hx.gv o1.1)) (hx.gv o1.2.1),x9q M o2.2.2.1,y0o M o2.2.2.1]
 have keb:∀ b∈B,(cpf m f g (b.1.2*m+b.2) (gv x b.1.1)=gv x b.1.1 ↔ f b.1.2 (gv ((List.range p).map fun i=>gv x i / m) b.1.1)=gv ((List.range p).map fun i=>gv x i / m) b.1.1/\g b.2 (gv ((List.range p).map fun i=>gv x i % m) b.1.1)=gv ((List.range p).map fun i=>gv x i % m) b.1.1):=fun b hb=>by
  obtain⟨o1,o2⟩:=z6n L M hl hr hb
  have o3:b.2<m:=o2.2
  rw[x3d _ o1.1,x3d _ o1.1,x5w L M (x5l M.lo o1.2 o3) (hx.gv o1.1),x3q M.lo o3,x3r M.lo o3]
 constructor
 ·intro h
  refine⟨⟨fun w hw=>?_,fun b hb=>?_⟩,⟨fun w hw=>?_,fun b hb=>?_⟩⟩
  ·obtain⟨a,ha,rfl⟩:=List.mem_map.mp hw
   exact((key a ha).mp (h.1 _ (List.mem_map.mpr ⟨a,ha,rfl⟩))).1
  ·obtain⟨a,ha,rfl⟩:=List.mem_map.mp hb
   exact((keb a ha).mp (h.2 _ (List.mem_map.mpr ⟨a,ha,rfl⟩))).1
  ·obtain⟨a,ha,rfl⟩:=List.mem_map.mp hw
   exact((key a ha).mp (h.1 _ (List.mem_map.mpr ⟨a,ha,rfl⟩))).2
  ·obtain⟨a,ha,rfl⟩:=List.mem_map.mp hb
   exact((keb a ha).mp (h.2 _ (List.mem_map.mpr ⟨a,ha,rfl⟩))).2
 ·intro h
  refine⟨fun w hw=>?_,fun b hb=>?_⟩
  ·obtain⟨a,ha,rfl⟩:=List.mem_map.mp hw
   exact(key a ha).mpr ⟨h.1.1 _ (List.mem_map.mpr ⟨a,ha,rfl⟩),h.2.1 _ (List.mem_map.mpr ⟨a,ha,rfl⟩)⟩
  ·obtain⟨a,ha,rfl⟩:=List.mem_map.mp hb
   exact(keb a ha).mpr ⟨h.1.2 _ (List.mem_map.mpr ⟨a,ha,rfl⟩),h.2.2 _ (List.mem_map.mpr ⟨a,ha,rfl⟩)⟩
variable {zf zg:Nat} (hf:zf<n) (bf:∀ j,j<n->f zf j=j) (hg:zg<m) (bg:∀ j,j<m->g zg j=j)
include hf bf hg bg
theorem y56 (h16:n*m<=16) {u v x:List Nat} (hu:LowS n f p (x48 (chL p W B)) (y53 p zf) u) (hv:LowS m g p (x48 (chR p W B)) (y53 p zg) v) (hx:LowS (n*m) (cpf m f g) p (x48 (chB m p W B)) (y53 p (zf*m+zg)) x):x=(List.range p).map fun i=>gv u i*m+gv v i:=by
 have P:=y8g L M hf bf hg bg h16
 have bP:∀ j,j<n*m->cpf m f g (zf*m+zg) j=j:=fun j hj=>y8m L M hf bf hg bg hj
 have vp:Vn (n*m) p ((List.range p).map fun i=>gv u i*m+gv v i):=Vn.map fun i hi=>x5l M.lo (hu.V.gv hi) (hv.V.gv hi)
 have e1:((List.range p).map fun i=>gv ((List.range p).map fun i=>gv u i*m+gv v i) i / m)=u:=by
  have:=j2h u
  rw[hu.V.len]at this
  refine Eq.trans (List.map_congr_left fun i hi=>?_) this.symm
  have hi':=List.mem_range.mp hi
  rw[x3d _ hi',x3q M.lo (hv.V.gv hi')]
 have e2:((List.range p).map fun i=>gv ((List.range p).map fun i=>gv u i*m+gv v i) i % m)=v:=by
  have:=j2h v
  rw[hv.V.len]at this
  refine Eq.trans (List.map_congr_left fun i hi=>?_) this.symm
  have hi':=List.mem_range.mp hi
  rw[x3d _ hi',x3r M.lo (hv.V.gv hi')]
 have cp:ClS (cpf m f g) (x48 (chB m p W B)) ((List.range p).map fun i=>gv u i*m+gv v i):=(clB L M hl hr vp).mpr ⟨by rw[e1]; exact hu.cl,by rw[e2]; exact hv.cl⟩
 refine P.leV_anti hx.V vp (hx.le _ vp cp (y5f bP vp)) fun i hi=>?_
 obtain⟨c1,c2⟩:=(clB L M hl hr hx.V).mp hx.cl
 have v1:Vn n p ((List.range p).map fun i=>gv x i / m):=Vn.map fun i hi=>x5k M.lo (hx.V.gv hi)
 have v2:Vn m p ((List.range p).map fun i=>gv x i % m):=Vn.map fun i hi=>Nat.mod_lt _ M.lo
 have l1:=hu.le _ v1 c1 (y5f bf v1) i hi
 have l2:=hv.le _ v2 c2 (y5f bg v2) i hi
 rw[x3d _ hi]at l1 l2
 rw[x3d _ hi,x5w L M (x5l M.lo (hu.V.gv hi) (hv.V.gv hi)) (hx.V.gv hi),x3q M.lo (hv.V.gv hi),x3r M.lo (hv.V.gv hi)]
 exact⟨l1,l2⟩
end
theorem j3j {a b:x2m} {ρ:Rho} {x y:Bool} (h1:a ρ=some (x,ρ)) (h2:b ρ=some (y,ρ)):y8k a b ρ=some (x || y,ρ):=by
 unfold y8k
 rw[h1]
 cases x <;> simp[h2]
theorem z8s {fa fb:Den} {ρ:Rho} {x y:Bool} (h1:fa ρ=some (.bl x,9,ρ)) (h2:fb ρ=some (.bl y,9,ρ)):y9n fa fb ρ=some (.bl (x && y),9,ρ):=by
 unfold y9n
 rw[h1]
 cases x <;> simp[h2]
theorem y4e {n:Nat} {r:Nat->Nat}:x7c (x0b n r)=some n:=by simp[x0b,x7c,x1h]
theorem x9n {α:Type} (l:List α):l.filter (fun _=>true)=l:=by simp
theorem y45 {g:x21} {ρ ρ1:Rho} {ds:List D} (h:g ρ=some (ds,ρ1)) (hl:ds.length<=1000):x75 g ρ=some (.tup ds,9,ρ1):=by unfold x75; rw[h]; exact if_pos hl
theorem j1w {f:Den} {i j k:Nat} {ρ ρ1 ρ2:Rho} {x y w:D} {q:Nat} (h:f ρ=some (.tup [x,y,w],q,ρ1)) (e:((ρ1.set i (some (x,x4o x))).set j (some (y,x4o y))).set k (some (w,x4o w))=ρ2) (hi:i<ρ1.length) (hj:j<ρ1.length) (hk:k<ρ1.length):z6z f (y2l (x14 (x0k i) (x14 (x0k j) (x14 (x0k k) x4n)))) ρ=some (.nx ρ2):=by
 subst e
 unfold z6z
 rw[h]
 simp[hi,hj,hk]
theorem x60 {n m:Nat} (hm:0<m) (hn:0<n) (h16:n*m<=16) {r s:Nat->Nat} (hr:∀ i,i<n->r i<n):x23 [x0b n r,x0b m s]=some (x0b (n*m) (prf m r s),9):=by
 have hn2:n<1000:=by have:=Nat.le_mul_of_pos_right n hm; omega
 have hm2:m<1000:=by have:=Nat.le_mul_of_pos_left m hn; omega
 unfold x23 x6s
 refine x2w ((x0j (ρ1:=[some (x0b n r,9),some (x0b m s,9),some (.int (Int.ofNat m),9)]) (x1y (x9i (i:=1) (q:=9) rfl y4e) rfl)).trans (x33 (ρ1:=[some (x0b n r,9),some (x0b m s,9),some (.int (Int.ofNat m),9)]) ?_))
 have em:e2 x62 (x17 0) (x05 2) [some (x0b n r,9),some (x0b m s,9),some (.int (Int.ofNat m),9)]=some (.int (Int.ofNat (n*m)),9,[some (x0b n r,9),some (x0b m s,9),some (.int (Int.ofNat m),9)]):=x2y (q':=9) (x9i (i:=0) (q:=9) rfl y4e) rfl (y0k hn2)
 have h:=x1e (k:=1) (deep:=false) (pt:=x0k 3) (tt:=x1m) (te:=e2 x2p (e2 x62 (x1q 0 (e2 y5o (x05 3) (x05 2))) (x05 2)) (x1q 1 (e2 y2x (x05 3) (x05 2)))) (x3v (Nat.le_trans h16 (by decide)) em) (x8q (i:=3) (deep:=false) rfl (fun _=>true) (fun k=>.int (Int.ofNat (prf m r s k))) (fun _=>9) (fun j hj=>rfl) (fun j hj _=>by
  have d1:=hr _ (x5k hm hj)
  exact x2y (q:=9) (q':=9) (x2y (q:=9) (q':=9) (x55 (x:=x0b n r) (q:=9) (q':=9) (x2y (q:=9) (q':=9) rfl rfl (y3j hm hm2)) rfl (x25 (x5k hm hj)) rfl) rfl (y0k (by omega))) (x55 (x:=x0b m s) (q:=9) (q':=9) (x2y (q:=9) (q':=9) rfl rfl (y37 hm)) rfl (x25 (Nat.mod_lt j hm)) rfl) (y3c _ _)))
 rw[x9n]at h
 refine(x1j (x15 h)).trans ?_
 rw[x8u]
theorem law_true (ns:List Int) (h63:ns.length<=63):∃ q,y73 [.lst (ns.map D.int)]=some (.bl true,q):=by
 obtain⟨n,f,L,hL⟩:=z3e ns 0 (Int.le_refl 0)
 obtain⟨m,g,M,hM⟩:=z3e ns 20 (by decide)
 obtain⟨zf,hf,bf⟩:=L.bot
 obtain⟨zg,hg,bg⟩:=M.bot
 refine⟨9,?_⟩
 unfold y73 z7o
 refine x2w ?_
 have s0:x3z 19 [.lst (ns.map D.int)]=[some (scr ns,0),none,none,none,none,none,none,none,none,none,none,none,none,none,none,none,none,none,none]:=rfl
 rw[s0]
 refine(x0j (ρ1:=[some (scr ns,0),some (x07 n f,9),none,none,none,none,none,none,none,none,none,none,none,none,none,none,none,none,none]) (x1y (x0z (ds:=[scr ns,.int 0]) rfl rfl hL) rfl)).trans ?_
 refine(x0j (ρ1:=[some (scr ns,0),some (x07 n f,9),some (x07 m g,9),none,none,none,none,none,none,none,none,none,none,none,none,none,none,none,none]) (x1y (x0z (ds:=[scr ns,.int 20]) rfl rfl hM) rfl)).trans ?_
 refine(x0j (ρ1:=[some (scr ns,0),some (x07 n f,9),some (x07 m g,9),some (.int (Int.ofNat m),9),none,none,none,none,none,none,none,none,none,none,none,none,none,none,none]) (x1y (y44 rfl) rfl)).trans ?_
 have tst:y8k (x3u (e2 dGt (x17 1) (eC (.int 4)))) (x3u (e2 dGt (x05 3) (eC (.int 4)))) [some (scr ns,0),some (x07 n f,9),some (x07 m g,9),some (.int (Int.ofNat m),9),none,none,none,none,none,none,none,none,none,none,none,none,none,none,none]=some (decide ((4:Int)<Int.ofNat n) || decide ((4:Int)<Int.ofNat m),[some (scr ns,0),some (x07 n f,9),some (x07 m g,9),some (.int (Int.ofNat m),9),none,none,none,none,none,none,none,none,none,none,none,none,none,none,none]):=j3j (x8k (x2y (q':=9) (y44 rfl) rfl rfl)) (x8k (x2y (q:=9) (q':=9) rfl rfl rfl))
 by_cases hnm:n<=4/\m<=4
 rotate_left
 ·have e:(decide ((4:Int)<Int.ofNat n) || decide ((4:Int)<Int.ofNat m))=true:=by
   rw[Bool.or_eq_true,decide_eq_true_eq,decide_eq_true_eq]
   show(4:Int)<(n:Int)\/(4:Int)<(m:Int)
   omega
  rw[e]at tst
  exact x8n ((z7c tst).trans rfl)
 obtain⟨n4,m4⟩:=hnm
 have e0:(decide ((4:Int)<Int.ofNat n) || decide ((4:Int)<Int.ofNat m))=false:=by
  rw[Bool.or_eq_false_iff,decide_eq_false_iff_not,decide_eq_false_iff_not]
  show ¬ (4:Int)<(n:Int)/\¬ (4:Int)<(m:Int)
  omega
 rw[e0]at tst
 have h16:n*m<=16:=Nat.mul_le_mul n4 m4
 have hn:n<=1000:=by omega
 have hm:m<=1000:=by omega
 have hnm:n*m<=1000:=by omega
 have hm3:m<1000:=by omega
 have nl:=L.lo
 have ml:=M.lo
 have P:=y8g L M hf bf hg bg h16
 have hZ:=x5l M.lo hf hg
 have bZ:∀ j,j<n*m->cpf m f g (zf*m+zg) j=j:=fun j hj=>y8m L M hf bf hg bg hj
 refine(x0j (ρ1:=[some (scr ns,0),some (x07 n f,9),some (x07 m g,9),some (.int (Int.ofNat m),9),none,none,none,none,none,none,none,none,none,none,none,none,none,none,none]) ((y2g tst).trans rfl)).trans ?_
 refine(x0j (ρ1:=[some (scr ns,0),some (x07 n f,9),some (x07 m g,9),some (.int (Int.ofNat m),9),some (x07 (n*m) (cpf m f g),9),none,none,none,none,none,none,none,none,none,none,none,none,none,none]) (x1y (x0z (ds:=[x07 n f,x07 m g]) rfl rfl (y8s M.lo L.lo h16 L.cl M.cl)) rfl)).trans ?_
 refine(x0j (ρ1:=[some (scr ns,0),some (x07 n f,9),some (x07 m g,9),some (.int (Int.ofNat m),9),some (x07 (n*m) (cpf m f g),9),some (.lst (x0c (n*m)),1),none,none,none,none,none,none,none,none,none,none,none,none,none]) (x1y (x9y (x3v hnm (y44 (i:=4) rfl))) rfl)).trans ?_
 have iv5:x7a (x05 5) [some (scr ns,0),some (x07 n f,9),some (x07 m g,9),some (.int (Int.ofNat m),9),some (x07 (n*m) (cpf m f g),9),some (.lst (x0c (n*m)),1),none,none,none,none,none,none,none,none,none,none,none,none,none]=some (x0c (n*m),[some (scr ns,0),some (x07 n f,9),some (x07 m g,9),some (.int (Int.ofNat m),9),some (x07 (n*m) (cpf m f g),9),some (.lst (x0c (n*m)),0),none,none,none,none,none,none,none,none,none,none,none,none,none]):=by
  unfold x7a
  rw[x7h (i:=5) (q:=1) (ds:=x0c (n*m)) rfl]
  show(if(x0c (n*m)).length<=1000 then _ else _)=_
  rw[if_pos (by rw[x0r]; exact hnm)]
  rfl
 have iu5:x7a (x05 5) [some (scr ns,0),some (x07 n f,9),some (x07 m g,9),some (.int (Int.ofNat m),9),some (x07 (n*m) (cpf m f g),9),some (.lst (x0c (n*m)),0),none,none,none,none,none,none,none,none,none,none,none,none,none]=some (x0c (n*m),[some (scr ns,0),some (x07 n f,9),some (x07 m g,9),some (.int (Int.ofNat m),9),some (x07 (n*m) (cpf m f g),9),some (.lst (x0c (n*m)),0),none,none,none,none,none,none,none,none,none,none,none,none,none]):=by
  unfold x7a
  rw[x7h (i:=5) (q:=0) (ds:=x0c (n*m)) rfl]
  show(if(x0c (n*m)).length<=1000 then _ else _)=_
  rw[if_pos (by rw[x0r]; exact hnm)]
  rfl
 -- the parts are maps
 have mp1:=y3o P hZ bZ L hf bf (x0b (n*m) (fun k=>k / m))
 rw[(y6c P hZ bZ L hf bf (fun i hi=>x5k M.lo hi)).mpr ⟨fun i hi=>x5k M.lo hi,fun x y hx hy=>y0i L M hx hy,fun j hj=>by rw[x3q M.lo hg]; exact bf j hj⟩]at mp1
 have mp2:=y3o P hZ bZ M hg bg (x0b (n*m) (fun k=>k % m))
 rw[(y6c P hZ bZ M hg bg (fun i hi=>Nat.mod_lt i M.lo)).mpr ⟨fun i hi=>Nat.mod_lt i M.lo,fun x y hx hy=>x9z L M hx hy,fun j hj=>by rw[x3r M.lo hg]; exact bg j hj⟩]at mp2
 have c1:=x1e (k:=1) (deep:=false) (pt:=x0k 19) (tt:=x1m) (te:=e2 y5o (x05 19) (x05 3)) iv5 (x8q (i:=19) (deep:=false) rfl (fun _=>true) (fun k=>.int (Int.ofNat (k / m))) (fun _=>9) (fun j hj=>rfl) (fun j hj _=>x2y (q:=9) (q':=9) rfl rfl (y3j M.lo hm3)))
 rw[x9n]at c1
 have c1':=x1j (x15 c1)
 rw[x8u]at c1'
 have c2:=x1e (k:=1) (deep:=false) (pt:=x0k 19) (tt:=x1m) (te:=e2 y2x (x05 19) (x05 3)) iu5 (x8q (i:=19) (deep:=false) rfl (fun _=>true) (fun k=>.int (Int.ofNat (k % m))) (fun _=>9) (fun j hj=>rfl) (fun j hj _=>x2y (q:=9) (q':=9) rfl rfl (y37 M.lo)))
 rw[x9n]at c2
 have c2':=x1j (x15 c2)
 rw[x8u]at c2'
 refine(x0j (ρ1:=[some (scr ns,0),some (x07 n f,9),some (x07 m g,9),some (.int (Int.ofNat m),9),some (x07 (n*m) (cpf m f g),9),some (.lst (x0c (n*m)),0),none,none,none,none,none,none,none,none,none,none,none,none,none]) ((y2g (y2j (y1w (x0z (ds:=[x07 (n*m) (cpf m f g),x07 n f,x0b (n*m) (fun k=>k / m)]) (x1b (q:=9) (ρ1:=[some (scr ns,0),some (x07 n f,9),some (x07 m g,9),some (.int (Int.ofNat m),9),some (x07 (n*m) (cpf m f g),9),some (.lst (x0c (n*m)),1),none,none,none,none,none,none,none,none,none,none,none,none,none]) rfl (x1b (q:=9) (ρ1:=[some (scr ns,0),some (x07 n f,9),some (x07 m g,9),some (.int (Int.ofNat m),9),some (x07 (n*m) (cpf m f g),9),some (.lst (x0c (n*m)),1),none,none,none,none,none,none,none,none,none,none,none,none,none]) rfl (x15 c1'))) rfl mp1)))).trans rfl)).trans ?_
 refine(x0j (ρ1:=[some (scr ns,0),some (x07 n f,9),some (x07 m g,9),some (.int (Int.ofNat m),9),some (x07 (n*m) (cpf m f g),9),some (.lst (x0c (n*m)),0),none,none,none,none,none,none,none,none,none,none,none,none,none]) ((y2g (y2j (y1w (x0z (ds:=[x07 (n*m) (cpf m f g),x07 m g,x0b (n*m) (fun k=>k % m)]) (x1b (q:=9) (ρ1:=[some (scr ns,0),some (x07 n f,9),some (x07 m g,9),some (.int (Int.ofNat m),9),some (x07 (n*m) (cpf m f g),9),some (.lst (x0c (n*m)),0),none,none,none,none,none,none,none,none,none,none,none,none,none]) rfl (x1b (q:=9) (ρ1:=[some (scr ns,0),some (x07 n f,9),some (x07 m g,9),some (.int (Int.ofNat m),9),some (x07 (n*m) (cpf m f g),9),some (.lst (x0c (n*m)),0),none,none,none,none,none,none,none,none,none,none,none,none,none]) rfl (x15 c2'))) rfl mp2)))).trans rfl)).trans ?_
 -- drawn tables
 have pk:∀ (c:Int) (k j:Nat),0<=c->0<k->x0a [scr ns,.int (c+Int.ofNat j),.int (Int.ofNat k)]=some (.int (Int.ofNat (pkr ns c k j)),9):=fun c k j hc hk=>by
  have hkp:(0:Int)<Int.ofNat k:=by show(0:Int)<(k:Int); omega
  have h1:=x44 ns (c+Int.ofNat j) hkp
  rw[x5e ns (c+Int.ofNat j) _ (by have:(0:Int)<=Int.ofNat j:=Int.natCast_nonneg j; omega) hkp]
  have:x52 ns (c+Int.ofNat j) (Int.ofNat k)=Int.ofNat (pkr ns c k j):=by
   show _=(((x52 ns (c+Int.ofNat j) (Int.ofNat k)).toNat:Nat):Int)
   omega
  rw[this]
 have c6:=x1e (k:=1) (deep:=false) (pt:=x0k 19) (tt:=x1m) (te:=x0p x0a 3 (x01 (x05 0) (x01 (e2 x2p (eC (.int 40)) (x05 19)) (x01 (x17 1) (x0g))))) (x3v hn (y44 (i:=1) (ρ:=[some (scr ns,0),some (x07 n f,9),some (x07 m g,9),some (.int (Int.ofNat m),9),some (x07 (n*m) (cpf m f g),9),some (.lst (x0c (n*m)),0),none,none,none,none,none,none,none,none,none,none,none,none,none]) rfl)) (x8q (i:=19) (deep:=false) rfl (fun _=>true) (fun k=>.int (Int.ofNat (pkr ns 40 n k))) (fun _=>9) (fun j hj=>rfl) (fun j hj _=>x0z (ds:=[scr ns,.int (40+Int.ofNat j),.int (Int.ofNat n)]) (x1b (q:=0) rfl (x1b (q:=9) rfl (x15 (q:=9) (y44 rfl)))) rfl (pk 40 n j (by decide) L.lo)))
 rw[x9n]at c6
 have c6':=x1j (x15 c6)
 rw[x8u]at c6'
 refine(x0j (ρ1:=[some (scr ns,0),some (x07 n f,9),some (x07 m g,9),some (.int (Int.ofNat m),9),some (x07 (n*m) (cpf m f g),9),some (.lst (x0c (n*m)),0),some (x0b n (pkr ns 40 n),9),none,none,none,none,none,none,none,none,none,none,none,none]) (x1y c6' rfl)).trans ?_
 have c7:=x1e (k:=1) (deep:=false) (pt:=x0k 19) (tt:=x1m) (te:=x0p x0a 3 (x01 (x05 0) (x01 (e2 x2p (eC (.int 45)) (x05 19)) (x01 (x05 3) (x0g))))) (x3v hm (fe:=x05 3) (ρ:=[some (scr ns,0),some (x07 n f,9),some (x07 m g,9),some (.int (Int.ofNat m),9),some (x07 (n*m) (cpf m f g),9),some (.lst (x0c (n*m)),0),some (x0b n (pkr ns 40 n),9),none,none,none,none,none,none,none,none,none,none,none,none]) (ρ':=[some (scr ns,0),some (x07 n f,9),some (x07 m g,9),some (.int (Int.ofNat m),9),some (x07 (n*m) (cpf m f g),9),some (.lst (x0c (n*m)),0),some (x0b n (pkr ns 40 n),9),none,none,none,none,none,none,none,none,none,none,none,none]) (q:=9) rfl) (x8q (i:=19) (deep:=false) rfl (fun _=>true) (fun k=>.int (Int.ofNat (pkr ns 45 m k))) (fun _=>9) (fun j hj=>rfl) (fun j hj _=>x0z (ds:=[scr ns,.int (45+Int.ofNat j),.int (Int.ofNat m)]) rfl rfl (pk 45 m j (by decide) M.lo)))
 rw[x9n]at c7
 have c7':=x1j (x15 c7)
 rw[x8u]at c7'
 refine(x0j (ρ1:=[some (scr ns,0),some (x07 n f,9),some (x07 m g,9),some (.int (Int.ofNat m),9),some (x07 (n*m) (cpf m f g),9),some (.lst (x0c (n*m)),0),some (x0b n (pkr ns 40 n),9),some (x0b m (pkr ns 45 m),9),none,none,none,none,none,none,none,none,none,none,none]) (x1y c7' rfl)).trans ?_
 have hr:∀ i,i<n->pkr ns 40 n i<n:=fun i _=>z38 ns 40 L.lo i
 have hs:∀ i,i<m->pkr ns 45 m i<m:=fun i _=>z38 ns 45 M.lo i
 have r1:=y27 (f:=cpf m f g) hnm (r:=prf m (pkr ns 40 n) (pkr ns 45 m)) (fun i hi=>x6w M hr hs hi)
 rw[y7y L M hr hs]at r1
 have r2:=y27 (f:=f) hn hr
 have r3:=y27 (f:=g) hm hs
 have q1:=x8l P (r:=prf m (pkr ns 40 n) (pkr ns 45 m)) (fun i hi=>x6w M hr hs hi)
 rw[y5c L M hr hs]at q1
 have q2:=x8l L hr
 have q3:=x8l M hs
 have pr:=x60 M.lo L.lo h16 (s:=pkr ns 45 m) hr
 generalize pkr ns 40 n=r at *
 generalize pkr ns 45 m=s at *
 refine(x0j (ρ1:=[some (scr ns,0),some (x07 n f,9),some (x07 m g,9),some (.int (Int.ofNat m),9),some (x07 (n*m) (cpf m f g),9),some (.lst (x0c (n*m)),0),some (x0b n r,9),some (x0b m s,9),some (x0b (n*m) (prf m r s),9),none,none,none,none,none,none,none,none,none,none]) (x1y (x0z (ds:=[x0b n r,x0b m s]) rfl rfl pr) rfl)).trans ?_
 have iv8:x7a (x05 5) [some (scr ns,0),some (x07 n f,9),some (x07 m g,9),some (.int (Int.ofNat m),9),some (x07 (n*m) (cpf m f g),9),some (.lst (x0c (n*m)),0),some (x0b n r,9),some (x0b m s,9),some (x0b (n*m) (prf m r s),9),none,none,none,none,none,none,none,none,none,none]=some (x0c (n*m),[some (scr ns,0),some (x07 n f,9),some (x07 m g,9),some (.int (Int.ofNat m),9),some (x07 (n*m) (cpf m f g),9),some (.lst (x0c (n*m)),0),some (x0b n r,9),some (x0b m s,9),some (x0b (n*m) (prf m r s),9),none,none,none,none,none,none,none,none,none,none]):=by
  unfold x7a
  rw[x7h (i:=5) (q:=0) (ds:=x0c (n*m)) rfl]
  show(if(x0c (n*m)).length<=1000 then _ else _)=_
  rw[if_pos (by rw[x0r]; exact hnm)]
  rfl
 have c8:=x1e (k:=1) (deep:=false) (pt:=x0k 19) (tt:=x1m) (te:=e2 x2p (e2 x62 (x1q 6 (e2 y5o (x05 19) (x05 3))) (x05 3)) (x1q 7 (e2 y2x (x05 19) (x05 3)))) iv8 (x8q (i:=19) (deep:=false) rfl (fun _=>true) (fun k=>.int (Int.ofNat (prf m r s k))) (fun _=>9) (fun j hj=>rfl) (fun j hj _=>by
  have d1:=hr _ (x5k M.lo hj)
  exact x2y (q:=9) (q':=9) (x2y (q:=9) (q':=9) (x55 (x:=x0b n r) (q:=9) (q':=9) (x2y (q:=9) (q':=9) rfl rfl (y3j M.lo hm3)) rfl (x25 (x5k M.lo hj)) rfl) rfl (y0k (by omega))) (x55 (x:=x0b m s) (q:=9) (q':=9) (x2y (q:=9) (q':=9) rfl rfl (y37 M.lo)) rfl (x25 (Nat.mod_lt j M.lo)) rfl) (y3c _ _)))
 rw[x9n]at c8
 have c8':=x1j (x15 c8)
 rw[x8u]at c8'
 refine(x0j (ρ1:=[some (scr ns,0),some (x07 n f,9),some (x07 m g,9),some (.int (Int.ofNat m),9),some (x07 (n*m) (cpf m f g),9),some (.lst (x0c (n*m)),0),some (x0b n r,9),some (x0b m s,9),some (x0b (n*m) (prf m r s),9),none,none,none,none,none,none,none,none,none,none]) ((y2g (x8k (x2y (q:=9) (x:=x0b (n*m) (prf m r s)) (ρ1:=[some (scr ns,0),some (x07 n f,9),some (x07 m g,9),some (.int (Int.ofNat m),9),some (x07 (n*m) (cpf m f g),9),some (.lst (x0c (n*m)),0),some (x0b n r,9),some (x0b m s,9),some (x0b (n*m) (prf m r s),9),none,none,none,none,none,none,none,none,none,none]) rfl c8' (z27 fun _ _=>rfl)))).trans rfl)).trans ?_
 refine(x0j (ρ1:=[some (scr ns,0),some (x07 n f,9),some (x07 m g,9),some (.int (Int.ofNat m),9),some (x07 (n*m) (cpf m f g),9),some (.lst (x0c (n*m)),0),some (x0b n r,9),some (x0b m s,9),some (x0b (n*m) (prf m r s),9),none,none,none,none,none,none,none,none,none,none]) ((y2g (x8k (x2y (x0z (ds:=[x07 (n*m) (cpf m f g),x0b (n*m) (prf m r s)]) (ρ1:=[some (scr ns,0),some (x07 n f,9),some (x07 m g,9),some (.int (Int.ofNat m),9),some (x07 (n*m) (cpf m f g),9),some (.lst (x0c (n*m)),0),some (x0b n r,9),some (x0b m s,9),some (x0b (n*m) (prf m r s),9),none,none,none,none,none,none,none,none,none,none]) rfl rfl r1) (z8s (x0z (ds:=[x07 n f,x0b n r]) rfl rfl r2) (x0z (ds:=[x07 m g,x0b m s]) rfl rfl r3)) (by rw[z3m]; simp)))).trans rfl)).trans ?_
 refine(x0j (ρ1:=[some (scr ns,0),some (x07 n f,9),some (x07 m g,9),some (.int (Int.ofNat m),9),some (x07 (n*m) (cpf m f g),9),some (.lst (x0c (n*m)),0),some (x0b n r,9),some (x0b m s,9),some (x0b (n*m) (prf m r s),9),none,none,none,none,none,none,none,none,none,none]) ((y2g (x8k (x2y (x0z (ds:=[x07 (n*m) (cpf m f g),x0b (n*m) (prf m r s)]) (ρ1:=[some (scr ns,0),some (x07 n f,9),some (x07 m g,9),some (.int (Int.ofNat m),9),some (x07 (n*m) (cpf m f g),9),some (.lst (x0c (n*m)),0),some (x0b n r,9),some (x0b m s,9),some (x0b (n*m) (prf m r s),9),none,none,none,none,none,none,none,none,none,none]) rfl rfl q1) (z8s (x0z (ds:=[x07 n f,x0b n r]) rfl rfl q2) (x0z (ds:=[x07 m g,x0b m s]) rfl rfl q3)) (by rw[z3m]; simp)))).trans rfl)).trans ?_
 generalize x0b (n*m) (prf m r s)=d8
 -- charts
 obtain⟨C,hC,_,_,_,eCt⟩:=y3e L hf bf ns 60 (by decide)
 have hRe:∀ k:Nat,∃ r':Nat->Nat,((∀ i,i<m->r' i<m)/\∀ x y,x<m->y<m->g x y=y->g (r' x) (r' y)=r' y)/\x1p [scr ns,.int (250+20*Int.ofNat k),x07 m g]=some (x0b m r',9):=fun k=>by
  obtain⟨d,hd,e⟩:=y0p M hg bg ns (250+20*Int.ofNat k) (by show(0:Int)<=250+20*(k:Int); omega)
  exact⟨_,⟨fun i _=>M.lr_lt hg bg hd i,fun x y hx hy e=>M.lr_rises hg bg hd hx hy e⟩,e⟩
 obtain⟨R,hR⟩:=Classical.axiomOfChoice hRe
 have hEe:∀ k:Nat,∃ v:Nat,v<m/\x0a [scr ns,.int (400+Int.ofNat k),.int (Int.ofNat m)]=some (.int (Int.ofNat v),9):=fun k=>z4u ns (by show(0:Int)<=400+(k:Int); omega) M.lo
 obtain⟨E,hE⟩:=Classical.axiomOfChoice hEe
 obtain⟨p,hp⟩:∃ p,p=C.p:=⟨_,rfl⟩
 obtain⟨W,hW⟩:∃ W:List W2,W=C.W.zipIdx.map fun x=>(x.1,R x.2):=⟨_,rfl⟩
 obtain⟨B,hB⟩:∃ B:List B2,B=C.B.zipIdx.map fun x=>(x.1,E x.2):=⟨_,rfl⟩
 have eCL:C=chL p W B:=by
  subst hp hW hB
  unfold chL
  rw[List.map_map,List.map_map]
  show C=⟨C.p,C.W.zipIdx.map Prod.fst,C.B.zipIdx.map Prod.fst⟩
  rw[List.zipIdx_map_fst,List.zipIdx_map_fst]
 have hl:(chL p W B).Ok n f:=by rw[<- eCL]; exact hC
 have p8:p<=8:=hl.p8
 have wl:W.length<=60:=by have:=hl.w60; unfold chL at this; simpa using this
 have bl:B.length<=60:=by have:=hl.b60; unfold chL at this; simpa using this
 have hR2:∀ a∈W,(∀ i,i<m->a.2 i<m)/\∀ x y,x<m->y<m->g x y=y->g (a.2 x) (a.2 y)=a.2 y:=fun a ha=>by
  rw[hW]at ha
  obtain⟨x,_,rfl⟩:=List.mem_map.mp ha
  exact(hR x.2).1
 have hE2:∀ b∈B,b.2<m:=fun b hb=>by
  rw[hB]at hb
  obtain⟨x,_,rfl⟩:=List.mem_map.mp hb
  exact(hE x.2).1
 have hrr:(chR p W B).Ok m g:=by
  refine⟨hl.p1,hl.p8,by unfold chR; simpa using wl,by unfold chR; simpa using bl,fun w hw=>?_,fun b hb=>?_⟩
  ·obtain⟨a,ha,rfl⟩:=List.mem_map.mp hw
   have o:=hl.ws _ (List.mem_map.mpr ⟨a,ha,rfl⟩)
   exact⟨o.1,o.2.1,(hR2 a ha).1,(hR2 a ha).2⟩
  ·obtain⟨a,ha,rfl⟩:=List.mem_map.mp hb
   have o:=hl.bs _ (List.mem_map.mpr ⟨a,ha,rfl⟩)
   exact⟨o.1,hE2 a ha⟩
 have hbb:=z8h L M hl hrr
 obtain⟨u,hu,lu⟩:=x72 L hf bf hl
 obtain⟨v,hv,lv⟩:=x72 M hg bg hrr
 obtain⟨x,hx,lx⟩:=x72 P hZ bZ hbb
 have ex:=y56 L M hl hrr hf bf hg bg h16 hu hv hx
 have eC0:=eCt
 rw[eCL]at eCt
 refine(x0j (ρ1:=[some (scr ns,0),some (x07 n f,9),some (x07 m g,9),some (.int (Int.ofNat m),9),some (x07 (n*m) (cpf m f g),9),some (.lst (x0c (n*m)),0),some (x0b n r,9),some (x0b m s,9),some (d8,9),some (.int (Int.ofNat p),9),some (.tup ((chL p W B).W.map (x18 n)),9),some (.tup ((chL p W B).B.map x1k),9),none,none,none,none,none,none,none]) (j1w (x:=.int (Int.ofNat p)) (y:=.tup ((chL p W B).W.map (x18 n))) (w:=.tup ((chL p W B).B.map x1k)) (x0z (ds:=[scr ns,.int 60,x07 n f,.bl false]) (ρ1:=[some (scr ns,0),some (x07 n f,9),some (x07 m g,9),some (.int (Int.ofNat m),9),some (x07 (n*m) (cpf m f g),9),some (.lst (x0c (n*m)),0),some (x0b n r,9),some (x0b m s,9),some (d8,9),none,none,none,none,none,none,none,none,none,none]) rfl rfl eCt) rfl (show 9<19 by decide) (show 10<19 by decide) (show 11<19 by decide))).trans ?_
 -- the ways over there
 have wE:(chL p W B).W=C.W:=by rw[<- eCL]
 have bE:(chL p W B).B=C.B:=by rw[<- eCL]
 have en1:y2d (x01 (x05 10) x0g) [some (scr ns,0),some (x07 n f,9),some (x07 m g,9),some (.int (Int.ofNat m),9),some (x07 (n*m) (cpf m f g),9),some (.lst (x0c (n*m)),0),some (x0b n r,9),some (x0b m s,9),some (d8,9),some (.int (Int.ofNat p),9),some (.tup ((chL p W B).W.map (x18 n)),9),some (.tup ((chL p W B).B.map x1k),9),none,none,none,none,none,none,none]=some (C.W.zipIdx.map fun x=>.tup [.int (Int.ofNat x.2),x18 n x.1],[some (scr ns,0),some (x07 n f,9),some (x07 m g,9),some (.int (Int.ofNat m),9),some (x07 (n*m) (cpf m f g),9),some (.lst (x0c (n*m)),0),some (x0b n r,9),some (x0b m s,9),some (d8,9),some (.int (Int.ofNat p),9),some (.tup ((chL p W B).W.map (x18 n)),9),some (.tup ((chL p W B).B.map x1k),9),none,none,none,none,none,none,none]):=by
  have h0:x01 (x05 10) x0g [some (scr ns,0),some (x07 n f,9),some (x07 m g,9),some (.int (Int.ofNat m),9),some (x07 (n*m) (cpf m f g),9),some (.lst (x0c (n*m)),0),some (x0b n r,9),some (x0b m s,9),some (d8,9),some (.int (Int.ofNat p),9),some (.tup ((chL p W B).W.map (x18 n)),9),some (.tup ((chL p W B).B.map x1k),9),none,none,none,none,none,none,none]=some ([.tup ((chL p W B).W.map (x18 n))],[some (scr ns,0),some (x07 n f,9),some (x07 m g,9),some (.int (Int.ofNat m),9),some (x07 (n*m) (cpf m f g),9),some (.lst (x0c (n*m)),0),some (x0b n r,9),some (x0b m s,9),some (d8,9),some (.int (Int.ofNat p),9),some (.tup ((chL p W B).W.map (x18 n)),9),some (.tup ((chL p W B).B.map x1k),9),none,none,none,none,none,none,none]):=rfl
  unfold y2d
  rw[h0]
  show(if((chL p W B).W.map (x18 n)).length<=1000 then some (x8c ((chL p W B).W.map (x18 n)),_)else none)=_
  rw[if_pos (by rw[List.length_map]; exact Nat.le_trans hl.w60 (by decide)),wE]
  unfold x8c
  rw[List.zipIdx_map,List.map_map]
  rfl
 have d1:=x1e (k:=4) (deep:=false) en1 (x4r (k:=4) (ρ:=[some (scr ns,0),some (x07 n f,9),some (x07 m g,9),some (.int (Int.ofNat m),9),some (x07 (n*m) (cpf m f g),9),some (.lst (x0c (n*m)),0),some (x0b n r,9),some (x0b m s,9),some (d8,9),some (.int (Int.ofNat p),9),some (.tup ((chL p W B).W.map (x18 n)),9),some (.tup ((chL p W B).B.map x1k),9),none,none,none,none,none,none,none]) (pt:=y2l (x14 (x0k 19) (x14 (y2l (x14 (x0k 20) (x14 (x0k 21) (x14 (x0k 22) (x4n))))) (x4n)))) (tt:=x1m) (te:=x75 (x01 (x05 20) (x01 (x05 21) (x01 (x0p x1p 3 (x01 (x05 0) (x01 (e2 x2p (eC (.int 250)) (e2 x62 (eC (.int 20)) (x05 19))) (x01 (x05 2) (x0g))))) (x0g))))) (fun x:(Nat × Nat × (Nat->Nat)) × Nat=>.tup [.int (Int.ofNat x.2),x18 n x.1]) (fun x=>[some (.int (Int.ofNat x.2),9),some (.int (Int.ofNat x.1.1),9),some (.int (Int.ofNat x.1.2.1),9),some (x0b n x.1.2.2,9)]) (fun _=>true) (fun x=>x18 m (x.1.1,x.1.2.1,R x.2)) (fun _=>9) C.W.zipIdx fun x _=>⟨rfl,rfl,fun _=>y45 (ds:=[.int (Int.ofNat x.1.1),.int (Int.ofNat x.1.2.1),x0b m (R x.2)]) (x1b (q:=9) rfl (x1b (q:=9) rfl (x15 (x0z (ds:=[scr ns,.int (250+20*Int.ofNat x.2),x07 m g]) (x1b (q:=0) rfl (x1b (q:=9) (x2y (q:=9) (q':=9) rfl (x2y (q:=9) (q':=9) rfl rfl (show x62 (.int 20) (.int (Int.ofNat x.2))=some (.int (20*Int.ofNat x.2))from y87 (.inl (by decide)))) rfl) rfl)) rfl (hR x.2).2)))) (by show 3<=1000; decide)⟩)
 rw[x9n,show C.W.zipIdx.map (fun x=>x18 m (x.1.1,x.1.2.1,R x.2))=(chR p W B).W.map (x18 m)by unfold chR; rw[hW,List.map_map,List.map_map]; rfl]at d1
 refine(x0j (ρ1:=[some (scr ns,0),some (x07 n f,9),some (x07 m g,9),some (.int (Int.ofNat m),9),some (x07 (n*m) (cpf m f g),9),some (.lst (x0c (n*m)),0),some (x0b n r,9),some (x0b m s,9),some (d8,9),some (.int (Int.ofNat p),9),some (.tup ((chL p W B).W.map (x18 n)),9),some (.tup ((chL p W B).B.map x1k),9),some (.tup ((chR p W B).W.map (x18 m)),9),none,none,none,none,none,none]) (x1y (x1j (x15 d1)) rfl)).trans ?_
 have en2:y2d (x01 (x05 11) x0g) [some (scr ns,0),some (x07 n f,9),some (x07 m g,9),some (.int (Int.ofNat m),9),some (x07 (n*m) (cpf m f g),9),some (.lst (x0c (n*m)),0),some (x0b n r,9),some (x0b m s,9),some (d8,9),some (.int (Int.ofNat p),9),some (.tup ((chL p W B).W.map (x18 n)),9),some (.tup ((chL p W B).B.map x1k),9),some (.tup ((chR p W B).W.map (x18 m)),9),none,none,none,none,none,none]=some (C.B.zipIdx.map fun x=>.tup [.int (Int.ofNat x.2),x1k x.1],[some (scr ns,0),some (x07 n f,9),some (x07 m g,9),some (.int (Int.ofNat m),9),some (x07 (n*m) (cpf m f g),9),some (.lst (x0c (n*m)),0),some (x0b n r,9),some (x0b m s,9),some (d8,9),some (.int (Int.ofNat p),9),some (.tup ((chL p W B).W.map (x18 n)),9),some (.tup ((chL p W B).B.map x1k),9),some (.tup ((chR p W B).W.map (x18 m)),9),none,none,none,none,none,none]):=by
  have h0:x01 (x05 11) x0g [some (scr ns,0),some (x07 n f,9),some (x07 m g,9),some (.int (Int.ofNat m),9),some (x07 (n*m) (cpf m f g),9),some (.lst (x0c (n*m)),0),some (x0b n r,9),some (x0b m s,9),some (d8,9),some (.int (Int.ofNat p),9),some (.tup ((chL p W B).W.map (x18 n)),9),some (.tup ((chL p W B).B.map x1k),9),some (.tup ((chR p W B).W.map (x18 m)),9),none,none,none,none,none,none]=some ([.tup ((chL p W B).B.map x1k)],[some (scr ns,0),some (x07 n f,9),some (x07 m g,9),some (.int (Int.ofNat m),9),some (x07 (n*m) (cpf m f g),9),some (.lst (x0c (n*m)),0),some (x0b n r,9),some (x0b m s,9),some (d8,9),some (.int (Int.ofNat p),9),some (.tup ((chL p W B).W.map (x18 n)),9),some (.tup ((chL p W B).B.map x1k),9),some (.tup ((chR p W B).W.map (x18 m)),9),none,none,none,none,none,none]):=rfl
  unfold y2d
  rw[h0]
  show(if((chL p W B).B.map x1k).length<=1000 then some (x8c ((chL p W B).B.map x1k),_)else none)=_
  rw[if_pos (by rw[List.length_map]; exact Nat.le_trans hl.b60 (by decide)),bE]
  unfold x8c
  rw[List.zipIdx_map,List.map_map]
  rfl
 have d2:=x1e (k:=3) (deep:=false) en2 (x4r (k:=3) (ρ:=[some (scr ns,0),some (x07 n f,9),some (x07 m g,9),some (.int (Int.ofNat m),9),some (x07 (n*m) (cpf m f g),9),some (.lst (x0c (n*m)),0),some (x0b n r,9),some (x0b m s,9),some (d8,9),some (.int (Int.ofNat p),9),some (.tup ((chL p W B).W.map (x18 n)),9),some (.tup ((chL p W B).B.map x1k),9),some (.tup ((chR p W B).W.map (x18 m)),9),none,none,none,none,none,none]) (pt:=y2l (x14 (x0k 19) (x14 (y2l (x14 (x0k 20) (x14 (x0k 21) (x4n)))) (x4n)))) (tt:=x1m) (te:=x75 (x01 (x05 20) (x01 (x0p x0a 3 (x01 (x05 0) (x01 (e2 x2p (eC (.int 400)) (x05 19)) (x01 (x05 3) (x0g))))) (x0g)))) (fun x:(Nat × Nat) × Nat=>.tup [.int (Int.ofNat x.2),x1k x.1]) (fun x=>[some (.int (Int.ofNat x.2),9),some (.int (Int.ofNat x.1.1),9),some (.int (Int.ofNat x.1.2),9)]) (fun _=>true) (fun x=>x1k (x.1.1,E x.2)) (fun _=>9) C.B.zipIdx fun x _=>⟨rfl,rfl,fun _=>y45 (ds:=[.int (Int.ofNat x.1.1),.int (Int.ofNat (E x.2))]) (x1b (q:=9) rfl (x15 (x0z (ds:=[scr ns,.int (400+Int.ofNat x.2),.int (Int.ofNat m)]) rfl rfl (hE x.2).2))) (by show 2<=1000; decide)⟩)
 rw[x9n,show C.B.zipIdx.map (fun x=>x1k (x.1.1,E x.2))=(chR p W B).B.map x1k by unfold chR; rw[hB,List.map_map,List.map_map]; rfl]at d2
 refine(x0j (ρ1:=[some (scr ns,0),some (x07 n f,9),some (x07 m g,9),some (.int (Int.ofNat m),9),some (x07 (n*m) (cpf m f g),9),some (.lst (x0c (n*m)),0),some (x0b n r,9),some (x0b m s,9),some (d8,9),some (.int (Int.ofNat p),9),some (.tup ((chL p W B).W.map (x18 n)),9),some (.tup ((chL p W B).B.map x1k),9),some (.tup ((chR p W B).W.map (x18 m)),9),some (.tup ((chR p W B).B.map x1k),9),none,none,none,none,none]) (x1y (x1j (x15 d2)) rfl)).trans ?_
 clear en1 en2 d1 d2 eC0 hW hB hR hE hRe hEe eCt eCL wE bE
 have z1:y1z (x01 (x05 10) (x01 (x05 12) x0g)) [some (scr ns,0),some (x07 n f,9),some (x07 m g,9),some (.int (Int.ofNat m),9),some (x07 (n*m) (cpf m f g),9),some (.lst (x0c (n*m)),0),some (x0b n r,9),some (x0b m s,9),some (d8,9),some (.int (Int.ofNat p),9),some (.tup ((chL p W B).W.map (x18 n)),9),some (.tup ((chL p W B).B.map x1k),9),some (.tup ((chR p W B).W.map (x18 m)),9),some (.tup ((chR p W B).B.map x1k),9),none,none,none,none,none]=some (W.map fun a=>.tup [x18 n a.1,x18 m (a.1.1,a.1.2.1,a.2)],[some (scr ns,0),some (x07 n f,9),some (x07 m g,9),some (.int (Int.ofNat m),9),some (x07 (n*m) (cpf m f g),9),some (.lst (x0c (n*m)),0),some (x0b n r,9),some (x0b m s,9),some (d8,9),some (.int (Int.ofNat p),9),some (.tup ((chL p W B).W.map (x18 n)),9),some (.tup ((chL p W B).B.map x1k),9),some (.tup ((chR p W B).W.map (x18 m)),9),some (.tup ((chR p W B).B.map x1k),9),none,none,none,none,none]):=by
  have h0:x01 (x05 10) (x01 (x05 12) x0g) [some (scr ns,0),some (x07 n f,9),some (x07 m g,9),some (.int (Int.ofNat m),9),some (x07 (n*m) (cpf m f g),9),some (.lst (x0c (n*m)),0),some (x0b n r,9),some (x0b m s,9),some (d8,9),some (.int (Int.ofNat p),9),some (.tup ((chL p W B).W.map (x18 n)),9),some (.tup ((chL p W B).B.map x1k),9),some (.tup ((chR p W B).W.map (x18 m)),9),some (.tup ((chR p W B).B.map x1k),9),none,none,none,none,none]=some ([.tup ((chL p W B).W.map (x18 n)),.tup ((chR p W B).W.map (x18 m))],[some (scr ns,0),some (x07 n f,9),some (x07 m g,9),some (.int (Int.ofNat m),9),some (x07 (n*m) (cpf m f g),9),some (.lst (x0c (n*m)),0),some (x0b n r,9),some (x0b m s,9),some (d8,9),some (.int (Int.ofNat p),9),some (.tup ((chL p W B).W.map (x18 n)),9),some (.tup ((chL p W B).B.map x1k),9),some (.tup ((chR p W B).W.map (x18 m)),9),some (.tup ((chR p W B).B.map x1k),9),none,none,none,none,none]):=rfl
  unfold y1z
  rw[h0]
  show(if((chL p W B).W.map (x18 n)).length<=1000 then some ((((chL p W B).W.map (x18 n)).zip ((chR p W B).W.map (x18 m))).map (fun x=>D.tup [x.1,x.2]),_)else none)=_
  rw[if_pos (by rw[List.length_map]; exact Nat.le_trans hl.w60 (by decide))]
  unfold chL chR
  rw[List.map_map,List.map_map,List.zip_map',List.map_map]
  rfl
 have d3:=x1e (k:=2) (deep:=false) z1 (x4r (k:=2) (ρ:=[some (scr ns,0),some (x07 n f,9),some (x07 m g,9),some (.int (Int.ofNat m),9),some (x07 (n*m) (cpf m f g),9),some (.lst (x0c (n*m)),0),some (x0b n r,9),some (x0b m s,9),some (d8,9),some (.int (Int.ofNat p),9),some (.tup ((chL p W B).W.map (x18 n)),9),some (.tup ((chL p W B).B.map x1k),9),some (.tup ((chR p W B).W.map (x18 m)),9),some (.tup ((chR p W B).B.map x1k),9),none,none,none,none,none]) (pt:=y2l (x14 (x0k 19) (x14 (x0k 20) (x4n)))) (tt:=x1m) (te:=x75 (x01 (x1q 19 (eC (.int 0))) (x01 (x1q 19 (eC (.int 1))) (x01 (x0p x23 2 (x01 (x1q 19 (eC (.int 2))) (x01 (x1q 20 (eC (.int 2))) (x0g)))) (x0g))))) (fun a:W2=>.tup [x18 n a.1,x18 m (a.1.1,a.1.2.1,a.2)]) (fun a=>[some (x18 n a.1,9),some (x18 m (a.1.1,a.1.2.1,a.2),9)]) (fun _=>true) (fun a=>x18 (n*m) (a.1.1,a.1.2.1,prf m a.1.2.2 a.2)) (fun _=>9) W fun a ha=>⟨rfl,rfl,fun _=>y45 (ds:=[.int (Int.ofNat a.1.1),.int (Int.ofNat a.1.2.1),x0b (n*m) (prf m a.1.2.2 a.2)]) (x1b (q:=9) rfl (x1b (q:=9) rfl (x15 (x0z (ds:=[x0b n a.1.2.2,x0b m a.2]) rfl rfl (x60 M.lo L.lo h16 (z5m L M hl hrr ha).1.2.2.1))))) (by show 3<=1000; decide)⟩)
 rw[x9n,show W.map (fun a=>x18 (n*m) (a.1.1,a.1.2.1,prf m a.1.2.2 a.2))=(chB m p W B).W.map (x18 (n*m))by unfold chB; rw[List.map_map]; rfl]at d3
 refine(x0j (ρ1:=[some (scr ns,0),some (x07 n f,9),some (x07 m g,9),some (.int (Int.ofNat m),9),some (x07 (n*m) (cpf m f g),9),some (.lst (x0c (n*m)),0),some (x0b n r,9),some (x0b m s,9),some (d8,9),some (.int (Int.ofNat p),9),some (.tup ((chL p W B).W.map (x18 n)),9),some (.tup ((chL p W B).B.map x1k),9),some (.tup ((chR p W B).W.map (x18 m)),9),some (.tup ((chR p W B).B.map x1k),9),some (.lst ((chB m p W B).W.map (x18 (n*m))),1),none,none,none,none]) (x1y d3 rfl)).trans ?_
 have z2:y1z (x01 (x05 11) (x01 (x05 13) x0g)) [some (scr ns,0),some (x07 n f,9),some (x07 m g,9),some (.int (Int.ofNat m),9),some (x07 (n*m) (cpf m f g),9),some (.lst (x0c (n*m)),0),some (x0b n r,9),some (x0b m s,9),some (d8,9),some (.int (Int.ofNat p),9),some (.tup ((chL p W B).W.map (x18 n)),9),some (.tup ((chL p W B).B.map x1k),9),some (.tup ((chR p W B).W.map (x18 m)),9),some (.tup ((chR p W B).B.map x1k),9),some (.lst ((chB m p W B).W.map (x18 (n*m))),1),none,none,none,none]=some (B.map fun b=>.tup [x1k b.1,x1k (b.1.1,b.2)],[some (scr ns,0),some (x07 n f,9),some (x07 m g,9),some (.int (Int.ofNat m),9),some (x07 (n*m) (cpf m f g),9),some (.lst (x0c (n*m)),0),some (x0b n r,9),some (x0b m s,9),some (d8,9),some (.int (Int.ofNat p),9),some (.tup ((chL p W B).W.map (x18 n)),9),some (.tup ((chL p W B).B.map x1k),9),some (.tup ((chR p W B).W.map (x18 m)),9),some (.tup ((chR p W B).B.map x1k),9),some (.lst ((chB m p W B).W.map (x18 (n*m))),1),none,none,none,none]):=by
  have h0:x01 (x05 11) (x01 (x05 13) x0g) [some (scr ns,0),some (x07 n f,9),some (x07 m g,9),some (.int (Int.ofNat m),9),some (x07 (n*m) (cpf m f g),9),some (.lst (x0c (n*m)),0),some (x0b n r,9),some (x0b m s,9),some (d8,9),some (.int (Int.ofNat p),9),some (.tup ((chL p W B).W.map (x18 n)),9),some (.tup ((chL p W B).B.map x1k),9),some (.tup ((chR p W B).W.map (x18 m)),9),some (.tup ((chR p W B).B.map x1k),9),some (.lst ((chB m p W B).W.map (x18 (n*m))),1),none,none,none,none]=some ([.tup ((chL p W B).B.map x1k),.tup ((chR p W B).B.map x1k)],[some (scr ns,0),some (x07 n f,9),some (x07 m g,9),some (.int (Int.ofNat m),9),some (x07 (n*m) (cpf m f g),9),some (.lst (x0c (n*m)),0),some (x0b n r,9),some (x0b m s,9),some (d8,9),some (.int (Int.ofNat p),9),some (.tup ((chL p W B).W.map (x18 n)),9),some (.tup ((chL p W B).B.map x1k),9),some (.tup ((chR p W B).W.map (x18 m)),9),some (.tup ((chR p W B).B.map x1k),9),some (.lst ((chB m p W B).W.map (x18 (n*m))),1),none,none,none,none]):=rfl
  unfold y1z
  rw[h0]
  show(if((chL p W B).B.map x1k).length<=1000 then some ((((chL p W B).B.map x1k).zip ((chR p W B).B.map x1k)).map (fun x=>D.tup [x.1,x.2]),_)else none)=_
  rw[if_pos (by rw[List.length_map]; exact Nat.le_trans hl.b60 (by decide))]
  unfold chL chR
  rw[List.map_map,List.map_map,List.zip_map',List.map_map]
  rfl
 have d4:=x1e (k:=3) (deep:=false) z2 (x4r (k:=3) (ρ:=[some (scr ns,0),some (x07 n f,9),some (x07 m g,9),some (.int (Int.ofNat m),9),some (x07 (n*m) (cpf m f g),9),some (.lst (x0c (n*m)),0),some (x0b n r,9),some (x0b m s,9),some (d8,9),some (.int (Int.ofNat p),9),some (.tup ((chL p W B).W.map (x18 n)),9),some (.tup ((chL p W B).B.map x1k),9),some (.tup ((chR p W B).W.map (x18 m)),9),some (.tup ((chR p W B).B.map x1k),9),some (.lst ((chB m p W B).W.map (x18 (n*m))),1),none,none,none,none]) (pt:=y2l (x14 (y2l (x14 (x0k 19) (x14 (x0k 20) (x4n)))) (x14 (x0k 21) (x4n)))) (tt:=x1m) (te:=x75 (x01 (x05 19) (x01 (e2 x2p (e2 x62 (x05 20) (x05 3)) (x1q 21 (eC (.int 1)))) (x0g)))) (fun b:B2=>.tup [x1k b.1,x1k (b.1.1,b.2)]) (fun b=>[some (.int (Int.ofNat b.1.1),9),some (.int (Int.ofNat b.1.2),9),some (x1k (b.1.1,b.2),9)]) (fun _=>true) (fun b=>x1k (b.1.1,b.1.2*m+b.2)) (fun _=>9) B fun b hb=>⟨rfl,rfl,fun _=>y45 (ds:=[.int (Int.ofNat b.1.1),.int (Int.ofNat (b.1.2*m+b.2))]) (x1b (q:=9) rfl (x15 (x2y (q:=9) (q':=9) (x2y (q:=9) (q':=9) rfl rfl (y0k (by have:=(z6n L M hl hrr hb).1.2; omega))) (show x1q 21 (eC (.int 1)) _=some (.int (Int.ofNat b.2),9,_)from rfl) (y3c _ _)))) (by show 2<=1000; decide)⟩)
 rw[x9n,show B.map (fun b=>x1k (b.1.1,b.1.2*m+b.2))=(chB m p W B).B.map x1k by unfold chB; rw[List.map_map]; rfl]at d4
 refine(x0j (ρ1:=[some (scr ns,0),some (x07 n f,9),some (x07 m g,9),some (.int (Int.ofNat m),9),some (x07 (n*m) (cpf m f g),9),some (.lst (x0c (n*m)),0),some (x0b n r,9),some (x0b m s,9),some (d8,9),some (.int (Int.ofNat p),9),some (.tup ((chL p W B).W.map (x18 n)),9),some (.tup ((chL p W B).B.map x1k),9),some (.tup ((chR p W B).W.map (x18 m)),9),some (.tup ((chR p W B).B.map x1k),9),some (.lst ((chB m p W B).W.map (x18 (n*m))),1),some (.lst ((chB m p W B).B.map x1k),1),none,none,none]) (x1y d4 rfl)).trans ?_
 refine(x0j (ρ1:=[some (scr ns,0),some (x07 n f,9),some (x07 m g,9),some (.int (Int.ofNat m),9),some (x07 (n*m) (cpf m f g),9),some (.lst (x0c (n*m)),0),some (x0b n r,9),some (x0b m s,9),some (d8,9),some (.int (Int.ofNat p),9),some (.tup ((chL p W B).W.map (x18 n)),9),some (.tup ((chL p W B).B.map x1k),9),some (.tup ((chR p W B).W.map (x18 m)),9),some (.tup ((chR p W B).B.map x1k),9),some (.lst ((chB m p W B).W.map (x18 (n*m))),1),some (.lst ((chB m p W B).B.map x1k),1),some (.tup (x0l u),9),none,none]) (x1y (x0z (ds:=[x07 n f,x0t n (chL p W B)]) rfl rfl lu) rfl)).trans ?_
 refine(x0j (ρ1:=[some (scr ns,0),some (x07 n f,9),some (x07 m g,9),some (.int (Int.ofNat m),9),some (x07 (n*m) (cpf m f g),9),some (.lst (x0c (n*m)),0),some (x0b n r,9),some (x0b m s,9),some (d8,9),some (.int (Int.ofNat p),9),some (.tup ((chL p W B).W.map (x18 n)),9),some (.tup ((chL p W B).B.map x1k),9),some (.tup ((chR p W B).W.map (x18 m)),9),some (.tup ((chR p W B).B.map x1k),9),some (.lst ((chB m p W B).W.map (x18 (n*m))),1),some (.lst ((chB m p W B).B.map x1k),1),some (.tup (x0l u),9),some (.tup (x0l v),9),none]) (x1y (x0z (ds:=[x07 m g,x0t m (chR p W B)]) rfl rfl lv) rfl)).trans ?_
 have ul:u.length=p:=hu.V.len
 have vl:v.length=p:=hv.V.len
 have d5:=x1e (k:=1) (deep:=false) (pt:=x0k 19) (tt:=x1m) (te:=e2 x2p (e2 x62 (x1q 16 (x05 19)) (x05 3)) (x1q 17 (x05 19))) (x3v (show p<=1000 by omega) (fe:=x05 9) (ρ:=[some (scr ns,0),some (x07 n f,9),some (x07 m g,9),some (.int (Int.ofNat m),9),some (x07 (n*m) (cpf m f g),9),some (.lst (x0c (n*m)),0),some (x0b n r,9),some (x0b m s,9),some (d8,9),some (.int (Int.ofNat p),9),some (.tup ((chL p W B).W.map (x18 n)),9),some (.tup ((chL p W B).B.map x1k),9),some (.tup ((chR p W B).W.map (x18 m)),9),some (.tup ((chR p W B).B.map x1k),9),some (.lst ((chB m p W B).W.map (x18 (n*m))),1),some (.lst ((chB m p W B).B.map x1k),1),some (.tup (x0l u),9),some (.tup (x0l v),9),none]) (ρ':=[some (scr ns,0),some (x07 n f,9),some (x07 m g,9),some (.int (Int.ofNat m),9),some (x07 (n*m) (cpf m f g),9),some (.lst (x0c (n*m)),0),some (x0b n r,9),some (x0b m s,9),some (d8,9),some (.int (Int.ofNat p),9),some (.tup ((chL p W B).W.map (x18 n)),9),some (.tup ((chL p W B).B.map x1k),9),some (.tup ((chR p W B).W.map (x18 m)),9),some (.tup ((chR p W B).B.map x1k),9),some (.lst ((chB m p W B).W.map (x18 (n*m))),1),some (.lst ((chB m p W B).B.map x1k),1),some (.tup (x0l u),9),some (.tup (x0l v),9),none]) (q:=9) rfl) (x8q (i:=19) (deep:=false) rfl (fun _=>true) (fun k=>.int (Int.ofNat (gv u k*m+gv v k))) (fun _=>9) (fun j hj=>rfl) (fun j hj _=>by
  have d1:=hu.V.gv hj
  exact x2y (q:=9) (q':=9) (x2y (q:=9) (q':=9) (x55 (x:=.tup (x0l u)) (q:=9) (q':=9) rfl rfl (j0t (by rw[ul]; exact hj)) rfl) rfl (y0k (by omega))) (x55 (x:=.tup (x0l v)) (q:=9) (q':=9) rfl rfl (j0t (by rw[vl]; exact hj)) rfl) (y3c _ _)))
 rw[x9n,<- x9b]at d5
 refine(x0j (ρ1:=[some (scr ns,0),some (x07 n f,9),some (x07 m g,9),some (.int (Int.ofNat m),9),some (x07 (n*m) (cpf m f g),9),some (.lst (x0c (n*m)),0),some (x0b n r,9),some (x0b m s,9),some (d8,9),some (.int (Int.ofNat p),9),some (.tup ((chL p W B).W.map (x18 n)),9),some (.tup ((chL p W B).B.map x1k),9),some (.tup ((chR p W B).W.map (x18 m)),9),some (.tup ((chR p W B).B.map x1k),9),some (.lst ((chB m p W B).W.map (x18 (n*m))),1),some (.lst ((chB m p W B).B.map x1k),1),some (.tup (x0l u),9),some (.tup (x0l v),9),some (.tup (x0l ((List.range p).map fun i=>gv u i*m+gv v i)),9)]) (x1y (x1j (x15 d5)) rfl)).trans ?_
 rw[ex]at lx
 have v14:=x1j (x15 (x7h (i:=14) (q:=1) (ρ:=[some (scr ns,0),some (x07 n f,9),some (x07 m g,9),some (.int (Int.ofNat m),9),some (x07 (n*m) (cpf m f g),9),some (.lst (x0c (n*m)),0),some (x0b n r,9),some (x0b m s,9),some (d8,9),some (.int (Int.ofNat p),9),some (.tup ((chL p W B).W.map (x18 n)),9),some (.tup ((chL p W B).B.map x1k),9),some (.tup ((chR p W B).W.map (x18 m)),9),some (.tup ((chR p W B).B.map x1k),9),some (.lst ((chB m p W B).W.map (x18 (n*m))),1),some (.lst ((chB m p W B).B.map x1k),1),some (.tup (x0l u),9),some (.tup (x0l v),9),some (.tup (x0l ((List.range p).map fun i=>gv u i*m+gv v i)),9)]) (ds:=(chB m p W B).W.map (x18 (n*m))) rfl))
 have v15:=x1j (x15 (x7h (i:=15) (q:=1) (ρ:=List.set [some (scr ns,0),some (x07 n f,9),some (x07 m g,9),some (.int (Int.ofNat m),9),some (x07 (n*m) (cpf m f g),9),some (.lst (x0c (n*m)),0),some (x0b n r,9),some (x0b m s,9),some (d8,9),some (.int (Int.ofNat p),9),some (.tup ((chL p W B).W.map (x18 n)),9),some (.tup ((chL p W B).B.map x1k),9),some (.tup ((chR p W B).W.map (x18 m)),9),some (.tup ((chR p W B).B.map x1k),9),some (.lst ((chB m p W B).W.map (x18 (n*m))),1),some (.lst ((chB m p W B).B.map x1k),1),some (.tup (x0l u),9),some (.tup (x0l v),9),some (.tup (x0l ((List.range p).map fun i=>gv u i*m+gv v i)),9)] 14 (some (.lst ((chB m p W B).W.map (x18 (n*m))),0))) (ds:=(chB m p W B).B.map x1k) rfl))
 have e9:x05 9 [some (scr ns,0),some (x07 n f,9),some (x07 m g,9),some (.int (Int.ofNat m),9),some (x07 (n*m) (cpf m f g),9),some (.lst (x0c (n*m)),0),some (x0b n r,9),some (x0b m s,9),some (d8,9),some (.int (Int.ofNat p),9),some (.tup ((chL p W B).W.map (x18 n)),9),some (.tup ((chL p W B).B.map x1k),9),some (.tup ((chR p W B).W.map (x18 m)),9),some (.tup ((chR p W B).B.map x1k),9),some (.lst ((chB m p W B).W.map (x18 (n*m))),1),some (.lst ((chB m p W B).B.map x1k),1),some (.tup (x0l u),9),some (.tup (x0l v),9),some (.tup (x0l ((List.range p).map fun i=>gv u i*m+gv v i)),9)]=some (.int (Int.ofNat p),9,[some (scr ns,0),some (x07 n f,9),some (x07 m g,9),some (.int (Int.ofNat m),9),some (x07 (n*m) (cpf m f g),9),some (.lst (x0c (n*m)),0),some (x0b n r,9),some (x0b m s,9),some (d8,9),some (.int (Int.ofNat p),9),some (.tup ((chL p W B).W.map (x18 n)),9),some (.tup ((chL p W B).B.map x1k),9),some (.tup ((chR p W B).W.map (x18 m)),9),some (.tup ((chR p W B).B.map x1k),9),some (.lst ((chB m p W B).W.map (x18 (n*m))),1),some (.lst ((chB m p W B).B.map x1k),1),some (.tup (x0l u),9),some (.tup (x0l v),9),some (.tup (x0l ((List.range p).map fun i=>gv u i*m+gv v i)),9)]):=rfl
 have et:=y45 (x1b e9 (x1b v14 (x15 v15))) (by show 3<=1000; decide)
 have e4:x05 4 [some (scr ns,0),some (x07 n f,9),some (x07 m g,9),some (.int (Int.ofNat m),9),some (x07 (n*m) (cpf m f g),9),some (.lst (x0c (n*m)),0),some (x0b n r,9),some (x0b m s,9),some (d8,9),some (.int (Int.ofNat p),9),some (.tup ((chL p W B).W.map (x18 n)),9),some (.tup ((chL p W B).B.map x1k),9),some (.tup ((chR p W B).W.map (x18 m)),9),some (.tup ((chR p W B).B.map x1k),9),some (.lst ((chB m p W B).W.map (x18 (n*m))),1),some (.lst ((chB m p W B).B.map x1k),1),some (.tup (x0l u),9),some (.tup (x0l v),9),some (.tup (x0l ((List.range p).map fun i=>gv u i*m+gv v i)),9)]=some (x07 (n*m) (cpf m f g),9,[some (scr ns,0),some (x07 n f,9),some (x07 m g,9),some (.int (Int.ofNat m),9),some (x07 (n*m) (cpf m f g),9),some (.lst (x0c (n*m)),0),some (x0b n r,9),some (x0b m s,9),some (d8,9),some (.int (Int.ofNat p),9),some (.tup ((chL p W B).W.map (x18 n)),9),some (.tup ((chL p W B).B.map x1k),9),some (.tup ((chR p W B).W.map (x18 m)),9),some (.tup ((chR p W B).B.map x1k),9),some (.lst ((chB m p W B).W.map (x18 (n*m))),1),some (.lst ((chB m p W B).B.map x1k),1),some (.tup (x0l u),9),some (.tup (x0l v),9),some (.tup (x0l ((List.range p).map fun i=>gv u i*m+gv v i)),9)]):=rfl
 refine x33 (x2y (q':=9) (y:=.tup (x0l ((List.range p).map fun i=>gv u i*m+gv v i))) (x0z (x1b e4 (x15 et)) rfl lx) rfl (by rw[j18]; simp))
noncomputable def A0 (K:PySem.W.Frag) (mg:Str->Option Value) (x:Str) (st:Stmt):Prop:=∃ f fd,Fun K x x st f fd/\mg x=some (.ref f)
theorem A0.mk {K:PySem.W.Frag} {h:Heap} {mg:Str->Option Value} {x:Str} {st:Stmt} {f:Addr} {od an:Option Addr} {sl:Array (Option Value)} {oc kV dc pm cd ct:Value} (X:K.In h) (G:h.Ns mainGlobals mg) (a:PySem.W.nsIn K mainGlobals x=some (some (.ref f))) (l:K.lookup f=some ⟨oc,od,.func (PySem.W.fnOf x x (x64 st) (x35 st) (x0e st) .none kV dc pm an cd ct),sl⟩) (c:PySem.W.codeIn K cd x=true) (k:PySem.W.keepIn K (.ref f)=true):A0 K mg x st:=⟨_,_,z33 l c k,PySem.W.mg_of X G a⟩
theorem A0.at {K:PySem.W.Frag} {mg:Str->Option Value} {x:Str} {st:Stmt} {ps:List Str} (a:A0 K mg x st) (h:∀ (kV doc pm:Value) (an:Option Addr) (cdv ct:Value) (us:List Value),us.length=ps.length->bindArgs (PySem.W.fnOf x x (x64 st) (x35 st) (x0e st) .none kV doc pm an cdv ct) ⟨us,[]⟩=pure (ps.zip us)):At K mg x st ps:=by
 obtain⟨f,fd,F,m⟩:=a
 exact⟨f,fd,F,m,F.binds h⟩
theorem all_mk {l:PySem.W.OpenLaw} {w:World} {K:PySem.W.Frag} {h:Heap} {mg:Str->Option Value} {fa:Addr} {f40:Addr} {od40 an40:Option Addr} {sl40:Array (Option Value)} {oc40 kV40 dc40 pm40 cd40 ct40:Value} (X:K.In h) (G:h.Ns mainGlobals mg) (hfa:mg "law" = some (.ref fa))
  (A1:A0 K mg "joined_couple" (top 17))
  (A2:A0 K mg "_law_cell" (top 36))
  (A3:A0 K mg "_law_pick" (top 37))
  (A4:A0 K mg "_law_chain" (top 38))
  (A5:A0 K mg "_law_couples" (top 39))
  (A6:A0 K mg "_law_side_by_side" (top 40))
  (A7:A0 K mg "_law_base" (top 41))
  (A8:A0 K mg "_law_ladder" (top 42))
  (A9:A0 K mg "table_of" (top 15))
  (A10:A0 K mg "paired" (top 16))
  (A11:A0 K mg "paired_rules" (top 24))
  (A12:A0 K mg "_law_low" (top 43))
  (A13:A0 K mg "_law_join" (top 44))
  (A14:A0 K mg "_law_under" (top 45))
  (A15:A0 K mg "_law_rule" (top 46))
  (A16:A0 K mg "_law_spreads" (top 47))
  (A17:A0 K mg "_law_spread_rule" (top 48))
  (A18:A0 K mg "_law_chart" (top 49))
  (A19:A0 K mg "is_whole" (top 5))
  (A20:A0 K mg "is_number_of" (top 6))
  (A21:A0 K mg "is_named_number" (top 8))
  (A22:A0 K mg "is_step" (top 29))
  (A23:A0 K mg "refuse_no_step" (top 30))
  (A24:A0 K mg "place_and_worth" (top 31))
  (A25:A0 K mg "worths_behind" (top 32))
  (A26:A0 K mg "risen" (top 33))
  (A27:A0 K mg "row_of_least" (top 11))
  (A28:A0 K mg "least_of" (top 12))
  (A29:A0 K mg "lowest" (top 26))
  (A30:A0 K mg "least_by" (top 34))
  (A31:A0 K mg "all_steps" (top 28))
  (A32:A0 K mg "least" (top 27))
  (A33:A0 K mg "is_row_of" (top 7))
  (A34:A0 K mg "leads_joins_to_joins" (top 21))
  (A35:A0 K mg "is_map" (top 23))
  (A36:A0 K mg "is_below" (top 13))
  (A37:A0 K mg "below" (top 14))
  (A38:A0 K mg "rises" (top 19))
  (A39:A0 K mg "spreads" (top 20))
  (a40:PySem.W.nsIn K mainGlobals "law" = some (some (.ref f40))) (l40:K.lookup f40=some ⟨oc40,od40,.func (PySem.W.fnOf "law" "law" (x64 (top 50)) (x35 (top 50)) (x0e (top 50)) .none kV40 dc40 pm40 an40 cd40 ct40),sl40⟩) (c40:PySem.W.codeIn K cd40 "law" = true) (k40:PySem.W.keepIn K (.ref f40)=true)
  (z1:PySem.W.nsIn K mainGlobals "all" = some none) (z2:PySem.W.nsIn K mainGlobals "bool" = some none) (z3:PySem.W.nsIn K mainGlobals "enumerate" = some none) (z4:PySem.W.nsIn K mainGlobals "int" = some none) (z5:PySem.W.nsIn K mainGlobals "isinstance" = some none) (z6:PySem.W.nsIn K mainGlobals "len" = some none) (z7:PySem.W.nsIn K mainGlobals "list" = some none) (z8:PySem.W.nsIn K mainGlobals "max" = some none) (z9:PySem.W.nsIn K mainGlobals "range" = some none) (z10:PySem.W.nsIn K mainGlobals "str" = some none) (z11:PySem.W.nsIn K mainGlobals "tuple" = some none) (z12:PySem.W.nsIn K mainGlobals "zip" = some none) {tk1:Tok} (v1:PySem.W.nsIn K mainGlobals "MOST_WORTHS" = some (some (.int 16 tk1))) (t_paired:∃ c Pt,PySem.W.tabIn K "paired" = some (c,Pt)) :
  ∃ fd:FuncData,(∀ (s:Shared) (v:Value),BindsTo s fd ⟨[v],[]⟩ [("_law_script",v)])/\∀ base:Heap,K.In base->base.Ns mainGlobals mg->Lm K mg base->FnOk l.prog w K mg base CX0 8 fa fd ["_law_script"] (spD K 1 y73):=by
 have e:=hfa.symm.trans (PySem.W.mg_of X G a40)
 cases e
 have B:Bt mg:=⟨PySem.W.mg_none_of X G z1,PySem.W.mg_none_of X G z2,PySem.W.mg_none_of X G z3,PySem.W.mg_none_of X G z4,PySem.W.mg_none_of X G z5,PySem.W.mg_none_of X G z6,PySem.W.mg_none_of X G z7,PySem.W.mg_none_of X G z8,PySem.W.mg_none_of X G z9,PySem.W.mg_none_of X G z10,PySem.W.mg_none_of X G z11,PySem.W.mg_none_of X G z12,⟨_,PySem.W.mg_of X G v1⟩⟩
 refine⟨PySem.W.fnOf "law" "law" (x64 (top 50)) (x35 (top 50)) (x0e (top 50)) .none kV40 dc40 pm40 an40 cd40 ct40,fun s v=>.of_eq rfl,fun base KX NG L=>?_⟩
 have E_joined_couple:∀ base:Heap,Cal l.prog w K mg base 1 "joined_couple" 4 x28:=fun base=>x5v B (A1.at fun _ _ _ _ _ _ _ h=>by obtain⟨_,_,_,_,rfl⟩:=L3.j3l h; rfl)
 have hy_table_of:∃ fn,mg "table_of" = some (.ref fn)/\PySem.W.keepIn K (.ref fn)=true:=by
  obtain⟨f,fd,F,m⟩:=A9
  exact⟨f,m,F.kp⟩
 have hT_table_of:∀ (base:Heap) (ob:D) (G:List D->Option (D × Nat)),z4d l.prog w K mg base 2 ob 2 G->Cal l.prog w K mg base 3 "table_of" 2 (x38 ob G):=fun base ob G co=>y6u B co (A9.at fun _ _ _ _ _ _ _ h=>by obtain⟨_,_,rfl⟩:=L3.j3f h; rfl)
 have D_joined_couple:=x5v (P:=l.prog) (w:=w) (base:=base) B (A1.at fun _ _ _ _ _ _ _ h=>by obtain⟨_,_,_,_,rfl⟩:=L3.j3l h; rfl)
 have D__law_cell:=y4s (P:=l.prog) (w:=w) (base:=base) B (A2.at fun _ _ _ _ _ _ _ h=>by obtain⟨_,_,rfl⟩:=L3.j3f h; rfl)
 have D__law_pick:=y4o B D__law_cell (A3.at fun _ _ _ _ _ _ _ h=>by obtain⟨_,_,_,rfl⟩:=L3.j2p h; rfl)
 have D__law_chain:=y3x (P:=l.prog) (w:=w) (base:=base) B (A4.at fun _ _ _ _ _ _ _ h=>by obtain⟨_,rfl⟩:=L3.j3h h; rfl)
 have D__law_couples:=y12 (P:=l.prog) (w:=w) (base:=base) B (A5.at fun _ _ _ _ _ _ _ h=>by obtain⟨_,_,rfl⟩:=L3.j3f h; rfl)
 have D__law_side_by_side:=x74 (P:=l.prog) (w:=w) (base:=base) B (A6.at fun _ _ _ _ _ _ _ h=>by obtain⟨_,rfl⟩:=L3.j3h h; rfl)
 have D__law_base:=y5d B D__law_pick D__law_chain D__law_couples D__law_side_by_side (A7.at fun _ _ _ _ _ _ _ h=>by obtain⟨_,_,rfl⟩:=L3.j3f h; rfl)
 have D__law_ladder:=y2t B D__law_base D__law_pick (A8.at fun _ _ _ _ _ _ _ h=>by obtain⟨_,_,rfl⟩:=L3.j3f h; rfl)
 have D_paired:=z0s B L KX NG t_paired hT_table_of hy_table_of E_joined_couple (A10.at fun _ _ _ _ _ _ _ h=>by obtain⟨_,_,rfl⟩:=L3.j3f h; rfl)
 have D_paired_rules:=y0u (P:=l.prog) (w:=w) (base:=base) B (A11.at fun _ _ _ _ _ _ _ h=>by obtain⟨_,_,rfl⟩:=L3.j3f h; rfl)
 have D__law_low:=y6p (P:=l.prog) (w:=w) (base:=base) B (A12.at fun _ _ _ _ _ _ _ h=>by obtain⟨_,rfl⟩:=L3.j3h h; rfl)
 have D__law_join:=y4p B D__law_low (A13.at fun _ _ _ _ _ _ _ h=>by obtain⟨_,_,rfl⟩:=L3.j3f h; rfl)
 have D__law_under:=y47 (P:=l.prog) (w:=w) (base:=base) B (A14.at fun _ _ _ _ _ _ _ h=>by obtain⟨_,_,rfl⟩:=L3.j3f h; rfl)
 have D__law_rule:=y4l B D__law_low D__law_pick D__law_join D__law_under (A15.at fun _ _ _ _ _ _ _ h=>by obtain⟨_,_,_,rfl⟩:=L3.j2p h; rfl)
 have D__law_spreads:=y14 (P:=l.prog) (w:=w) (base:=base) B (A16.at fun _ _ _ _ _ _ _ h=>by obtain⟨_,_,rfl⟩:=L3.j3f h; rfl)
 have D__law_spread_rule:=x83 B D__law_rule D__law_spreads D__law_pick (A17.at fun _ _ _ _ _ _ _ h=>by obtain⟨_,_,_,rfl⟩:=L3.j2p h; rfl)
 have D__law_chart:=y3u B D__law_pick D__law_rule D__law_spread_rule (A18.at fun _ _ _ _ _ _ _ h=>by obtain⟨_,_,_,_,rfl⟩:=L3.j3l h; rfl)
 have D_is_whole:=y77 (P:=l.prog) (w:=w) (base:=base) B (A19.at fun _ _ _ _ _ _ _ h=>by obtain⟨_,rfl⟩:=L3.j3h h; rfl)
 have D_is_number_of:=y13 B D_is_whole (A20.at fun _ _ _ _ _ _ _ h=>by obtain⟨_,_,rfl⟩:=L3.j3f h; rfl)
 have D_is_named_number:=x8d B D_is_number_of (A21.at fun _ _ _ _ _ _ _ h=>by obtain⟨_,_,rfl⟩:=L3.j3f h; rfl)
 have D_is_step:=y9r B D_is_named_number (A22.at fun _ _ _ _ _ _ _ h=>by obtain⟨_,_,rfl⟩:=L3.j3f h; rfl)
 have D_refuse_no_step:=x9a B D_is_step (A23.at fun _ _ _ _ _ _ _ h=>by obtain⟨_,_,rfl⟩:=L3.j3f h; rfl)
 have D_place_and_worth:=x8p (P:=l.prog) (w:=w) (base:=base) B (A24.at fun _ _ _ _ _ _ _ h=>by obtain⟨_,_,_,rfl⟩:=L3.j2p h; rfl)
 have D_worths_behind:=y00 B D_place_and_worth (A25.at fun _ _ _ _ _ _ _ h=>by obtain⟨_,_,_,_,rfl⟩:=L3.j3l h; rfl)
 have D_risen:=z42 B D_worths_behind (A26.at fun _ _ _ _ _ _ _ h=>by obtain⟨_,_,_,_,rfl⟩:=L3.j3l h; rfl)
 have D_row_of_least:=y10 (P:=l.prog) (w:=w) (base:=base) B (A27.at fun _ _ _ _ _ _ _ h=>by obtain⟨_,rfl⟩:=L3.j3h h; rfl)
 have D_least_of:=y7d B D_row_of_least (A28.at fun _ _ _ _ _ _ _ h=>by obtain⟨_,rfl⟩:=L3.j3h h; rfl)
 have D_lowest:=z13 B D_least_of (A29.at fun _ _ _ _ _ _ _ h=>by obtain⟨_,_,rfl⟩:=L3.j3f h; rfl)
 have D_least_by:=y7g B D_refuse_no_step D_risen D_lowest (A30.at fun _ _ _ _ _ _ _ h=>by obtain⟨_,_,_,rfl⟩:=L3.j2p h; rfl)
 have D_all_steps:=y4t (P:=l.prog) (w:=w) (base:=base) B (A31.at fun _ _ _ _ _ _ _ h=>by obtain⟨_,rfl⟩:=L3.j3h h; rfl)
 have D_least:=z6p B D_least_by D_all_steps (A32.at fun _ _ _ _ _ _ _ h=>by obtain⟨_,_,rfl⟩:=L3.j3f h; rfl)
 have D_is_row_of:=y5t B D_is_number_of (A33.at fun _ _ _ _ _ _ _ h=>by obtain⟨_,_,_,rfl⟩:=L3.j2p h; rfl)
 have D_leads_joins_to_joins:=x5j (P:=l.prog) (w:=w) (base:=base) B (A34.at fun _ _ _ _ _ _ _ h=>by obtain⟨_,_,_,rfl⟩:=L3.j2p h; rfl)
 have D_is_map:=z1s B D_is_row_of D_leads_joins_to_joins D_least_of (A35.at fun _ _ _ _ _ _ _ h=>by obtain⟨_,_,_,rfl⟩:=L3.j2p h; rfl)
 have D_is_below:=y6y (P:=l.prog) (w:=w) (base:=base) B (A36.at fun _ _ _ _ _ _ _ h=>by obtain⟨_,_,_,rfl⟩:=L3.j2p h; rfl)
 have D_below:=z5z B D_is_below (A37.at fun _ _ _ _ _ _ _ h=>by obtain⟨_,_,rfl⟩:=L3.j3f h; rfl)
 have D_rises:=z4f B D_below D_is_below (A38.at fun _ _ _ _ _ _ _ h=>by obtain⟨_,_,rfl⟩:=L3.j3f h; rfl)
 have D_spreads:=y9k B D_leads_joins_to_joins (A39.at fun _ _ _ _ _ _ _ h=>by obtain⟨_,_,rfl⟩:=L3.j3f h; rfl)
 exact z54 B D__law_ladder D_paired D_is_map D__law_pick D_paired_rules D_rises D_spreads D__law_chart D__law_rule D_least (z33 (st:=top 50) l40 c40 k40)
theorem walk {l:PySem.W.OpenLaw} {q:Program} {loose:List Str} {XP:(Str->Option Value)->Heap->Prop} {YP:World->Heap->Prop} {d:DefRec} {K:Params->PySem.W.Frag} (hn:l.most=some 63) (hdf:d.params.defaults=[])
  (hY:∀ (w:World) (h:Heap),YP w h->(K w.params).In h)
  (F:∀ (w:World) (mg:Str->Option Value) (fa:Addr) (h:Heap),(K w.params).In h->h.Ns mainGlobals mg->mg d.name=some (.ref fa)->j0s q (K w.params)/\PySem.W.noTabs (K w.params)=true /\
    ∃ fd:FuncData,(∀ (s:Shared) (u:Value),BindsTo s fd ⟨[u],[]⟩ [("_law_script",u)])/\∀ base:Heap,(K w.params).In base->base.Ns mainGlobals mg->Lm (K w.params) mg base->FnOk l.prog w (K w.params) mg base CX0 8 fa fd ["_law_script"] (spD (K w.params) 1 y73)) :
  PySem.W.WalkO q loose XP YP l.row.toRowW d [] (fun f vs=>PySem.call f vs):=
 z1w (n:=63) (k:=8) (x:="_law_script") (CX:=fun _=>CX0) (sp:=fun w=>spD (K w.params) 1 y73) hn (by decide) hdf ⟨rfl,by decide,by decide⟩ hY F (fun _ _ a ns hl tb hS=>z74 law_true hl hS tb) fun _ _ _ _ _ z=>z
end My
namespace PySem.W.Fast
def tw10001592006907094351 := 0
def tw10088567260992115234 := 0
def tw10101319182286080608 := 0
def tw10126236140655151965 := 0
def tw1014384138321622634 := 0
def tw10389276000397552486 := 0
def tw10471867586019382973 := 0
def tw10520628627142988484 := 0
def tw10678081719912340168 := 0
def tw10755785943305313383 := 0
def tw10766616520585438041 := 0
def tw10782262193447759278 := 0
def tw10838953590221391743 := 0
def tw10863049725709182253 := 0
def tw10891012774954789607 := 0
def tw10925156513506503352 := 0
def tw1094357462207923458 := 0
def tw10945128284043198240 := 0
def tw1095031509281130279 := 0
def tw11006254863267862262 := 0
def tw11022607738457896624 := 0
def tw11022868275714219822 := 0
def tw11095685442515829473 := 0
def tw11099186293938092204 := 0
def tw11309424463760823592 := 0
def tw11322648665047613139 := 0
def tw11341913572518082311 := 0
def tw11376612525769537363 := 0
def tw11400182795108237846 := 0
def tw11434218790132650170 := 0
def tw1147933735919630039 := 0
def tw1158631834289516529 := 0
def tw11642234559980988549 := 0
def tw11654404314007082891 := 0
def tw11712713403168844550 := 0
def tw11789932402939174639 := 0
def tw1180322488731126567 := 0
def tw11842141572054850140 := 0
def tw12007422393350551945 := 0
def tw12158880429154233176 := 0
def tw12247423799425400284 := 0
def tw12269645651919244534 := 0
def tw12283334229738777140 := 0
def tw12288480315937155089 := 0
def tw12341509149541890386 := 0
def tw12404498910047601765 := 0
def tw12439492578187950102 := 0
def tw12467611855545723160 := 0
def tw12508186624414879991 := 0
def tw12531793425909177296 := 0
def tw12552726052524174300 := 0
def tw1255700349475331052 := 0
def tw12602776738515128541 := 0
def tw12616562585320673686 := 0
def tw1269516078174455586 := 0
def tw12732999289671583257 := 0
def tw127363476402637246 := 0
def tw1276489470578777977 := 0
def tw12773015113670813746 := 0
def tw12779370612447207296 := 0
def tw12847725462248467626 := 0
def tw1285940451295186645 := 0
def tw12930399522656735490 := 0
def tw13060353064712995728 := 0
def tw13086305023347275858 := 0
def tw13098191648883811737 := 0
def tw13168339149323613643 := 0
def tw13288147304444788404 := 0
def tw1336982084730193225 := 0
def tw13465136237942975226 := 0
def tw13542019854829538395 := 0
def tw13551321945111446216 := 0
def tw13678400673838757579 := 0
def tw13809481907668521344 := 0
def tw13825100153612205212 := 0
def tw13847899893180506614 := 0
def tw13901365168488038448 := 0
def tw13924913481347175185 := 0
def tw14018700414718697212 := 0
def tw14238639214852996635 := 0
def tw14277716563952637868 := 0
def tw14279959101627807511 := 0
def tw14304998225467050117 := 0
def tw14472898807629465423 := 0
def tw14512722282372576028 := 0
def tw14518411166377857416 := 0
def tw1453471176282299855 := 0
def tw14606142743937938889 := 0
def tw14683847664598515094 := 0
def tw14713757071674876323 := 0
def tw14800109869637819171 := 0
def tw1499115581089004136 := 0
def tw15047801911013312473 := 0
def tw15112806899573983184 := 0
def tw15119610843435268958 := 0
def tw15121303987734008097 := 0
def tw15189156689226966863 := 0
def tw15250545646961665583 := 0
def tw15324281759102033625 := 0
def tw15384586306400342485 := 0
def tw15423803429001838707 := 0
def tw15431673809566914054 := 0
def tw155547566956228275 := 0
def tw15575815211555993758 := 0
def tw15657946857176083683 := 0
def tw15755864986804246239 := 0
def tw15880251197272043810 := 0
def tw15899218048990929585 := 0
def tw1594891782963148531 := 0
def tw15977214545923457789 := 0
def tw16049070965344534090 := 0
def tw1607757583586156171 := 0
def tw16118273913856966448 := 0
def tw16137408232847919997 := 0
def tw16151336869808730122 := 0
def tw16217329967888707226 := 0
def tw16314056130872625485 := 0
def tw16545871454757723734 := 0
def tw16654694947242840170 := 0
def tw16663567778815069361 := 0
def tw16681187908579140033 := 0
def tw16722643484846677070 := 0
def tw16749460392101026372 := 0
def tw16817169192029171937 := 0
def tw16854643801182081581 := 0
def tw16858433595486049659 := 0
def tw16893862212193233679 := 0
def tw16995625322177657869 := 0
def tw17121373419424725440 := 0
def tw17124654865738803586 := 0
def tw1717727250530986400 := 0
def tw17201035514329599982 := 0
def tw17293396611446871285 := 0
def tw17440754181836869985 := 0
def tw17442127356994898819 := 0
def tw17515562759340898967 := 0
def tw17637771880035661480 := 0
def tw17660509668187236783 := 0
def tw17681591900709422787 := 0
def tw17817098926544124699 := 0
def tw17890261894330547876 := 0
def tw17979193071570636060 := 0
def tw18051851077570050100 := 0
def tw18232868987366106435 := 0
def tw18238533614510636956 := 0
def tw18365241884920101921 := 0
def tw18378919003013630364 := 0
def tw18426798534988621352 := 0
def tw18431383002360362507 := 0
def tw1866510863127705059 := 0
def tw1937559341821142668 := 0
def tw1996676059371617219 := 0
def tw2043949298350876160 := 0
def tw2114878838627505538 := 0
def tw2142445615426201106 := 0
def tw2161717930789543092 := 0
def tw2220923310786655389 := 0
def tw2253245685461398976 := 0
def tw2256073991480353868 := 0
def tw2263882204134925333 := 0
def tw2335038437137034451 := 0
def tw2361199176260747415 := 0
def tw2367961614745669337 := 0
def tw2404991529168111845 := 0
def tw2490999764436528423 := 0
def tw2548606805155969447 := 0
def tw2622304195316816162 := 0
def tw2658612317108686967 := 0
def tw2669190100608891080 := 0
def tw2770345810314382235 := 0
def tw2812809493813402910 := 0
def tw2875141587071996252 := 0
def tw2883458296906376004 := 0
def tw3089158647785977729 := 0
def tw3227880029289524418 := 0
def tw3339850290420305330 := 0
def tw3348525214214953487 := 0
def tw3421419804683846162 := 0
def tw360060590995121630 := 0
def tw3605080183169895384 := 0
def tw3718105983161034425 := 0
def tw3753447797243530443 := 0
def tw3880272551810006534 := 0
def tw3943701896836265832 := 0
def tw398161540434919066 := 0
def tw3987976275591838112 := 0
def tw4019800929652273291 := 0
def tw4045035528868590721 := 0
def tw4095196093241613692 := 0
def tw4266183979484620566 := 0
def tw4266772674206474497 := 0
def tw4324509072963248897 := 0
def tw4340008182451048780 := 0
def tw4369363157558702669 := 0
def tw4402675342328402378 := 0
def tw4541309154396890451 := 0
def tw4588178550106793980 := 0
def tw4709372455765301660 := 0
def tw4730043763479571084 := 0
def tw4739442511624952598 := 0
def tw4791656622889288948 := 0
def tw5088265351359769578 := 0
def tw5290943356903089812 := 0
def tw5356667265615650070 := 0
def tw54375751060736229 := 0
def tw5439098658395303450 := 0
def tw5440210753125620603 := 0
def tw5486918082620090325 := 0
def tw5531166959436305940 := 0
def tw5568210720137498971 := 0
def tw5657617999589521107 := 0
def tw569027295279949238 := 0
def tw5702098159682462898 := 0
def tw570852687470499866 := 0
def tw5742323988950198472 := 0
def tw5757410279174295659 := 0
def tw6086111173704887041 := 0
def tw6190414433855267507 := 0
def tw6210573197961627581 := 0
def tw6235123729422749972 := 0
def tw6283696593396159736 := 0
def tw6408091664326337988 := 0
def tw6593351945987047585 := 0
def tw6609391625785010216 := 0
def tw6683714602880931676 := 0
def tw6725141158043168218 := 0
def tw6728445805173901364 := 0
def tw6786717763216124447 := 0
def tw6928424729266390839 := 0
def tw6983173974179218504 := 0
def tw7009755048332771265 := 0
def tw7042315969989761052 := 0
def tw7069853826358386936 := 0
def tw7189475895139914320 := 0
def tw724558161805939779 := 0
def tw7269252435204267091 := 0
def tw7285182733765252694 := 0
def tw7439474979138149159 := 0
def tw7472050199553288475 := 0
def tw7510372829912994742 := 0
def tw7555186783067277353 := 0
def tw7580156130345525781 := 0
def tw760112162315955961 := 0
def tw7626348858334987936 := 0
def tw7708315126398592226 := 0
def tw7735924716835951395 := 0
def tw7851516558076702999 := 0
def tw7874993683354484971 := 0
def tw790571176208159431 := 0
def tw8126206195081630293 := 0
def tw8191211457753619785 := 0
def tw8231381048977308122 := 0
def tw8257190704794758531 := 0
def tw8471575319935575594 := 0
def tw8487257270568286335 := 0
def tw8504002879254144866 := 0
def tw8617842203916237847 := 0
def tw8668677076841358807 := 0
def tw8679415647623675147 := 0
def tw8746062490576403265 := 0
def tw8813414586374002770 := 0
def tw8828938233618164906 := 0
def tw8876826950589948976 := 0
def tw9049421195659766741 := 0
def tw9168471473112421095 := 0
def tw9213107244515579167 := 0
def tw9293667065247319510 := 0
def tw9315559460062100187 := 0
def tw9430591293816374813 := 0
def tw9489025030387074989 := 0
def tw9523695331497525273 := 0
def tw9546737356876806727 := 0
def tw9573183095587426143 := 0
def tw9672906386933755053 := 0
def tw9713662128831078854 := 0
def tw9806032849004366327 := 0
def tw9816091492752411041 := 0
def tw9900730231509000736 := 0
def tw9900755316639835874 := 0
end PySem.W.Fast
open PySem PySem.W PyProof.Rows
set_option maxRecDepth 100000 in
set_option maxHeartbeats 0 in
theorem PySem.Challenge.cw_ladderhall_k93_whole_couples_holds : PySem.Challenge.rw_ladderhall_k93_whole_couples.Holds := by
  w_on; o_law; k_head; (case hw => w_witness2)
  k_fill
  refine My.walk (l := PySem.Challenge.rw_ladderhall_k93_whole_couples) rfl rfl (fun w h Y => PySem.W.km_in_of Y) ?F
  case F =>
    intro w mg fa h KX G hmg
    refine' ⟨L3.j0s.of ?r1 ?r2 ?r3 ?r4, ?nt, ?al⟩
    (case r1 => refine' .inr (L3.j0o ?_); k_is)
    (case r2 => refine' .inr (L3.j0o ?_); k_is)
    (case r3 => refine' .inr (L3.j0o ?_); k_is)
    (case r4 => exact .inl ⟨_, rfl⟩)
    (case nt => kernel_rfl)
    refine' My.all_mk KX G hmg ?A1 ?A2 ?A3 ?A4 ?A5 ?A6 ?A7 ?A8 ?A9 ?A10 ?A11 ?A12 ?A13 ?A14 ?A15 ?A16 ?A17 ?A18 ?A19 ?A20 ?A21 ?A22 ?A23 ?A24 ?A25 ?A26 ?A27 ?A28 ?A29 ?A30 ?A31 ?A32 ?A33 ?A34 ?A35 ?A36 ?A37 ?A38 ?A39 ?a40 ?l40 ?c40 ?k40 ?z1 ?z2 ?z3 ?z4 ?z5 ?z6 ?z7 ?z8 ?z9 ?z10 ?z11 ?z12 ?v1 ?t_paired
    (case A1 | A2 | A3 | A4 | A5 | A6 | A7 | A8 | A9 | A10 | A11 | A12 | A13 | A14 | A15 | A16 | A17 | A18 | A19 | A20 | A21 | A22 | A23 | A24 | A25 | A26 | A27 | A28 | A29 | A30 | A31 | A32 | A33 | A34 | A35 | A36 | A37 | A38 | A39 => refine' My.A0.mk KX G ?a ?l ?c ?k; (case a => k_is); (case l => k_is); (case c => k_is); (case k => k_is))
    (case a40 => k_is)
    (case l40 => k_is)
    (case c40 => k_is)
    (case k40 => k_is)
    (case z1 => k_is)
    (case z2 => k_is)
    (case z3 => k_is)
    (case z4 => k_is)
    (case z5 => k_is)
    (case z6 => k_is)
    (case z7 => k_is)
    (case z8 => k_is)
    (case z9 => k_is)
    (case z10 => k_is)
    (case z11 => k_is)
    (case z12 => k_is)
    (case v1 => k_is)
    (case t_paired => refine' L3.j2c ?a ?l ?c ?m ?v; (case a => k_is); (case l => k_is); (case c => exact rfl); (case m => k_is); (case v => exact rfl))
