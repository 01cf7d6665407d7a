import PyProof.Rows.All
import Wide.All
import OpenK.AllK
import Wide.FinOn
import Lean
import PyProof.EqAt
import PyProof.EqKinds
import PyProof.TupleCall
import KE.KIsNot
import PyProof.ExcArgs
import OpenK.KOwn
import KE.LcSums
import PyProof.EnumMake
import PyProof.Draws
import PyProof.Rows.EnumRows
import PyProof.ExcBaseAll.ValueError
import PyProof.NsDelKeeps
import PySem.Challenge.RW_ladderhall_k50_whole_greatest
set_option Elab.async false
set_option linter.all false
set_option maxRecDepth 100000
set_option maxHeartbeats 0
namespace L2
open PySem PySem.Spec PyProof.Rows
noncomputable abbrev Key:=Sum Int Str
noncomputable def y73:Key->Value->Bool
 | .inl k,v=>Value.isInt k v
 | .inr x,v=>Value.isStrOf x v
noncomputable def j35 (w:World):Key->Int
 | .inl k=>hashInt k
 | .inr x=>hashStr w x
theorem x29:∀ {k:Key} {v:Value},y73 k v=true->(∃ i t,k=Sum.inl i/\v=Value.int i t)\/(∃ x t,k=Sum.inr x/\v=Value.str x t)
 | .inl i,v,h=>by
  obtain⟨t,e⟩:=Value.isInt_shape (k:=i) (v:=v) h
  exact .inl ⟨i,t,rfl,e⟩
 | .inr x,v,h=>by
  obtain⟨t,e⟩:=Value.isStrOf_shape (x:=x) (v:=v) h
  exact .inr ⟨x,t,rfl,e⟩
theorem y8q (i:Int) (t:Tok):y73 (.inl i) (.int i t)=true:=by simp[y73,Value.isInt]
theorem y84 (x:Str) (t:Tok):y73 (.inr x) (.str x t)=true:=by simp[y73,Value.isStrOf]
theorem j0n (a b:Int):decide ((Sum.inl a:Key)=Sum.inl b)=(a == b):=by
 by_cases e:a=b
 ·subst e; simp
 ·have h:¬ (Sum.inl a:Key)=Sum.inl b:=fun q=>e (Sum.inl.inj q)
  rw[decide_eq_false h]
  exact(beq_eq_false_iff_ne.mpr e).symm
theorem z9c (a b:Str):decide ((Sum.inr a:Key)=Sum.inr b)=decide (a=b):=by
 by_cases e:a=b
 ·subst e; simp
 ·have h:¬ (Sum.inr a:Key)=Sum.inr b:=fun q=>e (Sum.inr.inj q)
  rw[decide_eq_false h,decide_eq_false e]
theorem z7t (a:Int) (b:Str):decide ((Sum.inl a:Key)=Sum.inr b)=false:=decide_eq_false (fun q=>nomatch q)
theorem j0b (a:Str) (b:Int):decide ((Sum.inr a:Key)=Sum.inl b)=false:=decide_eq_false (fun q=>nomatch q)
noncomputable def x2s (prog:Program) (w:World):PySem.KeyKind prog w Key where
 is:=y73
 hash:=j35 w
 inj:=fun v a b ha hb=>by
  rcases x29 ha with⟨i,t,rfl,rfl⟩ | ⟨x,t,rfl,rfl⟩
  ·rcases x29 hb with⟨j,u,rfl,e⟩ | ⟨y,u,rfl,e⟩
   ·injection e with e1 _; rw[e1]
   ·exact nomatch e
  ·rcases x29 hb with⟨j,u,rfl,e⟩ | ⟨y,u,rfl,e⟩
   ·exact nomatch e
   ·injection e with e1 _; rw[e1]
 byValue:=fun k v h=>by
  rcases x29 h with⟨i,t,rfl,rfl⟩ | ⟨x,t,rfl,rfl⟩ <;> rfl
 pyHash:=fun hv h=>by
  rcases x29 hv with⟨i,t,rfl,rfl⟩ | ⟨x,t,rfl,rfl⟩
  ·exact wpAny_pyHash_int h
  ·exact wpAny_pyHash_str h
 eqBool:=fun hu hv h=>by
  rcases x29 hu with⟨i,t,rfl,rfl⟩ | ⟨x,t,rfl,rfl⟩
  ·rcases x29 hv with⟨j,u,rfl,rfl⟩ | ⟨y,u,rfl,rfl⟩
   ·rw[j0n]at h; exact wpAny_eqBool_int h
   ·rw[z7t]at h; exact SeqAt.EqAt.int_str i t y u _ _ _ _ h
  ·rcases x29 hv with⟨j,u,rfl,rfl⟩ | ⟨y,u,rfl,rfl⟩
   ·rw[j0b]at h; exact SeqAt.EqAt.str_int x t j u _ _ _ _ h
   ·rw[z9c]at h; exact wpAny_eqBool_str h
 «strs»:=fun k x t v h=>by
  rcases x29 h with⟨i,u,rfl,e⟩ | ⟨y,u,rfl,e⟩
  ·exact nomatch e
  ·injection e with e1 _
   subst e1
   cases v <;> rfl
theorem y5c (prog:Program) (w:World) (i:Int) (t:Tok):(x2s prog w).is (.inl i) (.int i t)=true:=y8q i t
theorem y4o (prog:Program) (w:World) (x:Str) (t:Tok):(x2s prog w).is (.inr x) (.str x t)=true:=y84 x t
inductive V where
 | non | bl (b:Bool) | int (i:Int) | str (x:Str) | byt (b:Array UInt8) | flt (b:UInt64) | ref (a:Addr) | ty (n:String)
 deriving DecidableEq
noncomputable def x3g:V->Value->Prop
 | .non,u=>u=Value.none
 | .bl b,u=>u=Value.bool b
 | .int i,u=>∃ t,u=Value.int i t
 | .str x,u=>∃ t,u=Value.str x t
 | .byt b,u=>∃ t,u=Value.bytes b t
 | .flt b,u=>∃ t,u=Value.float b t
 | .ref a,u=>u=Value.ref a
 | .ty n,u=>u=Value.type n
noncomputable abbrev x2h:List V->List Value->Prop:=Paired x3g
theorem x2h.length {xs:List V} {us:List Value} (r:x2h xs us):xs.length=us.length:=Paired.length r
theorem x2h.get:∀ {xs:List V} {us:List Value} {i:Nat} {x:V},x2h xs us->xs[i]? = some x->∃ u,us[i]? = some u/\x3g x u
 | _,_,_,_,.nil,e=>by simp at e
 | _,_,0,_,.cons r _,e=>by simp at e; subst e; exact⟨_,rfl,r⟩
 | _,_,i+1,x,.cons _ t,e=>by
  obtain⟨u,h1,h2⟩:=x2h.get (i:=i) (x:=x) t (by simpa using e)
  exact⟨u,by simpa using h1,h2⟩
theorem x2h.set {x:V} {u:Value} (r:x3g x u):∀ {xs:List V} {us:List Value} (i:Nat),x2h xs us->x2h (xs.set i x) (us.set i u)
 | _,_,_,.nil=>.nil
 | _,_,0,.cons _ t=>.cons r t
 | _,_,i+1,.cons q t=>.cons q (x2h.set r i t)
theorem x2h.append:∀ {xs ys:List V} {us ws:List Value},x2h xs us->x2h ys ws->x2h (xs++ys) (us++ws)
 | _,_,_,_,.nil,s=>s
 | _,_,_,_,.cons r t,s=>.cons r (x2h.append t s)
theorem x2h.take:∀ {xs:List V} {us:List Value} (n:Nat),x2h xs us->x2h (xs.take n) (us.take n)
 | _,_,0,_=>.nil
 | _,_,_+1,.nil=>.nil
 | _,_,n+1,.cons r t=>.cons r (x2h.take n t)
theorem x2h.drop:∀ {xs:List V} {us:List Value} (n:Nat),x2h xs us->x2h (xs.drop n) (us.drop n)
 | _,_,0,r=>r
 | _,_,_+1,.nil=>.nil
 | _,_,n+1,.cons _ t=>x2h.drop n t
noncomputable def z65:Option V->Option Value->Prop
 | some v,some u=>x3g v u
 | none,none=>True
 | _,_=>False
noncomputable def KV {κ:Type}:List (κ × V)->List (κ × Value)->Prop:=Paired fun(p:κ × V) (q:κ × Value)=>p.1=q.1/\x3g p.2 q.2
noncomputable def kV:Key->V
 | .inl i=>.int i
 | .inr x=>.str x
inductive HO where
 /-- a list -/
 | lst (xs:List V)
 /-- a tuple (never changes) -/
 | tup (xs:List V)
 /-- a dict whose keys are ints and texts; one whose keys are tuples of ints and texts (the empty one is both) -/
 | dK (kvs:List (Key × V)) | dT (kvs:List (List Key × V))
 /-- a set of ints: its members,its size -/
 | set (S:Int->Bool) (n:Nat)
 /-- an instance of the class at C,its dict at dx,its attributes -/
 | ins (C dx:Addr) (fs:List (Str × V))
 /-- the dict of the instance at x -/
 | own (x:Addr)
 /-- the dict of an exception -/
 | xd (fs:List (Str × V))
 /-- a bound method,f of x -/
 | met (f x:Addr)
 /-- a range object lo,lo+1,.. below hi -/
 | rng (lo hi:Int)
 /-- a thing that is known to the object (the script; a dict while a loop walks it): read,never written while it is so -/
 | frz (o:Obj) (u:HO)
 /-- a code object's table -/
 | tbl (ps:Array Value)
 /-- any other thing,by what is true of its one object (a def of one's own: SetO a S n:=HO.ext fun h=>..) -/
 | ext (φ:Heap->Prop)
noncomputable abbrev Hp:=Addr->Option HO
noncomputable def upd (H:Hp) (a:Addr) (o:HO):Hp:=fun b=>if b=a then some o else H b
theorem x0x {H:Hp} {a:Addr} {o:HO}:upd H a o a=some o:=by unfold upd; rw[if_pos rfl]
theorem x0g {H:Hp} {a b:Addr} {o:HO} (h:b≠a):upd H a o b=H b:=by unfold upd; rw[if_neg h]
theorem z5k {H:Hp} {a:Addr} {o u:HO}:upd (upd H a o) a u=upd H a u:=by
 funext b; unfold upd; split <;> rfl
theorem x0u {H:Hp} {a b:Addr} {o:HO} (h:H a=some o) (h':H b=none):a≠b:=by
 intro e; subst e; rw[h]at h'; cases h'
noncomputable def x4t (h:Heap) (a:Addr) (items:Array Value):Prop:=∃ o,h.get? a=some o/\o.cls=.type "tuple" /\ (∃ n,o.data=.seq items n)/\o.dict=none
theorem x4t.tup {h:Heap} {a:Addr} {items:Array Value} (x:x4t h a items):IsTup h a items:=let ⟨o,e,c,n,_⟩:=x; ⟨o,e,c,n⟩
theorem x4t.new (h:Heap) (items:Array Value):x4t (h.push { cls:=.type "tuple",data:=.seq items }) h.objs.size items:=⟨_,Heap.get?_push_size _ rfl,rfl,⟨_,rfl⟩,rfl⟩
theorem x4t.lt {h:Heap} {a:Addr} {items:Array Value} (x:x4t h a items):a<h.objs.size:=let ⟨_,e,_⟩:=x; Heap.lt_size e
section
variable (P:Program) (w:World)
noncomputable def x27 (H:Hp) (h:Heap) (a:Addr):HO->Prop
 | .lst xs=>xs.length<=sizeLine/\∃ (its:List Value) (n:Nat),x2h xs its/\h.get? a=some { cls:=.type "list",data:=.seq its.toArray n }
 | .tup xs=>xs.length<=sizeLine/\∃ its:List Value,x2h xs its/\x4t h a its.toArray
 | .dK kvs=>kvs.length<=sizeLine/\(a == sysModules)=false/\∃ vs,KV kvs vs/\h.DictOf (x2s P w) a vs
 | .dT kvs=>kvs.length<=sizeLine/\(a == sysModules)=false/\∃ xs:List (List Key × Addr × Value),
   Paired (fun(p:List Key × V) (q:List Key × Addr × Value)=>p.1=q.1/\H q.2.1=some (.tup (p.1.map kV))/\x3g p.2 q.2.2) kvs xs /\
   ∃ o es ep,h.get? a=some o/\o.ExactDict/\o.data=.dict es ep/\es.toList=xs.map (entryOfKey (tupleKind (x2s P w)))/\(xs.map (·.1)).Nodup
 | .set S n=>h.SetOf (intKind P w) a S n
 | .ins C dx fs=>H dx=some (.own a)/\fs.length<=1000/\dx≠a/\h.get? a=some (PySem.W.instObj C dx) /\
   ∃ mA,h.Ns1 dx mA/\(∀ f,z65 (fs.lookup f) (mA f))/\PySem.Within mA (fs.map (·.1))
 | .own _=>∃ o,h.get? a=some o
 | .xd fs=>∃ mA,h.Ns1 a mA/\∀ f,z65 (fs.lookup f) (mA f)
 | .rng lo hi=>∃ t u v,h.get? a=some { cls:=.type "range",data:=.fields #[.int lo t,.int hi u,.int 1 v] }
 | .frz o u=>h.get? a=some o/\x27 H h a u
 | .tbl ps=>h.get? a=some { cls:=.none,data:=.fields ps }
 | .met f x=>h.get? a=some (PySem.W.methodObj (.ref f) (.ref x))
 | .ext φ=>φ h/\(∃ o,h.get? a=some o)/\∀ h1 h2:Heap,φ h1->(∀ o,h1.get? a=some o->h2.get? a=some o)->φ h2
noncomputable def HOk (H:Hp) (h:Heap):Prop:=∀ a o,H a=some o->x27 P w H h a o
end
section
variable {P:Program} {w:World} {H H':Hp} {h h':Heap} {a:Addr} {o:HO}
theorem x27.lt (x:x27 P w H h a o):a<h.objs.size:=by
 cases o with
 | lst xs=>obtain⟨_,_,_,_,e⟩:=x; exact Heap.lt_size e
 | tup xs=>obtain⟨_,_,_,p⟩:=x; exact p.lt
 | dK kvs=>obtain⟨_,_,_,_,o,_,_,e,_⟩:=x; exact Heap.lt_size e
 | dT kvs=>obtain⟨_,_,_,_,o,_,_,e,_⟩:=x; exact Heap.lt_size e
 | set S n=>obtain⟨o,_,_,_,e,_⟩:=x; exact Heap.lt_size e
 | ins C dx fs=>obtain⟨_,_,_,e,_⟩:=x; exact Heap.lt_size e
 | own y=>obtain⟨_,e⟩:=x; exact Heap.lt_size e
 | xd fs=>obtain⟨_,⟨_,_,_,e,_⟩,_⟩:=x; exact Heap.lt_size e
 | rng lo hi=>obtain⟨_,_,_,e⟩:=x; exact Heap.lt_size e
 | frz ob u=>obtain⟨e,_⟩:=x; exact Heap.lt_size e
 | tbl ps=>exact Heap.lt_size (show h.get? a=some _ from x)
 | met f y=>exact Heap.lt_size (show h.get? a=some _ from x)
 | ext φ=>obtain⟨_,⟨_,e⟩,_⟩:=x; exact Heap.lt_size e
theorem Paired.mapP {α β:Type} {F G:α->β->Prop}:∀ {l₁:List α} {l₂:List β},Paired F l₁ l₂->(∀ a b,F a b->G a b)->Paired G l₁ l₂
 | _,_,.nil,_=>.nil
 | _,_,.cons r t,f=>.cons (f _ _ r) (Paired.mapP t f)
theorem x27.stay (x:x27 P w H h a o) (k:∀ b u,(b=a\/H b=some (.own a))->h.get? b=some u->h'.get? b=some u)
  (ho:∀ b,H b=some (.own a)->H' b=some (.own a)) (ht:∀ b xs,H b=some (.tup xs)->H' b=some (.tup xs)):x27 P w H' h' a o:=by
 induction o with
 | lst xs=>obtain⟨z,its,n,r,e⟩:=x; exact⟨z,its,n,r,k _ _ (.inl rfl) e⟩
 | tup xs=>obtain⟨z,its,r,ob,e,c⟩:=x; exact⟨z,its,r,ob,k _ _ (.inl rfl) e,c⟩
 | dK kvs=>obtain⟨z,y,vs,r,ob,es,ep,e,c⟩:=x; exact⟨z,y,vs,r,ob,es,ep,k _ _ (.inl rfl) e,c⟩
 | dT kvs=>
  obtain⟨z,y,xs,r,ob,es,ep,e,c⟩:=x
  exact⟨z,y,xs,Paired.mapP r fun p q z=>⟨z.1,ht _ _ z.2.1,z.2.2⟩,ob,es,ep,k _ _ (.inl rfl) e,c⟩
 | set S n=>obtain⟨ob,es,ep,t,e,c⟩:=x; exact⟨ob,es,ep,t,k _ _ (.inl rfl) e,c⟩
 | ins C dx fs=>
  obtain⟨d,z,ne,e,mA,⟨od,es,ep,e2,c⟩,r⟩:=x
  exact⟨ho _ d,z,ne,k _ _ (.inl rfl) e,mA,⟨od,es,ep,k _ _ (.inr d) e2,c⟩,r⟩
 | own y=>obtain⟨ob,e⟩:=x; exact⟨ob,k _ _ (.inl rfl) e⟩
 | xd fs=>obtain⟨mA,⟨od,es,ep,e,c⟩,r⟩:=x; exact⟨mA,⟨od,es,ep,k _ _ (.inl rfl) e,c⟩,r⟩
 | rng lo hi=>obtain⟨t,u,v,e⟩:=x; exact⟨t,u,v,k _ _ (.inl rfl) e⟩
 | frz ob u ih=>obtain⟨e,q⟩:=x; exact⟨k _ _ (.inl rfl) e,ih q⟩
 | tbl ps=>
  have e:h.get? a=some { cls:=.none,data:=.fields ps }:=x
  show h'.get? a=some { cls:=.none,data:=.fields ps }
  exact k a _ (.inl rfl) e
 | met f y=>
  have e:h.get? a=some (PySem.W.methodObj (.ref f) (.ref y)):=x
  show h'.get? a=some (PySem.W.methodObj (.ref f) (.ref y))
  exact k a _ (.inl rfl) e
 | ext φ=>obtain⟨p,⟨o,e⟩,st⟩:=x; exact⟨st _ _ p fun o q=>k _ _ (.inl rfl) q,⟨o,k _ _ (.inl rfl) e⟩,st⟩
theorem HOk.lt (x:HOk P w H h) (e:H a=some o):a<h.objs.size:=(x a o e).lt
theorem HOk.fresh (x:HOk P w H h) (e:h.objs.size<=a):H a=none:=by
 cases q:H a with
 | none=>rfl
 | some u=>exact absurd (Nat.lt_of_lt_of_le (x.lt q) e) (Nat.lt_irrefl _)
theorem HOk.kept (x:HOk P w H h) (k:∀ b u,h.get? b=some u->h'.get? b=some u):HOk P w H h':=fun a o e=>
 (x a o e).stay (fun b u _ q=>k b u q) (fun _ q=>q) fun _ _ q=>q
theorem HOk.laid (x:HOk P w H h) (k:∀ b u,h.get? b=some u->h'.get? b=some u) (hp:h.objs.size<=a) (new:x27 P w (upd H a o) h' a o):HOk P w (upd H a o) h':=fun b u e=>by
 have hn:=x.fresh hp
 by_cases hb:b=a
 ·subst hb; rw[x0x]at e; cases e; exact new
 ·rw[x0g hb]at e
  exact(x b u e).stay (fun c v _ q=>k c v q) (fun c q=>by rw[x0g (x0u q hn)]; exact q) fun c xs q=>by rw[x0g (x0u q hn)]; exact q
end
noncomputable def Rd (H:Hp) (a:Addr) (u:HO):Prop:=H a=some u\/∃ o,H a=some (.frz o u)
theorem Rd.of {H:Hp} {a:Addr} {u:HO} (h:H a=some u):Rd H a u:=.inl h
theorem Rd.ok {P:Program} {w:World} {H:Hp} {h:Heap} {a:Addr} {u:HO} (r:Rd H a u) (x:HOk P w H h):x27 P w H h a u:=by
 rcases r with r | ⟨o,r⟩
 ·exact x a u r
 ·obtain⟨_,q⟩:=x a _ r
  exact q
noncomputable def Mut:Option HO->Prop
 | some (.lst _)=>True
 | some (.dK _)=>True
 | some (.dT _)=>True
 | some (.set _ _)=>True
 | some (.ins _ _ _)=>True
 | some (.ext _)=>True
 | _=>False
section
variable {P:Program} {w:World} {H:Hp} {h h':Heap} {x e:Addr} {o':HO}
theorem HOk.write (ok:HOk P w H h) (mu:Mut (H x)) (he:e=x\/H e=some (.own x)) (k:∀ b u,b≠e->h.get? b=some u->h'.get? b=some u) (heo:∃ u,h'.get? e=some u)
  (new:x27 P w (upd H x o') h' x o'):HOk P w (upd H x o') h':=fun b u q=>by
 have nown:∀ c y,H c=some (.own y)->c≠x:=fun c y r z=>by subst z; rw[r]at mu; exact mu
 have ntup:∀ c xs,H c=some (.tup xs)->c≠x:=fun c xs r z=>by subst z; rw[r]at mu; exact mu
 by_cases hb:b=x
 ·subst hb; rw[x0x]at q; cases q; exact new
 ·rw[x0g hb]at q
  by_cases hbe:b=e
  ·have q':H b=some (.own x):=by
    rcases he with z | z
    ·exact absurd (hbe.trans z) hb
    ·rw[hbe]; exact z
   rw[q]at q'; cases q'
   obtain⟨v,hv⟩:=heo
   exact⟨v,by rw[hbe]; exact hv⟩
  ·refine(ok b u q).stay (fun c v hc r=>k c v ?_ r) (fun c r=>by rw[x0g (nown c b r)]; exact r) fun c xs r=>by rw[x0g (ntup c xs r)]; exact r
   rcases hc with rfl | hc
   ·exact hbe
   ·rintro rfl
    rcases he with z | z
    ·exact nown c b hc z
    ·rw[hc]at z; cases z; exact hb rfl
end
structure Un (fs ex:List Addr) (H H':Hp) (h h':Heap):Prop where
 keep:∀ b o,h.get? b=some o->H b=none->b ∉ fs->b ∉ ex->h'.get? b=some o
 slot:∀ b o,h.get? b=some o->H b=none->b∈fs->b ∉ ex->∃ sl,h'.get? b=some { o with slots:=sl }
 free:∀ b o,h.get? b=some o->H b=none->b ∉ ex->H' b=none
 there:∀ b o,h.get? b=some o->b ∉ ex->∃ o',h'.get? b=some o'
 tups:∀ b xs,H b=some (.tup xs)->H' b=some (.tup xs)
 frzs:∀ b o u,H b=some (.frz o u)->H' b=some (.frz o u)
 tbls:∀ b ps,H b=some (.tbl ps)->∃ more,H' b=some (.tbl (ps++more))
section
variable {fs fs' ex ex':List Addr} {H H1 H2:Hp} {h h1 h2 h':Heap} {a x e:Addr} {o:HO}
theorem Un.any (u:Un fs ex H H1 h h1) {b:Addr} {ob:Obj} (q:h.get? b=some ob) (n:H b=none) (hx:b ∉ ex):∃ sl,h1.get? b=some { ob with slots:=sl }:=by
 by_cases hb:b∈fs
 ·exact u.slot b ob q n hb hx
 ·exact⟨ob.slots,u.keep b ob q n hb hx⟩
theorem Un.kept (k:∀ b u,h.get? b=some u->h'.get? b=some u):Un fs ex H H h h':=
 ⟨fun b ob q _ _ _=>k b ob q,fun b ob q _ _ _=>⟨ob.slots,k b ob q⟩,fun _ _ _ n _=>n,fun b ob q _=>⟨ob,k b ob q⟩,fun _ _ q=>q,fun _ _ _ q=>q,fun _ ps q=>⟨#[],by rw[q]; simp⟩⟩
theorem Un.refl:Un fs ex H H h h:=Un.kept fun _ _ q=>q
theorem Un.laid (k:∀ b u,h.get? b=some u->h'.get? b=some u) (hp:h.objs.size<=a) (hn:H a=none):Un fs ex H (upd H a o) h h' where
 keep:=fun b u q _ _ _=>k b u q
 slot:=fun b u q _ _ _=>⟨u.slots,k b u q⟩
 free:=fun b u q n _=>by rw[x0g (Nat.ne_of_lt (Nat.lt_of_lt_of_le (Heap.lt_size q) hp))]; exact n
 there:=fun b u q _=>⟨u,k b u q⟩
 tups:=fun b xs q=>by rw[x0g (x0u q hn)]; exact q
 frzs:=fun b u xs q=>by rw[x0g (x0u q hn)]; exact q
 tbls:=fun b ps q=>⟨#[],by rw[x0g (x0u q hn),q]; simp⟩
theorem Un.write (mu:Mut (H x)) (he:e=x\/H e=some (.own x)) (k:∀ b u,b≠e->h.get? b=some u->h'.get? b=some u) (heo:∃ u,h'.get? e=some u):Un fs ex H (upd H x o) h h':=by
 have hx:∀ b,H b=none->b≠x:=fun b n z=>by subst z; rw[n]at mu; exact mu
 have hb:∀ b,H b=none->b≠e:=fun b n z=>by
  subst z
  rcases he with r | r
  ·exact hx b n r
  ·rw[n]at r; cases r
 have hm:∀ b u,H b=some u->¬ Mut (some u)->b≠x:=fun b u q nm z=>by subst z; rw[q]at mu; exact nm mu
 refine⟨fun b u q n _ _=>k b u (hb b n) q,fun b u q n _ _=>⟨u.slots,k b u (hb b n) q⟩,fun b u q n _=>by rw[x0g (hx b n)]; exact n,fun b u q _=>?_,
  fun b xs q=>by rw[x0g (hm b _ q fun z=>z)]; exact q,fun b u xs q=>by rw[x0g (hm b _ q fun z=>z)]; exact q,fun b ps q=>⟨#[],by rw[x0g (hm b _ q fun z=>z),q]; simp⟩⟩
 by_cases hbe:b=e
 ·subst hbe; exact heo
 ·exact⟨u,k b u hbe q⟩
end
noncomputable def trk (h:Heap) (H:Hp):List Addr:=(List.range h.objs.size).filter fun a=>(H a).isSome
noncomputable def z05 (h:Heap) (H:Hp):Heap:=PySem.W.hideAll h (trk h H)
theorem y7u (h:Heap) (H:Hp):(z05 h H).objs.size=h.objs.size:=PySem.W.hideAll_size _ _
theorem z21 {h:Heap} {H:Hp} {b:Addr} {o:Obj} (e:h.get? b=some o) (n:H b=none):(z05 h H).get? b=some o:=
 PySem.W.hideAll_get _ e fun hm=>by
  have q:(H b).isSome=true:=(List.mem_filter.mp hm).2
  rw[n]at q; simp at q
theorem z6l {h:Heap} {H:Hp} {b:Addr} {o:Obj} (e:(z05 h H).get? b=some o):h.get? b=some o/\H b=none:=by
 have e':h.get? b=some o:=PySem.W.of_hideAll (trk h H) e
 refine⟨e',?_⟩
 cases q:H b with
 | none=>rfl
 | some x=>
  have hm:b∈trk h H:=List.mem_filter.mpr ⟨List.mem_range.mpr (Heap.lt_size e'),by simp[q]⟩
  have z:(z05 h H).get? b=none:=PySem.W.hideAll_none (trk h H) hm
  rw[z]at e; cases e
noncomputable def z4x (g h:Heap) (L:Addr):List (Addr × Obj):=(List.range h.objs.size).filterMap fun a=>if a=L\/(g.get? a).isSome=true then none else(h.get? a).map fun o=>(a,o)
noncomputable def x2i (g h:Heap) (L d:Addr):List (Addr × Obj):=(z4x g h L).filter fun p=>decide (p.1≠d)
structure Mod (K:PySem.W.Frag) (mg:Str->Option Value) (base:Heap):Prop where
 kin:K.In base
 glob:base.Ns mainGlobals mg
 blt:∃ mb,base.Ns builtinsNs mb/\∀ x:Str,x ≠ "__name__"->mb x=bootBuiltins x
 nolimit:base.NoLimit
structure Cx where
 prog:Program
 w:World
 K:PySem.W.Frag
 mg:Str->Option Value
 base:Heap
 A:Around
 N:List Str
 s₀:Shared
 H₀:Hp
 env:Env
 outer:List Env
 stack:List Env
 ex:List Addr
 fn:Str->Bool
 calm:Bool
 pn:List (Addr × Obj)
 xe:Value->Shared->Prop
noncomputable def frs (l:List Env):List Addr:=l.filterMap (·.frame)
noncomputable abbrev Cx.fs (X:Cx):List Addr:=frs X.outer
noncomputable def Vis (sc:Scope) (x:Str):Prop:=sc.names.lookup x=some .local\/sc.names.lookup x=some .cell\/sc.names.lookup x=some .free
noncomputable def Loc (sc:Scope) (x:Str):Prop:=sc.names.lookup x=some .local\/sc.names.lookup x=some .cell
noncomputable def j3c (env:Env) (h:Heap) (m:Str->Option Value) (x:Str) (u:Value):Prop:=
 (env.kindOf x=some .local/\m x=some u)\/((env.kindOf x=some .cell\/env.kindOf x=some .free)/\∃ c,env.cells.lookup x=some c/\h.IsCell c (some u))
structure Cx.Ok (X:Cx):Prop where
 mod:Mod X.K X.mg X.base
 kind:X.env.scope.kind=.function
 glob:X.env.globals=mainGlobals
 blt:X.env.builtins=builtinsNs
 above:X.s₀.heap.objs.size<=X.env.locals
 inj:∀ x y c,X.env.cells.lookup x=some c->X.env.cells.lookup y=some c->x=y
 has:∀ x,(X.env.kindOf x=some .cell\/X.env.kindOf x=some .free)->∃ c,X.env.cells.lookup x=some c
 cab:∀ x c,X.fn x=true->X.env.cells.lookup x=some c->X.s₀.heap.objs.size<=c
 hd:X.calm=true->X.A.handled=none
 frames:X.A.frames=some X.stack
 stk:X.stack=X.outer\/(X.stack=X.env::X.outer/\X.env.frame=some X.env.locals)
 exf:∀ b∈X.ex,b≠X.env.locals/\∀ x c,X.env.cells.lookup x=some c->c≠b
 bs:∀ b o,X.base.get? b=some o->X.s₀.heap.get? b=some o/\X.H₀ b=none
 bsz:X.base.objs.size<=X.s₀.heap.objs.size
 noex:∀ b o,X.base.get? b=some o->b ∉ X.ex
 exfs:∀ b∈X.ex,b ∉ X.fs
 funs:X.s₀.heap.FunFrames X.base X.outer
 frf:∀ b∈X.fs,X.H₀ b=none
structure Inv (X:Cx) (pins:List (Addr × Obj)) (σ:List (Option V)) (H:Hp) (s:Shared):Prop where
 ok:X.Ok
 os:s.os=X.s₀.os
 bare:AllBare s.gens
 base:Un X.fs X.ex X.H₀ H X.s₀.heap s.heap
 loc:∃ m,s.heap.Ns X.env.locals m/\∀ (i:Nat) (x:Str) (v:V),X.N[i]? = some x->σ[i]? = some (some v)->Vis X.env.scope x->∃ u,x3g v u/\j3c X.env s.heap m x u
 cell:∀ x c,X.env.cells.lookup x=some c->∃ v,s.heap.IsCell c v
 free:H X.env.locals=none
 freeC:∀ x c,X.env.cells.lookup x=some c->H c=none
 pin:∀ p∈X.pn++pins,s.heap.get? p.1=some p.2/\H p.1=none/\p.1≠X.env.locals/\p.1 ∉ X.fs/\∀ v,p.2.data ≠ .cell v
 hok:HOk X.prog X.w H s.heap
 len:σ.length=X.N.length
section
variable {X:Cx} {pins:List (Addr × Obj)} {σ:List (Option V)} {H H':Hp} {s:Shared} {h':Heap}
theorem Cx.Ok.nofr (ok:X.Ok) {b:Addr} {o:Obj} (e:X.base.get? b=some o):b ∉ X.fs:=fun hb=>by
 have:=(ok.funs.mem hb).1
 rw[e]at this; cases this
theorem Inv.bs (I:Inv X pins σ H s):∀ b o,X.base.get? b=some o->s.heap.get? b=some o/\H b=none:=fun b o e=>
 ⟨I.base.keep b o (I.ok.bs b o e).1 (I.ok.bs b o e).2 (I.ok.nofr e) (I.ok.noex b o e),I.base.free b o (I.ok.bs b o e).1 (I.ok.bs b o e).2 (I.ok.noex b o e)⟩
theorem Inv.bk (I:Inv X pins σ H s):∀ b o,X.base.get? b=some o->s.heap.get? b=some o:=fun b o e=>(I.bs b o e).1
theorem Inv.mod (I:Inv X pins σ H s):Mod X.K X.mg X.base:=I.ok.mod
theorem Inv.kIn (I:Inv X pins σ H s):X.K.In s.heap:=I.ok.mod.kin.keeps I.bk
theorem Inv.fr (I:Inv X pins σ H s):∃ m,Fr X.base X.env.locals s.heap m:=
 let ⟨m,hn,_⟩:=I.loc
 ⟨m,hn,I.bk,Nat.le_trans I.ok.bsz I.ok.above⟩
theorem Inv.lt (I:Inv X pins σ H s):X.env.locals<s.heap.objs.size:=let ⟨_,hn,_⟩:=I.loc; hn.lt
theorem Inv.sz (I:Inv X pins σ H s):X.s₀.heap.objs.size<=s.heap.objs.size:=Nat.le_trans I.ok.above (Nat.le_of_lt I.lt)
theorem Inv.nofs (I:Inv X pins σ H s) {a:Addr} (h:s.heap.objs.size<=a):a ∉ X.fs:=fun hb=>by
 obtain⟨_,o,ho,_⟩:=I.ok.funs.mem hb
 exact absurd (Nat.lt_of_lt_of_le (Heap.lt_size ho) (Nat.le_trans I.sz h)) (Nat.lt_irrefl _)
theorem Inv.cne (I:Inv X pins σ H s):∀ x c,X.env.cells.lookup x=some c->c≠X.env.locals:=fun x c e z=>by
 obtain⟨v,o,ho,hd⟩:=I.cell x c e
 obtain⟨m,⟨o',es,ep,ho',hd',_⟩,_⟩:=I.loc
 rw[z,ho']at ho; cases ho; rw[hd']at hd; cases hd
theorem Inv.funs (I:Inv X pins σ H s):s.heap.FunFrames X.base X.outer:=by
 have all:∀ (l:List Env),(∀ b∈frs l,b∈X.fs)->X.s₀.heap.FunFrames X.base l->s.heap.FunFrames X.base l:=by
  intro l
  induction l with
  | nil=>intro _ _; trivial
  | cons env r ih=>
   intro hs hl
   obtain⟨hk,⟨L,o,hf,hn,ho,hd⟩,hr⟩:=hl
   have hL:L∈X.fs:=hs L (by unfold frs; rw[List.filterMap_cons,hf]; exact List.mem_cons_self)
   obtain⟨sl,e⟩:=I.base.slot L o ho (I.ok.frf L hL) hL fun z=>I.ok.exfs L z hL
   exact⟨hk,⟨L,_,hf,hn,e,hd⟩,ih (fun b hb=>hs b (by unfold frs; rw[List.filterMap_cons,hf]; exact List.mem_cons_of_mem _ hb)) hr⟩
 exact all X.outer (fun _ hb=>hb) I.ok.funs
theorem Inv.stack (I:Inv X pins σ H s):s.heap.FunFrames X.base X.stack:=by
 rcases I.ok.stk with e | ⟨e,hf⟩
 ·rw[e]; exact I.funs
 ·rw[e]
  obtain⟨m,hn,_⟩:=I.loc
  refine .cons (by rw[I.ok.kind]; decide) hf hn ?_ I.funs
  exact Heap.get?_none_of_le (Nat.le_trans I.ok.bsz I.ok.above)
theorem Inv.stkSub (I:Inv X pins σ H s):∀ b∈frs X.stack,b∈X.env.locals::X.fs:=fun b hb=>by
 rcases I.ok.stk with e | ⟨e,hf⟩
 ·rw[e]at hb; exact List.mem_cons_of_mem _ hb
 ·rw[e]at hb
  unfold frs at hb
  rw[List.filterMap_cons,hf]at hb
  exact hb
theorem Inv.stkFree (I:Inv X pins σ H s):∀ b∈frs X.stack,H b=none:=fun b hb=>by
 rcases List.mem_cons.mp (I.stkSub b hb)with e | hb
 ·rw[e]; exact I.free
 ·obtain⟨_,o,ho,_⟩:=I.ok.funs.mem hb
  exact I.base.free b o ho (I.ok.frf b hb) fun z=>I.ok.exfs b z hb
theorem Inv.step {g':Array GenState} {t':Nat} {d':Drawn} {ch:List Addr} (I:Inv X pins σ H s)
  (hch:∀ b∈ch,(b∈X.ex\/X.s₀.heap.objs.size<=b)/\b≠X.env.locals/\(∀ x c,X.env.cells.lookup x=some c->c≠b)/\∀ p∈X.pn++pins,p.1≠b)
  (keep:∀ b o,b≠X.env.locals->b ∉ X.fs->b ∉ ch->s.heap.get? b=some o->H b=none->h'.get? b=some o)
  (slot:∀ b o,b≠X.env.locals->b∈X.fs->b ∉ ch->s.heap.get? b=some o->H b=none->∃ sl,h'.get? b=some { o with slots:=sl }) (free:∀ b o,b ∉ ch->s.heap.get? b=some o->H b=none->H' b=none)
  (there:∀ b o,b ∉ ch->s.heap.get? b=some o->∃ o',h'.get? b=some o')
  (tups:∀ b xs,H b=some (.tup xs)->H' b=some (.tup xs)) (frzs:∀ b o u,H b=some (.frz o u)->H' b=some (.frz o u)) (tbls:∀ b ps,H b=some (.tbl ps)->∃ more,H' b=some (.tbl (ps++more)))
  (ns:∀ m,s.heap.Ns X.env.locals m->h'.Ns X.env.locals m) (hok:HOk X.prog X.w H' h') (hg:AllBare g') :
  Inv X pins σ H' { s with heap:=h',gens:=g',drawn:=d',toks:=t' }:=by
 have neL:∀ b o,X.s₀.heap.get? b=some o->b≠X.env.locals:=fun b o e=>Nat.ne_of_lt (Nat.lt_of_lt_of_le (Heap.lt_size e) I.ok.above)
 have neC:∀ b o,X.s₀.heap.get? b=some o->b ∉ X.ex->b ∉ ch:=fun b o e hx hb=>by
  rcases(hch b hb).1 with z | z
  ·exact hx z
  ·exact absurd (Nat.lt_of_lt_of_le (Heap.lt_size e) z) (Nat.lt_irrefl _)
 have cellK:∀ x c,X.env.cells.lookup x=some c->∀ v,s.heap.IsCell c v->h'.IsCell c v:=fun x c e v hh0=>by
  obtain⟨o,ho,hd⟩:=hh0
  have nch:c ∉ ch:=fun z=>(hch c z).2.2.1 x c e rfl
  by_cases hc:c∈X.fs
  ·obtain⟨sl,q⟩:=slot c o (I.cne x c e) hc nch ho (I.freeC x c e)
   exact⟨_,q,hd⟩
  ·exact⟨o,keep c o (I.cne x c e) hc nch ho (I.freeC x c e),hd⟩
 refine⟨I.ok,I.os,hg,⟨fun b o e n hb hx=>?_,fun b o e n hb hx=>?_,fun b o e n hx=>?_,fun b o e hx=>?_,fun b xs e=>tups b xs (I.base.tups b xs e),fun b o xs e=>frzs b o xs (I.base.frzs b o xs e),fun b ps e=>?_⟩,?_,fun x c e=>?_,?_,fun x c e=>?_,fun p hp=>?_,hok,I.len⟩
 ·exact keep b o (neL b o e) hb (neC b o e hx) (I.base.keep b o e n hb hx) (I.base.free b o e n hx)
 ·obtain⟨sl,e1⟩:=I.base.slot b o e n hb hx
  obtain⟨sl',e2⟩:=slot b _ (neL b o e) hb (neC b o e hx) e1 (I.base.free b o e n hx)
  exact⟨sl',e2⟩
 ·obtain⟨o',e1⟩:=I.base.there b o e hx
  exact free b o' (neC b o e hx) e1 (I.base.free b o e n hx)
 ·obtain⟨o',e1⟩:=I.base.there b o e hx
  exact there b o' (neC b o e hx) e1
 ·obtain⟨m1,e1⟩:=I.base.tbls b ps e
  obtain⟨m2,e2⟩:=tbls b _ e1
  exact⟨m1++m2,by rw[e2,Array.append_assoc]⟩
 ·obtain⟨m,hn,hl⟩:=I.loc
  refine⟨m,ns m hn,fun i x v e1 e2 e3=>?_⟩
  obtain⟨u,r,l⟩:=hl i x v e1 e2 e3
  refine⟨u,r,?_⟩
  rcases l with l | ⟨k,c,e,z⟩
  ·exact .inl l
  ·exact .inr ⟨k,c,e,cellK x c e _ z⟩
 ·obtain⟨v,z⟩:=I.cell x c e
  exact⟨v,cellK x c e v z⟩
 ·obtain⟨m,⟨o,_,_,ho,_⟩,_⟩:=I.loc
  exact free _ o (fun z=>(hch _ z).2.1 rfl) ho I.free
 ·obtain⟨v,o,ho,hd⟩:=I.cell x c e
  exact free c o (fun z=>(hch c z).2.2.1 x c e rfl) ho (I.freeC x c e)
 ·obtain⟨e,n,ne,nf,d⟩:=I.pin p hp
  have nch:p.1 ∉ ch:=fun z=>(hch p.1 z).2.2.2 p hp rfl
  exact⟨keep p.1 p.2 ne nf nch e n,free p.1 p.2 nch e n,ne,nf,d⟩
theorem Inv.un {t':Nat} (I:Inv X pins σ H s) (u:Un X.fs [] H H' s.heap h') (hok:HOk X.prog X.w H' h'):Inv X pins σ H' { s with heap:=h',toks:=t' }:=by
 obtain⟨m,⟨o,es,ep,ho,r⟩,_⟩:=id I.loc
 obtain⟨sl,hL⟩:=u.any ho I.free (by simp)
 exact I.step (g':=s.gens) (d':=s.drawn) (ch:=[]) (fun _ z=>nomatch z) (fun b o _ hb _ e n=>u.keep b o e n hb (by simp)) (fun b o _ hb _ e n=>u.slot b o e n hb (by simp)) (fun b o _ e n=>u.free b o e n (by simp)) (fun b o _ e=>u.there b o e (by simp)) u.tups u.frzs u.tbls (fun m' hm=>by
  obtain⟨o',es',ep',ho',r'⟩:=hm
  rw[ho]at ho'; cases ho'
  exact⟨_,es',ep',hL,r'⟩) hok I.bare
theorem Inv.call {g':Array GenState} {t':Nat} {d':Drawn} {ch:List Addr} (I:Inv X pins σ H s) (u:Un (frs X.stack) ch H H' s.heap h') (hok:HOk X.prog X.w H' h') (hg:AllBare g')
  (hch:∀ b∈ch,(b∈X.ex\/X.s₀.heap.objs.size<=b)/\b≠X.env.locals/\(∀ x c,X.env.cells.lookup x=some c->c≠b)/\∀ p∈X.pn++pins,p.1≠b) :
  Inv X pins σ H' { s with heap:=h',gens:=g',drawn:=d',toks:=t' }:=by
 obtain⟨m,⟨o,es,ep,ho,r⟩,_⟩:=id I.loc
 obtain⟨sl,hL⟩:=u.any ho I.free fun z=>(hch _ z).2.1 rfl
 exact I.step (ch:=ch) hch (fun b o hL hb hc e n=>u.keep b o e n (fun z=>(List.mem_cons.mp (I.stkSub b z)).elim hL hb) hc) (fun b o _ _ hc e n=>u.any e n hc) (fun b o hc e n=>u.free b o e n hc) (fun b o hc e=>u.there b o e hc) u.tups u.frzs u.tbls (fun m' hm=>by
  obtain⟨o',es',ep',ho',r'⟩:=hm
  rw[ho]at ho'; cases ho'
  exact⟨_,es',ep',hL,r'⟩) hok hg
theorem Inv.turned {t':Nat} {it:Addr} (I:Inv X pins σ H s) (k:∀ b o,b≠it->s.heap.get? b=some o->h'.get? b=some o) (hn:H it=none) (hL:it≠X.env.locals)
  (h1:it∈X.ex\/X.s₀.heap.objs.size<=it) (h2:∀ x c,X.env.cells.lookup x=some c->c≠it) (h3:∀ p∈X.pn++pins,p.1≠it):Inv X pins σ H { s with heap:=h',toks:=t' }:=by
 have nit:∀ b u,H b=some u->b≠it:=fun b u e z=>by rw[z,hn]at e; cases e
 refine I.step (g':=s.gens) (d':=s.drawn) (ch:=[it]) (fun b hb=>?_) (fun b o _ _ hc e _=>k b o (fun z=>hc (by simp[z])) e) (fun b o _ _ hc e _=>⟨o.slots,k b o (fun z=>hc (by simp[z])) e⟩) (fun _ _ _ _ n=>n)
  (fun b o hc e=>⟨o,k b o (fun z=>hc (by simp[z])) e⟩) (fun _ _ e=>e) (fun _ _ _ e=>e) (fun b ps e=>⟨#[],by rw[e]; simp⟩) (fun m hm=>?_) (fun b u e=>?_) I.bare
 ·have e:b=it:=by simpa using hb
  subst e
  exact⟨h1,hL,h2,h3⟩
 ·obtain⟨o,es,ep,ho,r⟩:=hm
  exact⟨o,es,ep,k _ o (Ne.symm hL) ho,r⟩
 ·refine(I.hok b u e).stay (fun c v hc q=>k c v ?_ q) (fun _ q=>q) fun _ _ q=>q
  rcases hc with z | z
  ·rw[z]; exact nit b u e
  ·exact nit c _ z
theorem Inv.tok (I:Inv X pins σ H s) (t:Nat):Inv X pins σ H { s with toks:=t }:=I.un (h':=s.heap) (t':=t) Un.refl I.hok
theorem Inv.kept {t':Nat} (I:Inv X pins σ H s) (k:∀ b u,s.heap.get? b=some u->h'.get? b=some u):Inv X pins σ H { s with heap:=h',toks:=t' }:=I.un (Un.kept k) (I.hok.kept k)
theorem Inv.laid {a:Addr} {o:HO} {t':Nat} (I:Inv X pins σ H s) (k:∀ b u,s.heap.get? b=some u->h'.get? b=some u) (hp:s.heap.objs.size<=a) (new:x27 X.prog X.w (upd H a o) h' a o) :
  Inv X pins σ (upd H a o) { s with heap:=h',toks:=t' }:=I.un (Un.laid k hp (I.hok.fresh hp)) (I.hok.laid k hp new)
theorem Inv.write {x e:Addr} {o:HO} {t':Nat} (I:Inv X pins σ H s) (mu:Mut (H x)) (he:e=x\/H e=some (.own x)) (k:∀ b u,b≠e->s.heap.get? b=some u->h'.get? b=some u) (heo:∃ u,h'.get? e=some u)
  (new:x27 X.prog X.w (upd H x o) h' x o):Inv X pins σ (upd H x o) { s with heap:=h',toks:=t' }:=I.un (Un.write mu he k heo) (I.hok.write mu he k heo new)
theorem Inv.weak {σ':List (Option V)} (I:Inv X pins σ H s) (hl:σ'.length=σ.length) (w:∀ (i:Nat) v,σ'[i]? = some (some v)->σ[i]? = some (some v)):Inv X pins σ' H s:=
 ⟨I.ok,I.os,I.bare,I.base,let ⟨m,hn,hl'⟩:=I.loc; ⟨m,hn,fun i x v e1 e2 e3=>hl' i x v e1 (w i v e2) e3⟩,I.cell,I.free,I.freeC,I.pin,I.hok,hl.trans I.len⟩
theorem Inv.pins_of {pins':List (Addr × Obj)} (I:Inv X pins σ H s) (h:∀ p∈pins',s.heap.get? p.1=some p.2/\H p.1=none/\p.1≠X.env.locals/\p.1 ∉ X.fs/\∀ v,p.2.data ≠ .cell v):Inv X pins' σ H s:=
 ⟨I.ok,I.os,I.bare,I.base,I.loc,I.cell,I.free,I.freeC,fun p hp=>(List.mem_append.mp hp).elim (fun z=>I.pin p (List.mem_append_left _ z)) (h p),I.hok,I.len⟩
theorem y6e {N:List Str} (hN:N.Nodup) {i j:Nat} {x:Str} (a:N[i]? = some x) (b:N[j]? = some x):i=j:=by
 obtain⟨h1,e1⟩:=List.getElem?_eq_some_iff.mp a
 obtain⟨h2,e2⟩:=List.getElem?_eq_some_iff.mp b
 exact(List.getElem_inj hN).mp (e1.trans e2.symm)
theorem y3j {M:Model} {A:Around} {E:Value->Shared->Prop} {i:Nat} {x:Str} {v:V} {u:Value} {Q:Unit->Shared->Prop} (I:Inv X pins σ H s) (hN:X.N.Nodup) (hi:X.N[i]? = some x) (hx:Loc X.env.scope x) (r:x3g v u)
  (h:∀ s',Inv X pins (σ.set i (some v)) H s'->(∃ a,Heap.SameBut a s.heap s'.heap/\(a=X.env.locals\/X.env.cells.lookup x=some a))->Q () s') (hf:X.fn x=true\/X.env.scope.names.lookup x=some .local:=by first | exact .inl rfl | exact .inr rfl | assumption):wpAny M A (storeName X.env x u) Q E s:=by
 obtain⟨m,hn,hl⟩:=id I.loc
 have hcls:(X.env.scope.kind == .class || (X.env.scope.kind == .module && X.env.locals != X.env.globals))=false:=by rw[I.ok.kind]; rfl
 have hiσ:i<σ.length:=by rw[I.len]; exact(List.getElem?_eq_some_iff.mp hi).1
 have cne:=I.cne
 have tracked:∀ {a:Addr} {h':Heap},(∃ o,s.heap.get? a=some o/\H a=none)->Heap.SameBut a s.heap h'->HOk X.prog X.w H h':=fun {a h'} ha hs b ob e=>by
  obtain⟨_,_,hfree⟩:=ha
  refine(I.hok b ob e).stay (fun c w' hc q=>(hs.2 c ?_).trans q) (fun _ q=>q) fun _ _ q=>q
  rintro rfl
  rcases hc with rfl | hc
  ·rw[hfree]at e; cases e
  ·rw[hfree]at hc; cases hc
 rcases hx with hk | hk
 ·refine wpAny_storeName_local hk hn (fun h' hn' hs=>?_) hcls
  obtain⟨oL,_,_,hoL,_⟩:=id hn
  refine h _ ⟨I.ok,I.os,I.bare,⟨fun b o e n hb hx=>?_,fun b o e n hb hx=>?_,I.base.free,fun b o e hx=>?_,I.base.tups,I.base.frzs,I.base.tbls⟩,⟨_,hn',fun j y v' e1 e2 e3=>?_⟩,fun y c e=>?_,I.free,I.freeC,fun p hp=>?_,tracked ⟨oL,hoL,I.free⟩ hs,by simpa using I.len⟩ ⟨_,hs,.inl rfl⟩
  ·exact(hs.2 b (Nat.ne_of_lt (Nat.lt_of_lt_of_le (Heap.lt_size e) I.ok.above))).trans (I.base.keep b o e n hb hx)
  ·obtain⟨sl,e1⟩:=I.base.slot b o e n hb hx
   exact⟨sl,(hs.2 b (Nat.ne_of_lt (Nat.lt_of_lt_of_le (Heap.lt_size e) I.ok.above))).trans e1⟩
  ·obtain⟨o',e1⟩:=I.base.there b o e hx
   exact⟨o',(hs.2 b (Nat.ne_of_lt (Nat.lt_of_lt_of_le (Heap.lt_size e) I.ok.above))).trans e1⟩
  ·by_cases hj:j=i
   ·subst hj
    rw[hi]at e1; cases e1
    rw[List.getElem?_set_self hiσ]at e2
    cases e2
    exact⟨u,r,.inl ⟨hk,by simp⟩⟩
   ·rw[List.getElem?_set_ne (Ne.symm hj)]at e2
    obtain⟨u',r',q⟩:=hl j y v' e1 e2 e3
    refine⟨u',r',?_⟩
    rcases q with⟨k,e⟩ | ⟨k,c,e,z⟩
    ·refine .inl ⟨k,?_⟩
     have:y≠x:=fun e=>hj (y6e hN e1 (e ▸ hi))
     simp[this,e]
    ·exact .inr ⟨k,c,e,z.sameBut hs (cne y c e)⟩
  ·obtain⟨w',z⟩:=I.cell y c e
   exact⟨w',z.sameBut hs (cne y c e)⟩
  ·obtain⟨e,n,ne,nf,d⟩:=I.pin p hp
   exact⟨(hs.2 p.1 ne).trans e,n,ne,nf,d⟩
 ·have hfn:X.fn x=true:=by
   rcases hf with z | z
   ·exact z
   ·rw[z]at hk; cases hk
  obtain⟨c,hc⟩:=I.ok.has x (.inl hk)
  obtain⟨w',z⟩:=I.cell x c hc
  refine wpAny_storeName_cell I.ok.kind hk hc z (fun h' hc' hs=>?_)
  obtain⟨oc,hoc,hocd⟩:=id z
  refine h { s with heap:=h' } ⟨I.ok,I.os,I.bare,⟨fun b o e n hb hx=>?_,fun b o e n hb hx=>?_,I.base.free,fun b o e hx=>?_,I.base.tups,I.base.frzs,I.base.tbls⟩,⟨m,hn.sameBut hs (Ne.symm (cne x c hc)),fun j y v' e1 e2 e3=>?_⟩,fun y c' e=>?_,I.free,I.freeC,fun p hp=>?_,tracked ⟨oc,hoc,I.freeC x c hc⟩ hs,by simpa using I.len⟩ ⟨c,hs,.inr hc⟩
  ·exact(hs.2 b (Nat.ne_of_lt (Nat.lt_of_lt_of_le (Heap.lt_size e) (I.ok.cab x c hfn hc)))).trans (I.base.keep b o e n hb hx)
  ·obtain⟨sl,e1⟩:=I.base.slot b o e n hb hx
   exact⟨sl,(hs.2 b (Nat.ne_of_lt (Nat.lt_of_lt_of_le (Heap.lt_size e) (I.ok.cab x c hfn hc)))).trans e1⟩
  ·obtain⟨o',e1⟩:=I.base.there b o e hx
   exact⟨o',(hs.2 b (Nat.ne_of_lt (Nat.lt_of_lt_of_le (Heap.lt_size e) (I.ok.cab x c hfn hc)))).trans e1⟩
  ·by_cases hj:j=i
   ·subst hj
    rw[hi]at e1; cases e1
    rw[List.getElem?_set_self hiσ]at e2
    cases e2
    exact⟨u,r,.inr ⟨.inl hk,c,hc,hc'⟩⟩
   ·rw[List.getElem?_set_ne (Ne.symm hj)]at e2
    obtain⟨u',r',q⟩:=hl j y v' e1 e2 e3
    refine⟨u',r',?_⟩
    rcases q with q | ⟨k,c',e,z'⟩
    ·exact .inl q
    ·refine .inr ⟨k,c',e,z'.sameBut hs ?_⟩
     rintro rfl
     exact hj (y6e hN e1 (I.ok.inj _ _ _ e hc ▸ hi))
  ·by_cases hcc:c'=c
   ·subst hcc; exact⟨_,hc'⟩
   ·obtain⟨w2,z2⟩:=I.cell y c' e
    exact⟨w2,z2.sameBut hs hcc⟩
  ·obtain⟨e,n,ne,nf,d⟩:=I.pin p hp
   refine⟨(hs.2 p.1 ?_).trans e,n,ne,nf,d⟩
   intro q
   rw[q,hoc]at e
   have q':oc=p.2:=Option.some.inj e
   exact d w' (by rw[<- q']; exact hocd)
theorem y61 {M:Model} {A:Around} {E:Value->Shared->Prop} {i:Nat} {x:Str} {v:V} {u:Value} {Q:Unit->Shared->Prop} (I:Inv X pins σ H s) (hN:X.N.Nodup) (hi:X.N[i]? = some x) (hx:Loc X.env.scope x) (r:x3g v u)
  (h:∀ s',Inv X pins (σ.set i (some v)) H s'->Q () s') (hf:X.fn x=true\/X.env.scope.names.lookup x=some .local:=by first | exact .inl rfl | exact .inr rfl | assumption):wpAny M A (storeName X.env x u) Q E s:=
 y3j I hN hi hx r (fun s' I' _=>h s' I') hf
theorem Inv.call' {s':Shared} {ch:List Addr} (I:Inv X pins σ H s) (ho:s'.os=s.os) (u:Un (frs X.stack) ch H H' s.heap s'.heap) (hok:HOk X.prog X.w H' s'.heap) (hg:AllBare s'.gens)
  (hch:∀ b∈ch,(b∈X.ex\/X.s₀.heap.objs.size<=b)/\b≠X.env.locals/\(∀ x c,X.env.cells.lookup x=some c->c≠b)/\∀ p∈X.pn++pins,p.1≠b):Inv X pins σ H' s':=by
 obtain⟨h',g',d',t',o'⟩:=s'
 have e:o'=s.os:=ho
 subst e
 exact I.call (g':=g') (t':=t') (d':=d') u hok hg hch
end
noncomputable abbrev XK:=Value->Option Addr->Hp->Prop
noncomputable abbrev St:=List (Option V)
noncomputable abbrev VK:=V->Hp->Prop
noncomputable abbrev TE:=St->Hp->VK->Prop
noncomputable abbrev TT:=St->Hp->(Bool->Hp->Prop)->Prop
noncomputable abbrev TA:=St->Hp->(List V->Hp->Prop)->Prop
structure Ends where
 nx:St->Hp->Prop
 rt:VK
 bk:St->Hp->Prop:=fun _ _=>False
 ct:St->Hp->Prop:=fun _ _=>False
noncomputable abbrev TS:=Ends->St->Hp->Prop
noncomputable def EP (X:Cx) (pins:List (Addr × Obj)) (σ:St) (Q:VK) (u:Value) (s':Shared):Prop:=∃ v H',Inv X pins σ H' s'/\x3g v u/\Q v H'
noncomputable def TP (X:Cx) (pins:List (Addr × Obj)) (σ:St) (Q:Bool->Hp->Prop) (b:Bool) (s':Shared):Prop:=∃ H',Inv X pins σ H' s'/\Q b H'
noncomputable def AP (X:Cx) (pins:List (Addr × Obj)) (σ:St) (Q:List V->Hp->Prop) (us:List Value) (s':Shared):Prop:=∃ vs H',Inv X pins σ H' s'/\x2h vs us/\Q vs H'
noncomputable def SP (X:Cx) (pins:List (Addr × Obj)) (D:Ends) (f:Flow) (s':Shared):Prop:=
 match f with
 | .next=>∃ σ' H',Inv X pins σ' H' s'/\D.nx σ' H'
 | .brk=>∃ σ' H',Inv X pins σ' H' s'/\D.bk σ' H'
 | .cont=>∃ σ' H',Inv X pins σ' H' s'/\D.ct σ' H'
 | .ret u=>∃ v σ' H',Inv X pins σ' H' s'/\x3g v u/\D.rt v H'
noncomputable def PE (X:Cx) (e:Expr) (t:TE):Prop:=
 ∀ (pins:List (Addr × Obj)) (s:Shared) (σ:St) (H:Hp) (Q:VK),Inv X pins σ H s->t σ H Q->wpAny (model X.prog X.w) X.A (eval e X.env) (EP X pins σ Q) X.xe s
noncomputable def PT (X:Cx) (e:Expr) (t:TT):Prop:=
 ∀ (pins:List (Addr × Obj)) (s:Shared) (σ:St) (H:Hp) (Q:Bool->Hp->Prop),Inv X pins σ H s->t σ H Q->wpAny (model X.prog X.w) X.A (isTrue e X.env (eval e X.env)) (TP X pins σ Q) X.xe s
noncomputable def PW (X:Cx) (e:Expr) (t:TT):Prop:=
 ∀ (whole:Sem Value) (pins:List (Addr × Obj)) (s:Shared) (σ:St) (H:Hp) (Q:Bool->Hp->Prop),Inv X pins σ H s->t σ H Q->wpAny (model X.prog X.w) X.A (isTrue e X.env whole) (TP X pins σ Q) X.xe s
theorem PW.pt {X:Cx} {e:Expr} {t:TT} (h:PW X e t):PT X e t:=h _
noncomputable def PA (X:Cx) (es:List Expr) (t:TA):Prop:=
 ∀ (pos:Pos) (pins:List (Addr × Obj)) (s:Shared) (σ:St) (H:Hp) (Q:List V->Hp->Prop),Inv X pins σ H s->t σ H Q->wpAny (model X.prog X.w) X.A (spliced (backTo pos (starEach es X.env))) (AP X pins σ Q) X.xe s
noncomputable def PS (X:Cx) (st:Stmt) (t:TS):Prop:=
 ∀ (pins:List (Addr × Obj)) (s:Shared) (σ:St) (H:Hp) (D:Ends),Inv X pins σ H s->t D σ H->wpAny (model X.prog X.w) X.A (exec st X.env) (SP X pins D) X.xe s
noncomputable def PSs (X:Cx) (st:List Stmt) (t:TS):Prop:=
 ∀ (pins:List (Addr × Obj)) (s:Shared) (σ:St) (H:Hp) (D:Ends),Inv X pins σ H s->t D σ H->wpAny (model X.prog X.w) X.A (execs st X.env) (SP X pins D) X.xe s
theorem thn {α:Type} {t:Sem α} {Q Q':α->Shared->Prop} {M:Model} {A:Around} {E:Value->Shared->Prop} {s:Shared} (h:wpAny M A t Q E s) (hQ:∀ a s,Q a s->Q' a s):wpAny M A t Q' E s:=wpAny_mono h hQ fun _ _ x=>x
section
variable {X:Cx}
noncomputable def x74 (i:Nat):TE:=fun σ H Q=>∃ v,σ[i]? = some (some v)/\Q v H
noncomputable def tC (v:V):TE:=fun _ H Q=>Q v H
theorem j0a {i:Nat} {x:Str} {pos:Pos} (hN:X.N[i]? = some x) (hv:Vis X.env.scope x) (hd:(x == ("__debug__":Str))=false:=by decide) (hcd:(x == ("__classdict__":Str))=false:=by decide):PE X (.Name x pos) (x74 i):=by
 intro pins s σ H Q I h
 obtain⟨v,e,h⟩:=h
 obtain⟨m,hn,hl⟩:=I.loc
 obtain⟨u,r,l⟩:=hl i x v hN e hv
 have fin:EP X pins σ Q u s:=⟨v,H,I,r,h⟩
 rcases l with⟨hk,hm⟩ | ⟨hk,c,hc,hcell⟩
 ·exact wpAny_Name (wpAny_loadName_local I.ok.kind hk hn hm fin) hd
 ·rcases hk with hk | hk
  ·exact wpAny_Name (wpAny_loadName_cell I.ok.kind hk hc hcell fin) hd
  ·exact wpAny_Name (wpAny_loadName_free I.ok.kind hk hc hcell fin hcd) hd
theorem z31 {i j pos}:PE X (.Constant (.int i) j pos) (tC (.int i)):=fun _ _ _ H _ I h=>wpAny_Constant_int ⟨.int i,H,I.tok _,⟨_,rfl⟩,h⟩
theorem j29 {b j pos}:PE X (.Constant (.bool b) j pos) (tC (.bl b)):=fun _ _ _ H _ I h=>Constant_bool ⟨.bl b,H,I,rfl,h⟩
theorem z8y {j pos}:PE X (.Constant .none j pos) (tC .non):=fun _ _ _ H _ I h=>Constant_none ⟨.non,H,I,rfl,h⟩
theorem y7s {x j pos}:PE X (.Constant (.str x) j pos) (tC (.str x)):=fun _ _ _ H _ I h=>Calls.Constant_str ⟨.str x,H,I.tok _,⟨_,rfl⟩,h⟩
noncomputable def Gl (X:Cx) (x:Str):Prop:=X.env.kindOf x=some .globalImplicit
theorem y9c {E:Value->Shared->Prop} {pins:List (Addr × Obj)} {s:Shared} {σ:St} {H:Hp} {x:Str} {u:Value} {pos:Pos} {Q:Value->Shared->Prop} (I:Inv X pins σ H s) (hg:Gl X x) (hm:X.mg x=some u) (h:Q u s)
  (hd:(x == ("__debug__":Str))=false:=by decide):wpAny (model X.prog X.w) X.A (eval (.Name x pos) X.env) Q E s:=
 Calls.Name_function_global I.ok.kind hg (Calls.loadGlobal_global (by rw[I.ok.glob]; exact I.mod.glob.keeps I.bk) hm h) hd
theorem y1g {E:Value->Shared->Prop} {pins:List (Addr × Obj)} {s:Shared} {σ:St} {H:Hp} {x:Str} {u:Value} {pos:Pos} {Q:Value->Shared->Prop} (I:Inv X pins σ H s) (hg:Gl X x) (hm:X.mg x=none) (hv:bootBuiltins x=some u) (h:Q u s)
  (hn:x ≠ "__name__":=by decide) (hd:(x == ("__debug__":Str))=false:=by decide):wpAny (model X.prog X.w) X.A (eval (.Name x pos) X.env) Q E s:=by
 obtain⟨mb,h1,h2⟩:=I.mod.blt
 exact Calls.Name_function_global I.ok.kind hg (Calls.loadGlobal_builtin (by rw[I.ok.glob]; exact I.mod.glob.keeps I.bk) hm (by rw[I.ok.blt]; exact h1.keeps I.bk) ((h2 x hn).trans hv) h) hd
theorem z4m {x:Str} {v:V} {u:Value} {pos:Pos} (hg:Gl X x) (hm:X.mg x=none) (hv:bootBuiltins x=some u) (r:x3g v u) (hn:x ≠ "__name__":=by decide) (hd:(x == ("__debug__":Str))=false:=by decide):PE X (.Name x pos) (tC v):=
 fun _ _ _ H _ I h=>y1g I hg hm hv ⟨v,H,I,r,h⟩ hn hd
variable {a b:Expr} {ta tb:TE} {pos:Pos}
variable {tA tB':TT} {x2i:List Expr}
noncomputable def tOr (t u:TT):TT:=fun σ H Q=>t σ H fun c H1=>if c=true then Q true H1 else u σ H1 Q
noncomputable def j2s (t:TT):TT:=fun σ H Q=>t σ H fun c H1=>Q (!c) H1
theorem z8i (ha:PT X a tA):PW X (.BoolOp .Or [a] pos) tA:=by
 intro wh pins s σ H Q I h
 refine isTrue_or (thn (ha pins s σ H Q I h) fun c s1 e=>?_)
 cases c with
 | false=>exact isTrue_or_nil e
 | true=>exact e
theorem j1h (ha:PT X a tA) (hb:PW X (.BoolOp .Or (b::x2i) pos) tB'):PW X (.BoolOp .Or (a::b::x2i) pos) (tOr tA tB'):=by
 intro wh pins s σ H Q I h
 refine isTrue_or (thn (ha pins s σ H _ I h) fun c s1 hh0=>?_)
 obtain⟨H1,I1,q1⟩:=hh0
 cases c with
 | true=>exact⟨H1,I1,q1⟩
 | false=>exact hb wh pins s1 σ H1 Q I1 q1
theorem j07 (ha:PT X a tA):PT X (.UnaryOp .Not a pos) (j2s tA):=by
 intro pins s σ H Q I h
 exact isTrue_not (ha pins s σ H (fun c H1=>Q (!c) H1) I h)
noncomputable def j21 (ta tb:TE):TE:=fun σ H Q=>ta σ H fun x H1=>∃ c,x=.bl c/\if c=true then tb σ H1 Q else Q (.bl false) H1
noncomputable def j12 (ta:TE):TE:=fun σ H Q=>ta σ H fun x H1=>∃ c,x=.bl c/\Q (.bl (!c)) H1
theorem z76 {op} {t:TE} (h:PE X a t):PE X (.BoolOp op [a] pos) t:=fun pins s σ H Q I hw=>BoolOp_one (h pins s σ H Q I hw)
theorem z73 (ha:PE X a ta) (hb:PE X (.BoolOp .And (b::x2i) pos) tb):PE X (.BoolOp .And (a::b::x2i) pos) (j21 ta tb):=by
 intro pins s σ H Q I h
 refine BoolOp_and (thn (ha pins s σ H _ I h) fun v s1 hh0=>?_)
 obtain⟨x,H1,I1,r1,q1⟩:=hh0
 obtain⟨c,rfl,q1⟩:=q1
 cases r1
 refine wpAny_truthy_bool ?_
 cases c with
 | true=>exact hb pins s1 σ H1 Q I1 q1
 | false=>exact⟨.bl false,H1,I1,rfl,q1⟩
theorem z77 (ha:PE X a ta):PE X (.UnaryOp .Not a pos) (j12 ta):=by
 intro pins s σ H Q I h
 refine UnaryOp_ (thn (ha pins s σ H _ I h) fun v s1 hh0=>?_)
 obtain⟨x,H1,I1,r1,q1⟩:=hh0
 obtain⟨c,rfl,q1⟩:=q1
 cases r1
 exact not_of (wpAny_truthy_bool ⟨.bl (!c),H1,I1,rfl,q1⟩)
noncomputable def tIf (t:TT) (ta tb:TE):TE:=fun σ H Q=>t σ H fun c H1=>if c=true then ta σ H1 Q else tb σ H1 Q
theorem z2m {c:Expr} (hc:PT X c tA) (ha:PE X a ta) (hb:PE X b tb):PE X (.IfExp c a b pos) (tIf tA ta tb):=by
 intro pins s σ H Q I h
 refine wpAny_IfExp (thn (hc pins s σ H _ I h) fun d s1 hh0=>?_)
 obtain⟨H1,I1,q1⟩:=hh0
 cases d with
 | true=>exact ha pins s1 σ H1 Q I1 q1
 | false=>exact hb pins s1 σ H1 Q I1 q1
end
noncomputable def SqL (K:PySem.W.Frag) (H:Hp) (a:Addr) (xs:List V):Prop:=
 Rd H a (.lst xs) \/
  ∃ (o:Obj) (its:Array Value) (n:Nat),K.lookup a=some o/\o.cls=.type "list" /\ o.dict=none/\o.data=.seq its n/\its.size<=sizeLine/\x2h xs its.toList
noncomputable def SqT (K:PySem.W.Frag) (H:Hp) (a:Addr) (xs:List V):Prop:=
 Rd H a (.tup xs) \/
  ∃ (o:Obj) (its:Array Value) (n:Nat),K.lookup a=some o/\o.cls=.type "tuple" /\ o.data=.seq its n/\its.size<=sizeLine/\x2h xs its.toList
noncomputable def j3j:Value->Option V
 | .none=>some .non
 | .bool b=>some (.bl b)
 | .int i _=>some (.int i)
 | .str x _=>some (.str x)
 | .bytes b _=>some (.byt b)
 | .float b _=>some (.flt b)
 | .ref a=>some (.ref a)
 | .type n=>some (.ty n)
 | _=>none
theorem x3g.abs {x:V} {u:Value} (r:x3g x u):j3j u=some x:=by
 cases x with
 | non=>cases r; rfl
 | bl _=>cases r; rfl
 | int _=>obtain⟨t,rfl⟩:=r; rfl
 | str _=>obtain⟨t,rfl⟩:=r; rfl
 | byt _=>obtain⟨t,rfl⟩:=r; rfl
 | flt _=>obtain⟨t,rfl⟩:=r; rfl
 | ref _=>cases r; rfl
 | ty _=>cases r; rfl
theorem x3g.inj {x y:V} {u:Value} (r:x3g x u) (q:x3g y u):x=y:=Option.some.inj (r.abs.symm.trans q.abs)
theorem x2h.inj:∀ {xs ys:List V} {us:List Value},x2h xs us->x2h ys us->xs=ys
 | _,_,_,.nil,.nil=>rfl
 | _,_,_,.cons r t,.cons r' t'=>by rw[r.inj r',x2h.inj t t']
section
variable {X:Cx} {pins:List (Addr × Obj)} {σ:St} {H:Hp} {s:Shared} {a:Addr} {xs ys:List V}
theorem SqL.of {K:PySem.W.Frag} (h:H a=some (.lst xs)):SqL K H a xs:=.inl (.inl h)
theorem SqT.of {K:PySem.W.Frag} (h:H a=some (.tup xs)):SqT K H a xs:=.inl (.inl h)
theorem Inv.list (I:Inv X pins σ H s) (h:SqL X.K H a xs):∃ its:List Value,x2h xs its/\PlainL s.heap a its.toArray/\xs.length<=sizeLine:=by
 rcases h with h | ⟨o,its,n,hk,hc,hd,hs,hz,r⟩
 ·obtain⟨z,its,n,r,e⟩:=h.ok I.hok
  exact⟨its,r,⟨_,n,e,rfl,rfl,rfl⟩,z⟩
 ·refine⟨its.toList,r,⟨o,n,I.kIn a o hk,hc,hd,by simpa using hs⟩,?_⟩
  have e:=r.length
  simp only[Array.length_toList]at e
  omega
theorem Inv.tuple (I:Inv X pins σ H s) (h:SqT X.K H a xs):∃ its:List Value,x2h xs its/\IsTup s.heap a its.toArray/\xs.length<=sizeLine:=by
 rcases h with h | ⟨o,its,n,hk,hc,hs,hz,r⟩
 ·obtain⟨z,its,r,p⟩:=h.ok I.hok
  exact⟨its,r,p.tup,z⟩
 ·refine⟨its.toList,r,⟨o,I.kIn a o hk,hc,n,by simpa using hs⟩,?_⟩
  have e:=r.length
  simp only[Array.length_toList]at e
  omega
theorem Inv.list_inj (I:Inv X pins σ H s) (h:SqL X.K H a xs) (h':SqL X.K H a ys):xs=ys:=by
 obtain⟨its,r,⟨o,n,e,_,_,d⟩,_⟩:=I.list h
 obtain⟨its',r',⟨o',n',e',_,_,d'⟩,_⟩:=I.list h'
 rw[e]at e'; cases e'
 rw[d]at d'
 injection d' with d1 _
 have:its=its':=by simpa using congrArg Array.toList d1
 subst this
 exact r.inj r'
theorem Inv.tuple_inj (I:Inv X pins σ H s) (h:SqT X.K H a xs) (h':SqT X.K H a ys):xs=ys:=by
 obtain⟨its,r,⟨o,e,_,n,d⟩,_⟩:=I.tuple h
 obtain⟨its',r',⟨o',e',_,n',d'⟩,_⟩:=I.tuple h'
 rw[e]at e'; cases e'
 rw[d]at d'
 injection d' with d1 _
 have:its=its':=by simpa using congrArg Array.toList d1
 subst this
 exact r.inj r'
end
noncomputable abbrev Cx.wish (X:Cx) (E:Value->Shared->Prop):Cx:={ X with xe:=E }
noncomputable abbrev Cx.nox (X:Cx):Cx:=X.wish fun _ _=>False
theorem Cx.Ok.wish {X:Cx} (ok:X.Ok) (E:Value->Shared->Prop):(X.wish E).Ok:=
 ⟨ok.mod,ok.kind,ok.glob,ok.blt,ok.above,ok.inj,ok.has,ok.cab,ok.hd,ok.frames,ok.stk,ok.exf,ok.bs,ok.bsz,ok.noex,ok.exfs,ok.funs,ok.frf⟩
theorem Cx.Ok.unwish {X:Cx} {E:Value->Shared->Prop} (ok:(X.wish E).Ok):X.Ok:=
 ⟨ok.mod,ok.kind,ok.glob,ok.blt,ok.above,ok.inj,ok.has,ok.cab,ok.hd,ok.frames,ok.stk,ok.exf,ok.bs,ok.bsz,ok.noex,ok.exfs,ok.funs,ok.frf⟩
section
variable {X:Cx} {pins:List (Addr × Obj)} {σ:St} {H:Hp} {s:Shared} {E:Value->Shared->Prop}
theorem Inv.wish (I:Inv X pins σ H s) (E:Value->Shared->Prop):Inv (X.wish E) pins σ H s:=⟨I.ok.wish E,I.os,I.bare,I.base,I.loc,I.cell,I.free,I.freeC,I.pin,I.hok,I.len⟩
theorem Inv.unwish (I:Inv (X.wish E) pins σ H s):Inv X pins σ H s:=⟨I.ok.unwish,I.os,I.bare,I.base,I.loc,I.cell,I.free,I.freeC,I.pin,I.hok,I.len⟩
theorem SP.unwish {D:Ends} {f:Flow} {s':Shared} (h:SP (X.wish E) pins D f s'):SP X pins D f s':=by
 cases f with
 | next=>obtain⟨σ',H',I,q⟩:=h; exact⟨σ',H',I.unwish,q⟩
 | brk=>obtain⟨σ',H',I,q⟩:=h; exact⟨σ',H',I.unwish,q⟩
 | cont=>obtain⟨σ',H',I,q⟩:=h; exact⟨σ',H',I.unwish,q⟩
 | ret u=>obtain⟨v,σ',H',I,r,q⟩:=h; exact⟨v,σ',H',I.unwish,r,q⟩
theorem PSs.nox {st:List Stmt} {t:TS} (h:PSs X.nox st t):PSs X st t:=fun pins s σ H D I hw=>
 wpAny_mono (h pins s σ H D (I.wish _) hw) (fun _ _ q=>q.unwish) fun _ _ z=>False.elim z
end
section
variable {X:Cx} {st:Stmt} {x2i:List Stmt} {t u:TS} {e:Expr} {te:TE} {pos:Pos}
noncomputable def j1j:TS:=fun D σ H=>D.nx σ H
noncomputable def j3i (t u:TS):TS:=fun D σ H=>t { D with nx:=u D } σ H
theorem z4o:PSs X [] j1j:=fun _ _ σ H _ I h=>wpAny_execs_nil ⟨σ,H,I,h⟩
theorem z08 (h1:PS X st t) (h2:PSs X x2i u):PSs X (st::x2i) (j3i t u):=by
 intro pins s σ H D I h
 refine wpAny_execs_cons (thn (h1 pins s σ H { D with nx:=u D } I h) fun f s1 q=>?_)
 cases f with
 | next=>
  obtain⟨σ',H',I',q⟩:=q
  exact h2 pins s1 σ' H' D I' q
 | ret v=>exact q
 | brk=>exact q
 | cont=>exact q
theorem z51 (h1:PS X st t):PSs X [st] t:=by
 intro pins s σ H D I h
 refine wpAny_execs_cons (thn (h1 pins s σ H D I h) fun f s1 q=>?_)
 cases f with
 | next=>exact wpAny_execs_nil q
 | ret v=>exact q
 | brk=>exact q
 | cont=>exact q
theorem Inv.quiet {pins:List (Addr × Obj)} {σ:St} {H:Hp} {s:Shared} (I:Inv X pins σ H s):interactive X.env=false:=by simp[interactive,I.ok.kind]
noncomputable def j1m (te:TE):TS:=fun D σ H=>te σ H fun _ H1=>D.nx σ H1
theorem z48 (he:PE X e te) (hs:swapsWith e none pos.line X.env=pure false:=by rfl):PS X (.Expr e pos) (j1m te):=by
 intro pins s σ H D I h
 exact wpAny_Expr_any (thn (he pins s σ H _ I h) fun v s1 ⟨x,H1,I1,r1,q1⟩=>⟨σ,H1,I1,q1⟩) I.quiet hs
noncomputable def j36 (te:TE):TS:=fun D σ H=>te σ H D.rt
theorem z6y (he:PE X e te):PS X (.Return (some e) pos) (j36 te):=by
 intro pins s σ H D I h
 exact wpAny_Return_some (thn (he pins s σ H _ I h) fun v s1 ⟨x,H1,I1,r1,q1⟩=>⟨x,σ,H1,I1,r1,q1⟩)
noncomputable def j2v (c:TT) (t u:TS):TS:=fun D σ H=>c σ H fun b H1=>if b=true then t D σ H1 else u D σ H1
theorem j23 {c:Expr} {a b:List Stmt} {tc:TT} (hc:PT X c tc) (ha:PSs X a t) (hb:PSs X b u):PS X (.If c a b pos) (j2v tc t u):=by
 intro pins s σ H D I h
 refine wpAny_If (thn (hc pins s σ H _ I h) fun d s1 hh0=>?_)
 obtain⟨H1,I1,q1⟩:=hh0
 cases d with
 | true=>exact ha pins s1 σ H1 D I1 q1
 | false=>exact hb pins s1 σ H1 D I1 q1
noncomputable def z7x:TS:=fun _ _ _=>False
theorem z0d:PS X st z7x:=fun _ _ _ _ _ _ h=>h.elim
end
noncomputable abbrev TG:=V->St->Hp->(St->Hp->Prop)->Prop
noncomputable abbrev TGs:=List V->St->Hp->(St->Hp->Prop)->Prop
noncomputable def PG (X:Cx) (target:Expr) (t:TG):Prop:=
 ∀ (pins:List (Addr × Obj)) (s:Shared) (σ:St) (H:Hp) (v:V) (u:Value) (Q:St->Hp->Prop),Inv X pins σ H s->x3g v u->t v σ H Q->
  wpAny (model X.prog X.w) X.A (assign target X.env u) (fun _ s'=>∃ σ' H',Inv X pins σ' H' s'/\Q σ' H') X.xe s
noncomputable def PGs (X:Cx) (ts:List Expr) (t:TGs):Prop:=
 ∀ (pins:List (Addr × Obj)) (s:Shared) (σ:St) (H:Hp) (vs:List V) (us:List Value) (Q:St->Hp->Prop),Inv X pins σ H s->x2h vs us->t vs σ H Q->
  wpAny (model X.prog X.w) X.A (assignInOrder ((assignEach ts X.env).map (·.2)) us) (fun _ s'=>∃ σ' H',Inv X pins σ' H' s'/\Q σ' H') X.xe s
noncomputable abbrev j1k:=V->V->V->Hp->(Hp->Prop)->Prop
noncomputable def j2f (X:Cx) (t:j1k):Prop:=
 ∀ (pins:List (Addr × Obj)) (s:Shared) (σ:St) (H:Hp) (o i v:V) (ov iv u:Value) (Q:Hp->Prop),Inv X pins σ H s->x3g o ov->x3g i iv->x3g v u->t o i v H Q->
  wpAny (model X.prog X.w) X.A (setItem ov iv u) (fun _ s'=>∃ H',Inv X pins σ H' s'/\Q H') X.xe s
section
variable {X:Cx} {pos:Pos}
noncomputable def z5g (i:Nat):TG:=fun v σ H Q=>Q (σ.set i (some v)) H
theorem z5p {i:Nat} {x:Str} (hN:X.N.Nodup) (hi:X.N[i]? = some x) (hx:Loc X.env.scope x) (hf:X.fn x=true\/X.env.scope.names.lookup x=some .local:=by first | exact .inl rfl | exact .inr rfl | assumption):PG X (.Name x pos) (z5g i):=by
 intro pins s σ H v u Q I r h
 exact wpAny_assign_Name (y61 I hN hi hx r (fun s' I'=>⟨_,H,I',h⟩) hf)
noncomputable def j2z:TGs:=fun vs σ H Q=>vs=[]/\Q σ H
noncomputable def j14 (t:TG) (u:TGs):TGs:=fun vs σ H Q=>∃ v r,vs=v::r/\t v σ H fun σ' H'=>u r σ' H' Q
theorem z4d:PGs X [] j2z:=by
 intro pins s σ H vs us Q I r h
 obtain⟨e,h⟩:=h
 subst e
 cases r
 exact assignInOrder_nil ⟨σ,H,I,h⟩
theorem z0u {e:Expr} {es:List Expr} {t:TG} {u:TGs} (h1:PG X e t) (h2:PGs X es u)
  (hs:(assignEach (e::es) X.env).map (·.2)=assign e X.env::(assignEach es X.env).map (·.2):=by rfl):PGs X (e::es) (j14 t u):=by
 intro pins s σ H vs us Q I r h
 obtain⟨v,vr,e1,h⟩:=h
 subst e1
 cases r with
 | cons r rr=>
  rw[hs]
  refine assignInOrder_cons (thn (h1 pins s σ H _ _ _ I r h) fun _ s1 hh0=>?_)
  obtain⟨σ1,H1,I1,q1⟩:=hh0
  exact h2 pins s1 σ1 H1 _ _ Q I1 rr q1
noncomputable def j32 (K:PySem.W.Frag) (n:Nat) (t:TGs):TG:=fun v σ H Q=>∃ a xs,v=.ref a/\SqT K H a xs/\xs.length=n/\t xs σ H Q
theorem z9z {es:List Expr} {k:Nat} {t:TGs} {n:Nat} (hc:X.calm=true) (h:PGs X es t)
  (hn:(assignEach es X.env).length=n:=by rfl) (hst:(assignEach es X.env).findIdx? (·.1)=none:=by rfl):PG X (.Tuple es k pos) (j32 X.K n t):=by
 intro pins s σ H v u Q I r hw
 obtain⟨a,xs,e1,hq,hl,hw⟩:=hw
 subst e1
 cases r
 obtain⟨its,rv,ht,hz⟩:=I.tuple hq
 refine assign_Tuple_tuple (I.ok.hd hc) ht (by simp[hn,<- hl,rv.length]) hst fun h' hx=>?_
 have I1:Inv X pins σ H { s with heap:=h' }:=I.kept (t':=s.toks) fun b o e=>hx b o (Nat.ne_of_lt (Heap.lt_size e)) e
 exact h pins _ σ H xs _ Q I1 (by simpa using rv) hw
noncomputable def j30 (to ti:TE) (t:j1k):TG:=fun v σ H Q=>to σ H fun o H1=>ti σ H1 fun i H2=>t o i v H2 fun H3=>Q σ H3
theorem z3e {o i:Expr} {to ti:TE} {t:j1k} (ho:PE X o to) (hi:PE X i ti) (hs:j2f X t)
  (ha:∀ v,assign (.Subscript o i pos) X.env v=(do
    let ov <- holding [v] (eval o X.env)
    let iv <- holding [v,ov] (eval i X.env)
    standAt pos
    holding [v,ov,iv] (setItem ov iv v)
    release [v,ov,iv] []):=by intro _; rfl):PG X (.Subscript o i pos) (j30 to ti t):=by
 intro pins s σ H v u Q I r h
 rw[ha]
 refine wpAny_bind (wpAny_holding (thn (ho pins s σ H _ I h) fun ov s1 hh0=>?_))
 obtain⟨x,H1,I1,r1,q1⟩:=hh0
 refine wpAny_bind (wpAny_holding (thn (hi pins s1 σ H1 _ I1 q1) fun iv s2 hh0=>?_))
 obtain⟨y,H2,I2,r2,q2⟩:=hh0
 refine wpAny_bind (wpAny_standAt (wpAny_bind (wpAny_holding (thn (hs pins s2 σ H2 x y v ov iv u _ I2 r1 r2 r q2) fun _ s3 hh0=>?_))))
 obtain⟨H3,I3,q3⟩:=hh0
 exact wpAny_release ⟨σ,H3,I3,q3⟩
noncomputable def j1q (te:TE) (g:TG):TS:=fun D σ H=>te σ H fun x H1=>g x σ H1 D.nx
theorem z3o {tg e:Expr} {te:TE} {g:TG} (he:PE X e te) (hg:PG X tg g) (hs:swapsWithSole [tg] e pos.line X.env=pure false:=by rfl) (hw:swappedStores [tg] e X.env=pure none:=by rfl)
  (h1:(assignEach [tg] X.env).map (·.2)=[assign tg X.env]:=by rfl):PS X (.Assign [tg] e pos) (j1q te g):=by
 intro pins s σ H D I h
 refine wpAny_Assign_stores (thn (he pins s σ H _ I h) fun v s1 ⟨x,H1,I1,r1,q1⟩=>?_) hs hw
 rw[h1]
 exact thn (hg pins s1 σ H1 x v _ I1 r1 q1) fun _ s2 q=>q
theorem z72 {i:Nat} {x:Str} {e:Expr} {te:TE} {pos':Pos} (hN:X.N.Nodup) (hi:X.N[i]? = some x) (hx:Loc X.env.scope x) (he:PE X e te) (hs:swapsWith e (some (.Name x pos')) pos.line X.env=pure false:=by rfl) (hf:X.fn x=true\/X.env.scope.names.lookup x=some .local:=by first | exact .inl rfl | exact .inr rfl | assumption) :
  PS X (.Assign [.Name x pos'] e pos) (j1q te (z5g i)):=by
 intro pins s σ H D I h
 refine wpAny_Assign_Name (thn (he pins s σ H _ I h) fun v s1 ⟨y,H1,I1,r1,q1⟩=>?_) hs
 exact y61 I1 hN hi hx r1 (fun s2 I2=>⟨_,H1,I2,q1⟩) hf
end
section
variable {X:Cx} {pos:Pos}
noncomputable def z8k (c:TT) (tb:TS):TS:=fun D σ H=>∃ W:Nat->St->Hp->Prop,(∃ m,W m σ H)/\∀ m σ H,W m σ H->
 c σ H fun b H1=>if b=true then ∃ N:St->Hp->Prop,(∀ σ' H',N σ' H'->∃ m',m'<m/\W m' σ' H')/\tb { D with nx:=N,ct:=N,bk:=D.nx } σ H1 else D.nx σ H1
theorem z2e {c:Expr} {body:List Stmt} {tc:TT} {tb:TS} (hp:PassesOwn (model X.prog X.w) X.A X.env X.xe) (hc:PT X c tc) (hb:PSs X body tb):PS X (.While c body [] pos) (z8k tc tb):=by
 intro pins s σ H D I h
 obtain⟨W,⟨m0,w0⟩,turn⟩:=h
 refine wpAny_While (codeAny_whileLoop (fun n s'=>∃ σ' H',Inv X pins σ' H' s'/\W n σ' H') ?_ m0 ⟨σ,H,I,w0⟩)
 rintro n s1 ⟨σ1,H1,I1,w1⟩
 refine wpAny_passesOwn hp (thn (hc pins s1 σ1 H1 _ I1 (turn n σ1 H1 w1)) fun b s2 hh0=>?_)
 obtain⟨H2,I2,q2⟩:=hh0
 cases b with
 | true=>
  obtain⟨N,hN,q2⟩:=q2
  rw[if_pos rfl]
  refine wpAny_passesOwn hp (thn (hb pins s2 σ1 H2 _ I2 q2) fun f s3 q3=>?_)
  cases f with
  | next=>
   obtain⟨σ3,H3,I3,n3⟩:=q3
   obtain⟨m',hm,w3⟩:=hN σ3 H3 n3
   exact⟨m',hm,σ3,H3,I3,w3⟩
  | cont=>
   obtain⟨σ3,H3,I3,n3⟩:=q3
   obtain⟨m',hm,w3⟩:=hN σ3 H3 n3
   exact⟨m',hm,σ3,H3,I3,w3⟩
  | brk=>exact q3
  | ret v=>exact q3
 | false=>
  rw[if_neg Bool.false_ne_true]
  exact wpAny_execs_nil ⟨σ1,H2,I2,q2⟩
end
structure It where
 go:Nat->Hp->Prop
 yld:Nat->Hp->V->Hp->Prop
 stop:Nat->Hp->Prop
noncomputable def y9o (X:Cx) (pins:List (Addr × Obj)) (H:Hp) (b:Addr):Prop:=
 H b=none/\b≠X.env.locals/\b ∉ X.fs/\(b∈X.ex\/X.s₀.heap.objs.size<=b)/\(∀ x c,X.env.cells.lookup x=some c->c≠b)/\∀ p∈X.pn++pins,p.1≠b
theorem Inv.fpOk {X:Cx} {pins:List (Addr × Obj)} {σ:St} {H H':Hp} {s:Shared} {b:Addr} (I:Inv X pins σ H s) (hb:s.heap.objs.size<=b) (hn:H' b=none):y9o X pins H' b:=by
 refine⟨hn,Nat.ne_of_gt (Nat.lt_of_lt_of_le I.lt hb),I.nofs hb,.inr (Nat.le_trans I.sz hb),fun x c e z=>?_,fun p hp z=>?_⟩
 ·obtain⟨v,q⟩:=I.cell x c e
  exact absurd (Nat.lt_of_lt_of_le q.lt (by rw[z]; exact hb)) (Nat.lt_irrefl _)
 ·exact absurd (Nat.lt_of_lt_of_le (Heap.lt_size (I.pin p hp).1) (by rw[z]; exact hb)) (Nat.lt_irrefl _)
structure Turn (P:Program) (w:World) (K:PySem.W.Frag) (tg:Expr) (J:It) (fp:List Addr) (it:Addr) (tn:Nat->Heap->Prop):Prop where
 mem:it∈fp
 obj:∀ i h,tn i h->∀ b∈fp,∃ o,h.get? b=some o/\∀ v,o.data ≠ .cell v
 keep:∀ i h h',tn i h->(∀ b∈fp,∀ o,h.get? b=some o->h'.get? b=some o)->tn i h'
 item:∀ (X:Cx),X.prog=P->X.w=w->X.K=K->X.calm=true->∀ (i:Nat) (pins:List (Addr × Obj)) (s:Shared) (σ:St) (H:Hp) (E:Value->Shared->Prop),Inv X pins σ H s->(∀ b∈fp,y9o X pins H b)->tn i s.heap->J.go i H->
  wpAny (model P w) X.A (pyNext (.ref it)) (fun r s1=>∃ u,r=some u /\
   wpAny (model P w) X.A (letOwnedTupleGo tg (.ref it) u) (fun _ s2=>∃ x H',Inv X pins σ H' s2/\x3g x u/\J.yld i H x H'/\tn (i+1) s2.heap/\∀ b∈fp,H' b=none) E s1) E s
 done:∀ (X:Cx),X.prog=P->X.w=w->X.K=K->X.calm=true->∀ (i:Nat) (pins:List (Addr × Obj)) (s:Shared) (σ:St) (H:Hp) (E:Value->Shared->Prop),Inv X pins σ H s->(∀ b∈fp,y9o X pins H b)->tn i s.heap->J.stop i H->
  wpAny (model P w) X.A (pyNext (.ref it)) (fun r s1=>r=none/\Inv X pins σ H s1) E s
 self:∀ (A:Around) (i:Nat) (s:Shared) (Q:Value->Shared->Prop) (E:Value->Shared->Prop),tn i s.heap->Q (.ref it) s->wpAny (model P w) A (pyIter (.ref it)) Q E s
noncomputable abbrev TI:=St->Hp->(It->Hp->Prop)->Prop
noncomputable def PIE (X:Cx) (pins:List (Addr × Obj)) (σ:St) (tg:Expr) (R:It->Hp->Prop) (itv:Value) (s2:Shared):Prop:=
 ∃ (it:Addr) (fp:List Addr) (tn:Nat->Heap->Prop) (J:It) (H':Hp),itv=.ref it/\Inv X pins σ H' s2/\Turn X.prog X.w X.K tg J fp it tn/\tn 0 s2.heap/\(∀ b∈fp,y9o X pins H' b)/\R J H'
noncomputable def PI (X:Cx) (tg iter:Expr) (wi:TI):Prop:=
 ∀ (pins:List (Addr × Obj)) (s:Shared) (σ:St) (H:Hp) (R:It->Hp->Prop),Inv X pins σ H s->wi σ H R->
  wpAny (model X.prog X.w) X.A (eval iter X.env) (fun v s1=>wpAny (model X.prog X.w) X.A (pyIter v) (PIE X pins σ tg R) X.xe s1) X.xe s
theorem z5j {M:Model} {A:Around} {E:Value->Shared->Prop} {s:Shared} {tg:Expr} {it:Addr} {u:Value} {o:Obj} {n:String} {vs:Array Value} {Q:Unit->Shared->Prop} (ho:s.heap.get? it=some o) (hc:o.cls=.type n) (hd:o.data=.fields vs)
  (hn:["enumerate","zip","dict_itemiterator","dict_reverseitemiterator","odict_iterator","itertools.zip_longest","itertools.pairwise"].contains n=false) (hQ:Q () s):wpAny M A (letOwnedTupleGo tg (.ref it) u) Q E s:=by
 unfold letOwnedTupleGo
 cases tg <;> first
  | exact wpAny_pure hQ
  | (cases u <;> first
      | exact wpAny_pure hQ
      | (refine wpAny_bind (wpAny_load ho ?_)
         rw[hc,hd]
         show wpAny M A (if(["enumerate","zip","dict_itemiterator","dict_reverseitemiterator","odict_iterator","itertools.zip_longest","itertools.pairwise"].contains n && vs[0]? == some (rawInt _))=true then _ else _) Q E s
         rw[if_neg (by intro h; rw[hn,Bool.false_and]at h; cases h)]
         exact wpAny_pure hQ))
noncomputable def Itl (K:PySem.W.Frag) (a:Addr):It:=
 ⟨fun i H=>∃ xs x,SqL K H a xs/\xs[i]? = some x,fun i H x H'=>H'=H/\∀ xs,SqL K H a xs->xs[i]? = some x,fun i H=>∃ xs,SqL K H a xs/\xs.length<=i⟩
noncomputable def Itt (K:PySem.W.Frag) (a:Addr):It:=
 ⟨fun i H=>∃ xs x,SqT K H a xs/\xs[i]? = some x,fun i H x H'=>H'=H/\∀ xs,SqT K H a xs->xs[i]? = some x,fun i H=>∃ xs,SqT K H a xs/\xs.length<=i⟩
noncomputable def Itr (lo:Int) (n:Nat):It:=⟨fun i _=>i<n,fun i H x H'=>H'=H/\x=.int (lo+i),fun i _=>n<=i⟩
theorem y8s {P:Program} {w:World} {K:PySem.W.Frag} {tg:Expr} (a it:Addr):Turn P w K tg (Itl K a) [it] it (fun i h=>h.IsListIter it a i) where
 mem:=by simp
 obj:=fun i h st b hb=>by
  have e:b=it:=by simpa using hb
  subst e
  obtain⟨o,e,c,d⟩:=st
  exact⟨o,e,fun v z=>by rw[d]at z; cases z⟩
 keep:=fun i h h' st k=>st.at fun o e=>k it (by simp) o e
 item:=by
  intro X hP hw hK hc i pins s σ H E I hf st hg
  subst hP hw hK
  obtain⟨xs,x,hq,hx⟩:=hg
  obtain⟨its,rv,p,hz⟩:=I.list hq
  obtain⟨u,hu,ru⟩:=rv.get hx
  obtain⟨f0,f1,f2,f3,f4,f5⟩:=hf it (by simp)
  refine wpAny_pyNext_list_item st p.isList (x:=u) (by simpa using hu) fun h' st' sb=>?_
  have I1:Inv X pins σ H { s with heap:=h' }:=I.turned (t':=s.toks) (fun b o hb e=>(sb.2 b hb).trans e) f0 f1 f3 f4 f5
  obtain⟨o,e,c,d⟩:=id st'
  exact⟨u,rfl,z5j (s:={ s with heap:=h' }) e c d (by decide) ⟨x,H,I1,ru,⟨rfl,fun ys hy=>by rw[I.list_inj hy hq]; exact hx⟩,st',fun b hb=>(hf b hb).1⟩⟩
 done:=by
  intro X hP hw hK hc i pins s σ H E I hf st hg
  subst hP hw hK
  obtain⟨xs,hq,hx⟩:=hg
  obtain⟨its,rv,p,hz⟩:=I.list hq
  obtain⟨f0,f1,f2,f3,f4,f5⟩:=hf it (by simp)
  have hl:=rv.length
  exact wpAny_pyNext_list_end (I.ok.hd hc) st p.isList (by simp; omega) fun h' eb=>⟨rfl,I.turned (t':=s.toks) (fun b o hb e=>eb b o hb e) f0 f1 f3 f4 f5⟩
 self:=fun _ _ _ _ _ st h=>wpAny_pyIter_listiter st h
theorem y7j {P:Program} {w:World} {K:PySem.W.Frag} {tg:Expr} (a it:Addr):Turn P w K tg (Itt K a) [it] it (fun i h=>h.IsTupleIter it a i) where
 mem:=by simp
 obj:=fun i h st b hb=>by
  have e:b=it:=by simpa using hb
  subst e
  obtain⟨o,e,c,d⟩:=st
  exact⟨o,e,fun v z=>by rw[d]at z; cases z⟩
 keep:=fun i h h' st k=>st.at fun o e=>k it (by simp) o e
 item:=by
  intro X hP hw hK hc i pins s σ H E I hf st hg
  subst hP hw hK
  obtain⟨xs,x,hq,hx⟩:=hg
  obtain⟨its,rv,p,hz⟩:=I.tuple hq
  obtain⟨u,hu,ru⟩:=rv.get hx
  obtain⟨f0,f1,f2,f3,f4,f5⟩:=hf it (by simp)
  refine wpAny_pyNext_tuple_item st (show s.heap.IsTuple a its.toArray from p) (x:=u) (by simpa using hu) fun h' st' sb=>?_
  have I1:Inv X pins σ H { s with heap:=h' }:=I.turned (t':=s.toks) (fun b o hb e=>(sb.2 b hb).trans e) f0 f1 f3 f4 f5
  obtain⟨o,e,c,d⟩:=id st'
  exact⟨u,rfl,z5j (s:={ s with heap:=h' }) e c d (by decide) ⟨x,H,I1,ru,⟨rfl,fun ys hy=>by rw[I.tuple_inj hy hq]; exact hx⟩,st',fun b hb=>(hf b hb).1⟩⟩
 done:=by
  intro X hP hw hK hc i pins s σ H E I hf st hg
  subst hP hw hK
  obtain⟨xs,hq,hx⟩:=hg
  obtain⟨its,rv,p,hz⟩:=I.tuple hq
  obtain⟨f0,f1,f2,f3,f4,f5⟩:=hf it (by simp)
  have hl:=rv.length
  exact wpAny_pyNext_tuple_end (I.ok.hd hc) st (show s.heap.IsTuple a its.toArray from p) (by simp; omega) fun h' eb=>⟨rfl,I.turned (t':=s.toks) (fun b o hb e=>eb b o hb e) f0 f1 f3 f4 f5⟩
 self:=fun _ _ _ _ _ st h=>wpAny_pyIter_tupleiter st h
theorem y7h {P:Program} {w:World} {K:PySem.W.Frag} {tg:Expr} (it:Addr) (lo:Int) (n:Nat):Turn P w K tg (Itr lo n) [it] it (fun i h=>IsRangeIter h it (lo+(i:Nat)*1) ((n:Int)-(i:Nat)) 1) where
 mem:=by simp
 obj:=fun i h st b hb=>by
  have e:b=it:=by simpa using hb
  subst e
  exact⟨_,st,fun v z=>by
   have z':Data.fields _=Data.cell v:=z
   cases z'⟩
 keep:=fun i h h' st k=>k it (by simp) _ st
 item:=by
  intro X hP hw hK hc i pins s σ H E I hf st hg
  subst hP hw hK
  obtain⟨f0,f1,f2,f3,f4,f5⟩:=hf it (by simp)
  have W:=Walks.range (prog:=X.prog) (w:=X.w) (I.ok.hd hc) it lo 1 n
  refine W.item i s _ _ hg st fun v h' tk hv st' kk=>?_
  obtain⟨t,rfl⟩:=hv
  have I1:Inv X pins σ H { s with heap:=h',toks:=tk }:=I.turned (fun b o hb e=>kk b o (by simpa using hb) e) f0 f1 f3 f4 f5
  refine⟨_,rfl,z5j (s:={ s with heap:=h',toks:=tk }) (n:="range_iterator") st' rfl rfl (by decide) ⟨.int (lo+i),H,I1,⟨t,?_⟩,⟨rfl,rfl⟩,st',fun b hb=>(hf b hb).1⟩⟩
  rw[Int.mul_one]
 done:=by
  intro X hP hw hK hc i pins s σ H E I hf st hg
  subst hP hw hK
  obtain⟨f0,f1,f2,f3,f4,f5⟩:=hf it (by simp)
  exact wpAny_pyNext_range_end (I.ok.hd hc) st (by have:n<=i:=hg; omega) fun h' eb=>⟨rfl,I.turned (t':=s.toks) (fun b o hb e=>eb b o hb e) f0 f1 f3 f4 f5⟩
 self:=fun _ _ _ _ _ st h=>wpAny_pyIter_rangeiter st h
section
variable {X:Cx} {tg:Expr}
theorem z15 {pins:List (Addr × Obj)} {σ:St} {H:Hp} {s:Shared} {R:It->Hp->Prop} {E:Value->Shared->Prop} {lo hi:Int} {t u v:Tok} {tk:Nat} (I:Inv X pins σ H s) (h1:-(2 ^ 62)<=lo) (h2:lo<2 ^ 62) (h3:-(2 ^ 62)<=hi) (h4:hi<2 ^ 62)
  (q:R (Itr lo (hi-lo).toNat) H):wpAny (model X.prog X.w) X.A (pyIter (.ref s.heap.objs.size)) (PIE X pins σ tg R) E { s with heap:=s.heap.push { cls:=.type "range",data:=.fields #[.int lo t,.int hi u,.int 1 v] },toks:=tk }:=by
 refine wpAny_pyIter_range (IsRange.new ..) (small_one h1 h2 h3 h4) ?_
 have I1:Inv X pins σ H { s with heap:=s.heap.push { cls:=.type "range",data:=.fields #[.int lo t,.int hi u,.int 1 v] },toks:=tk }:=I.kept fun b o e=>Heap.get?_push_of_some _ e
 refine⟨(s.heap.push { cls:=.type "range",data:=.fields #[.int lo t,.int hi u,.int 1 v] }).objs.size,[(s.heap.push { cls:=.type "range",data:=.fields #[.int lo t,.int hi u,.int 1 v] }).objs.size],_,_,H,rfl,
  I1.kept (t':=tk) fun b o e=>Heap.get?_push_of_some _ e,y7h _ lo (hi-lo).toNat,?_,fun b hb=>?_,q⟩
 ·have e1:lo+((0:Nat):Int)*1=lo:=by simp
  have e2:(((hi-lo).toNat:Nat):Int)-((0:Nat):Int)=Builtin.Range.rangeSize lo hi 1:=by rw[rangeSize_one]; split <;> omega
  show IsRangeIter _ _ (lo+((0:Nat):Int)*1) ((((hi-lo).toNat:Nat):Int)-((0:Nat):Int)) 1
  rw[e1,e2]
  exact Heap.get?_push_size _ rfl
 ·have e:b=(s.heap.push { cls:=.type "range",data:=.fields #[.int lo t,.int hi u,.int 1 v] }).objs.size:=by simpa using hb
  subst e
  exact I1.fpOk (Nat.le_refl _) (I1.hok.fresh (Nat.le_refl _))
noncomputable def j1n (ta:TA):TI:=fun σ H R=>ta σ H fun vs H1=>∃ j:Int,vs=[.int j] /\ -(2 ^ 62)<=j/\j<2 ^ 62/\R (Itr 0 j.toNat) H1
theorem y95 {a:Expr} {ta:TA} {p pos:Pos} (hg:Gl X "range") (hm:X.mg "range" = none) (ha:PA X [a] ta) (hs:starEach [a] X.env=[(false,eval a X.env)]:=by rfl):PI X tg (.Call (.Name "range" p) [a] [] pos) (j1n ta):=by
 intro pins s σ H R I h
 refine Call_ (y1g I hg hm boot_range (PyProof.Rows.callWith_type1 (thn (ha pos pins s σ H _ I h) fun us s1 ⟨vs,H1,I1,r1,q1⟩=>?_) hs rfl))
 obtain⟨j,e,q1,q2,q⟩:=q1
 subst e
 cases r1 with
 | cons r rr=>
  cases rr
  obtain⟨t,rfl⟩:=r
  exact call_range_1 (z15 I1 (by omega) (by omega) q1 q2 (by simpa using q))
noncomputable def j2w (wi:TI) (g:TG) (tb:TS):TS:=fun D σ H=>wi σ H fun J H1=>∃ W:Nat->Nat->St->Hp->Prop,(∃ m,W 0 m σ H1)/\∀ i m σ H,W i m σ H->
 (J.stop i H/\D.nx σ H)\/(J.go i H/\∃ N:St->Hp->Prop,(∀ σ' H',N σ' H'->∃ m',m'<m/\W (i+1) m' σ' H')/\∀ x H',J.yld i H x H'->g x σ H' fun σ2 H2=>tb { D with nx:=N,ct:=N,bk:=D.nx } σ2 H2)
noncomputable def x8s (fp:List Addr) (h:Heap):List (Addr × Obj):=fp.filterMap fun b=>(h.get? b).map fun o=>(b,o)
theorem x69 {fp:List Addr} {h:Heap} {b:Addr} {o:Obj} (hb:b∈fp) (e:h.get? b=some o):(b,o)∈x8s fp h:=List.mem_filterMap.mpr ⟨b,hb,by rw[e]; rfl⟩
theorem y45 {fp:List Addr} {h:Heap} {p:Addr × Obj} (hp:p∈x8s fp h):p.1∈fp/\h.get? p.1=some p.2:=by
 obtain⟨b,hb,e⟩:=List.mem_filterMap.mp hp
 cases q:h.get? b with
 | none=>rw[q]at e; cases e
 | some o=>
  rw[q]at e
  have e':(b,o)=p:=Option.some.inj e
  subst e'
  exact⟨hb,q⟩
theorem Inv.pinned {pins:List (Addr × Obj)} {σ:St} {H:Hp} {s:Shared} {fp:List Addr} (I:Inv X pins σ H s) (hf:∀ b∈fp,y9o X pins H b) (ho:∀ b∈fp,∃ o,s.heap.get? b=some o/\∀ v,o.data ≠ .cell v):Inv X (pins++x8s fp s.heap) σ H s:=
 I.pins_of fun p hp=>(List.mem_append.mp hp).elim (fun z=>I.pin p (List.mem_append_right _ z)) fun z=>by
  obtain⟨hb,e⟩:=y45 z
  obtain⟨f0,f1,f2,_⟩:=hf p.1 hb
  obtain⟨o,e',d⟩:=ho p.1 hb
  rw[e]at e'; cases e'
  exact⟨e,f0,f1,f2,d⟩
theorem Inv.unpinned {pins pl:List (Addr × Obj)} {σ:St} {H:Hp} {s:Shared} (I:Inv X (pins++pl) σ H s):Inv X pins σ H s:=I.pins_of fun p hp=>I.pin p (List.mem_append_right _ (List.mem_append_left _ hp))
theorem z75 {iter:Expr} {body:List Stmt} {wi:TI} {g:TG} {tb:TS} {pos:Pos} (hp:PassesOwn (model X.prog X.w) X.A X.env X.xe) (hc:X.calm=true) (hi:PI X tg iter wi) (hg:PG X tg g) (hb:PSs X body tb)
  (hs:∀ x,foldedSetIterable iter X.env x=pure x:=by intro _; rfl):PS X (.For tg iter body [] pos) (j2w wi g tb):=by
 intro pins s σ H D I h
 refine wpAny_For (thn (hi pins s σ H _ I h) fun v s1 h1=>thn h1 fun itv s2 h2=>?_) hs
 obtain⟨it,fp,tn,J,H2,e,I2,T,st2,f2,W,⟨m0,w0⟩,turn⟩:=h2
 subst e
 -- what stays true of the iterator's objects through the loop
 have stat:∀ {H':Hp},(∀ b∈fp,H' b=none)->∀ b∈fp,y9o X pins H' b:=fun hn b hb=>⟨hn b hb,(f2 b hb).2⟩
 refine codeAny_forLoop_any (fun n s'=>∃ i σ' H',Inv X pins σ' H' s'/\tn i s'.heap/\(∀ b∈fp,H' b=none)/\W i n σ' H') ?_ m0 ⟨0,σ,H2,I2,st2,fun b hb=>(f2 b hb).1,w0⟩
 rintro n s3 ⟨i,σ3,H3,I3,st3,fr3,w3⟩
 rcases turn i n σ3 H3 w3 with⟨stop,qn⟩ | ⟨go,N,hN,step⟩
 ·refine wpAny_passesOwn hp (thn (T.done X rfl rfl rfl hc i pins s3 σ3 H3 X.xe I3 (stat fr3) st3 stop) fun r s4 ⟨hr,I4⟩=>?_)
  subst hr
  exact wpAny_execs_nil ⟨σ3,H3,I4,qn⟩
 ·refine wpAny_passesOwn hp (thn (T.item X rfl rfl rfl hc i pins s3 σ3 H3 X.xe I3 (stat fr3) st3 go) fun r s4 ⟨u,hr,h4⟩=>?_)
  subst hr
  refine wpAny_passesOwn hp (thn h4 fun _ s5 hh0=>?_)
  obtain⟨x,H5,I5,r5,y5,st5,fr5⟩:=hh0
  have I5':=I5.pinned (stat fr5) (T.obj _ _ st5)
  refine wpAny_passesOwn hp (thn (hg _ s5 σ3 H5 x u _ I5' r5 (step x H5 y5)) fun _ s6 hh0=>?_)
  obtain⟨σ6,H6,I6,q6⟩:=hh0
  refine wpAny_passesOwn hp (thn (hb _ s6 σ6 H6 _ I6 q6) fun f s7 q7=>?_)
  have again:∀ {σ7:St} {H7:Hp},Inv X (pins++x8s fp s5.heap) σ7 H7 s7->N σ7 H7->∃ m,m<n/\∃ i σ' H',Inv X pins σ' H' s7/\tn i s7.heap/\(∀ b∈fp,H' b=none)/\W i m σ' H':=fun {σ7 H7} I7 n7=>by
   obtain⟨m',hm,w7⟩:=hN σ7 H7 n7
   refine⟨m',hm,i+1,σ7,H7,I7.unpinned,T.keep _ _ _ st5 fun b hb o e=>(I7.pin (b,o) (List.mem_append_right _ (List.mem_append_right _ (x69 hb e)))).1,fun b hb=>?_,w7⟩
   obtain⟨o,e,d⟩:=T.obj _ _ st5 b hb
   exact(I7.pin (b,o) (List.mem_append_right _ (List.mem_append_right _ (x69 hb e)))).2.1
  cases f with
  | next=>obtain⟨σ7,H7,I7,n7⟩:=q7; exact again I7 n7
  | cont=>obtain⟨σ7,H7,I7,n7⟩:=q7; exact again I7 n7
  | brk=>obtain⟨σ7,H7,I7,q7⟩:=q7; exact⟨σ7,H7,I7.unpinned,q7⟩
  | ret v=>obtain⟨x7,σ7,H7,I7,r7,q7⟩:=q7; exact⟨x7,σ7,H7,I7.unpinned,r7,q7⟩
end
noncomputable abbrev R2:=V->V->Hp->VK->Prop
noncomputable def OpR (X:Cx) (f:Value->Value->Sem Value) (r:R2):Prop:=
 ∀ (pins:List (Addr × Obj)) (s:Shared) (σ:St) (H:Hp) (x y:V) (v u:Value) (Q:VK),Inv X pins σ H s->x3g x v->x3g y u->r x y H Q->
  wpAny (model X.prog X.w) X.A (f v u) (EP X pins σ Q) X.xe s
noncomputable def UnR (X:Cx) (f:Value->Sem Value) (r:V->Hp->VK->Prop):Prop:=
 ∀ (pins:List (Addr × Obj)) (s:Shared) (σ:St) (H:Hp) (x:V) (v:Value) (Q:VK),Inv X pins σ H s->x3g x v->r x H Q->
  wpAny (model X.prog X.w) X.A (f v) (EP X pins σ Q) X.xe s
noncomputable def y13 (X:Cx) (f:Value) (r:List V->Hp->VK->Prop):Prop:=
 ∀ (pins:List (Addr × Obj)) (s:Shared) (σ:St) (H:Hp) (xs:List V) (us:List Value) (Q:VK),Inv X pins σ H s->x2h xs us->r xs H Q->
  wpAny (model X.prog X.w) X.A (call f us) (EP X pins σ Q) X.xe s
noncomputable def j2u (X:Cx) (r:V->Hp->(Bool->Hp->Prop)->Prop):Prop:=
 ∀ (pins:List (Addr × Obj)) (s:Shared) (σ:St) (H:Hp) (x:V) (v:Value) (Q:Bool->Hp->Prop),Inv X pins σ H s->x3g x v->r x H Q->
  wpAny (model X.prog X.w) X.A (truthy v) (TP X pins σ Q) X.xe s
noncomputable def tOp (r:R2) (ta tb:TE):TE:=fun σ H Q=>ta σ H fun x H1=>tb σ H1 fun y H2=>r x y H2 Q
noncomputable def tUn (r:V->Hp->VK->Prop) (ta:TE):TE:=fun σ H Q=>ta σ H fun x H1=>r x H1 Q
noncomputable def rI (C:Int->Int->Prop) (g:Int->Int->V):R2:=fun x y H Q=>∃ i j,x=.int i/\y=.int j/\C i j/\Q (g i j) H
noncomputable def rI0 (g:Int->Int->V):R2:=fun x y H Q=>∃ i j,x=.int i/\y=.int j/\Q (g i j) H
noncomputable def rU (g:Int->V):V->Hp->VK->Prop:=fun x H Q=>∃ i,x=.int i/\Q (g i) H
section
variable {X:Cx} {a b c:Expr} {ta tb tc:TE} {pos:Pos}
theorem j25 (ha:PE X a ta) (hb:PE X b tb) {pins:List (Addr × Obj)} {s:Shared} {σ:St} {H:Hp} {R:V->V->Hp->Prop} (I:Inv X pins σ H s)
  (h:ta σ H fun x H1=>tb σ H1 fun y H2=>R x y H2) {Q:Value->Shared->Prop} {f:Value->Value->Sem Value}
  (hf:∀ v u s2 x y H2,Inv X pins σ H2 s2->x3g x v->x3g y u->R x y H2->wpAny (model X.prog X.w) X.A (f v u) Q X.xe s2) :
  wpAny (model X.prog X.w) X.A (eval a X.env) (fun v s₁=>wpAny (model X.prog X.w) X.A (eval b X.env) (fun u s₂=>wpAny (model X.prog X.w) X.A (f v u) Q X.xe s₂) X.xe s₁) X.xe s:=by
 refine thn (ha pins s σ H _ I h) fun v s1 hh0=>?_
 obtain⟨x,H1,I1,r1,q1⟩:=hh0
 refine thn (hb pins s1 σ H1 _ I1 q1) fun u s2 hh0=>?_
 obtain⟨y,H2,I2,r2,q2⟩:=hh0
 exact hf v u s2 x y H2 I2 r1 r2 q2
theorem y3e {op:Operator} {r:R2} (ho:OpR X (binaryOp op) r) (ha:PE X a ta) (hb:PE X b tb):PE X (.BinOp a op b pos) (tOp r ta tb):=by
 intro pins s σ H Q I h
 exact wpAny_BinOp (j25 ha hb I h fun v u s2 x y H2 I2 rx ry q=>ho pins s2 σ H2 x y v u Q I2 rx ry q)
theorem j1l {op:UnaryOp} {r:V->Hp->VK->Prop} (ho:UnR X (unaryOp op) r) (ha:PE X a ta):PE X (.UnaryOp op a pos) (tUn r ta):=by
 intro pins s σ H Q I h
 exact UnaryOp_ (thn (ha pins s σ H _ I h) fun v s1 ⟨x,H1,I1,r1,q1⟩=>ho pins s1 σ H1 x v Q I1 r1 q1)
theorem opI {f:Value->Value->Sem Value} {C:Int->Int->Prop} {g:Int->Int->Int}
  (rule:∀ (i j:Int) (t u:Tok) (s:Shared) (Q:Value->Shared->Prop) (E:Value->Shared->Prop),C i j->Q (.int (g i j) s.toks) { s with toks:=s.toks+1 }->wpAny (model X.prog X.w) X.A (f (.int i t) (.int j u)) Q E s) :
  OpR X f (rI C fun i j=>.int (g i j)):=by
 intro pins s σ H x y v u Q I rx ry h
 obtain⟨i,j,rfl,rfl,hc,q⟩:=h
 obtain⟨t,rfl⟩:=rx
 obtain⟨t',rfl⟩:=ry
 exact rule i j t t' s _ _ hc ⟨.int (g i j),H,I.tok _,⟨_,rfl⟩,q⟩
theorem j37 {f:Value->Value->Sem Value} {g:Int->Int->Int}
  (rule:∀ (i j:Int) (t u:Tok) (s:Shared) (Q:Value->Shared->Prop) (E:Value->Shared->Prop),Q (.int (g i j) s.toks) { s with toks:=s.toks+1 }->wpAny (model X.prog X.w) X.A (f (.int i t) (.int j u)) Q E s) :
  OpR X f (rI0 fun i j=>.int (g i j)):=by
 intro pins s σ H x y v u Q I rx ry h
 obtain⟨i,j,rfl,rfl,q⟩:=h
 obtain⟨t,rfl⟩:=rx
 obtain⟨t',rfl⟩:=ry
 exact rule i j t t' s _ _ ⟨.int (g i j),H,I.tok _,⟨_,rfl⟩,q⟩
theorem j2j {f:Value->Value->Sem Value} {g:Int->Int->Bool}
  (rule:∀ (i j:Int) (t u:Tok) (s:Shared) (Q:Value->Shared->Prop) (E:Value->Shared->Prop),Q (.bool (g i j)) s->wpAny (model X.prog X.w) X.A (f (.int i t) (.int j u)) Q E s) :
  OpR X f (rI0 fun i j=>.bl (g i j)):=by
 intro pins s σ H x y v u Q I rx ry h
 obtain⟨i,j,rfl,rfl,q⟩:=h
 obtain⟨t,rfl⟩:=rx
 obtain⟨t',rfl⟩:=ry
 exact rule i j t t' s _ _ ⟨.bl (g i j),H,I,rfl,q⟩
noncomputable def j33 (i j:Int):Prop:=0<j/\j<1073741824
noncomputable def j1p (i j:Int):Prop:=(-(2 ^ 64)<i/\i<2 ^ 64)\/(-(2 ^ 64)<j/\j<2 ^ 64)
theorem j1p.ok {i j:Int} (h:j1p i j):IntMulOk i j:=by
 rcases h with⟨h1,h2⟩ | ⟨h1,h2⟩
 ·exact .of_left (intBits_le_64 h1 h2)
 ·exact .of_right (intBits_le_64 h1 h2)
theorem z78:OpR X (binaryOp .Add) (rI0 fun i j=>.int (i+j)):=j37 fun _ _ _ _ _ _ _ q=>add_int q
theorem j0g:OpR X (binaryOp .Mult) (rI j1p fun i j=>.int (i*j)):=opI fun _ _ _ _ _ _ _ hc q=>mul_int q hc.ok
theorem z58:OpR X (binaryOp .FloorDiv) (rI j33 fun i j=>.int (i / j)):=opI fun i j _ _ _ _ _ hc q=>by
 have h1:(0:Int)<j:=hc.1
 have h2:j<1073741824:=hc.2
 exact floordiv_int (by omega) (by rw[Int.fdiv_eq_ediv_of_nonneg i (by omega)]; exact q) (.inl (PyProof.noPylong_small (by omega)))
theorem j03:OpR X (binaryOp .Mod) (rI (fun _ j=>0<j) fun i j=>.int (i % j)):=opI fun i j _ _ _ _ _ hc q=>by
 have h1:(0:Int)<j:=hc
 exact mod_int' (by omega) (by rw[Int.fmod_eq_emod_of_nonneg i (by omega)]; exact q)
theorem unI {f:Value->Sem Value} {g:Int->Int}
  (rule:∀ (i:Int) (t:Tok) (s:Shared) (Q:Value->Shared->Prop) (E:Value->Shared->Prop),Q (.int (g i) s.toks) { s with toks:=s.toks+1 }->wpAny (model X.prog X.w) X.A (f (.int i t)) Q E s) :
  UnR X f (rU fun i=>.int (g i)):=by
 intro pins s σ H x v Q I rx h
 obtain⟨i,rfl,q⟩:=h
 obtain⟨t,rfl⟩:=rx
 exact rule i t s _ _ ⟨.int (g i),H,I.tok _,⟨_,rfl⟩,q⟩
theorem z99:UnR X (unaryOp .USub) (rU fun i=>.int (-i)):=unI fun _ _ _ _ _ q=>neg_int q
end
section
variable {X:Cx} {a b c:Expr} {ta tb tc:TE} {pos:Pos}
theorem z8j:OpR X (compareOp .Lt) (rI0 fun i j=>.bl (decide (i<j))):=j2j fun _ _ _ _ _ _ _ q=>lt_int q
theorem j1o:OpR X (compareOp .LtE) (rI0 fun i j=>.bl (decide (i<=j))):=j2j fun _ _ _ _ _ _ _ q=>le_int q
theorem OpR.or {f:Value->Value->Sem Value} {r r':R2} (h:OpR X f r) (h':OpR X f r'):OpR X f (fun x y H Q=>r x y H Q\/r' x y H Q):=by
 intro pins s σ H x y v u Q I rx ry q
 rcases q with q | q
 ·exact h pins s σ H x y v u Q I rx ry q
 ·exact h' pins s σ H x y v u Q I rx ry q
theorem y0c (b:Expr) {op:CmpOp} (h:op ≠ .In:=by decide) (h2:op ≠ .NotIn:=by decide):behindInMarks op b=false:=by
 have e1:(op == CmpOp.In)=false:=by cases op <;> first | rfl | exact absurd rfl h
 have e2:(op == CmpOp.NotIn)=false:=by cases op <;> first | rfl | exact absurd rfl h2
 cases b <;> simp[behindInMarks,e1,e2]
theorem y8v {op:CmpOp} {r:R2} (ho:OpR X (compareOp op) r) (ha:PE X a ta) (hb:PE X b tb) (hm:behindInMarks op b=false):PE X (.Compare a [op] [b] pos) (tOp r ta tb):=by
 intro pins s σ H Q I h
 exact wpAny_Compare1 (j25 ha hb I h fun v u s2 x y H2 I2 rx ry q=>ho pins s2 σ H2 x y v u Q I2 rx ry q) hm
noncomputable def z9x (t:TE):TT:=fun σ H Q=>t σ H fun x H'=>∃ k,x=.bl k/\Q k H'
theorem z5h {op:CmpOp} {r:R2} (ho:OpR X (compareOp op) r) (ha:PE X a ta) (hb:PE X b tb) (hm:behindInMarks op b=false):PT X (.Compare a [op] [b] pos) (z9x (tOp r ta tb)):=by
 intro pins s σ H Q I h
 refine wpAny_isTrue_Compare1 (thn (ha pins s σ H _ I h) fun v s1 ⟨x,H1,I1,r1,q1⟩=>thn (hb pins s1 σ H1 _ I1 q1) fun u s2 ⟨y,H2,I2,r2,q2⟩=>
  thn (ho pins s2 σ H2 x y v u _ I2 r1 r2 q2) fun c s3 ⟨z,H3,I3,r3,k,e,q3⟩=>?_) hm
 subst e
 cases r3
 exact wpAny_truthy_bool ⟨H3,I3,q3⟩
noncomputable def z9g (r r':R2) (ta tb tc:TE):TE:=fun σ H Q=>ta σ H fun x H1=>tb σ H1 fun y H2=>r x y H2 fun z H3=>∃ k,z=.bl k /\
 (if k=true then tc σ H3 fun w' H4=>r' y w' H4 Q else Q (.bl false) H3)
theorem z0e {op op':CmpOp} {r r':R2} (ho:OpR X (compareOp op) r) (ho':OpR X (compareOp op') r') (ha:PE X a ta) (hb:PE X b tb) (hc:PE X c tc)
  (hm:lastMarks [op,op'] [b,c]=false:=by with_unfolding_all rfl):PE X (.Compare a [op,op'] [b,c] pos) (z9g r r' ta tb tc):=by
 intro pins s σ H Q I h
 refine Compare_chain (thn (ha pins s σ H _ I h) fun v s1 ⟨x,H1,I1,r1,q1⟩=>chain_link (thn (hb pins s1 σ H1 _ I1 q1) fun u s2 ⟨y,H2,I2,r2,q2⟩=>
  thn (ho pins s2 σ H2 x y v u _ I2 r1 r2 q2) fun d s3 ⟨z,H3,I3,r3,k,e,q3⟩=>?_)) hm
 subst e
 cases r3
 refine wpAny_truthy_bool ?_
 cases k with
 | false=>exact ite_ff ⟨.bl false,H3,I3,rfl,q3⟩
 | true=>exact ite_tt (chain_last (thn (hc pins s3 σ H3 _ I3 q3) fun w' s4 ⟨z',H4,I4,r4,q4⟩=>ho' pins s4 σ H4 y z' u w' Q I4 r2 r4 q4))
noncomputable def j2i (K:PySem.W.Frag) (x:V) (H:Hp) (k:Bool):Prop:=
 match x with
 | .non=>k=false
 | .bl b=>k=b
 | .int i=>k=(i != 0)
 | .str y=>y.length<=sizeLine/\k=((y.length:Int) != 0)
 | .byt y=>y.size<=sizeLine/\k=((y.size:Int) != 0)
 | .ref p=>(∃ xs,SqL K H p xs/\k = !xs.isEmpty)\/(∃ xs,SqT K H p xs/\k = !xs.isEmpty)\/∃ kvs,H p=some (.dK kvs)/\k = !kvs.isEmpty
 | _=>False
theorem y7d {κ:Type} {kvs:List (κ × V)} {vs:List (κ × Value)} (r:KV kvs vs):(!vs.isEmpty) = !kvs.isEmpty:=by
 cases r <;> rfl
theorem y1t {xs:List V} {its:List Value} (r:x2h xs its):(!its.toArray.isEmpty) = !xs.isEmpty:=by
 cases r <;> simp
theorem y1i:(sizeLine:Nat)<2 ^ 63:=by rw[sizeLine_eq]; decide
theorem z8w:j2u X (fun x H Q=>∃ k,j2i X.K x H k/\Q k H):=by
 intro pins s σ H x v Q I rx h
 obtain⟨k,e,q⟩:=h
 have hl:=y1i
 have hs:sizeLine=16777216:=sizeLine_eq
 cases x with
 | non=>
  cases rx
  have e':k=false:=e
  subst e'
  exact truthy_none ⟨H,I,q⟩
 | bl b=>
  cases rx
  have e':k=b:=e
  subst e'
  exact wpAny_truthy_bool ⟨H,I,q⟩
 | int i=>
  obtain⟨t,rfl⟩:=rx
  have e':k=(i != 0):=e
  subst e'
  exact PySem.P.truthy_int ⟨H,I,q⟩
 | str y=>
  obtain⟨t,rfl⟩:=rx
  obtain⟨hy,e'⟩:y.length<=sizeLine/\k=((y.length:Int) != 0):=e
  subst e'
  exact PySem.P.truthy_str (by omega) ⟨H,I.tok _,q⟩
 | byt y=>
  obtain⟨t,rfl⟩:=rx
  obtain⟨hy,e'⟩:y.size<=sizeLine/\k=((y.size:Int) != 0):=e
  subst e'
  exact PySem.W.truthy_bytes (by omega) ⟨H,I.tok _,q⟩
 | ref p=>
  cases rx
  have e':(∃ xs,SqL X.K H p xs/\k = !xs.isEmpty)\/(∃ xs,SqT X.K H p xs/\k = !xs.isEmpty)\/∃ kvs,H p=some (.dK kvs)/\k = !kvs.isEmpty:=e
  rcases e' with⟨xs,hx,e'⟩ | ⟨xs,hx,e'⟩ | ⟨kvs,hx,e'⟩
  ·subst e'
   obtain⟨its,r,pl,hz⟩:=I.list hx
   have hlen:=r.length
   exact wpAny_truthy_list pl.isList (by simp only[List.size_toArray]; omega) ⟨H,I.tok _,by rw[y1t r]; exact q⟩
  ·subst e'
   obtain⟨its,r,pl,hz⟩:=I.tuple hx
   have hlen:=r.length
   exact truthy_tuple pl (by simp only[List.size_toArray]; omega) ⟨H,I.tok _,by rw[y1t r]; exact q⟩
  ·subst e'
   obtain⟨hz,hS,vs,r,m⟩:kvs.length<=sizeLine/\(p == sysModules)=false/\∃ vs,KV kvs vs/\s.heap.DictOf (x2s X.prog X.w) p vs:=I.hok p _ hx
   have hlen:kvs.length=vs.length:=Paired.length r
   exact wpAny_truthy_dict hS m (by omega) ⟨H,I.tok _,by rw[y7d r]; exact q⟩
 | _=>exact(show False from e).elim
theorem z2n (ha:PE X a ta) (he:∀ whole,isTrue a X.env whole=(do let v <- whole; standAt a.pos; holding [v] (truthy v))) :
  PT X a (fun σ H Q=>ta σ H fun x H'=>∃ k,j2i X.K x H' k/\Q k H'):=by
 intro pins s σ H Q I h
 exact isTrue_plain (thn (ha pins s σ H _ I h) fun v s1 ⟨x,H1,I1,r1,q1⟩=>z8w pins s1 σ H1 x v Q I1 r1 q1) (he _)
theorem y5k {x:V} {us:List Value} (r:x2h [x] us):∃ u,us=[u]/\x3g x u:=by
 cases r with
 | cons r1 r2=>cases r2; exact⟨_,rfl,r1⟩
theorem z8b {x y:V} {us:List Value} (r:x2h [x,y] us):∃ u w',us=[u,w']/\x3g x u/\x3g y w':=by
 cases r with
 | cons r1 r2=>
  cases r2 with
  | cons r3 r4=>cases r4; exact⟨_,_,rfl,r1,r3⟩
theorem y93 (hc:X.calm=true):y13 X (.builtin "max") (fun xs H Q=>∃ i j,xs=[.int i,.int j]/\Q (.int (if j > i then j else i)) H):=by
 intro pins s σ H xs us Q I r h
 obtain⟨i,j,rfl,q⟩:=h
 obtain⟨u,w',rfl,⟨t,rfl⟩,⟨t',rfl⟩⟩:=z8b r
 refine max_two_ints (I.ok.hd hc) fun h' tk k=>⟨_,H,I.kept k,?_,q⟩
 by_cases hj:j > i
 ·rw[if_pos hj,if_pos hj]; exact⟨_,rfl⟩
 ·rw[if_neg hj,if_neg hj]; exact⟨_,rfl⟩
end
structure ObjM (h:Heap) (x dx C:Addr) (mA:Str->Option Value):Prop where
 obj:h.get? x=some (PySem.W.instObj C dx)
 ns:h.Ns1 dx mA
 ne:dx≠x
theorem y9q {h:Heap} {dx:Addr} {mA:Str->Option Value} (n:h.Ns1 dx mA):∃ od,h.get? dx=some od/\∀ name,PySem.W.lookIn name od=some (mA name):=by
 obtain⟨o,es,ep,ho,hd,hk,_,hm⟩:=n
 refine⟨o,ho,fun name=>?_⟩
 have e:=hm name
 unfold nsFind findBy at e
 rw[<- Array.find?_toList]at e
 unfold PySem.W.lookIn
 rw[hd]
 dsimp only
 split
 ·rename_i y q
  rw[q]at e
  exact congrArg some e
 ·rename_i q
  rw[q]at e
  have a:es.toList.any (·.refKey)=false:=by
   rw[List.any_eq_false]
   intro y hy
   obtain⟨z,t,hkey⟩:=hk y (Array.mem_toList_iff.mp hy)
   simp[DictEntry.refKey,hkey]
  have a':¬ es.toList.any (·.refKey)=true:=by rw[a]; exact Bool.false_ne_true
  rw[if_neg a']
  exact congrArg some e
theorem ObjM.look {h:Heap} {x dx C:Addr} {mA:Str->Option Value} (I:ObjM h x dx C mA):∃ od,PySem.W.InstAt h x (PySem.W.instObj C dx) C (some od)/\∀ name,PySem.W.lookIn name od=some (mA name):=
 let ⟨od,ho,hl⟩:=y9q I.ns
 ⟨od,⟨I.obj,rfl,rfl,ho⟩,hl⟩
section
variable {prog:Program} {w:World} {A:Around} {E:Value->Shared->Prop} {s:Shared} {K:PySem.W.Frag} {x dx C f:Addr} {mA:Str->Option Value} {name:Str} {v:Value}
end
section
variable {P:Program} {w:World} {H H':Hp} {h h':Heap} {a C dx:Addr} {fs fs':List (Str × V)}
theorem z5d (hok:HOk P w H h) (e:H a=some (.ins C dx fs)):∃ mA,ObjM h a dx C mA/\(∀ f,z65 (fs.lookup f) (mA f))/\PySem.Within mA (fs.map (·.1))/\fs.length<=1000/\H dx=some (.own a):=by
 obtain⟨d,z,ne,ob,mA,n,r,q⟩:=(show x27 P w H h a (.ins C dx fs)from hok a _ e)
 exact⟨mA,⟨ob,n,ne⟩,r,q,z,d⟩
end
structure Cls (K:PySem.W.Frag) (C:Addr):Prop where
 pg:PySem.W.plainGet K C Str.empty=true
 hd:PySem.W.hasDictIn K C=true
 po:PySem.W.plainOver K C=true
 sa:PySem.W.findIn K (.ref C) "__setattr__" = some (some (.builtin "object.__setattr__"))
theorem Cls.get {K:PySem.W.Frag} {C:Addr} (c:Cls K C) (f:Str):PySem.W.plainGet K C f=true:=c.pg
section
variable {X:Cx} {pins:List (Addr × Obj)} {σ:St} {H:Hp} {s:Shared} {a C dx:Addr} {fs:List (Str × V)} {f:Str} {v:V} {A:Around} {E:Value->Shared->Prop}
end
section
variable {X:Cx} {pins:List (Addr × Obj)} {σ:St} {H:Hp} {s:Shared} {A:Around} {E:Value->Shared->Prop} {Q:Value->Shared->Prop} {c:Value} {b:Bool}
inductive TyOf (K:PySem.W.Frag) (H:Hp):V->Value->Prop where
 | non:TyOf K H .non (.type "NoneType")
 | bl (x:Bool):TyOf K H (.bl x) (.type "bool")
 | int (i:Int):TyOf K H (.int i) (.type "int")
 | str (x:Str):TyOf K H (.str x) (.type "str")
 | flt (x:UInt64):TyOf K H (.flt x) (.type "float")
 | lst {a:Addr} {xs:List V} (e:H a=some (.lst xs)):TyOf K H (.ref a) (.type "list")
 | frz {a:Addr} {o:Obj} {xs:List V} (e:H a=some (.frz o (.lst xs))):TyOf K H (.ref a) (.type "list")
 | tup {a:Addr} {xs:List V} (e:H a=some (.tup xs)):TyOf K H (.ref a) (.type "tuple")
 | dK {a:Addr} {kvs:List (Key × V)} (e:H a=some (.dK kvs)):TyOf K H (.ref a) (.type "dict")
 | dT {a:Addr} {kvs:List (List Key × V)} (e:H a=some (.dT kvs)):TyOf K H (.ref a) (.type "dict")
 | ins {a C dx:Addr} {fs:List (Str × V)} (e:H a=some (.ins C dx fs)) (cl:Cls K C) (ha:PySem.W.findIn K (.ref C) "__class__" = some (some (.builtin "object.__class__")))
   (hn:PySem.W.specialIn K (.builtin "object.__class__") "__get__" = some (some (.builtin "getset_descriptor.__get__"))) (htk:PySem.W.takesIn K (.builtin "object.__class__")=some true)
   (hm:PySem.W.mroIn K C (.type "object")=some true):TyOf K H (.ref a) (.ref C)
theorem x3d {x:V} {u t:Value} (I:Inv X pins σ H s) (rx:x3g x u) (ty:TyOf X.K H x t) (e:PySem.W.kitOne X.K t c=some b) (h:∀ tk,Q (.bool b) { s with toks:=tk }) :
  wpAny (model X.prog X.w) A (call (.builtin "isinstance") [u,c]) Q E s:=by
 cases ty with
 | non=>cases (show u=Value.none from rx); exact PySem.W.kia_one PySem.W.kitx_none I.kIn True.intro e (fun z=>nomatch z) h
 | bl y=>cases (show u=Value.bool y from rx); exact PySem.W.kia_one PySem.W.kitx_bool I.kIn True.intro e (fun z=>nomatch z) h
 | int i=>obtain⟨t,q⟩:=(show ∃ t,u=Value.int i t from rx); cases q; exact PySem.W.kia_one PySem.W.kitx_int I.kIn True.intro e (fun z=>nomatch z) h
 | str y=>obtain⟨t,q⟩:=(show ∃ t,u=Value.str y t from rx); cases q; exact PySem.W.kia_one PySem.W.kitx_str I.kIn True.intro e (fun z=>nomatch z) h
 | flt y=>obtain⟨t,q⟩:=(show ∃ t,u=Value.float y t from rx); cases q; exact PySem.W.kia_one PySem.W.kitx_float I.kIn True.intro e (fun z=>nomatch z) h
 | @lst a xs ea=>
  cases (show u=Value.ref a from rx)
  obtain⟨_,_,n,_,h1⟩:=(show x27 X.prog X.w H s.heap a (.lst xs)from I.hok a _ ea)
  exact PySem.W.kia_one PySem.W.kitx_list I.kIn ⟨_,h1,rfl⟩ e (fun z=>nomatch z) h
 | @frz a ob xs ea=>
  cases (show u=Value.ref a from rx)
  obtain⟨_,_,_,n,_,h1⟩:=(show x27 X.prog X.w H s.heap a (.frz ob (.lst xs))from I.hok a _ ea)
  exact PySem.W.kia_one PySem.W.kitx_list I.kIn ⟨_,h1,rfl⟩ e (fun z=>nomatch z) h
 | @tup a xs ea=>
  cases (show u=Value.ref a from rx)
  obtain⟨_,_,_,p⟩:=(show x27 X.prog X.w H s.heap a (.tup xs)from I.hok a _ ea)
  obtain⟨o,h1,h2,_⟩:=p
  exact PySem.W.kia_one PySem.W.kitx_tuple I.kIn ⟨o,h1,h2⟩ e (fun z=>nomatch z) h
 | @dK a kvs ea=>
  cases (show u=Value.ref a from rx)
  obtain⟨_,_,vs,_,p⟩:=(show x27 X.prog X.w H s.heap a (.dK kvs)from I.hok a _ ea)
  obtain⟨o,es,ep,h1,h2,_⟩:=p
  exact PySem.W.kia_one PySem.W.kitx_dict I.kIn ⟨o,h1,h2.1⟩ e (fun z=>nomatch z) h
 | @dT a kvs ea=>
  cases (show u=Value.ref a from rx)
  obtain⟨_,_,xs,_,o,es,ep,h1,h2,_⟩:=(show x27 X.prog X.w H s.heap a (.dT kvs)from I.hok a _ ea)
  exact PySem.W.kia_one PySem.W.kitx_dict I.kIn ⟨o,h1,h2.1⟩ e (fun z=>nomatch z) h
 | @ins a C dx fs ea cl ha hn htk hm=>
  cases (show u=Value.ref a from rx)
  obtain⟨mA,O,_⟩:=z5d I.hok ea
  obtain⟨od,J,_⟩:=O.look
  exact PySem.W.kia_one (PySem.W.kitx_own (cl.get _) cl.hd ha hn htk hm) I.kIn J e (fun z=>nomatch z) h
end
structure Room (k:Nat) (A:Around):Prop where
 hd:A.handled=none
 dp:A.depth+3*k+5<recursionLimit
 un:A.units+16*k+200<cLine
theorem Room.mono {j k:Nat} {A:Around} (r:Room k A) (h:j<=k):Room j A:=⟨r.hd,by have:=r.dp; omega,by have:=r.un; omega⟩
theorem Room.deeper {k:Nat} {A:Around} (r:Room (k+1) A) (env:Env):Room k (A.deeper env):=
 ⟨r.hd,by have:=r.dp; show A.depth+1+3*k+5<_; omega,by have:=r.un; show A.units+3+16*k+200<_; omega⟩
theorem Room.depth {k:Nat} {A:Around} (r:Room k A):A.depth<recursionLimit:=by have:=r.dp; omega
theorem Room.units {k:Nat} {A:Around} (r:Room k A):A.units+64<cLine:=by have:=r.un; omega
noncomputable def j2l:TA:=fun _ H Q=>Q [] H
noncomputable def z96 (ta:TE) (tr:TA):TA:=fun σ H Q=>ta σ H fun x H1=>tr σ H1 fun xs H2=>Q (x::xs) H2
section
variable {X:Cx} {e:Expr} {es:List Expr} {te:TE} {t:TA} {pos:Pos}
theorem y0s:PA X [] j2l:=fun _ _ _ _ H Q I h=>Calls.spliced_nil ⟨[],H,I,.nil,h⟩
theorem x64 (ha:PE X e te) (hr:PA X es t) (hs:starEach (e::es) X.env=(false,eval e X.env)::starEach es X.env:=by rfl):PA X (e::es) (z96 te t):=by
 intro pos pins s σ H Q I h
 rw[hs]
 show wpAny _ _ (spliced ((false,eval e X.env)::backTo pos (starEach es X.env))) _ _ s
 refine Calls.spliced_cons (thn (ha pins s σ H _ I h) fun u s1 hh0=>?_)
 obtain⟨x,H1,I1,r1,q1⟩:=hh0
 exact thn (hr pos pins s1 σ H1 _ I1 q1) fun us s2 ⟨xs,H2,I2,r2,q2⟩=>⟨x::xs,H2,I2,.cons r1 r2,q2⟩
noncomputable def j2r (t:TA):TE:=fun σ H Q=>t σ H fun xs H1=>xs.length<=sizeLine/\∀ p,H1 p=none->Q (.ref p) (upd H1 p (.tup xs))
noncomputable def j38 (t:TA):TE:=fun σ H Q=>t σ H fun xs H1=>xs.length<=sizeLine/\∀ p,H1 p=none->Q (.ref p) (upd H1 p (.lst xs))
theorem j0m {x1} (h:PA X es t):PE X (.Tuple es x1 pos) (j2r t):=by
 intro pins s σ H Q I hq
 refine wpAny_Tuple_spliced (thn (h pos pins s σ H _ I hq) fun us s1 ⟨xs,H1,I1,r,z,q⟩=>⟨by rw[<- r.length]; exact z,?_⟩)
 have hf:H1 s1.heap.objs.size=none:=I1.hok.fresh (Nat.le_refl _)
 refine⟨.ref s1.heap.objs.size,upd H1 s1.heap.objs.size (.tup xs),I1.laid (t':=s1.toks) (fun b u e=>Heap.get?_push_of_some _ e) (Nat.le_refl _) ?_,rfl,q _ hf⟩
 exact⟨z,us,r,⟨_,Heap.get?_push_size _ rfl,rfl,⟨_,rfl⟩,rfl⟩⟩
theorem j0i (h:PA X es t):PE X (.List es pos) (j38 t):=by
 intro pins s σ H Q I hq
 refine wpAny_List_spliced (thn (h pos pins s σ H _ I hq) fun us s1 ⟨xs,H1,I1,r,z,q⟩=>⟨by rw[<- r.length]; exact z,?_⟩)
 have hf:H1 s1.heap.objs.size=none:=I1.hok.fresh (Nat.le_refl _)
 refine⟨.ref s1.heap.objs.size,upd H1 s1.heap.objs.size (.lst xs),I1.laid (t':=s1.toks) (fun b u e=>Heap.get?_push_of_some _ e) (Nat.le_refl _) ?_,rfl,q _ hf⟩
 exact⟨z,us,0,r,Heap.get?_push_size _ rfl⟩
end
noncomputable abbrev Sp:=List V->Hp->VK->XK->Prop
noncomputable abbrev CXT:=List Env->Hp->Shared->XK->Value->Shared->Prop
structure Env0 (P:Program) (w:World) (K:PySem.W.Frag) (mg:Str->Option Value) (base:Heap) (A:Around) (outer:List Env) (s:Shared) (H:Hp):Prop where
 frames:A.frames=some outer
 mod:Mod K mg base
 bs:∀ b o,base.get? b=some o->s.heap.get? b=some o/\H b=none
 bsz:base.objs.size<=s.heap.objs.size
 funs:s.heap.FunFrames base outer
 frf:∀ b∈frs outer,H b=none
 hok:HOk P w H s.heap
 bare:AllBare s.gens
noncomputable def CE (outer:List Env) (P:Program) (w:World) (H:Hp) (s:Shared) (Q:VK) (u:Value) (s':Shared):Prop:=
 ∃ v H',s'.os=s.os/\AllBare s'.gens/\Un (frs outer) [] H H' s.heap s'.heap/\HOk P w H' s'.heap/\x3g v u/\Q v H'
noncomputable def CR (CX:CXT) (outer:List Env) (P:Program) (w:World) (H:Hp) (s:Shared) (Q:VK) (E:XK) (r:Result) (s':Shared):Prop:=
 match r with
 | .ok (.ret u)=>CE outer P w H s Q u s'
 | .ok _=>False
 | .error e=>CX outer H s E e s'
structure FnOk (P:Program) (w:World) (K:PySem.W.Frag) (mg:Str->Option Value) (base:Heap) (CX:CXT) (k:Nat) (f:Addr) (fd:FuncData) (ps:List Str) (sp:Sp):Prop where
 len:∀ vs H Q E,sp vs H Q E->vs.length=ps.length
 run:∀ (A:Around) (outer:List Env) (s:Shared) (H:Hp) (args:Args) (us:List Value) (vs:List V) (Q:VK) (E:XK),Room k A->Env0 P w K mg base A outer s H->BindsTo s fd args (ps.zip us)->x2h vs us->sp vs H Q E->
  codeAny (model P w) A (.call (.ref f) args) (CR CX outer P w H s Q E) s
section
variable {X:Cx} {pins:List (Addr × Obj)} {σ:St} {H:Hp} {s s':Shared}
theorem Inv.env0 (I:Inv X pins σ H s):Env0 X.prog X.w X.K X.mg X.base X.A X.stack s H:=
 ⟨I.ok.frames,I.ok.mod,I.bs,Nat.le_trans I.ok.bsz I.sz,I.stack,I.stkFree,I.hok,I.bare⟩
theorem Inv.after {Q:VK} {u:Value} (I:Inv X pins σ H s) (h:CE X.stack X.prog X.w H s Q u s'):EP X pins σ Q u s':=by
 obtain⟨v,H',os,bare,un,hok,r,q⟩:=h
 obtain⟨hh,g,d,t,os'⟩:=s'
 obtain rfl:os'=s.os:=os
 exact⟨v,H',I.call (h':=hh) (g':=g) (d':=d) (t':=t) (ch:=[]) un hok bare (fun b z=>absurd z (by simp)),r,q⟩
end
noncomputable def j11 (sp:Sp) (dvs:List V) (E:XK) (t:TA):TE:=fun σ H Q=>t σ H fun vs H1=>sp (vs++dvs) H1 Q E
noncomputable def y36 (K:PySem.W.Frag) (fd:FuncData) (ps:List Str) (ds:List Value):Prop:=
 ∀ (s:Shared) (us:List Value),K.In s.heap->(us++ds).length=ps.length->BindsTo s fd ⟨us,[]⟩ (ps.zip (us++ds))
theorem y36.all {K:PySem.W.Frag} {fd:FuncData} {ps:List Str} (h:∀ us:List Value,us.length=ps.length->bindArgs fd ⟨us,[]⟩=pure (ps.zip us)):y36 K fd ps []:=fun s us _ hl=>by
 rw[List.append_nil]at hl ⊢
 exact .of_eq (h us hl)
noncomputable def y60 (CX:CXT) (X:Cx) (E:XK):Prop:=∀ (pins:List (Addr × Obj)) (σ:St) (H:Hp) (s:Shared) (e:Value) (s':Shared),Inv X pins σ H s->CX X.stack H s E e s'->X.xe e s'
section
variable {X:Cx} {CX:CXT} {k:Nat} {f C:Addr} {fd:FuncData} {ps:List Str} {sp:Sp} {dvs:List V} {ds:List Value} {E:XK} {x m:Str} {p pos apos:Pos} {e o:Expr} {es:List Expr} {ta:TE} {t:TA}
theorem z8x {pins:List (Addr × Obj)} {σ:St} {H:Hp} {s:Shared} {Q:VK} {us:List Value} {vs:List V} (F:FnOk X.prog X.w X.K X.mg X.base CX k f fd ps sp) (hr:Room k X.A) (hb:y36 X.K fd ps ds) (hd:x2h dvs ds) (hx:y60 CX X E)
  (I:Inv X pins σ H s) (r:x2h vs us) (h:sp (vs++dvs) H Q E):wpAny (model X.prog X.w) X.A (call (.ref f) us) (EP X pins σ Q) X.xe s:=by
 have r2:x2h (vs++dvs) (us++ds):=r.append hd
 have hl:(us++ds).length=ps.length:=by rw[<- r2.length]; exact F.len _ _ _ _ h
 refine wpAny_call (codeAny_mono (F.run X.A X.stack s H ⟨us,[]⟩ (us++ds) (vs++dvs) Q E hr I.env0 (hb s us I.kIn hl) r2 h) fun r s' hq=>?_)
 cases r with
 | error e=>exact hx pins σ H s e s' I hq
 | ok fl=>
  cases fl with
  | ret u=>exact I.after hq
  | next=>exact False.elim hq
  | brk=>exact False.elim hq
  | cont=>exact False.elim hq
theorem z4w (F:FnOk X.prog X.w X.K X.mg X.base CX k f fd ps sp) (hr:Room k X.A) (hg:Gl X x) (hm:X.mg x=some (.ref f)) (hk:PySem.W.keepIn X.K (.ref f)=true) (hb:y36 X.K fd ps ds) (hd:x2h dvs ds) (hx:y60 CX X E)
  (ha:PA X (e::es) t) (hdb:(x == ("__debug__":Str))=false:=by decide) (he:starEach (e::es) X.env=(false,eval e X.env)::starEach es X.env:=by rfl) (hpl:(backTo pos (starEach es X.env)).any (·.1)=false:=by rfl) :
  PE X (.Call (.Name x p) (e::es) [] pos) (j11 sp dvs E t):=by
 intro pins s σ H Q I h
 refine wpAny_Call_Name_kw (y9c I hg hm ?_ hdb)
 refine PySem.W.callWith_K (h₀:=X.base) I.ok.mod.kin hk (thn (ha pos pins s σ H _ I h) fun us s1 ⟨vs,H1,I1,r,q⟩=>⟨I1.kIn,?_⟩) he hpl
 exact z8x F hr hb hd hx I1 r q
end
structure FnScope (N P:List Str) (sc:Scope):Prop where
 kind:sc.kind=.function
 co:sc.isCoroutine=false
 gen:sc.isGenerator=false
 nd:N.Nodup
 pre:N.take P.length=P
 par:∀ x∈P,sc.names.lookup x=some .local\/sc.names.lookup x=some .cell
 nofree:∀ y∈sc.names,y.2 ≠ .free
theorem y3w {kindOf:Str->Option NameKind} {x:Str}:∀ {binds:List (Str × Value)} {m:Str->Option Value},(∀ v,(x,v) ∉ binds)->bindL kindOf binds m x=m x
 | [],_,_=>rfl
 | (n,v)::r,m,h=>by
  unfold bindL
  rw[y3w fun w hw=>h w (List.mem_cons_of_mem _ hw)]
  split
  ·have:x≠n:=by rintro rfl; exact h v List.mem_cons_self
   simp[this]
  ·rfl
theorem y3l {kindOf:Str->Option NameKind} {x:Str}:∀ {binds:List (Str × Value)} {m:Str->Option Value},(∀ v,(x,v) ∉ binds)->bindC kindOf binds m x=m x
 | [],_,_=>rfl
 | (n,v)::r,m,h=>by
  unfold bindC
  rw[y3l fun w hw=>h w (List.mem_cons_of_mem _ hw)]
  split
  ·rfl
  ·have:x≠n:=by rintro rfl; exact h v List.mem_cons_self
   simp[this]
theorem y4c {kindOf:Str->Option NameKind} {x:Str} {v:Value}:∀ {P:List Str} {vs:List Value} {i:Nat} {m:Str->Option Value},P.Nodup->P[i]? = some x->vs[i]? = some v->kindOf x=some .local->
  bindL kindOf (P.zip vs) m x=some v
 | [],_,_,_,_,h,_,_=>by simp at h
 | _::_,[],_,_,_,_,h,_=>by simp at h
 | p::P,w::vs,0,m,nd,h1,h2,hk=>by
  simp at h1 h2; subst h1; subst h2
  show bindL kindOf ((p,w)::P.zip vs) m p=_
  unfold bindL
  rw[y3w fun v hv=>(List.nodup_cons.mp nd).1 (List.of_mem_zip hv).1,if_pos hk]
  simp
 | p::P,w::vs,i+1,m,nd,h1,h2,hk=>by
  show bindL kindOf ((p,w)::P.zip vs) m x=_
  unfold bindL
  exact y4c (i:=i) (List.nodup_cons.mp nd).2 (by simpa using h1) (by simpa using h2) hk
theorem y32 {kindOf:Str->Option NameKind} {x:Str} {v:Value}:∀ {P:List Str} {vs:List Value} {i:Nat} {m:Str->Option Value},P.Nodup->P[i]? = some x->vs[i]? = some v->kindOf x≠some .local->
  bindC kindOf (P.zip vs) m x=some v
 | [],_,_,_,_,h,_,_=>by simp at h
 | _::_,[],_,_,_,_,h,_=>by simp at h
 | p::P,w::vs,0,m,nd,h1,h2,hk=>by
  simp at h1 h2; subst h1; subst h2
  show bindC kindOf ((p,w)::P.zip vs) m p=_
  unfold bindC
  rw[y3l fun v hv=>(List.nodup_cons.mp nd).1 (List.of_mem_zip hv).1,if_neg hk]
  simp
 | p::P,w::vs,i+1,m,nd,h1,h2,hk=>by
  show bindC kindOf ((p,w)::P.zip vs) m x=_
  unfold bindC
  exact y32 (i:=i) (List.nodup_cons.mp nd).2 (by simpa using h1) (by simpa using h2) hk
noncomputable def y0w (N:List Str) (vs:List V):St:=vs.map some++List.replicate (N.length-vs.length) none
noncomputable def y2o (CX:CXT) (P:Program) (w:World) (K:PySem.W.Frag) (mg:Str->Option Value) (base:Heap) (N:List Str) (qual:Str) (scope:Scope) (f:Addr) (cd:Value) (A:Around) (outer:List Env) (s:Shared) (H:Hp) (E:XK):Cx where
 prog:=P
 w:=w
 K:=K
 mg:=mg
 base:=base
 A:=A.deeper (envOfC qual scope s.heap.objs.size f cd)
 N:=N
 s₀:=s
 H₀:=H
 env:=envOfC qual scope s.heap.objs.size f cd
 outer:=outer
 stack:=envOfC qual scope s.heap.objs.size f cd::outer
 ex:=[]
 calm:=true
 fn:=fun _=>true
 pn:=[]
 xe:=fun e s'=>wpAny (model P w) (A.deeper (envOfC qual scope s.heap.objs.size f cd)) (leaving (envOfC qual scope s.heap.objs.size f cd) e) (fun _ s''=>CX outer H s E e s'') (fun e' s''=>CX outer H s E e' s'') s'
theorem y6n {sc:Scope} {n:Nat} {x:Str} (h:sc.names.lookup x=some .cell):∃ c,(cellsFrom n sc.names []).lookup x=some c:=by
 have q:=PySem.W.cellsFrom_some sc.names n [] (.inl h)
 exact Option.isSome_iff_exists.mp q
theorem y8d {CX:CXT} {P:Program} {w:World} {K:PySem.W.Frag} {mg:Str->Option Value} {base:Heap} {N ps:List Str} {qual:Str} {scope:Scope} {f:Addr} {cd:Value} {A:Around} {outer:List Env} {s s1:Shared} {H:Hp} {E:XK} {us:List Value} {vs:List V}
  (S:FnScope N ps scope) (hd:A.handled=none) (e0:Env0 P w K mg base A outer s H) (hl:vs.length=ps.length) (r:x2h vs us)
  (x:InCallC s s.heap.objs.size (bindL (envOfC qual scope s.heap.objs.size f cd).kindOf (ps.zip us) fun _=>none) (cellsFrom (s.heap.objs.size+1) scope.names []) (bindC (envOfC qual scope s.heap.objs.size f cd).kindOf (ps.zip us) fun _=>none) s1) :
  Inv (y2o CX P w K mg base N qual scope f cd A outer s H E) [] (y0w N vs) H s1:=by
 have hpl:ps.length<=N.length:=by have:=congrArg List.length S.pre; rw[List.length_take]at this; omega
 obtain⟨h1,tk,rfl,hk⟩:=x.done
 have noA:∀ b:Addr,b ∉ (y2o CX P w K mg base N qual scope f cd A outer s H E).ex:=fun b z=>absurd (show b∈([]:List Addr)from z) (by simp)
 refine⟨⟨e0.mod,S.kind,rfl,rfl,Nat.le_refl _,fun y z c h1 h2=>?_,fun y hy=>?_,fun y c _ h=>?_,fun _=>hd,Around.frames_deeper e0.frames,.inr ⟨rfl,rfl⟩,fun b z=>absurd z (noA b),e0.bs,e0.bsz,fun b _ _=>noA b,fun b z=>absurd z (noA b),e0.funs,e0.frf⟩,
  rfl,e0.bare,Un.kept hk,⟨_,x.toInCall.ns,fun i y v h1 h2 h3=>?_⟩,fun y c h=>⟨_,x.cell y c h⟩,e0.hok.fresh (Nat.le_refl _),fun y c h=>?_,fun p hp=>absurd (show p∈([]:List (Addr × Obj))from hp) (by simp),e0.hok.kept hk,?_⟩
 ·exact name_of_addr x.apart (PySem.mem_of_lookup h1) (PySem.mem_of_lookup h2)
 ·have hy:scope.names.lookup y=some .cell\/scope.names.lookup y=some .free:=hy
  rcases hy with hy | hy
  ·exact y6n hy
  ·exact absurd rfl (S.nofree _ (PySem.mem_of_lookup hy))
 ·exact Nat.le_of_lt (x.above y c (PySem.mem_of_lookup h))
 ·have hi:i<vs.length:=by
   unfold y0w at h2
   by_cases hi:i<vs.length
   ·exact hi
   ·rw[List.getElem?_append_right (by simpa using hi)]at h2
    rw[List.getElem?_replicate]at h2
    split at h2 <;> cases h2
  have ha:vs[i]? = some v:=by
   unfold y0w at h2
   rw[List.getElem?_append_left (by simpa using hi),List.getElem?_map]at h2
   cases e:vs[i]? with
   | none=>rw[e]at h2; cases h2
   | some a=>rw[e]at h2; cases h2; rfl
  obtain⟨u,hu,rv⟩:=r.get ha
  have hp:ps[i]? = some y:=by
   rw[<- S.pre,List.getElem?_take_of_lt (by omega)]; exact h1
  have ndP:ps.Nodup:=by rw[<- S.pre]; exact S.nd.sublist (List.take_sublist _ _)
  refine⟨u,rv,?_⟩
  rcases S.par y (List.mem_of_getElem? hp)with k | k
  ·exact .inl ⟨k,y4c ndP hp hu k⟩
  ·obtain⟨c,e⟩:=y6n (n:=s.heap.objs.size+1) k
   refine .inr ⟨.inl k,c,e,?_⟩
   have q:=x.cell y c e
   rw[y32 ndP hp hu (by show scope.names.lookup y≠_; rw[k]; decide)]at q
   exact q
 ·exact e0.hok.fresh (Nat.le_of_lt (x.above y c (PySem.mem_of_lookup h)))
 ·unfold y0w
  show _=N.length
  rw[List.length_append,List.length_map,List.length_replicate]
  omega
theorem z70 {CX:CXT} {P:Program} {w:World} {K:PySem.W.Frag} {mg:Str->Option Value} {base:Heap} {k:Nat} {f:Addr} {name qual:Str} {params:Arguments} {body:List Stmt} {scope:Scope} {dV kV doc pm cdv ct oc:Value} {an od:Option Addr}
  {osl:Array (Option Value)} {N ps:List Str} {sp:Sp} (lk:K.lookup f=some ⟨oc,od,.func (PySem.W.fnOf name qual params body scope dV kV doc pm an cdv ct),osl⟩) (hcd:PySem.W.codeIn K cdv qual=true) (S:FnScope N ps scope)
  (len:∀ vs H Q E,sp vs H Q E->vs.length=ps.length)
  (hbody:∀ (A:Around) (outer:List Env) (s:Shared) (H:Hp) (vs:List V) (Q:VK) (E:XK),Room k (A.deeper (envOfC qual scope s.heap.objs.size f cdv))->sp vs H Q E->
    ∃ t,PSs (y2o CX P w K mg base N qual scope f cdv A outer s H E) body t/\t { nx:=fun _ H'=>Q .non H',rt:=Q } (y0w N vs) H) :
  FnOk P w K mg base CX (k+1) f (PySem.W.fnOf name qual params body scope dV kV doc pm an cdv ct) ps sp:=by
 refine⟨len,fun A outer s H args us vs Q E hr e0 hb r hsp=>?_⟩
 have hl:=len _ _ _ _ hsp
 have KX:K.In s.heap:=e0.mod.kin.keeps fun b o e=>(e0.bs b o e).1
 have lim:s.heap.NoLimit:=e0.mod.nolimit.keeps fun b o e=>(e0.bs b o e).1
 have hkind:∀ y∈ps.zip us,scope.names.lookup y.1=some .local\/(scope.names.lookup y.1=some .cell/\((cellsFrom (s.heap.objs.size+1) scope.names []).lookup y.1).isSome=true):=fun⟨n,v⟩ hy=>by
  rcases S.par n (List.of_mem_zip hy).1 with q | q
  ·exact .inl q
  ·exact .inr ⟨q,PySem.W.cellsFrom_some _ _ _ (.inl q)⟩
 refine codeAny_call_function hr.depth (KX _ _ lk) rfl S.co S.gen rfl (PySem.W.codeRec_of KX hcd) (hb _ _ _ _ ?_)
 refine wpAny_newFunctionEnv_cells S.kind hkind fun env he s1 x=>?_
 subst he
 refine⟨lim.keeps x.toInCall.keep,codeAny_func ?_⟩
 obtain⟨t,ht,hq⟩:=hbody A outer s H vs Q E (hr.deeper _) hsp
 have I:Inv (y2o CX P w K mg base N qual scope f cdv A outer s H E) [] (y0w N vs) H s1:=y8d S hr.hd e0 hl r x
 refine wpAny_mono (ht [] s1 (y0w N vs) H _ I hq) (fun fl s' hs=>?_) fun e s' hs=>hs
 have fin:∀ {σ':St} {H':Hp} {v:V} {u:Value},Inv (y2o CX P w K mg base N qual scope f cdv A outer s H E) [] σ' H' s'->x3g v u->Q v H'->CE outer P w H s Q u s':=
  fun {σ' H' v u} J rv q=>⟨v,H',J.os,J.bare,J.base,J.hok,rv,q⟩
 cases fl with
 | ret u=>
  obtain⟨v,σ',H',J,rv,q⟩:=hs
  exact fin J rv q
 | next=>
  obtain⟨σ',H',J,q⟩:=hs
  exact fin (v:=V.non) (u:=Value.none) J rfl q
 | brk=>
  obtain⟨_,_,_,q⟩:=hs
  exact False.elim q
 | cont=>
  obtain⟨_,_,_,q⟩:=hs
  exact False.elim q
section
variable {X:Cx} {x:Str} {p pos:Pos} {e:Expr} {es:List Expr} {t:TA} {id T:String} {r:List V->Hp->VK->Prop}
noncomputable def tCB (r:List V->Hp->VK->Prop) (t:TA):TE:=fun σ H Q=>t σ H fun vs H1=>r vs H1 Q
theorem x67 (hc:y13 X (.builtin id) r) (hg:Gl X x) (hm:X.mg x=none) (hv:bootBuiltins x=some (.builtin id)) (ha:PA X (e::es) t) (hn:x ≠ "__name__":=by decide) (hdb:(x == ("__debug__":Str))=false:=by decide)
  (he:starEach (e::es) X.env=(false,eval e X.env)::starEach es X.env:=by rfl) (hpl:(backTo pos (starEach es X.env)).any (·.1)=false:=by rfl):PE X (.Call (.Name x p) (e::es) [] pos) (tCB r t):=by
 intro pins s σ H Q I h
 refine wpAny_Call_Name_kw (y1g I hg hm hv ?_ hn hdb)
 exact PyProof.Rows.callWith_builtin1 (thn (ha pos pins s σ H _ I h) fun us s1 ⟨vs,H1,I1,r1,q1⟩=>hc pins s1 σ H1 vs us Q I1 r1 q1) he hpl
theorem x61 (hc:y13 X (.type T) r) (hg:Gl X x) (hm:X.mg x=none) (hv:bootBuiltins x=some (.type T)) (ha:PA X (e::es) t) (hn:x ≠ "__name__":=by decide) (hdb:(x == ("__debug__":Str))=false:=by decide)
  (he:starEach (e::es) X.env=(false,eval e X.env)::starEach es X.env:=by rfl) (hpl:(backTo pos (starEach es X.env)).any (·.1)=false:=by rfl):PE X (.Call (.Name x p) (e::es) [] pos) (tCB r t):=by
 intro pins s σ H Q I h
 refine wpAny_Call_Name_kw (y1g I hg hm hv ?_ hn hdb)
 exact PyProof.Rows.callWith_type1 (thn (ha pos pins s σ H _ I h) fun us s1 ⟨vs,H1,I1,r1,q1⟩=>hc pins s1 σ H1 vs us Q I1 r1 q1) he hpl
end
end L2
namespace HT
open PySem PyProof.Rows
section
open PySem.SeqAt
open PySem.AutoSeq1 (wpAny_loadPart')
open PySem.MeetsSeq PySem.MeetsSeq2 PySem.MeetsSeq3
end
section
variable {prog:Program} {w:World} {A:Around} {E:Value->Shared->Prop} {s:Shared}
theorem j20 {t b:Addr} {vs ws:List Value} {Q:Value->Shared->Prop} (ht:IsTup s.heap t vs.toArray) (hb:IsTup s.heap b ws.toArray) (hv:vs ≠ [])
  (h1:ws=[]->Q (.ref t) s) (h2:ws ≠ []->Q (.ref s.heap.objs.size) { s with heap:=s.heap.push { cls:=.type "tuple",data:=.seq (vs++ws).toArray } })
  (hsz:vs.length+ws.length<=sizeLine):wpAny (model prog w) A (binaryOp .Add (.ref t) (.ref b)) Q E s:=by
 obtain⟨⟨cls,dd,data,sl⟩,ho,hc,n,hd⟩:=id ht
 obtain⟨⟨cls2,dd2,data2,sl2⟩,ho2,hc2,n2,hd2⟩:=id hb
 simp only at hc hd hc2 hd2
 subst hc hd hc2 hd2
 have e:vs.toArray++ws.toArray=(vs++ws).toArray:=by simp
 by_cases hw:ws=[]
 ·exact concat_meets ⟨_,ho,rfl⟩ ⟨_,ho2,rfl⟩ noFill_tuple_add seq_tuple_add PySem.F.slot_tuple_add PySem.F.entry_tuple_add (PySem.F.args_tuple_add_2 _ _)
   (tuple_addW1 t b vs.toArray ws.toArray n n2 dd dd2 sl sl2 (by simpa using hv) (by simp[hw])) ⟨ho,ho2,h1 hw⟩
 ·refine concat_meets ⟨_,ho,rfl⟩ ⟨_,ho2,rfl⟩ noFill_tuple_add seq_tuple_add PySem.F.slot_tuple_add PySem.F.entry_tuple_add (PySem.F.args_tuple_add_2 _ _)
   (tuple_addW2 t b vs.toArray ws.toArray n n2 dd dd2 sl sl2 (by simpa using hv) (by simpa using hw) (by rw[List.size_toArray,List.size_toArray]; exact hsz)) ⟨ho,ho2,?_⟩
  rw[e]
  exact h2 hw
noncomputable def sIx (n d:Nat):Option Int->Nat
 | none=>d
 | some v=>if v<0 then(v+(n:Int)).toNat else min v.toNat n
theorem z8g (n d:Nat) (hd:d<=n) (o:Option Int):sIx n d o<=n:=by
 cases o with
 | none=>exact hd
 | some v=>
  show(if v<0 then(v+(n:Int)).toNat else min v.toNat n)<=n
  by_cases hv:v<0
  ·rw[if_pos hv]; omega
  ·rw[if_neg hv]; exact Nat.min_le_right _ _
theorem y8m (v:Int) (n d:Nat):(if v<0 then max (v+(n:Int)) 0 else min v (n:Int))=((sIx n d (some v):Nat):Int):=by
 show(if v<0 then max (v+(n:Int)) 0 else min v (n:Int))=(((if v<0 then(v+(n:Int)).toNat else min v.toNat n):Nat):Int)
 by_cases hv:v<0
 ·simp only[if_pos hv]; omega
 ·simp only[if_neg hv]; omega
theorem y75 (lo hi:Option Int) (n:Nat):Builtin.Slice.sliceAdjust lo hi 1 (n:Int)=(((sIx n 0 lo:Nat):Int),((sIx n n hi:Nat):Int)):=by
 have h1:¬ ((1:Int)<0):=by omega
 unfold Builtin.Slice.sliceAdjust
 simp only[h1,if_false]
 refine Prod.ext ?_ ?_
 ·cases lo with
  | none=>rfl
  | some v=>exact y8m v n 0
 ·cases hi with
  | none=>rfl
  | some v=>exact y8m v n n
theorem y72 (i j:Nat):Builtin.Slice.slicePlaces (i:Int) (j:Int) 1=j-i:=by
 unfold Builtin.Slice.slicePlaces
 have h1:(1:Int) > 0:=by omega
 simp only[h1,if_true,Int.ediv_one]
 split <;> omega
theorem y1e {v:Value} {o:Option Int} {Q:Option Int->Shared->Prop} (p:IsPart v o) (h:Q o s):wpAny (model prog w) A (Builtin.Slice.slicePartIndex v) Q E s:=by
 cases p with
 | none=>exact slicePart_none h
 | int i t=>exact slicePart_int h
theorem x9f {sl:Addr} {vl vu:Value} {lo hi:Option Int} {n:Nat} {Q:Int × Int × Nat->Shared->Prop} (hs:s.heap.IsSliceOf sl vl vu .none) (pl:IsPart vl lo) (pu:IsPart vu hi)
  (h:Q (((sIx n 0 lo:Nat):Int),1,sIx n n hi-sIx n 0 lo) s):wpAny (model prog w) A (Builtin.Slice.sliceApplied (.ref sl) (pure (n:Int))) Q E s:=by
 obtain⟨os,hos,hcs,hds⟩:=id hs
 unfold Builtin.Slice.sliceApplied Builtin.Slice.sliceFields
 refine wpAny_bind (wpAny_bind (wpAny_field hos hds (x:=vl) rfl (wpAny_bind (wpAny_field hos hds (x:=vu) rfl (wpAny_bind (wpAny_field hos hds (x:=.none) rfl (wpAny_pure ?_)))))))
 refine wpAny_bind (slicePart_none ?_)
 show wpAny _ _ (if((1:Int) == 0)=true then _ else _) _ _ s
 rw[if_neg (by decide)]
 refine wpAny_bind (y1e pl (wpAny_bind (y1e pu (wpAny_bind (wpAny_pure ?_)))))
 show wpAny _ _ (match Builtin.Slice.sliceAdjust lo hi 1 (n:Int)with | (lo,hi)=>pure (lo,(1:Int),Builtin.Slice.slicePlaces lo hi 1)) _ _ s
 rw[y75 lo hi n]
 show wpAny _ _ (pure (((sIx n 0 lo:Nat):Int),(1:Int),Builtin.Slice.slicePlaces ((sIx n 0 lo:Nat):Int) ((sIx n n hi:Nat):Int) 1)) _ _ s
 rw[y72]
 exact wpAny_pure h
theorem z07 (xs:Array Value) (i k:Nat):((List.range k).filterMap fun(m:Nat)=>xs[((i:Int)+(m:Int)*1).toNat]?).toArray=((xs.toList.drop i).take k).toArray:=by
 have e:(fun(m:Nat)=>xs[((i:Int)+(m:Int)*1).toNat]?)=fun m=>xs[i+m]?:=by
  funext m
  have:((i:Int)+(m:Int)*1).toNat=i+m:=by omega
  rw[this]
 rw[e]
 have:=pick_run xs i k
 rw[List.filterMap_map]at this
 have e2:((fun x=>xs[x]?) ∘ fun x=>i+x)=fun m=>xs[i+m]?:=rfl
 rw[e2]at this
 rw[this]
theorem y6s {t sl:Addr} {items:Array Value} {vl vu:Value} {lo hi:Option Int} {Q:Value->Shared->Prop} (ht:IsTup s.heap t items) (hs:s.heap.IsSliceOf sl vl vu .none) (pl:IsPart vl lo) (pu:IsPart vu hi)
  (hw:¬ (sIx items.size 0 lo=0/\sIx items.size items.size hi=items.size))
  (h:Q (.ref s.heap.objs.size) { s with heap:=s.heap.push { cls:=.type "tuple",data:=.seq ((items.toList.drop (sIx items.size 0 lo)).take (sIx items.size items.size hi-sIx items.size 0 lo)).toArray } })
  (hsz:items.size<=sizeLine):wpAny (model prog w) A (getItem (.ref t) (.ref sl)) Q E s:=by
 have htake:sizeOk (.seq ((items.toList.drop (sIx items.size 0 lo)).take (sIx items.size items.size hi-sIx items.size 0 lo)).toArray):=by
  show((items.toList.drop (sIx items.size 0 lo)).take (sIx items.size items.size hi-sIx items.size 0 lo)).toArray.size<=sizeLine
  rw[List.size_toArray,List.length_take,List.length_drop,Array.length_toList]
  omega
 have hj:sIx items.size items.size hi<=items.size:=z8g _ _ (Nat.le_refl _) hi
 obtain⟨os,hos,hcs,hds⟩:=id hs
 have hTs:s.TypeIs (.ref sl) "slice":=⟨os,hos,hcs⟩
 unfold getItem
 try with_reducible refine wpAny_holding ?_
 first | refine wpAny_bind (wpAny_pure ?_) | skip
 refine wpAny_bind (wpAny_sequenceKey ht.typeIs (by decide) ?_)
 refine wpAny_bind (wpAny_callSpecial?_slot (name:=Str.ofString "__getitem__") ht.typeIs PyProof.Rows.slot_tuple_getitem
  (wpAny_call_entry PyProof.Rows.slot_tuple_getitem ht.typeIs entry_tuple_getitem ?_ (args_tuple_getitem _ _)))
 show wpAny _ _ (Builtin.Tuple.tupleItemsOf (.ref t) >>= _) _ _ s
 refine wpAny_bind (tupleItemsOf_ ht ?_)
 refine wpAny_bind (wpAny_typeOf hTs ?_)
 rw[if_pos (by decide)]
 refine wpAny_bind (x9f hs pl pu ?_)
 have hno:¬ ((((sIx items.size 0 lo:Nat):Int) == 0 && (1:Int) == 1 && (sIx items.size items.size hi-sIx items.size 0 lo) == items.size)=true):=by
  intro q
  rw[Bool.and_eq_true,Bool.and_eq_true]at q
  have q1:((sIx items.size 0 lo:Nat):Int)=0:=eq_of_beq q.1.1
  have q2:sIx items.size items.size hi-sIx items.size 0 lo=items.size:=eq_of_beq q.2
  exact hw ⟨by omega,by omega⟩
 show wpAny _ _ (if(((sIx items.size 0 lo:Nat):Int) == 0 && (1:Int) == 1 && (sIx items.size items.size hi-sIx items.size 0 lo) == items.size)=true then _ else _) _ _ s
 rw[if_neg hno,z07]
 first
  | exact wpAny_bind (m:=Builtin.Tuple.tupleExact _) (wpAny_newObj_type (wpAny_pure ⟨_,rfl,wpAny_pure h⟩) htake)
  | exact wpAny_bind (m:=Builtin.Tuple.tupleExact _) (wpAny_newObj_type (wpAny_bind (wpAny_pure (wpAny_pure ⟨_,rfl,wpAny_pure h⟩))) htake)
  | exact wpAny_bind (wpAny_bind (m:=Builtin.Tuple.tupleExact _) (wpAny_newObj_type (wpAny_pure (wpAny_pure ⟨_,rfl,wpAny_pure h⟩)) htake))
  | exact wpAny_bind (wpAny_bind (m:=Builtin.Tuple.tupleExact _) (wpAny_newObj_type (wpAny_pure ⟨_,rfl,wpAny_pure h⟩) htake))
end
end HT
namespace L2
open PySem PySem.Spec PyProof.Rows
noncomputable abbrev TO:=St->Hp->(Option Int->Hp->Prop)->Prop
noncomputable def PO (X:Cx) (e:Option Expr) (t:TO):Prop:=
 ∀ (pins:List (Addr × Obj)) (s:Shared) (σ:St) (H:Hp) (Q:Option Int->Hp->Prop),Inv X pins σ H s->t σ H Q->
  wpAny (model X.prog X.w) X.A (evalPart e X.env) (fun u s'=>∃ o H',Inv X pins σ H' s'/\IsPart u o/\Q o H') X.xe s
noncomputable def z40:TO:=fun _ H Q=>Q none H
noncomputable def j1w (t:TE):TO:=fun σ H Q=>t σ H fun x H1=>∃ i,x=.int i/\Q (some i) H1
section
variable {X:Cx} {e:Expr} {te:TE} {lo hi:Option Expr} {tl th:TO} {pos p2:Pos}
theorem z3y:PO X none z40:=by
 intro pins s σ H Q I h
 rw[evalPart_none]
 exact wpAny_pure ⟨none,H,I,.none,h⟩
theorem z6h (h:PE X e te):PO X (some e) (j1w te):=by
 intro pins s σ H Q I hw
 rw[evalPart_some]
 refine thn (h pins s σ H _ I hw) fun u s1 hh0=>?_
 obtain⟨x,H1,I1,r1,q1⟩:=hh0
 obtain⟨i,rfl,q⟩:=q1
 obtain⟨t,rfl⟩:=r1
 exact⟨some i,H1,I1,.int i t,q⟩
noncomputable def SlR (X:Cx) (r:V->Option Int->Option Int->Hp->VK->Prop):Prop:=
 ∀ (pins:List (Addr × Obj)) (s:Shared) (σ:St) (H:Hp) (x:V) (v vl vu:Value) (lo hi:Option Int) (sl:Addr) (Q:VK),Inv X pins σ H s->x3g x v->s.heap.IsSliceOf sl vl vu .none->IsPart vl lo->IsPart vu hi->r x lo hi H Q->
  ∃ T id,typeLookup (.type T) "__getitem__" = pure (some (.builtin id))/\s.TypeIs v T/\wpAny (model X.prog X.w) X.A (getItem v (.ref sl)) (EP X pins σ Q) X.xe s
theorem SlR.or {r r':V->Option Int->Option Int->Hp->VK->Prop} (h:SlR X r) (h':SlR X r'):SlR X (fun x lo hi H Q=>r x lo hi H Q\/r' x lo hi H Q):=by
 intro pins s σ H x v vl vu lo hi sl Q I rx hs pl pu q
 rcases q with q | q
 ·exact h pins s σ H x v vl vu lo hi sl Q I rx hs pl pu q
 ·exact h' pins s σ H x v vl vu lo hi sl Q I rx hs pl pu q
noncomputable def tSl (r:V->Option Int->Option Int->Hp->VK->Prop) (te:TE) (tl th:TO):TE:=fun σ H Q=>te σ H fun x H1=>tl σ H1 fun l H2=>th σ H2 fun u H3=>r x l u H3 Q
theorem z23 {r:V->Option Int->Option Int->Hp->VK->Prop} (hr:SlR X r) (he:PE X e te) (hl:PO X lo tl) (hu:PO X hi th):PE X (.Subscript e (.Slice lo hi none p2) pos) (tSl r te tl th):=by
 intro pins s σ H Q I h
 refine Subscript_ (thn (he pins s σ H _ I h) fun v s1 hh0=>?_)
 obtain⟨x,H1,I1,r1,q1⟩:=hh0
 refine wpAny_Slice (thn (hl pins s1 σ H1 _ I1 q1) fun vl s2 ⟨l,H2,I2,pl,q2⟩=>thn (hu pins s2 σ H2 _ I2 q2) fun vu s3 hh0=>?_)
 obtain⟨u,H3,I3,pu,q3⟩:=hh0
 rw[evalPart_none]
 refine wpAny_pure ?_
 have I4:Inv X pins σ H3 { s3 with heap:=s3.heap.push { cls:=.type "slice",data:=.fields #[vl,vu,.none] } }:=I3.kept (t':=s3.toks) fun b ob q=>Heap.get?_push_of_some _ q
 obtain⟨T,id,hT,ht,hg⟩:=hr pins { s3 with heap:=s3.heap.push { cls:=.type "slice",data:=.fields #[vl,vu,.none] } } σ H3 x v vl vu l u s3.heap.objs.size Q I4 r1 (Heap.IsSliceOf.new ..) pl pu q3
 show wpAny (model X.prog X.w) X.A (subscriptTail e (.Slice lo hi none p2) v (.ref s3.heap.objs.size)) (EP X pins σ Q) X.xe { s3 with heap:=s3.heap.push { cls:=.type "slice",data:=.fields #[vl,vu,.none] } }
 exact tail_any (ops:=[.ref s3.heap.objs.size,v]) ht hT hg (by with_unfolding_all rfl)
noncomputable def z32 (xs:List V) (lo hi:Option Int):List V:=(xs.drop (HT.sIx xs.length 0 lo)).take (HT.sIx xs.length xs.length hi-HT.sIx xs.length 0 lo)
theorem y0l (xs:List V) (lo hi:Option Int):(z32 xs lo hi).length<=xs.length:=by
 unfold z32
 rw[List.length_take,List.length_drop]
 omega
noncomputable def j3b (K:PySem.W.Frag):V->Option Int->Option Int->Hp->VK->Prop:=fun x lo hi H Q=>∃ a xs,x=.ref a/\SqT K H a xs /\
 ¬ (HT.sIx xs.length 0 lo=0/\HT.sIx xs.length xs.length hi=xs.length)/\∀ p,H p=none->Q (.ref p) (upd H p (.tup (z32 xs lo hi)))
theorem j00:SlR X (j3b X.K):=by
 intro pins s σ H x v vl vu lo hi sl Q I rx hs pl pu h
 obtain⟨a,xs,rfl,hx,hw,q⟩:=h
 cases rx
 obtain⟨its,r,ht,hz⟩:=I.tuple hx
 have hlen:its.toArray.size=xs.length:=by rw[List.size_toArray]; exact r.length.symm
 refine⟨"tuple",_,PyProof.Rows.slot_tuple_getitem.lookup,ht.typeIs,?_⟩
 refine HT.y6s ht hs pl pu (by rw[hlen]; exact hw) ?_ (by rw[hlen]; exact hz)
 rw[hlen]
 refine⟨.ref s.heap.objs.size,_,I.laid (t':=s.toks) (o:=.tup (z32 xs lo hi)) (fun b ob q=>Heap.get?_push_of_some _ q) (Nat.le_refl _) ?_,rfl,q _ (I.hok.fresh (Nat.le_refl _))⟩
 exact⟨Nat.le_trans (y0l xs lo hi) hz,_,(r.drop (HT.sIx xs.length 0 lo)).take (HT.sIx xs.length xs.length hi-HT.sIx xs.length 0 lo),x4t.new _ _⟩
noncomputable def j26 (K:PySem.W.Frag):R2:=fun x y H Q=>∃ a b xs ys,x=.ref a/\y=.ref b/\SqT K H a xs/\SqT K H b ys/\xs ≠ []/\xs.length+ys.length<=sizeLine /\
 (ys=[]->Q (.ref a) H)/\(ys ≠ []->∀ p,H p=none->Q (.ref p) (upd H p (.tup (xs++ys))))
theorem x2h.nil_iff {xs:List V} {us:List Value} (r:x2h xs us):us=[] ↔ xs=[]:=by
 cases r with
 | nil=>simp
 | cons _ _=>simp
theorem z5f:OpR X (binaryOp .Add) (j26 X.K):=by
 intro pins s σ H x y v u Q I rx ry h
 obtain⟨a,b,xs,ys,rfl,rfl,ha,hb,hx,hz,q1,q2⟩:=h
 cases rx
 cases ry
 obtain⟨its,r1,p1,_⟩:=I.tuple ha
 obtain⟨its2,r2,p2,_⟩:=I.tuple hb
 refine HT.j20 p1 p2 (fun z=>hx (r1.nil_iff.mp z)) (fun z=>⟨.ref a,H,I,rfl,q1 (r2.nil_iff.mp z)⟩) (fun z=>?_) (by rw[<- r1.length,<- r2.length]; exact hz)
 refine⟨.ref s.heap.objs.size,_,I.laid (t':=s.toks) (o:=.tup (xs++ys)) (fun b ob q=>Heap.get?_push_of_some _ q) (Nat.le_refl _) ?_,rfl,q2 (fun w=>z (r2.nil_iff.mpr w)) _ (I.hok.fresh (Nat.le_refl _))⟩
 exact⟨by rw[List.length_append]; exact hz,_,r1.append r2,x4t.new _ _⟩
end
noncomputable def ixN (n:Nat) (i:Int):Option Nat:=if 0<=i then(if i<n then some i.toNat else none)else if -(n:Int)<=i then some (i+n).toNat else none
noncomputable def atI {α:Type} (xs:List α) (i:Int):Option α:=(ixN xs.length i).bind fun j=>xs[j]?
theorem y56 {n:Nat} {i:Int} {j:Nat} (h:ixN n i=some j):seqIndex? i n=some j/\j<n /\ -(n:Int)<=i/\i<n:=by
 unfold ixN at h
 by_cases h0:0<=i
 ·rw[if_pos h0]at h
  by_cases h1:i<n
  ·rw[if_pos h1]at h
   have e:i.toNat=j:=Option.some.inj h
   exact⟨by rw[seqIndex_of h0 h1,e],by omega,by omega,h1⟩
  ·rw[if_neg h1]at h; cases h
 ·rw[if_neg h0]at h
  by_cases h1:-(n:Int)<=i
  ·rw[if_pos h1]at h
   have e:(i+n).toNat=j:=Option.some.inj h
   exact⟨by rw[seqIndex_neg (by omega) h1,e],by omega,h1,by omega⟩
  ·rw[if_neg h1]at h; cases h
theorem y5i {α:Type} {xs:List α} {i:Int} {v:α} (h:atI xs i=some v):∃ j,seqIndex? i xs.length=some j/\xs[j]? = some v/\j<xs.length /\ -(xs.length:Int)<=i/\i<xs.length:=by
 unfold atI at h
 cases e:ixN xs.length i with
 | none=>rw[e]at h; cases h
 | some j=>
  rw[e]at h
  obtain⟨h1,h2,h3,h4⟩:=y56 e
  exact⟨j,h1,h,h2,h3,h4⟩
noncomputable def x49 (b:Expr):Prop:=∀ o i,subscripted b false o i=operate [o,i] (getItem o i)
noncomputable def IxR (X:Cx) (r:R2):Prop:=
 ∀ (value slice:Expr) (pins:List (Addr × Obj)) (s:Shared) (σ:St) (H:Hp) (x y:V) (v u:Value) (Q:VK),Inv X pins σ H s->x3g x v->x3g y u->r x y H Q->
  subscripted slice false v u=operate [v,u] (getItem v u)->wpAny (model X.prog X.w) X.A (subscriptTail value slice v u) (EP X pins σ Q) X.xe s
noncomputable def MtR (X:Cx) (id:String) (r:V->List V->Hp->VK->Prop):Prop:=
 ∀ (pins:List (Addr × Obj)) (s:Shared) (σ:St) (H:Hp) (x:V) (xs:List V) (v:Value) (us:List Value) (Q:VK),Inv X pins σ H s->x3g x v->x2h xs us->r x xs H Q->
  wpAny (model X.prog X.w) X.A (call (.builtin id) (v::us)) (EP X pins σ Q) X.xe s
section
variable {X:Cx} {a b:Expr} {ta tb:TE} {pos:Pos}
theorem IxR.or {r r':R2} (h:IxR X r) (h':IxR X r'):IxR X (fun x y H Q=>r x y H Q\/r' x y H Q):=by
 intro value slice pins s σ H x y v u Q I rx ry q hs
 rcases q with q | q
 ·exact h value slice pins s σ H x y v u Q I rx ry q hs
 ·exact h' value slice pins s σ H x y v u Q I rx ry q hs
theorem y9a {r:R2} (hr:IxR X r) (ha:PE X a ta) (hb:PE X b tb) (hs:x49 b):PE X (.Subscript a b pos) (tOp r ta tb):=by
 intro pins s σ H Q I h
 exact Subscript_ (j25 ha hb I h fun v u s2 x y H2 I2 rx ry q=>hr a b pins s2 σ H2 x y v u Q I2 rx ry q (hs _ _))
noncomputable def j2o (K:PySem.W.Frag):R2:=fun x y H Q=>∃ p xs i v,x=.ref p/\y=.int i/\SqL K H p xs/\atI xs i=some v/\Q v H
noncomputable def j2k (K:PySem.W.Frag):R2:=fun x y H Q=>∃ p xs i v,x=.ref p/\y=.int i/\SqT K H p xs/\atI xs i=some v/\Q v H
noncomputable def j2m:R2:=fun x y H Q=>∃ z i c,x=.str z/\y=.int i/\z.length<=sizeLine/\atI z.cps.toList i=some c/\Q (.str ⟨#[c]⟩) H
theorem z3t:IxR X (j2o X.K):=by
 intro value slice pins s σ H x y v u Q I rx ry h hs
 obtain⟨p,xs,i,z,rfl,rfl,hq,he,q⟩:=h
 cases rx
 obtain⟨t,rfl⟩:=ry
 obtain⟨its,r,pl,hz⟩:=I.list hq
 obtain⟨j,h1,h2,h3,h4,h5⟩:=y5i he
 obtain⟨w,ew,rw'⟩:=r.get h2
 have hl:=r.length
 have hn:=y1i
 have fin:EP X pins σ Q w s:=⟨z,H,I,rw',q⟩
 by_cases h0:0<=i
 ·have hj:i.toNat=j:=by
   rw[seqIndex_of h0 h5]at h1
   exact Option.some.inj h1
  exact item_listR pl.isList h0 (by omega) (by rw[hj]; simpa using ew) fin hs
 ·have hj:(i+(its.toArray.size:Int)).toNat=j:=by
   rw[seqIndex_neg (by omega) h4]at h1
   rw[List.size_toArray,<- hl]
   exact Option.some.inj h1
  exact subscriptTail_builtinR (x:=w) pl.isList.typeIs slot_list_getitem.lookup
   (wpAny_getItem_list_neg (Q:=fun r s'=>r=w/\EP X pins σ Q r s') pl.isList (by omega) (by rw[List.size_toArray] <;> omega) (by omega) (by rw[hj]; simpa using ew) ⟨rfl,fin⟩) hs
theorem z8e:IxR X (j2k X.K):=by
 intro value slice pins s σ H x y v u Q I rx ry h hs
 obtain⟨p,xs,i,z,rfl,rfl,hq,he,q⟩:=h
 cases rx
 obtain⟨t,rfl⟩:=ry
 obtain⟨its,r,pl,hz⟩:=I.tuple hq
 obtain⟨j,h1,h2,h3,h4,h5⟩:=y5i he
 obtain⟨w,ew,rw'⟩:=r.get h2
 have hl:=r.length
 have hn:=y1i
 have fin:EP X pins σ Q w s:=⟨z,H,I,rw',q⟩
 exact subscriptTail_builtinR (x:=w) pl.typeIs slot_tuple_getitem.lookup
  (getItem_tuple (j:=j) (Q:=fun r s'=>r=w/\EP X pins σ Q r s') pl (by omega) (by omega) (by rw[List.size_toArray,<- hl]; exact h1) (by simpa using ew) ⟨rfl,fin⟩) hs
theorem z8l:IxR X j2m:=by
 intro value slice pins s σ H x y v u Q I rx ry h hs
 obtain⟨z,i,c,rfl,rfl,hz,he,q⟩:=h
 obtain⟨t,rfl⟩:=rx
 obtain⟨t',rfl⟩:=ry
 obtain⟨j,h1,h2,h3,h4,h5⟩:=y5i he
 have hl:z.cps.toList.length=z.length:=by simp[Str.length]
 rw[hl]at h1 h4 h5
 have hn:=y1i
 exact tail_any (typeIs_str s z t) slot_str_getitem.lookup (getItem_str (c:=c) (by
  have e1:decide (i < -(2 ^ 63:Int))=false:=decide_eq_false (by omega)
  have e2:decide (i ≥ 2 ^ 63)=false:=decide_eq_false (by omega)
  rw[e1,e2,Bool.or_false]) (by rw[h1]; simpa using h2) ⟨.str ⟨#[c]⟩,H,I.tok _,⟨_,rfl⟩,q⟩) hs
noncomputable def rIx (K:PySem.W.Frag):R2:=fun x y H Q=>j2o K x y H Q\/j2k K x y H Q\/j2m x y H Q
theorem y4j:IxR X (rIx X.K):=z3t.or (z8e.or z8l)
theorem y71 (its:List Value) (n j:Nat) (u:Value):Obj.mapSeq (·.setIfInBounds j u) { cls:=.type "list",data:=.seq its.toArray n }={ cls:=.type "list",data:=.seq (its.set j u).toArray n }:=by
 simp[Obj.mapSeq]
theorem Inv.lst {pins:List (Addr × Obj)} {σ:St} {H:Hp} {s:Shared} {p:Addr} {xs:List V} (I:Inv X pins σ H s) (h:H p=some (.lst xs)) :
  ∃ (its:List Value) (n:Nat),x2h xs its/\s.heap.get? p=some { cls:=.type "list",data:=.seq its.toArray n }/\xs.length<=sizeLine:=by
 obtain⟨z,its,n,r,e⟩:=I.hok p _ h
 exact⟨its,n,r,e,z⟩
theorem Inv.lstUpd {pins:List (Addr × Obj)} {σ:St} {H:Hp} {s:Shared} {p:Addr} {xs ys:List V} {its its':List Value} {n n':Nat} {f:Obj->Obj} (I:Inv X pins σ H s) (h:H p=some (.lst xs))
  (ho:s.heap.get? p=some { cls:=.type "list",data:=.seq its.toArray n }) (hf:f { cls:=.type "list",data:=.seq its.toArray n }={ cls:=.type "list",data:=.seq its'.toArray n' }) (r:x2h ys its') (hz:ys.length<=sizeLine) (t:Nat) :
  Inv X pins σ (upd H p (.lst ys)) { s with heap:=s.heap.update p f,toks:=t }:=by
 have e:(s.heap.update p f).get? p=some { cls:=.type "list",data:=.seq its'.toArray n' }:=by
  rw[Heap.get?_update_self f ho (by rw[hf] <;> rfl),hf]
 refine I.write (x:=p) (e:=p) (by rw[h]; trivial) (.inl rfl) (fun b u hb q=>(Heap.get?_update_other _ _ (Ne.symm hb)).trans q) ⟨_,e⟩ ?_
 exact⟨hz,its',n',r,e⟩
noncomputable def j19:V->V->V->Hp->(Hp->Prop)->Prop:=fun o i v H Q=>∃ p xs k j,o=.ref p/\i=.int k/\H p=some (.lst xs)/\ixN xs.length k=some j/\Q (upd H p (.lst (xs.set j v)))
theorem y6f:j2f X j19:=by
 intro pins s σ H o i v ov iv u Q I ro ri rv h
 obtain⟨p,xs,k,j,rfl,rfl,hp,hj,q⟩:=h
 cases ro
 obtain⟨t,rfl⟩:=ri
 obtain⟨its,n,r,ho,hz⟩:=I.lst hp
 obtain⟨h1,h2,h3,h4⟩:=y56 hj
 have hl:=r.length
 have hn:=y1i
 have I':Inv X pins σ (upd H p (.lst (xs.set j v))) { s with heap:=s.heap.update p (Obj.mapSeq (·.setIfInBounds j u)) }:=
  I.lstUpd hp ho (y71 its n j u) (r.set rv j) (by rw[List.length_set]; exact hz) s.toks
 by_cases h0:0<=k
 ·have hk:k.toNat=j:=by
   rw[seqIndex_of h0 h4]at h1
   exact Option.some.inj h1
  exact PySem.W.ki_setAt ho h0 (by omega) (by rw[List.size_toArray,<- hl]; exact h4) (by rw[hk]; exact⟨_,I',q⟩)
 ·have hk:(k+(its.toArray.size:Int)).toNat=j:=by
   rw[seqIndex_neg (by omega) h3]at h1
   rw[List.size_toArray,<- hl]
   exact Option.some.inj h1
  exact PySem.W.ki_setBack ho (by omega) (by rw[List.size_toArray,<- hl]; exact h3) (by omega) (by rw[hk]; exact⟨_,I',q⟩)
theorem y3g (lo hi:Option Int) (n:Nat):(sliceBounds lo hi none n).1=((HT.sIx n 0 lo:Nat):Int)/\(sliceBounds lo hi none n).2.1=((HT.sIx n n hi:Nat):Int)/\(sliceBounds lo hi none n).2.2=1:=by
 refine⟨?_,?_,rfl⟩
 ·cases lo with
  | none=>simp[sliceBounds,HT.sIx]
  | some i=>
   simp only[sliceBounds,HT.sIx,Option.getD_none,show(1:Int) > 0 by decide,if_true]
   by_cases h:i<0
   ·simp only[h,if_true] <;> omega
   ·simp only[h,if_false] <;> omega
 ·cases hi with
  | none=>simp[sliceBounds,HT.sIx]
  | some i=>
   simp only[sliceBounds,HT.sIx,Option.getD_none,show(1:Int) > 0 by decide,if_true]
   by_cases h:i<0
   ·simp only[h,if_true] <;> omega
   ·simp only[h,if_false] <;> omega
theorem y26 (its:List Value) (lo hi:Option Int):slicePick its.toArray lo hi none=((its.drop (HT.sIx its.length 0 lo)).take (HT.sIx its.length its.length hi-HT.sIx its.length 0 lo)).toArray:=by
 obtain⟨h1,h2,h3⟩:=y3g lo hi its.toArray.size
 unfold slicePick
 rw[h1,h2,h3]
 simp only[sliceRange_one,pick_run,List.size_toArray] <;> rfl
noncomputable def j3g (K:PySem.W.Frag):V->Option Int->Option Int->Hp->VK->Prop:=fun x lo hi H Q=>∃ a xs,x=.ref a/\SqL K H a xs/\∀ p,H p=none->Q (.ref p) (upd H p (.lst (z32 xs lo hi)))
theorem j27:SlR X (j3g X.K):=by
 intro pins s σ H x v vl vu lo hi sl Q I rx hs pl pu h
 obtain⟨a,xs,rfl,hx,q⟩:=h
 cases rx
 obtain⟨its,r,ht,hz⟩:=I.list hx
 have hlen:=r.length
 refine⟨"list",_,slot_list_getitem.lookup,ht.isList.typeIs,?_⟩
 refine wpAny_getItem_list_slice ht.isList hs pl pu .none (by simp) ?_ (by rw[List.size_toArray] <;> omega)
 rw[y26,<- hlen]
 refine⟨.ref s.heap.objs.size,_,I.laid (t':=s.toks) (o:=.lst (z32 xs lo hi)) (fun b ob q=>Heap.get?_push_of_some _ q) (Nat.le_refl _) ?_,rfl,q _ (I.hok.fresh (Nat.le_refl _))⟩
 exact⟨Nat.le_trans (y0l xs lo hi) hz,_,0,(r.drop (HT.sIx xs.length 0 lo)).take (HT.sIx xs.length xs.length hi-HT.sIx xs.length 0 lo),Heap.get?_push_size _ rfl⟩
theorem x5v:y13 X (.builtin "len") (fun xs H Q=>∃ p ys,xs=[.ref p]/\(SqL X.K H p ys\/SqT X.K H p ys)/\Q (.int ys.length) H):=by
 intro pins s σ H xs us Q I r h
 obtain⟨p,ys,rfl,hq,q⟩:=h
 obtain⟨u,rfl,rx⟩:=y5k r
 cases rx
 have hn:=y1i
 rcases hq with hq | hq
 ·obtain⟨its,r',pl,hz⟩:=I.list hq
  have hlen:=r'.length
  exact Calls.call_len_list pl.isList (by simp only[List.size_toArray] <;> omega) ⟨.int ys.length,H,I.tok _,⟨s.toks+1,by rw[List.size_toArray,hlen]⟩,q⟩
 ·obtain⟨its,r',pl,hz⟩:=I.tuple hq
  have hlen:=r'.length
  exact len_tuple pl (by simp only[List.size_toArray] <;> omega) ⟨.int ys.length,H,I.tok _,⟨s.toks+1,by rw[List.size_toArray,hlen]⟩,q⟩
theorem x95:y13 X (.type "list") (fun xs H Q=>∃ p ys,xs=[.ref p]/\(SqL X.K H p ys\/SqT X.K H p ys)/\∀ l,H l=none->Q (.ref l) (upd H l (.lst ys))):=by
 intro pins s σ H xs us Q I r h
 obtain⟨p,ys,rfl,hq,q⟩:=h
 obtain⟨u,rfl,rx⟩:=y5k r
 cases rx
 have fin:∀ (its:List Value),x2h ys its->ys.length<=sizeLine->∀ (h':Heap) (c':Nat),(∀ b o',s.heap.get? b=some o'->h'.get? b=some o')->
   h'.get? s.heap.objs.size=some { cls:=.type "list",dict:=none,data:=.seq its.toArray c',slots:=#[] }->EP X pins σ Q (.ref s.heap.objs.size) { s with heap:=h' }:=fun its r' hz h' c' kp e=>
  ⟨.ref s.heap.objs.size,_,I.laid (t':=s.toks) kp (Nat.le_refl _) (show x27 X.prog X.w _ h' _ (.lst ys)from⟨hz,its,c',r',e⟩),rfl,q _ (I.hok.fresh (Nat.le_refl _))⟩
 rcases hq with hq | hq
 ·obtain⟨its,r',pl,hz⟩:=I.list hq
  have hlen:=r'.length
  obtain⟨o,ho,hc,n,hd⟩:=pl.isList
  exact call_list_seq p (.inl rfl) ho hc hd (fun h' c' kp e=>fin its r' hz h' c' kp e) (by simp only[List.size_toArray] <;> omega)
 ·obtain⟨its,r',pl,hz⟩:=I.tuple hq
  have hlen:=r'.length
  obtain⟨o,ho,hc,n,hd⟩:=pl
  exact call_list_seq p (.inr rfl) ho hc hd (fun h' c' kp e=>fin its r' hz h' c' kp e) (by simp only[List.size_toArray] <;> omega)
theorem y2d:y13 X (.type "tuple") (fun xs H Q=>∃ p ys,xs=[.ref p]/\((SqL X.K H p ys/\∀ l,H l=none->Q (.ref l) (upd H l (.tup ys)))\/(SqT X.K H p ys/\Q (.ref p) H))):=by
 intro pins s σ H xs us Q I r h
 obtain⟨p,ys,rfl,h⟩:=h
 obtain⟨u,rfl,rx⟩:=y5k r
 cases rx
 rcases h with⟨hq,q⟩ | ⟨hq,q⟩
 ·obtain⟨its,r',pl,hz⟩:=I.list hq
  have hlen:=r'.length
  refine call_tuple_list pl.isList (fun h' kp=>?_) (by simp only[List.size_toArray] <;> omega)
  have I1:Inv X pins σ H { s with heap:=h' }:=I.kept (t':=s.toks) kp
  have I2:Inv X pins σ (upd H h'.objs.size (.tup ys)) { s with heap:=h'.push { cls:=.type "tuple",data:=.seq its.toArray } }:=
   I1.laid (t':=s.toks) (fun b o e=>Heap.get?_push_of_some _ e) (Nat.le_refl _) (show x27 X.prog X.w _ _ _ (.tup ys)from⟨hz,its,r',x4t.new _ _⟩)
  exact⟨.ref h'.objs.size,_,I2,rfl,q _ (I1.hok.fresh (Nat.le_refl _))⟩
 ·obtain⟨its,r',pl,hz⟩:=I.tuple hq
  exact call_tuple_same pl ⟨.ref p,H,I,rfl,q⟩
noncomputable def tyV (K:PySem.W.Frag) (T:String) (x:V) (H:Hp):Prop:=match x with
 | .str _=>T = "str"
 | .int _=>T = "int"
 | .ref p=>(T = "list" /\ ∃ xs,SqL K H p xs)\/(T = "tuple" /\ ((∃ o,K.lookup p=some o/\o.cls=.type "tuple" /\ o.dict=none)\/∃ xs,H p=some (.tup xs))) \/
   (T = "dict" /\ ((∃ kvs,H p=some (.dK kvs))\/∃ kvs,H p=some (.dT kvs)))\/(T = "set" /\ ∃ S n,H p=some (.set S n))
 | _=>False
theorem z7i {pins:List (Addr × Obj)} {σ:St} {H:Hp} {s:Shared} {T:String} {x:V} {v:Value} (I:Inv X pins σ H s) (r:x3g x v) (ty:tyV X.K T x H) :
  s.TypeIs v T/\∀ a,v=.ref a->∃ ob,s.heap.get? a=some ob/\ob.dict=none:=by
 cases x with
 | str z=>
  obtain⟨t,rfl⟩:=r
  cases (show T = "str" from ty)
  exact⟨typeIs_str s z t,fun _ e=>nomatch e⟩
 | int i=>
  obtain⟨t,rfl⟩:=r
  cases (show T = "int" from ty)
  exact⟨typeIs_int s i t,fun _ e=>nomatch e⟩
 | ref p=>
  cases r
  rcases ty with⟨rfl,xs,hq⟩ | ⟨rfl,⟨o,hk,hc,hd⟩ | ⟨xs,hk⟩⟩ | ⟨rfl,hk⟩ | ⟨rfl,S,n,hk⟩
  ·obtain⟨its,_,pl,_⟩:=I.list hq
   refine⟨pl.isList.typeIs,fun a e=>?_⟩
   cases e
   obtain⟨o,n,e,c,hd,_⟩:=pl
   exact⟨o,e,hd⟩
  ·refine⟨⟨o,I.kIn p o hk,hc⟩,fun a e=>?_⟩
   cases e
   exact⟨o,I.kIn _ o hk,hd⟩
  ·obtain⟨_,its,_,o,e,c,_,hd⟩:=(show x27 X.prog X.w H s.heap p (.tup xs)from I.hok p _ hk)
   refine⟨⟨o,e,c⟩,fun a e2=>?_⟩
   cases e2
   exact⟨o,e,hd⟩
  ·have z:∃ o,s.heap.get? p=some o/\o.ExactDict:=by
    rcases hk with⟨kvs,hk⟩ | ⟨kvs,hk⟩
    ·obtain⟨_,_,_,_,o,_,_,e,ex,_⟩:=I.hok p _ hk
     exact⟨o,e,ex⟩
    ·obtain⟨_,_,_,_,o,_,_,e,ex,_⟩:=I.hok p _ hk
     exact⟨o,e,ex⟩
   obtain⟨o,e,ex⟩:=z
   refine⟨⟨o,e,ex.1⟩,fun a e2=>?_⟩
   cases e2
   exact⟨o,e,ex.2.1⟩
  ·obtain⟨o,_,_,_,e,ex,_⟩:=I.hok p _ hk
   refine⟨⟨o,e,ex.1⟩,fun a e2=>?_⟩
   cases e2
   exact⟨o,e,ex.2.1⟩
 | _=>exact False.elim ty
noncomputable def tBM (K:PySem.W.Frag) (T:String) (r:V->List V->Hp->VK->Prop) (to:TE) (t:TA):TE:=fun σ H Q=>to σ H fun x H1=>tyV K T x H1/\t σ H1 fun xs H2=>r x xs H2 Q
variable {o e:Expr} {es:List Expr} {to:TE} {t:TA} {name:Str} {apos cpos:Pos} {T id:String} {r:V->List V->Hp->VK->Prop}
theorem z5t (pa:PlainAttrs T) (slot:Slot T name id) (hty:typeOf (.builtin id)=pure (.type "method_descriptor")) (hm:MtR X id r) (ho:PE X o to) (ha:PA X (e::es) t)
  (hbase:attributeBase o name X.env (eval o X.env)=eval o X.env:=by rfl)
  (hfew:((backTo cpos (starEach (e::es) X.env)).all (fun x=>!x.1) && (backToKw cpos (keywordEach [] X.env)).all (fun x=>x.1.isSome)
    && decide ((e::es).length+([]:List Keyword).length+(if([]:List Keyword).isEmpty then 0 else 1)<30))=true:=by rfl)
  (hline:(apos.endLine == cpos.line)=true:=by rfl) (hs:starEach (e::es) X.env=(false,eval e X.env)::starEach es X.env:=by rfl) (hplain:(backTo cpos (starEach es X.env)).any (·.1)=false:=by rfl) :
  PE X (.Call (.Attribute o name apos) (e::es) [] cpos) (tBM X.K T r to t):=by
 intro pins s σ H Q I h
 refine wpAny_Call_method_late hbase hfew hline rfl (thn (ho pins s σ H _ I h) fun v s1 hh0=>?_)
 obtain⟨x,H1,I1,r1,ty,q1⟩:=hh0
 obtain⟨h1,h2⟩:=z7i I1 r1 ty
 refine⟨T,id,pa,slot,hty,h1,h2,?_⟩
 have hA:=ha cpos pins s1 σ H1 _ I1 q1
 rw[hs]at hA ⊢
 refine Calls.callWith_builtin (by show(false || (backTo cpos (starEach es X.env)).any (·.1))=false; rw[hplain] <;> rfl) (Calls.evalArgs_plain ?_)
 exact thn hA fun us s2 ⟨vs,H2,I2,r2,q2⟩=>hm pins s2 σ H2 x vs v us Q I2 r1 r2 q2
end
noncomputable def MtM (X:Cx) (id:String) (r:V->List V->Hp->VK->Prop):Prop:=
 ∀ (pins:List (Addr × Obj)) (s:Shared) (σ:St) (H:Hp) (x:V) (xs:List V) (v:Value) (us:List Value) (Q:VK),Inv X pins σ H s->x3g x v->x2h xs us->r x xs H Q->
  wpAny (model X.prog X.w) X.A (call (.builtin id) (v::us)) (EP X pins σ Q) X.xe s
theorem x2h.one:∀ {x:V} {us:List Value},x2h [x] us->∃ u,us=[u]/\x3g x u
 | _,_,.cons r .nil=>⟨_,rfl,r⟩
theorem x2h.eraseIdx:∀ {xs:List V} {us:List Value} (i:Nat),x2h xs us->x2h (xs.eraseIdx i) (us.eraseIdx i)
 | _,_,_,.nil=>.nil
 | _,_,0,.cons _ t=>t
 | _,_,i+1,.cons r t=>.cons r (x2h.eraseIdx i t)
theorem x2h.rep {xs:List V} {us:List Value} (h:x2h xs us):∀ k:Nat,x2h (List.replicate k xs).flatten (List.replicate k us).flatten
 | 0=>.nil
 | k+1=>by
  rw[List.replicate_succ,List.replicate_succ,List.flatten_cons,List.flatten_cons]
  exact x2h.append h (x2h.rep h k)
theorem y44 {α:Type}:∀ (l:List α) (i:Nat),(l.eraseIdx i).length<=l.length
 | [],_=>Nat.le_refl _
 | _::_,0=>Nat.le_succ _
 | _::r,i+1=>Nat.succ_le_succ (y44 r i)
theorem y06 (its:List Value):∀ (k:Nat) (acc:List Value),
  List.foldl (fun x1 x2=>x1++x2) acc.toArray (List.replicate k its.toArray)=(acc++(List.replicate k its).flatten).toArray
 | 0,acc=>by simp
 | k+1,acc=>by
  have e:acc.toArray++its.toArray=(acc++its).toArray:=by simp
  have e2:(acc++its)++(List.replicate k its).flatten=acc++(List.replicate (k+1) its).flatten:=by
   rw[List.replicate_succ,List.flatten_cons,List.append_assoc]
  rw[<- e2,<- y06 its k (acc++its),<- e,List.replicate_succ,List.foldl_cons]
section
variable {X:Cx} {pins:List (Addr × Obj)} {σ:St} {H:Hp} {s:Shared} {l b:Addr} {xs ys zs:List V}
theorem Inv.lset {its its':List Value} {n:Nat} {f:Array Value->Array Value} {t':Nat} (I:Inv X pins σ H s) (hH:H l=some (.lst xs))
  (e:s.heap.get? l=some { cls:=.type "list",data:=.seq its.toArray n }) (hf:f its.toArray=its'.toArray) (hv:x2h ys its') (hz:ys.length<=sizeLine) :
  Inv X pins σ (upd H l (.lst ys)) { s with heap:=s.heap.update l (Obj.mapSeq f),toks:=t' }:=by
 have q:=PySem.IsL.update e f
 rw[hf]at q
 refine I.write (x:=l) (e:=l) (by rw[hH]; exact trivial) (.inl rfl) (fun b' u hb hu=>(Heap.get?_update_other s.heap (Obj.mapSeq f) (Ne.symm hb)).trans hu) ⟨_,q⟩ ?_
 exact⟨hz,its',_,hv,q⟩
theorem Inv.lnew {its:List Value} {t':Nat} (I:Inv X pins σ H s) (hv:x2h ys its) (hz:ys.length<=sizeLine) :
  Inv X pins σ (upd H s.heap.objs.size (.lst ys)) { s with heap:=s.heap.push { cls:=.type "list",data:=.seq its.toArray },toks:=t' }:=
 I.laid (fun _ _ q=>Heap.get?_push_of_some _ q) (Nat.le_refl _) ⟨hz,its,0,hv,Heap.get?_push_size _ rfl⟩
theorem Inv.fresh (I:Inv X pins σ H s):H s.heap.objs.size=none:=I.hok.fresh (Nat.le_refl _)
theorem Inv.lstM (I:Inv X pins σ H s) (hH:H l=some (.lst xs)):xs.length<=sizeLine/\∃ (its:List Value) (n:Nat),x2h xs its/\xs.length=its.length/\s.heap.get? l=some { cls:=.type "list",data:=.seq its.toArray n }:=by
 obtain⟨z,its,n,r,e⟩:=I.hok l _ hH
 exact⟨z,its,n,r,r.length,e⟩
theorem z1w {n:Nat} (h:n<=sizeLine):Builtin.List.listTooLong n=false:=by
 unfold Builtin.List.listTooLong
 exact decide_eq_false (by omega)
end
section
variable {X:Cx}
noncomputable def z43:V->List V->Hp->VK->Prop:=fun x vs H Q=>∃ l xs y,x=.ref l/\vs=[y]/\H l=some (.lst xs)/\xs.length<sizeLine/\Q .non (upd H l (.lst (xs++[y])))
theorem y8y:MtM X "list.append" z43:=by
 intro pins s σ H x vs v us Q I rx rv h
 obtain⟨l,xs,y,rfl,rfl,hH,hz,q⟩:=h
 cases rx
 obtain⟨u,rfl,ru⟩:=rv.one
 obtain⟨z,its,n,r,hl,e⟩:=I.lstM hH
 refine call_meets F.slot_list_append ⟨_,e,rfl⟩ F.entry_list_append (F.args_list_append_2 _ _) (PySem.list_append l its.toArray n u (by rw[List.size_toArray]; omega)) ⟨e,?_⟩
 refine⟨.non,_,I.lset (its':=its++[u]) hH e (by simp) (r.append (.cons ru .nil)) ?_,rfl,q⟩
 rw[List.length_append,List.length_singleton]
 omega
noncomputable def z7w:V->List V->Hp->VK->Prop:=fun x vs H Q=>∃ l xs i k y,x=.ref l/\vs=[.int i]/\H l=some (.lst xs) /\ -(2 ^ 63)<=i/\i<2 ^ 63/\seqIndex? i xs.length=some k/\xs[k]? = some y/\Q y (upd H l (.lst (xs.eraseIdx k)))
theorem z1h:MtM X "list.pop" z7w:=by
 intro pins s σ H x vs v us Q I rx rv h
 obtain⟨l,xs,i,k,y,rfl,rfl,hH,h1,h2,hk,hy,q⟩:=h
 cases rx
 obtain⟨u,rfl,ru⟩:=rv.one
 obtain⟨t,rfl⟩:=ru
 obtain⟨z,its,n,r,hl,e⟩:=I.lstM hH
 obtain⟨w,hw,rw'⟩:=r.get hy
 refine call_meets F.slot_list_pop ⟨_,e,rfl⟩ F.entry_list_pop (F.args_list_pop_2 _ _)
  (MeetsSeq.list_pop_at l its.toArray n i t k w (fitsIndex_both h1 h2) (by rw[List.size_toArray,<- hl]; exact hk) (by rw[<- Array.getElem?_toList]; exact hw) (by rw[List.size_toArray]; omega)) ⟨e,?_⟩
 refine⟨y,_,I.lset (its':=its.eraseIdx k) hH e ?_ (r.eraseIdx k) ?_,rw',q⟩
 ·show its.toArray.eraseIdxIfInBounds k=(its.eraseIdx k).toArray
  rw[List.eraseIdxIfInBounds_toArray]
 ·have:=y44 xs k
  omega
noncomputable def j3e:R2:=fun x y H Q=>∃ l k xs,x=.ref l/\y=.int k/\H l=some (.lst xs) /\ -(2 ^ 63)<=k/\k<2 ^ 63/\xs.length*k.toNat<=sizeLine /\
 ∀ p,H p=none->Q (.ref p) (upd H p (.lst (List.replicate k.toNat xs).flatten))
theorem y4m {α:Type} (xs:List α) (k:Nat):(List.replicate k xs).flatten.length=k*xs.length:=by
 induction k with
 | zero=>simp
 | succ k ih=>rw[List.replicate_succ,List.flatten_cons,List.length_append,ih,Nat.succ_mul,Nat.add_comm]
theorem z9r:OpR X (binaryOp .Mult) j3e:=by
 intro pins s σ H x y v u Q I rx ry h
 obtain⟨l,k,xs,rfl,rfl,hH,h1,h2,hz,q⟩:=h
 cases rx
 obtain⟨t,rfl⟩:=ry
 obtain⟨z,its,n,r,hl,e⟩:=I.lstM hH
 have hlen:its.toArray.size*k.toNat<=sizeLine:=by rw[List.size_toArray,<- hl]; exact hz
 have hcap:¬ its.toArray.size*k.toNat > (2 ^ 63-1) / 8:=by
  have:(sizeLine:Nat)<=(2 ^ 63-1) / 8:=by decide
  omega
 have hfit:¬ (!Builtin.List.listFitsIndex k)=true:=by
  rw[fitsIndex_both h1 h2]
  exact Bool.false_ne_true
 have hlong:¬ Builtin.List.listTooLong (its.toArray.size*k.toNat)=true:=by
  rw[z1w hlen]
  exact Bool.false_ne_true
 have hnew:List.foldl (fun x1 x2=>x1++x2) #[] (List.replicate (if its.toArray.isEmpty=true then 0 else k.toNat) its.toArray)=(List.replicate k.toNat its).flatten.toArray:=by
  have f0:∀ m:Nat,List.foldl (fun x1 x2=>x1++x2) #[] (List.replicate m its.toArray)=(List.replicate m its).flatten.toArray:=fun m=>by
   have:=y06 its m []
   rw[List.nil_append]at this
   exact this
  rw[f0]
  cases its with
  | nil=>simp
  | cons a r'=>rw[if_neg (by simp)]
 refine wpAny_binaryOp_repeat_ref (T:="list") (U:="int") (by decide) ⟨_,e,rfl⟩ (fun s'=>typeIs_int s' k t) noFill_list_mul F.fills_int_mul F.slot_int_rmul repeat_list F.slot_int_index.lookup
  (call_meets F.slot_int_rmul (typeIs_int s k t) F.entry_int_rmul (F.args_int_rmul_2 _ _) (int___rmul___int_list k t l its.toArray n)
    ⟨e,rfl,⟨_,e,rfl⟩,call_meets F.slot_list_mul ⟨_,e,rfl⟩ F.entry_list_mul (F.args_list_mul_2 _ _) (AutoListH.list___mul___list_int_3 l its.toArray n k t hfit hcap hlong) ⟨e,?_⟩⟩)
 rw[hnew]
 exact⟨.ref _,_,I.lnew (t':=s.toks) (r.rep k.toNat) (by rw[y4m,Nat.mul_comm]; exact hz),rfl,q _ I.fresh⟩
end
end L2
namespace Att
open PySem PySem.W PySem.Calls PyProof.Rows
theorem y0a {P:Params} {h:Heap}:∀ (ns:List Int) (vs:List Value),WellAll P h vs (ns.map WData.int)->IntsAre vs ns:=by
 intro ns
 induction ns with
 | nil=>
  intro vs w
  rw[List.map_nil]at w
  cases w
  exact .nil
 | cons n ns ih=>
  intro vs w
  rw[List.map_cons]at w
  cases w with
  | cons a b=>
   cases a
   exact .cons _ _ (ih _ b)
theorem y9e {l:OpenLaw} {n:Nat} (hn:l.most=some n) {P:Params} {h:Heap} {args:List WData} {vals:List Value}
  (hpre:l.row.toRowW.claim.pre args=true) (hwl:WellAll P h vals args) :
  ∃ a vs ns,vals=[Value.ref a]/\args=[WData.list (ns.map WData.int)]/\h.get? a=some { cls:=.type "list",data:=.seq vs.toArray }/\IntsAre vs ns/\ns.length<=n:=by
 have hsh:WShape.hasAll [] args [.list .int]=true:=(pre_splitW hpre).1
 have hc:l.pre.holds [] { args:=args }=true:=(pre_splitW hpre).2
 obtain⟨d,r,rfl,h1,h2⟩:=hasAllW_cons hsh
 obtain rfl:=hasAllW_nil h2
 obtain⟨xs,rfl,h3⟩:=hasW_list h1
 obtain⟨ns,rfl⟩:=items_int h3
 have hlen:ns.length<=n:=by
  unfold OpenLaw.pre at hc
  have h4:(WTm.not (.lt (.lit (.int (n:Int))) (.len (.arg 0)))).holds [] { args:=[.list (ns.map .int)] }=true:=by
   have h4:=(holds_andW hc).1
   rw[hn]at h4
   exact h4
  have h5:=condW_of h4 (w_not (w_lt w_lit (w_len_list (w_arg rfl))))
  rw[List.length_map]at h5
  refine Nat.le_of_not_lt fun q=>?_
  have q':(n:Int)<((ns.length:Nat):Int):=by omega
  first
   | (rw[decide_eq_true q']at h5; exact absurd h5 (by decide))
   | (simp at h5; omega)
 cases hwl with
 | cons w1 w2=>
  cases w2
  cases w1 with
  | list ho hall=>exact⟨_,_,ns,rfl,rfl,ho,y0a ns _ hall,hlen⟩
theorem y8t (l:OpenLaw) (args:List WData):l.row.toRowW.claim.post args (.bool true) args=true:=
 postW_of (r:=l.row.toRowW) (X:=(true == true))
  (show WShape.has [] (.bool true) .bool=true by first | rfl | decide | simp[WShape.has,WShape.arms,WShape.armsAll])
  (show(WTm.eq .res (.lit (.bool true))).value [] { args:=args,res:=some (.bool true),after:=args }=some (.bool (true == true))from w_eq_bool (w_res rfl) w_lit) rfl
theorem z4k {l:OpenLaw} {n:Nat} {q:Program} {loose:List Str} {XP:(Str->Option Value)->Heap->Prop} {YP:World->Heap->Prop} {d:DefRec}
  (hn:l.most=some n) (hdf:d.params.defaults=[])
  (call:∀ (w:World) (s₀ s₁:Shared) (mg mb:Str->Option Value) (fa:Addr) (o:Obj) (pm cd doc:Value) (a:Addr) (vs:List Value) (ns:List Int),
    Ground q loose [] XP w s₀ mg mb s₁.heap->YP w s₁.heap->
    s₁.heap.get? fa=some o->o.data=.func (docDef d.name d.params d.body d.scope pm cd doc)->s₁.heap.CodeRec cd d.name->mg d.name=some (.ref fa)->
    s₁.heap.get? a=some { cls:=.type "list",data:=.seq vs.toArray }->IntsAre vs ns->ns.length<=n->s₁.gens = #[]->
    codeAny (model l.prog w) callerA (.call (.ref fa) ⟨[.ref a],[]⟩) (fun r s'=>r=.ok (.ret (.bool true))/\OldK s₁.heap s'.heap/\s'.os=s₁.os/\AllBare s'.gens) s₁) :
  WalkO q loose XP YP l.row.toRowW d [] (fun f vs=>PySem.call f vs):=by
 intro w s₀ s₁ mg mb G Y fa o pm cd doc dV kV ho hd hcd hD hmg hg args vals as hpre hlay hrd hwl hlo
 obtain rfl:dV=.none:=Dflts.none hD hdf
 obtain rfl:kV=.none:=Dflts.noKw hD
 obtain⟨a,vs,ns,rfl,rfl,hobj,hints,hlen⟩:=y9e hn hpre hwl
 refine enter_call (codeAny_mono (call w s₀ s₁ mg mb fa o pm cd doc a vs ns G Y ho (fd_plain hd) hcd hmg hobj hints hlen hg) fun r s' hq=>?_)
 obtain⟨rfl,h2,h3,h4⟩:=hq
 exact⟨.inl ⟨.bool true,.bool true,[],rfl,fun _=>rfl,.bool true,y8t l _,fun _=>⟨List.Pairwise.nil,fun _ hm=>(nomatch hm)⟩⟩,h2,h3,h4⟩
section
variable {prog:Program} {w:World} {A:Around} {E:Value->Shared->Prop} {s:Shared} {K:Frag}
end
end Att
namespace L2
open PySem PySem.Spec PyProof.Rows
theorem y3a:∀ {vs:List Value} {ns:List Int},IntsAre vs ns->x2h (ns.map V.int) vs
 | _,_,.nil=>.nil
 | _,_,.cons n t h=>.cons ⟨t,rfl⟩ (y3a h)
end L2
namespace L2
open PySem PySem.Spec PyProof.Rows
end L2
namespace L2
open PySem PySem.Spec PyProof.Rows
noncomputable def x5w (s:Stmt):Arguments:=match s with
 | .FunctionDef _ a _ _ _ _ _ _ _ _=>a
 | _=>{ posonlyargs:=[],args:=[],vararg:=none,kwonlyargs:=[],kw_defaults:=[],kwarg:=none,defaults:=[] }
noncomputable def x32 (s:Stmt):List Stmt:=match s with
 | .FunctionDef _ _ b _ _ _ _ _ _ _=>b
 | _=>[]
noncomputable def x0e (s:Stmt):Scope:=match s with
 | .FunctionDef _ _ _ _ _ _ sc _ _ _=>sc
 | _=>{ kind:=.function,names:=[],isGenerator:=false,isCoroutine:=false }
noncomputable abbrev CX0:CXT:=fun _ _ _ _ _ _=>False
noncomputable abbrev E0:XK:=fun _ _ _=>False
theorem j1r {X:Cx}:y60 CX0 X E0:=fun _ _ _ _ _ _ _ h=>h.elim
structure Fun (K:PySem.W.Frag) (x qual:Str) (st:Stmt) (f:Addr) (fd:FuncData):Prop where
 ex:∃ (oc:Value) (od:Option Addr) (kV doc pm:Value) (an:Option Addr) (cdv ct:Value) (osl:Array (Option Value)),
  fd=PySem.W.fnOf x qual (x5w st) (x32 st) (x0e st) .none kV doc pm an cdv ct/\K.lookup f=some ⟨oc,od,.func fd,osl⟩/\PySem.W.codeIn K cdv qual=true
 kp:PySem.W.keepIn K (.ref f)=true
section
variable {P:Program} {w:World} {K:PySem.W.Frag} {mg:Str->Option Value} {base:Heap}
theorem Fun.ok {x qual:Str} {st:Stmt} {f:Addr} {fd:FuncData} {N ps:List Str} {k:Nat} {sp:Sp} (F:Fun K x qual st f fd) (S:FnScope N ps (x0e st)) (len:∀ vs H Q E,sp vs H Q E->vs.length=ps.length)
  (hbody:∀ (cdv:Value) (A:Around) (outer:List Env) (s:Shared) (H:Hp) (vs:List V) (Q:VK) (E:XK),Room k (A.deeper (envOfC qual (x0e st) s.heap.objs.size f cdv))->sp vs H Q E->
    ∃ t,PSs (y2o CX0 P w K mg base N qual (x0e st) f cdv A outer s H E).nox (x32 st) t/\t { nx:=fun _ H'=>Q .non H',rt:=Q } (y0w N vs) H):FnOk P w K mg base CX0 (k+1) f fd ps sp:=by
 obtain⟨oc,od,kV,doc,pm,an,cdv,ct,osl,rfl,lk,hcd⟩:=F.ex
 refine z70 lk hcd S len fun A outer s H vs Q E hr hsp=>?_
 obtain⟨t,h,q⟩:=hbody cdv A outer s H vs Q E hr hsp
 exact⟨t,h.nox,q⟩
theorem Fun.binds {x qual:Str} {st:Stmt} {f:Addr} {fd:FuncData} {ps:List Str} (F:Fun K x qual st f fd)
  (h:∀ (kV doc pm:Value) (an:Option Addr) (cdv ct:Value) (us:List Value),us.length=ps.length->bindArgs (PySem.W.fnOf x qual (x5w st) (x32 st) (x0e st) .none kV doc pm an cdv ct) ⟨us,[]⟩=pure (ps.zip us)):y36 K fd ps []:=by
 obtain⟨oc,od,kV,doc,pm,an,cdv,ct,osl,rfl,lk,hcd⟩:=F.ex
 exact .all (h kV doc pm an cdv ct)
theorem z33 {x qual:Str} {st:Stmt} {f:Addr} {oc:Value} {od an:Option Addr} {osl:Array (Option Value)} {kV doc pm cdv ct:Value} (l:K.lookup f=some ⟨oc,od,.func (PySem.W.fnOf x qual (x5w st) (x32 st) (x0e st) .none kV doc pm an cdv ct),osl⟩)
  (c:PySem.W.codeIn K cdv qual=true) (k:PySem.W.keepIn K (.ref f)=true):Fun K x qual st f (PySem.W.fnOf x qual (x5w st) (x32 st) (x0e st) .none kV doc pm an cdv ct):=⟨⟨oc,od,kV,doc,pm,an,cdv,ct,osl,rfl,l,c⟩,k⟩
end
theorem j1i {A:Around} {k:Nat} (hr:Room k A):A.units+1<cLine:=Nat.lt_of_le_of_lt (Nat.add_le_add_left (by decide:1<=64) _) hr.units
theorem x42 {n:Nat} (h:n<=1000):n<sizeLine:=Nat.lt_of_le_of_lt h (by decide)
section
variable {X:Cx}
theorem pv (i:Nat) {x:Str} {pos:Pos} (hN:X.N[i]? = some x:=by rfl) (hv:Vis X.env.scope x:=by first | exact Or.inl rfl | exact Or.inr (Or.inl rfl) | exact Or.inr (Or.inr rfl)) (hd:(x == ("__debug__":Str))=false:=by decide)
  (hcd:(x == ("__classdict__":Str))=false:=by decide):PE X (.Name x pos) (x74 i):=j0a hN hv hd hcd
end
section
variable {κ:Type} [DecidableEq κ]
noncomputable def y6o (kvs:List (κ × V)) (k:κ):Option V:=(kvs.find? fun kv=>decide (kv.1=k)).map (·.2)
noncomputable def z14 (kvs:List (κ × V)) (k:κ) (v:V):List (κ × V):=
 if(kvs.any fun kv=>decide (kv.1=k))=true then kvs.map (fun kv=>if kv.1=k then(kv.1,v)else kv)else kvs++[(k,v)]
theorem y2l {p:κ × V} {r:List (κ × V)} {k:κ} (e:p.1=k):y6o (p::r) k=some p.2:=by simp[y6o,List.find?_cons,e]
theorem y2n {p:κ × V} {r:List (κ × V)} {k:κ} (e:¬ p.1=k):y6o (p::r) k=y6o r k:=by simp[y6o,List.find?_cons,e]
theorem y5b (kvs:List (κ × V)) (k:κ) (v:V):(z14 kvs k v).length<=kvs.length+1:=by
 unfold z14
 split
 ·rw[List.length_map]; omega
 ·rw[List.length_append,List.length_cons,List.length_nil]; omega
theorem z65.getD {o:Option V} {u:Option Value} {d:V} {d':Value} (r:z65 o u) (rd:x3g d d'):x3g (o.getD d) (u.getD d'):=by
 cases o with
 | none=>cases u with
  | none=>exact rd
  | some _=>exact(show False from r).elim
 | some _=>cases u with
  | none=>exact(show False from r).elim
  | some _=>exact r
theorem KV.val {kvs:List (κ × V)} {vs:List (κ × Value)} (r:KV kvs vs) (k:κ):z65 (y6o kvs k) (valueAt vs k):=by
 unfold KV at r
 induction r with
 | nil=>exact True.intro
 | @cons p q ps qs h t ih=>
  obtain⟨h1,h2⟩:=h
  by_cases e:p.1=k
  ·have e':q.1=k:=h1.symm.trans e
   have b:valueAt (q::qs) k=some q.2:=by simp[valueAt,List.find?_cons,e']
   rw[y2l e,b]; exact h2
  ·have e':¬ q.1=k:=fun z=>e (h1.trans z)
   have b:valueAt (q::qs) k=valueAt qs k:=by simp[valueAt,List.find?_cons,e']
   rw[y2n e,b]; exact ih
theorem KV.any {kvs:List (κ × V)} {vs:List (κ × Value)} (r:KV kvs vs) (k:κ):(kvs.any fun kv=>decide (kv.1=k))=vs.any fun kv=>decide (kv.1=k):=by
 unfold KV at r
 induction r with
 | nil=>rfl
 | cons h t ih=>rw[List.any_cons,List.any_cons,ih,h.1]
theorem KV.repl {kvs:List (κ × V)} {vs:List (κ × Value)} (r:KV kvs vs) (k:κ) {y:V} {u:Value} (ry:x3g y u) :
  KV (kvs.map fun kv=>if kv.1=k then(kv.1,y)else kv) (vs.map fun kv=>if kv.1=k then(kv.1,u)else kv):=by
 unfold KV at r ⊢
 induction r with
 | nil=>exact .nil
 | @cons p q ps qs h t ih=>
  rw[List.map_cons,List.map_cons]
  refine .cons ?_ ih
  obtain⟨h1,h2⟩:=h
  by_cases e:p.1=k
  ·rw[if_pos e,if_pos (h1.symm.trans e)]; exact⟨h1,ry⟩
  ·rw[if_neg e,if_neg (fun z=>e (h1.trans z))]; exact⟨h1,h2⟩
theorem KV.put {kvs:List (κ × V)} {vs:List (κ × Value)} (r:KV kvs vs) (k:κ) {y:V} {u:Value} (ry:x3g y u):KV (z14 kvs k y) (stored vs k u):=by
 unfold z14 stored
 rw[r.any k]
 by_cases e:(vs.any fun kv=>decide (kv.1=k))=true
 ·rw[if_pos e,if_pos e]; exact r.repl k ry
 ·rw[if_neg e,if_neg e]; exact Paired.snoc r ⟨rfl,ry⟩
end
theorem z6c {P:Program} {w:World} {k:Key} {u:Value} (r:x3g (kV k) u):(x2s P w).is k u=true:=by
 cases k with
 | inl i=>obtain⟨t,e⟩:=(show ∃ t,u=Value.int i t from r); subst e; exact y5c P w i t
 | inr x=>obtain⟨t,e⟩:=(show ∃ t,u=Value.str x t from r); subst e; exact y4o P w x t
theorem y3z {P:Program} {w:World}:∀ {ks:List Key} {us:List Value},x2h (ks.map kV) us->ItemsAre (x2s P w) ks us
 | [],_,r=>by rw[List.map_nil]at r; cases r; exact .nil
 | k::ks,_,r=>by
  rw[List.map_cons]at r
  cases r with
  | cons h t=>exact .cons (z6c h) (y3z t)
noncomputable abbrev KT (H:Hp):List (List Key × V)->List (List Key × Addr × Value)->Prop:=Paired fun p q=>p.1=q.1/\H q.2.1=some (.tup (p.1.map kV))/\x3g p.2 q.2.2
theorem KT.val {H:Hp} {kvs:List (List Key × V)} {xs:List (List Key × Addr × Value)} (r:KT H kvs xs) (k:List Key):z65 (y6o kvs k) ((atKey xs k).map (·.2)):=by
 induction r with
 | nil=>exact True.intro
 | @cons p q ps qs h t ih=>
  obtain⟨h1,_,h2⟩:=h
  by_cases e:p.1=k
  ·have e':q.1=k:=h1.symm.trans e
   have b:atKey (q::qs) k=some q.2:=by simp[atKey,List.find?_cons,e']
   rw[y2l e,b]; exact h2
  ·have e':¬ q.1=k:=fun z=>e (h1.trans z)
   have b:atKey (q::qs) k=atKey qs k:=by simp[atKey,List.find?_cons,e']
   rw[y2n e,b]; exact ih
section
variable {P:Program} {w:World} {H:Hp} {h:Heap} {a:Addr}
theorem z6v {u:HO} (ok:HOk P w H h) (e:Rd H a u):x27 P w H h a u:=e.ok ok
theorem z3v {kvs:List (Key × V)} (ok:HOk P w H h) (e:Rd H a (.dK kvs)):kvs.length<=sizeLine/\(a == sysModules)=false/\∃ vs,KV kvs vs/\h.DictOf (x2s P w) a vs:=
 show x27 P w H h a (.dK kvs)from z6v ok e
theorem j18 {kvs:List (Key × V)} (ok:HOk P w H h) (e:H a=some (.dK kvs)):kvs.length<=sizeLine/\(a == sysModules)=false/\∃ vs,KV kvs vs/\h.DictOf (x2s P w) a vs:=z3v ok (.inl e)
theorem z3b {ks:List Key} (ok:HOk P w H h) (e:H a=some (.tup (ks.map kV))):(tupleKind (x2s P w)).is h ks a:=by
 obtain⟨_,its,r,o,h1,h2,⟨n,h3⟩,_⟩:=(show x27 P w H h a (.tup (ks.map kV))from ok a _ e)
 exact⟨o,its.toArray,n,h1,h2,h3,by simpa using y3z r⟩
theorem z8z {kvs:List (List Key × V)} (ok:HOk P w H h) (e:Rd H a (.dT kvs)):kvs.length<=sizeLine/\(a == sysModules)=false /\
  ∃ xs,KT H kvs xs/\h.DictOfH (tupleKind (x2s P w)) a xs:=by
 obtain⟨z,y,xs,r,o,es,ep,h1,h2,h3,h4,h5⟩:=(show x27 P w H h a (.dT kvs)from z6v ok e)
 refine⟨z,y,xs,r,o,es,ep,h1,h2,h3,h4,fun x hx=>?_,h5⟩
 have all:∀ {l:List (List Key × V)} {m:List (List Key × Addr × Value)},KT H l m->∀ x∈m,(tupleKind (x2s P w)).is h x.1 x.2.1:=by
  intro l m q
  induction q with
  | nil=>intro x hx; exact nomatch hx
  | @cons p q ps qs hq t ih=>
   intro x hx
   rcases List.mem_cons.mp hx with e | hx
   ·subst e
    exact z3b ok (by rw[<- hq.1]; exact hq.2.1)
   ·exact ih x hx
 exact all r x hx
end
noncomputable def z7j (H:Hp) (a:Addr) (y:V) (r:Option V):Prop:=
 (∃ kvs k,Rd H a (.dK kvs)/\y=kV k/\r=y6o kvs k)\/∃ kvs k b,Rd H a (.dT kvs)/\y=.ref b/\H b=some (.tup (k.map kV))/\r=y6o kvs k
theorem z7j.k {H:Hp} {a:Addr} {kvs:List (Key × V)} {k:Key} (e:H a=some (.dK kvs)):z7j H a (kV k) (y6o kvs k):=.inl ⟨kvs,k,.inl e,rfl,rfl⟩
section
variable {X:Cx} {pins:List (Addr × Obj)} {σ:St} {H:Hp} {s:Shared} {a:Addr} {y v:V} {u r:Value} {o:Option V} {A:Around} {E:Value->Shared->Prop}
theorem Inv.big (I:Inv X pins σ H s):sysModules<s.heap.objs.size:=by
 have h:mainGlobals<s.heap.objs.size:=(I.mod.glob.keeps I.bk).lt
 exact Nat.lt_trans (by decide) h
theorem z6g {h':Heap} {t':Nat} {ob:HO} (I:Inv X pins σ H s) (mu:Mut (H a)) (hs:Heap.SameBut a s.heap h') (he:∃ q,h'.get? a=some q) (new:x27 X.prog X.w (upd H a ob) h' a ob) :
  Inv X pins σ (upd H a ob) { s with heap:=h',toks:=t' }:=
 I.write (x:=a) (e:=a) mu (.inl rfl) (fun b q hb z=>(hs.2 b hb).trans z) he new
theorem z9m {P:Program} {w:World} {H':Hp} {h':Heap} {kvs:List (Key × V)} {vs:List (Key × Value)} (z:kvs.length<=sizeLine) (hd:(a == sysModules)=false) (rel:KV kvs vs) (dd:h'.DictOf (x2s P w) a vs) :
  x27 P w H' h' a (.dK kvs):=⟨z,hd,vs,rel,dd⟩
end
theorem z0a {P:Program} {w:World} {H:Hp} (h:Heap) (hb:sysModules<h.objs.size):x27 P w H (h.push { cls:=.type "dict",data:=.dict #[] }) h.objs.size (.dK []):=
 ⟨Nat.zero_le _,beq_eq_false_iff_ne.mpr (Ne.symm (Nat.ne_of_lt hb)),[],.nil,Heap.DictOf.new h⟩
noncomputable def y9z:List (TE × TE)->St->Hp->(List (V × V)->Hp->Prop)->Prop
 | [],_,H,Q=>Q [] H
 | (tk,tv)::r,σ,H,Q=>tk σ H fun x H1=>tv σ H1 fun y H2=>y9z r σ H2 fun ps H3=>Q ((x,y)::ps) H3
noncomputable abbrev VV:List (V × V)->List (Value × Value)->Prop:=Paired fun p q=>x3g p.1 q.1/\x3g p.2 q.2
noncomputable def PPs (X:Cx) (pos:Pos) (keys:List (Option Expr)) (values:List Expr) (trs:List (TE × TE)):Prop:=
 ∀ (pins:List (Addr × Obj)) (s:Shared) (σ:St) (H:Hp) (Q:List (V × V)->Hp->Prop),Inv X pins σ H s->y9z trs σ H Q->
  wpAny (model X.prog X.w) X.A (evalPairs (pairTrees keys values X.env pos)) (fun vs s'=>∃ ps H',Inv X pins σ H' s'/\VV ps vs/\Q ps H') X.xe s
theorem z49 {X:Cx} {pos:Pos}:PPs X pos [] [] []:=fun pins s σ H Q I h=>pairTrees_nil_walk ⟨[],H,I,.nil,h⟩
theorem y6g {X:Cx} {pos:Pos} {k v:Expr} {ks:List (Option Expr)} {vs:List Expr} {tk tv:TE} {trs:List (TE × TE)} (hk:PE X k tk) (hv:PE X v tv) (hr:PPs X pos ks vs trs) :
  PPs X pos (some k::ks) (v::vs) ((tk,tv)::trs):=fun pins s σ H Q I h=>
 pairTrees_cons_walk (thn (hk pins s σ H _ I h) fun u s1 ⟨x,H1,I1,rx,q1⟩=>thn (hv pins s1 σ H1 _ I1 q1) fun w2 s2 ⟨y,H2,I2,ry,q2⟩=>
  thn (hr pins s2 σ H2 _ I2 q2) fun ws s3 ⟨ps,H3,I3,rel,q3⟩=>⟨(x,y)::ps,H3,I3,.cons ⟨rx,ry⟩ rel,q3⟩)
noncomputable def y0g (kvs more:List (Key × V)):List (Key × V):=more.foldl (fun acc kv=>z14 acc kv.1 kv.2) kvs
theorem KV.merge:∀ {more:List (Key × V)} {rs:List (Key × Value)} {kvs:List (Key × V)} {vs:List (Key × Value)},KV more rs->KV kvs vs->KV (y0g kvs more) (merged vs rs):=by
 intro more rs kvs vs r
 unfold KV at r
 induction r generalizing kvs vs with
 | nil=>intro q; exact q
 | @cons p q ps qs h t ih=>
  intro r0
  have e:KV (z14 kvs p.1 p.2) (stored vs q.1 q.2):=by
   have:=r0.put p.1 h.2
   rw[<- h.1]; exact this
  exact ih e
theorem x85:∀ (more kvs:List (Key × V)),(y0g kvs more).length<=kvs.length+more.length
 | [],kvs=>by show kvs.length<=kvs.length+0; omega
 | p::r,kvs=>by
  have h1:=x85 r (z14 kvs p.1 p.2)
  have h2:=y5b kvs p.1 p.2
  show(y0g (z14 kvs p.1 p.2) r).length<=_
  rw[List.length_cons]; omega
theorem y19 {P:Program} {w:World}:∀ {kvs:List (Key × V)} {ws:List (Value × Value)},VV (kvs.map fun kv=>(kV kv.1,kv.2)) ws->∃ rs,Carries (x2s P w) ws rs/\KV kvs rs
 | [],_,r=>by rw[List.map_nil]at r; cases r; exact⟨[],True.intro,.nil⟩
 | p::kvs,_,r=>by
  rw[List.map_cons]at r
  cases r with
  | @cons a b as bs h t=>
   obtain⟨rs,c,q⟩:=y19 (P:=P) (w:=w) t
   obtain⟨b1,b2⟩:=b
   exact⟨(p.1,b2)::rs,⟨z6c h.1,rfl,c⟩,.cons ⟨rfl,h.2⟩ q⟩
noncomputable def j17 (trs:List (TE × TE)):TE:=fun σ H Q=>∀ p,H p=none->y9z trs σ (upd H p (.dK [])) fun ps H2=>H2 p=some (.dK [])/\∃ kvs:List (Key × V),ps=kvs.map (fun kv=>(kV kv.1,kv.2))/\kvs.length<=15/\Q (.ref p) (upd H2 p (.dK (y0g [] kvs)))
theorem z5y {X:Cx} {pos:Pos} {keys:List (Option Expr)} {values:List Expr} {trs:List (TE × TE)} (h:PPs X pos keys values trs) (hall:keys.all (·.isSome)=true) (hl:keys.length=values.length) (h0:keys ≠ [])
  (h15:keys.length<=15):PE X (.Dict keys values pos) (j17 trs):=by
 intro pins s σ H Q I q
 have hn:=I.hok.fresh (Nat.le_refl s.heap.objs.size)
 have I1:=I.laid (a:=s.heap.objs.size) (o:=.dK []) (h':=s.heap.push { cls:=.type "dict",data:=.dict #[] }) (t':=s.toks) (fun _ _ q=>Heap.get?_push_of_some _ q) (Nat.le_refl _) (z0a s.heap I.big)
 refine wpAny_Dict_walk (knd:=x2s X.prog X.w) hall hl h0 h15 (thn (h pins _ σ _ _ I1 (q _ hn)) fun ws s2 hh0=>?_)
 obtain⟨ps,H2,I2,rel,e,kvs,ep,lk,q2⟩:=hh0
 subst ep
 obtain⟨rs,c,rk⟩:=y19 (P:=X.prog) (w:=X.w) rel
 obtain⟨z,hd,vs0,r0,dd⟩:=j18 I2.hok e
 cases r0
 refine⟨rs,c,dd,fun h' dd' hs=>⟨.ref s.heap.objs.size,_,?_,rfl,q2⟩⟩
 have hz:(y0g [] kvs).length<=sizeLine:=by
  have h1:=x85 kvs []
  rw[List.length_nil]at h1
  rw[sizeLine_eq]; omega
 have he:∃ q,h'.get? s.heap.objs.size=some q:=let ⟨q,_,_,hq,_⟩:=dd'; ⟨q,hq⟩
 exact z6g I2 (by rw[e]; exact True.intro) hs he (z9m hz hd (rk.merge .nil) dd')
structure M2 (X:Cx) (o:Expr) (m:Str) (apos:Pos) (e f:Expr) (cpos:Pos):Prop where
 base:attributeBase o m X.env (eval o X.env)=eval o X.env
 few:((backTo cpos (starEach [e,f] X.env)).all (fun x=>!x.1) && (backToKw cpos (keywordEach [] X.env)).all (fun x=>x.1.isSome)
  && decide (([e,f]:List Expr).length+([]:List Keyword).length+(if([]:List Keyword).isEmpty then 0 else 1)<30))=true
 line:(apos.endLine == cpos.line)=true
 trees:backTo cpos (starEach [e,f] X.env)=[(false,eval e X.env),(false,eval f X.env)]
noncomputable def IsD (H:Hp) (a:Addr):Prop:=(∃ kvs,Rd H a (.dK kvs))\/∃ kvs,Rd H a (.dT kvs)
theorem z8c {X:Cx} {pins:List (Addr × Obj)} {σ:St} {H:Hp} {s:Shared} {a:Addr} (I:Inv X pins σ H s) (d:IsD H a) :
  s.TypeIs (.ref a) "dict" /\ (∀ b,Value.ref a=.ref b->∃ ob,s.heap.get? b=some ob/\ob.dict=none)/\(a == sysModules)=false:=by
 rcases d with⟨kvs,e⟩ | ⟨kvs,e⟩
 ·obtain⟨_,hd,vs,_,dd⟩:=z3v I.hok e
  refine⟨dd.typeIs,fun b q=>?_,hd⟩
  cases q
  obtain⟨ob,_,_,h1,h2,_⟩:=dd
  exact⟨ob,h1,h2.2.1⟩
 ·obtain⟨_,hd,xs,_,dd⟩:=z8z I.hok e
  refine⟨dd.typeIs,fun b q=>?_,hd⟩
  cases q
  obtain⟨ob,_,_,h1,h2,_⟩:=dd
  exact⟨ob,h1,h2.2.1⟩
section
variable {X:Cx} {pins:List (Addr × Obj)} {σ:St} {H:Hp} {s:Shared} {a:Addr} {y d:V} {u r:Value} {o:Option V} {A:Around} {E:Value->Shared->Prop}
theorem j02 {Q:Value->Shared->Prop} (hu:A.units+1<cLine) (I:Inv X pins σ H s) (g:z7j H a y o) (ry:x3g y u) (rd:x3g d r) (h:∀ w' s',Inv X pins σ H s'->x3g (o.getD d) w'->Q w' s') :
  wpAny (model X.prog X.w) A (call (.builtin "dict.get") [.ref a,u,r]) Q E s:=by
 rcases g with⟨kvs,k,e,ey,l⟩ | ⟨kvs,k,b,e,ey,eb,l⟩
 ·subst ey
  obtain⟨z,hd,vs,rel,dd⟩:=z3v I.hok e
  refine call_meetsIn PySem.F.slot_dict_get dd.typeIs PySem.F.entry_dict_get (PySem.F.args_dict_get_3 _ _ _) (meets_dict_get_default (x2s X.prog X.w) a (z6c ry) hd r) ⟨_,dd.mapOf,h _ _ (I.tok _) ?_⟩
  rw[l]
  exact(rel.val k).getD rd
 ·subst ey
  cases (show u=Value.ref b from ry)
  obtain⟨z,hd,xs,rel,dd⟩:=z8z I.hok e
  refine call_meetsIn PySem.F.slot_dict_get dd.typeIs PySem.F.entry_dict_get (PySem.F.args_dict_get_3 _ _ _) (meetsH_dict_get_default (tupleKind (x2s X.prog X.w)) a b hd r) ⟨tupleKind_room_in1 hu,k,xs,z3b I.hok eb,dd,h _ _ (I.tok _) ?_⟩
  rw[l]
  exact(rel.val k).getD rd
end
noncomputable def j09 (td ty tx:TE):TE:=fun σ H Q=>td σ H fun x H1=>∃ a,x=.ref a/\IsD H1 a/\ty σ H1 fun y H2=>tx σ H2 fun z H3=>∃ o,z7j H3 a y o/\Q (o.getD z) H3
section
variable {X:Cx} {o e f:Expr} {apos cpos:Pos} {td ty tx:TE}
theorem z0x (hu:X.A.units+1<cLine) (ho:PE X o td) (he:PE X e ty) (hf:PE X f tx) (m:M2 X o "get" apos e f cpos):PE X (.Call (.Attribute o "get" apos) [e,f] [] cpos) (j09 td ty tx):=by
 intro pins s σ H Q I h
 refine wpAny_Call_method m.base m.few m.line PySem.F.plainAttrs_dict PySem.F.slot_dict_get PySem.F.type_dict_get (thn (ho pins s σ H _ I h) fun u s1 hh0=>?_)
 obtain⟨x,H1,I1,rx,a,ex,d,q1⟩:=hh0
 subst ex
 obtain rfl:u=Value.ref a:=rx
 obtain⟨t1,t2,_⟩:=z8c I1 d
 refine⟨t1,t2,?_⟩
 rw[m.trees]
 refine Calls.callWith_builtin rfl (Calls.evalArgs_plain (Calls.spliced_cons (thn (he pins s1 σ H1 _ I1 q1) fun iv s2 ⟨y,H2,I2,ry,q2⟩=>
  Calls.spliced_cons (thn (hf pins s2 σ H2 _ I2 q2) fun fv s3 ⟨z,H3,I3,rz,ov,g,q3⟩=>Calls.spliced_nil ?_))))
 exact j02 hu I3 g ry rz fun w' s4 I4 rw'=>⟨_,H3,I4,rw',q3⟩
end
theorem y41 {prog:Program} {w:World} {A:Around} {R:Result->Shared->Prop} {s:Shared} {elt target iter:Expr} {ifs:List Expr} {scope:Scope} {pos:Pos} {it acc:Value} {env:Env} (I:Nat->Shared->Prop)
  (turn:∀ n s,I n s->wpAny (model prog w) A (pyNext it) (fun r s₁=>match r with
    | none=>R (.ok .next) s₁
    | some v=>wpAny (model prog w) A (letOwnedTupleGo target it v) (fun _ s₁'=>wpAny (model prog w) A (assign target env v) (fun _ s₂=>
      wpAny (model prog w) A (forIn ifs true fun c r=>if r=true then do let ok <- isTrue c env (eval c env); pure (ForInStep.yield ok)else pure (ForInStep.yield r)) (fun ok s₃=>
       if ok=true then wpAny (model prog w) A (eval elt env) (fun x s₄=>
        wpAny (model prog w) A (call (.builtin "list.append") [acc,x]) (fun _ s₅=>∃ m,m<n/\I m s₅) (fun _ _=>False) s₄) (fun _ _=>False) s₃
       else ∃ m,m<n/\I m s₃) (fun _ _=>False) s₂) (fun _ _=>False) s₁') (fun _ _=>False) s₁) (fun _ _=>False) s)
  (n:Nat) (h:I n s):codeAny (model prog w) A (.compLoop (.ListComp elt [⟨target,iter,ifs,0⟩] scope pos) 0 it acc env) R s:=by
 refine codeAny_loop rfl I (fun n s hI=>?_) n h
 show wpAny _ A ((compTurn (.ListComp elt [⟨target,iter,ifs,0⟩] scope pos) 0 it acc env).onRaise (fun x=>do noteFrame x env; theTreesLotGoes x)) _ _ s
 refine wpAny_noted ?_
 rw[compTurn_list]
 refine wpAny_bind (wpAny_standAt (wpAny_bind (wpAny_mono (turn n s hI) (fun r s₁ h₁=>?_) fun _ _ h'=>h'.elim)))
 cases r with
 | none=>exact wpAny_pure h₁
 | some v=>
  refine wpAny_bind (wpAny_mono h₁ (fun _ s₁' h₁'=>?_) fun _ _ h'=>h'.elim)
  refine wpAny_bind (wpAny_mono h₁' (fun _ s₂ h₂=>wpAny_bind (wpAny_mono h₂ (fun ok s₃ h₃=>?_) fun _ _ h'=>h'.elim)) fun _ _ h'=>h'.elim)
  cases ok with
  | false=>exact wpAny_pure ⟨rfl,h₃⟩
  | true=>
   exact wpAny_bind (wpAny_bind (wpAny_mono h₃ (fun x s₄ h₄=>wpAny_bind (wpAny_mono h₄ (fun _ s₅ h₅=>wpAny_pure (wpAny_pure ⟨rfl,h₅⟩)) fun _ _ h'=>h'.elim)) fun _ _ h'=>h'.elim))
theorem y4w {M:Model} {A:Around} {E:Value->Shared->Prop} {s:Shared} {scope:Scope} {globals:Addr} {cl:List (Str × Addr)} {qual:Str} {outer:Env} {Q:Env->Shared->Prop}
  (hQ:Q (newEnv scope s.heap.objs.size globals (cellsFrom (s.heap.objs.size+1) scope.names cl) qual none .none (some outer) builtinsNs)
    { s with heap:=pushCells (s.heap.push { cls:=.type "dict",data:=.dict #[] }) scope.names }) :
  wpAny M A (newFunctionEnv scope globals cl [] qual none .none (some outer)) Q E s:=by
 simp only[newFunctionEnv,Option.isSome_some,if_true]
 refine wpAny_bind (wpAny_alloc ?_)
 refine wpAny_bind (wpAny_layCells _ (fun name kind cells=>by cases hkc:kind == NameKind.cell <;> simp[hkc]) _ _ _ _ ?_)
 rw[show({ s with heap:=s.heap.push { cls:=.type "dict",data:=.dict #[] } }:Shared).heap.objs.size=s.heap.objs.size+1 from Heap.size_push ..]
 refine wpAny_bind ?_
 rw[List.forIn_nil]
 exact wpAny_pure (wpAny_pure hQ)
noncomputable def x1x (cells:List (Str × Addr)):List (Str × NameKind)->List (Str × Addr)->List (Str × Addr)
 | [],acc=>acc
 | (n,k)::r,acc=>if k == .free then(match cells.lookup n with
   | some c=>x1x cells r ((n,c)::acc)
   | none=>x1x cells r acc)else x1x cells r acc
theorem x7v {scope:Scope} {env:Env} (h:∀ y∈scope.names,y.2=.free->∃ c,env.cells.lookup y.1=some c):closureFor scope env=pure (x1x env.cells scope.names []):=by
 unfold closureFor
 have key:∀ (names:List (Str × NameKind)) (acc:List (Str × Addr)),(∀ y∈names,y.2=.free->∃ c,env.cells.lookup y.1=some c)->
   (forIn names acc (fun(x:Str × NameKind) (r:List (Str × Addr))=>(match x with
     | (name,kind)=>if(kind == NameKind.free)=true then do
       let c <- cellOf env name
       pure (ForInStep.yield ((name,c)::r))
      else pure (ForInStep.yield r):Sem (ForInStep (List (Str × Addr))))))=(pure (x1x env.cells names acc):Sem (List (Str × Addr))):=by
  intro names
  induction names with
  | nil=>intro acc _; rfl
  | cons y r ih=>
   intro acc hh
   obtain⟨n,kd⟩:=y
   rw[List.forIn_cons]
   unfold x1x
   by_cases hk:(kd == NameKind.free)=true
   ·obtain⟨c,hc⟩:=hh (n,kd) List.mem_cons_self (by simpa using hk)
    have hc':env.cells.lookup n=some c:=hc
    simp only[hk,if_true,hc']
    have e:cellOf env n=pure c:=by unfold cellOf; rw[hc']
    rw[e]
    exact ih ((n,c)::acc) fun z hz=>hh z (List.mem_cons_of_mem _ hz)
   ·simp only[hk]
    exact ih acc fun z hz=>hh z (List.mem_cons_of_mem _ hz)
 exact(congrArg (fun m=>m >>= fun cs=>(pure cs:Sem (List (Str × Addr)))) (key scope.names [] h)).trans rfl
theorem x53 {cells:List (Str × Addr)}:∀ {names:List (Str × NameKind)} {acc:List (Str × Addr)},(∀ y c,(y,c)∈acc->cells.lookup y=some c)->∀ y c,(y,c)∈x1x cells names acc->cells.lookup y=some c
 | [],_,h,y,c,m=>h y c m
 | (n,k)::r,acc,h,y,c,m=>by
  unfold x1x at m
  split at m
  ·split at m
   ·rename_i c' e
    refine x53 (acc:=(n,c')::acc) (fun z d hz=>?_) y c m
    rcases List.mem_cons.mp hz with q | q
    ·cases q; exact e
    ·exact h z d q
   ·exact x53 h y c m
  ·exact x53 h y c m
theorem x52 {cells:List (Str × Addr)}:∀ {names:List (Str × NameKind)} {acc:List (Str × Addr)} {y:Str},(acc.lookup y).isSome=true->((x1x cells names acc).lookup y).isSome=true
 | [],_,_,h=>h
 | (n,k)::r,acc,y,h=>by
  unfold x1x
  split
  ·split
   ·refine x52 ?_
    rw[List.lookup_cons]
    split
    ·rfl
    ·exact h
   ·exact x52 h
  ·exact x52 h
theorem x40 {cells:List (Str × Addr)} {y:Str} {c:Addr} (hc:cells.lookup y=some c):∀ {names:List (Str × NameKind)} {acc:List (Str × Addr)},(y,NameKind.free)∈names->((x1x cells names acc).lookup y).isSome=true
 | (n,k)::r,acc,h=>by
  unfold x1x
  rcases List.mem_cons.mp h with q | q
  ·cases q
   simp only[hc]
   rw[if_pos (by rfl)]
   refine x52 ?_
   rw[List.lookup_cons,beq_self_eq_true]
   rfl
  ·split
   ·split
    ·exact x40 hc q
    ·exact x40 hc q
   ·exact x40 hc q
theorem x5a:∀ {names:List (Str × NameKind)} {h:Heap} {acc:List (Str × Addr)} {y:Str} {c:Addr},(y,c)∈cellsFrom h.objs.size names acc->(y,c)∈acc\/(h.objs.size<=c/\(pushCells h names).IsCell c none)
 | [],_,_,_,_,m=>.inl m
 | (n,k)::r,h,acc,y,c,m=>by
  unfold cellsFrom at m
  unfold pushCells
  split at m
  ·rename_i hk
   rw[if_pos hk]
   have m':(y,c)∈cellsFrom (h.push { cls:=.type "cell",data:=.cell none }).objs.size r ((n,h.objs.size)::acc):=by rw[Heap.size_push]; exact m
   rcases x5a m' with q | ⟨q1,q2⟩
   ·rcases List.mem_cons.mp q with e | q
    ·cases e
     refine .inr ⟨Nat.le_refl _,_,pushCells_keeps _ _ _ _ (Heap.get?_push_size _ rfl),rfl⟩
    ·exact .inl q
   ·rw[Heap.size_push]at q1
    exact .inr ⟨by omega,q2⟩
  ·rename_i hk
   rw[if_neg hk]
   exact x5a m
theorem x56:∀ {names:List (Str × NameKind)} {n:Nat} {acc:List (Str × Addr)},(∀ y c,(y,c)∈acc->c<n)->(∀ x y c,(x,c)∈acc->(y,c)∈acc->x=y)->∀ x y c,(x,c)∈cellsFrom n names acc->(y,c)∈cellsFrom n names acc->x=y
 | [],_,_,_,h=>h
 | (nm,k)::r,n,acc,hlt,h=>by
  unfold cellsFrom
  split
  ·refine x56 (n:=n+1) (acc:=(nm,n)::acc) (fun y c m=>?_) (fun x y c m1 m2=>?_)
   ·rcases List.mem_cons.mp m with e | m
    ·cases e; exact Nat.lt_succ_self _
    ·exact Nat.lt_succ_of_lt (hlt y c m)
   ·rcases List.mem_cons.mp m1 with e1 | m1 <;> rcases List.mem_cons.mp m2 with e2 | m2
    ·cases e1; cases e2; rfl
    ·cases e1; exact absurd (hlt y _ m2) (Nat.lt_irrefl _)
    ·cases e2; exact absurd (hlt x _ m1) (Nat.lt_irrefl _)
    ·exact h x y c m1 m2
  ·exact x56 hlt h
theorem x54 {lo:Nat} {y:Str}:∀ {names:List (Str × NameKind)} {n:Nat} {acc:List (Str × Addr)},lo<=n->(∀ c,acc.lookup y=some c->lo<=c)->∀ c,(cellsFrom n names acc).lookup y=some c->lo<=c
 | [],_,_,_,h=>h
 | (nm,k)::r,n,acc,hn,h=>by
  unfold cellsFrom
  split
  ·refine x54 (n:=n+1) (by omega) fun c e=>?_
   rw[List.lookup_cons]at e
   split at e
   ·cases e; exact hn
   ·exact h c e
  ·exact x54 hn h
theorem x60 {lo:Nat} {y:Str}:∀ {names:List (Str × NameKind)} {n:Nat} {acc:List (Str × Addr)},lo<=n->(y,NameKind.cell)∈names->∀ c,(cellsFrom n names acc).lookup y=some c->lo<=c
 | (nm,k)::r,n,acc,hn,h=>by
  unfold cellsFrom
  rcases List.mem_cons.mp h with q | q
  ·cases q
   rw[if_pos (by rfl)]
   refine x54 (n:=n+1) (by omega) fun c e=>?_
   rw[List.lookup_cons,beq_self_eq_true]at e
   cases e; exact hn
  ·split
   ·exact x60 (n:=n+1) (by omega) q
   ·exact x60 hn q
theorem x48 {y:Str}:∀ {names:List (Str × NameKind)} {n:Nat} {acc:List (Str × Addr)},(y,NameKind.cell) ∉ names->(cellsFrom n names acc).lookup y=acc.lookup y
 | [],_,_,_=>rfl
 | (nm,k)::r,n,acc,h=>by
  unfold cellsFrom
  split
  ·rename_i hk
   rw[x48 (fun z=>h (List.mem_cons_of_mem _ z)),List.lookup_cons]
   have hne:(y == nm)=false:=by
    cases e:y == nm with
    | false=>rfl
    | true=>
     have e1:y=nm:=beq_iff_eq.mp e
     have e2:k=NameKind.cell:=by simpa using hk
     exact absurd (by rw[e1,<- e2]; exact List.mem_cons_self) h
   rw[hne]
  ·exact x48 fun z=>h (List.mem_cons_of_mem _ z)
noncomputable def y3s (env:Env) (y:Str) (k:NameKind):NameKind:=if(k == NameKind.free && env.scope.kind == .function && env.kindOf y == some .cell)then .cell else k
theorem x4l {env:Env} {y:Str}:∀ (names:List (Str × NameKind)),(names.map fun(n,k)=>if(k == NameKind.free && env.scope.kind == .function && env.kindOf n == some .cell)then(n,NameKind.cell)else(n,k)).lookup y=(names.lookup y).map (y3s env y)
 | []=>rfl
 | (n,k)::r=>by
  have ih:=x4l (env:=env) (y:=y) r
  show List.lookup y ((if(k == NameKind.free && env.scope.kind == .function && env.kindOf n == some .cell)=true then(n,NameKind.cell)else(n,k))::_)=_
  cases hx:y == n with
  | true=>
   have e:=beq_iff_eq.mp hx
   subst e
   rw[List.lookup_cons,List.lookup_cons]
   by_cases hc:(k == NameKind.free && env.scope.kind == .function && env.kindOf y == some .cell)=true
   ·simp only[y3s,hc,if_true,beq_self_eq_true,Option.map_some]
   ·simp only[y3s,hc,beq_self_eq_true,Option.map_some]
    simp
  | false=>
   by_cases hc:(k == NameKind.free && env.scope.kind == .function && env.kindOf n == some .cell)=true
   ·rw[if_pos hc,List.lookup_cons,List.lookup_cons]; simp only[hx]; exact ih
   ·rw[if_neg hc,List.lookup_cons,List.lookup_cons]; simp only[hx]; exact ih
theorem y42 {l:List (Str × NameKind)} (hn:(l.map (·.1)).Nodup) {y:Str} {k:NameKind} (h:(y,k)∈l):l.lookup y=some k:=by
 induction l with
 | nil=>cases h
 | cons p r ih=>
  rw[List.lookup_cons]
  rcases List.mem_cons.mp h with e | h
  ·rw[<- e,beq_self_eq_true]
  ·have hne:y≠p.1:=fun e=>by
    have:=(List.nodup_cons.mp hn).1
    exact this (by show p.1∈_; rw[<- e]; exact List.mem_map.mpr ⟨(y,k),h,rfl⟩)
   have:(y == p.1)=false:=by simpa using hne
   rw[this]
   exact ih (List.nodup_cons.mp hn).2 h
noncomputable def y8x (scope:Scope) (env:Env) (C:Addr):Env:=
 { newEnv scope C env.globals (cellsFrom (C+1) scope.names (x1x env.cells scope.names [])) env.qual none .none (some env) builtinsNs with scope:=relabel scope env }
noncomputable def x1r (X:Cx) (N':List Str) (scope:Scope) (C:Addr) (s:Shared) (H:Hp) (fp:List Addr):Cx where
 prog:=X.prog
 w:=X.w
 K:=X.K
 mg:=X.mg
 base:=X.base
 A:=X.A
 N:=N'
 s₀:=s
 H₀:=H
 env:=y8x scope X.env C
 outer:=X.stack
 stack:=X.stack
 ex:=fp
 fn:=fun y=>scope.names.lookup y == some .cell
 calm:=X.calm
 pn:=[]
 xe:=fun _ _=>False
structure CompOk (X:Cx) (k:Nat) (N':List Str) (scope:Scope):Prop where
 kind:scope.kind=.function
 names:(scope.names.map (·.1)).Nodup
 len:N'.length=X.N.length+k
 frees:(scope.names.all fun y=>y.2 != .free || X.env.kindOf y.1 == some .cell || X.env.kindOf y.1 == some .free)=true
 outs:((N'.zip X.N).all fun p=>(p.1 == p.2 && scope.names.lookup p.1 == some .free) || scope.names.lookup p.1 == none || scope.names.lookup p.1 == some .globalImplicit)=true
theorem CompOk.free {X:Cx} {k:Nat} {N':List Str} {scope:Scope} (S:CompOk X k N' scope) {y:Str} (h:(y,NameKind.free)∈scope.names):X.env.kindOf y=some .cell\/X.env.kindOf y=some .free:=by
 have:=List.all_eq_true.mp S.frees (y,NameKind.free) h
 simp only[Bool.or_eq_true,bne_iff_ne,ne_eq,beq_iff_eq]at this
 rcases this with(h1 | h1) | h1
 ·exact absurd trivial h1
 ·exact .inl h1
 ·exact .inr h1
theorem CompOk.out {X:Cx} {k:Nat} {N':List Str} {scope:Scope} (S:CompOk X k N' scope) {i:Nat} {y:Str} (hi':i<X.N.length) (h:N'[i]? = some y) (hv:Vis (relabel scope X.env) y):X.N[i]? = some y/\scope.names.lookup y=some .free:=by
 have e2:X.N[i]? = some X.N[i]:=by simp[hi']
 have m:(y,X.N[i])∈N'.zip X.N:=List.mem_of_getElem? (i:=i) (by rw[List.getElem?_zip_eq_some]; exact⟨h,e2⟩)
 have:=List.all_eq_true.mp S.outs _ m
 simp only[Bool.or_eq_true,Bool.and_eq_true,beq_iff_eq]at this
 have hl:(relabel scope X.env).names.lookup y=(scope.names.lookup y).map (y3s X.env y):=x4l _
 rcases this with(⟨h1,h2⟩ | h1) | h1
 ·exact⟨by rw[e2,<- h1],h2⟩
 ·rw[h1]at hl
  rcases hv with z | z | z <;> (rw[hl]at z; cases z)
 ·rw[h1]at hl
  have hr:y3s X.env y .globalImplicit=.globalImplicit:=rfl
  rw[Option.map_some,hr]at hl
  rcases hv with z | z | z <;> (rw[hl]at z; cases z)
theorem Un.updNew {fs ex:List Addr} {P:Program} {w:World} {H H':Hp} {h h':Heap} {D:Addr} {o:HO} (u:Un fs ex H H' h h') (hok:HOk P w H h) (hD:h.objs.size<=D):Un fs ex H (upd H' D o) h h':=by
 have ne:∀ b ob,h.get? b=some ob->b≠D:=fun b ob e z=>absurd (Nat.lt_of_lt_of_le (Heap.lt_size e) hD) (by rw[z]; exact Nat.lt_irrefl _)
 have ne':∀ b x,H b=some x->b≠D:=fun b x e z=>absurd (Nat.lt_of_lt_of_le (hok.lt e) hD) (by rw[z]; exact Nat.lt_irrefl _)
 refine⟨u.keep,u.slot,fun b ob e n hx=>?_,u.there,fun b xs e=>?_,fun b ob x e=>?_,fun b ps e=>?_⟩
 ·rw[x0g (ne b ob e)]; exact u.free b ob e n hx
 ·rw[x0g (ne' b _ e)]; exact u.tups b xs e
 ·rw[x0g (ne' b _ e)]; exact u.frzs b ob x e
 ·rw[x0g (ne' b _ e)]; exact u.tbls b ps e
theorem HOk.add {P:Program} {w:World} {H:Hp} {h:Heap} {D:Addr} {o:HO} (x:HOk P w H h) (hn:H D=none) (new:x27 P w (upd H D o) h D o):HOk P w (upd H D o) h:=fun b u e=>by
 by_cases hb:b=D
 ·subst hb; rw[x0x]at e; cases e; exact new
 ·rw[x0g hb]at e
  exact(x b u e).stay (fun c v _ q=>q) (fun c q=>by rw[x0g (x0u q hn)]; exact q) fun c xs q=>by rw[x0g (x0u q hn)]; exact q
noncomputable def PTs (X:Cx) (ifs:List Expr) (t:TT):Prop:=
 ∀ (pins:List (Addr × Obj)) (s:Shared) (σ:St) (H:Hp) (Q:Bool->Hp->Prop),Inv X pins σ H s->t σ H Q->
  wpAny (model X.prog X.w) X.A (forIn ifs true fun c r=>if r=true then do let ok <- isTrue c X.env (eval c X.env); pure (ForInStep.yield ok)else pure (ForInStep.yield r)) (TP X pins σ Q) X.xe s
noncomputable def j3f:TT:=fun _ H Q=>Q true H
theorem z52 {X:Cx}:PTs X [] j3f:=fun pins s σ H Q I h=>wpAny_tests_nil ⟨H,I,h⟩
theorem z4s {X:Cx} {c:Expr} {t:TT} (h:PT X c t):PTs X [c] t:=fun pins s σ H Q I q=>wpAny_tests_one (h pins s σ H Q I q)
noncomputable def z9j (k:Nat) (g:TG) (tt:TT) (te:TE) (σ:St) (J:It) (H:Hp) (Fin:List V->Hp->Prop):Prop:=
 ∃ W:Nat->Nat->List V->Hp->Prop,(∃ m,W 0 m [] H)/\∀ i m ys H2,W i m ys H2->ys.length<=sizeLine /\
  ((J.stop i H2/\Fin ys H2)\/(J.go i H2/\ys.length<sizeLine/\∀ x H3,J.yld i H2 x H3->g x (σ++List.replicate k none) H3 fun σ4 H4=>(∃ τ,σ4=σ++τ/\τ.length=k) /\
    tt σ4 H4 fun b H5=>if b=true then te σ4 H5 fun v H6=>∃ m',m'<m/\W (i+1) m' (ys++[v]) H6 else ∃ m',m'<m/\W (i+1) m' ys H5))
noncomputable def z1y (k:Nat) (wi:TI) (g:TG) (tt:TT) (te:TE):TE:=fun σ H Q=>wi σ H fun J H1=>z9j k g tt te σ J H1 fun ys H2=>∀ p,H2 p=none->Q (.ref p) (upd H2 p (.lst ys))
noncomputable def lsO (us:List Value) (n:Nat):Obj:={ cls:=.type "list",data:=.seq us.toArray n }
theorem j0e {X:Cx} {pins:List (Addr × Obj)} {τ σ:St} {H:Hp} {s:Shared} (I:Inv X pins (σ++τ) H s):Inv X pins (σ++List.replicate τ.length none) H s:=
 I.weak (by simp) fun i v e=>by
  by_cases hi:i<σ.length
  ·rw[List.getElem?_append_left hi]at e ⊢
   exact e
  ·rw[List.getElem?_append_right (by omega),List.getElem?_replicate]at e
   split at e <;> cases e
section
variable {X:Cx} {k:Nat} {N':List Str} {scope:Scope} {pins:List (Addr × Obj)} {σ:St} {H2:Hp} {s2:Shared} {fp:List Addr}
noncomputable abbrev x7o (scope:Scope) (s2:Shared):Heap:=pushCells ((s2.heap.push (lsO [] 0)).push { cls:=.type "dict",data:=.dict #[] }) scope.names
theorem z1u (S:CompOk X k N' scope) (I2:Inv X pins σ H2 s2) (f2:∀ b∈fp,y9o X pins H2 b) (hfp:∀ b∈fp,b<s2.heap.objs.size) :
  Inv (x1r X N' scope (s2.heap.objs.size+1) s2 H2 fp) [(s2.heap.objs.size,lsO [] 0)] (σ++List.replicate k none) H2 { s2 with heap:=x7o scope s2 }:=by
 have e1:(s2.heap.push (lsO [] 0)).objs.size=s2.heap.objs.size+1:=Heap.size_push ..
 have e2:((s2.heap.push (lsO [] 0)).push { cls:=.type "dict",data:=.dict #[] }).objs.size=s2.heap.objs.size+1+1:=by rw[Heap.size_push,e1]
 have keep:∀ b o,s2.heap.get? b=some o->(x7o scope s2).get? b=some o:=fun b o e=>pushCells_keeps _ _ b o (Heap.get?_push_of_some _ (Heap.get?_push_of_some _ e))
 have hsub:∀ y c,(y,c)∈x1x X.env.cells scope.names []->X.env.cells.lookup y=some c:=x53 (fun _ _ m=>nomatch m)
 have cmem:∀ y c,(y,c)∈cellsFrom (s2.heap.objs.size+1+1) scope.names (x1x X.env.cells scope.names [])->X.env.cells.lookup y=some c\/(s2.heap.objs.size+1+1<=c/\(x7o scope s2).IsCell c none):=fun y c m=>by
  have m':(y,c)∈cellsFrom ((s2.heap.push (lsO [] 0)).push { cls:=.type "dict",data:=.dict #[] }).objs.size scope.names (x1x X.env.cells scope.names []):=by rw[e2]; exact m
  rcases x5a m' with q | ⟨q1,q2⟩
  ·exact .inl (hsub y c q)
  ·rw[e2]at q1; exact .inr ⟨q1,q2⟩
 have clt:∀ y c,X.env.cells.lookup y=some c->c<s2.heap.objs.size:=fun y c e=>by obtain⟨v,z⟩:=I2.cell y c e; exact z.lt
 have hl:∀ y,(relabel scope X.env).names.lookup y=(scope.names.lookup y).map (y3s X.env y):=fun y=>x4l _
 have ok:(x1r X N' scope (s2.heap.objs.size+1) s2 H2 fp).Ok:=by
  refine⟨I2.ok.mod,S.kind,I2.ok.glob,I2.ok.blt,Nat.le_succ _,fun x y c h1 h2=>?_,fun x hx=>?_,fun x c hf h=>?_,I2.ok.hd,I2.ok.frames,.inl rfl,fun b hb=>⟨?_,fun x c h z=>?_⟩,I2.bs,Nat.le_trans I2.ok.bsz I2.sz,fun b o e hb=>?_,fun b hb z=>?_,I2.stack,I2.stkFree⟩
  ·refine x56 (n:=s2.heap.objs.size+1+1) (names:=scope.names) (acc:=x1x X.env.cells scope.names []) (fun y c m=>?_) (fun x y c m1 m2=>?_) x y c (PySem.mem_of_lookup h1) (PySem.mem_of_lookup h2)
   ·exact Nat.lt_of_lt_of_le (clt y c (hsub y c m)) (by omega)
   ·exact I2.ok.inj x y c (hsub x c m1) (hsub y c m2)
  ·have hx':(relabel scope X.env).names.lookup x=some .cell\/(relabel scope X.env).names.lookup x=some .free:=hx
   rw[hl x]at hx'
   have:scope.names.lookup x=some .cell\/scope.names.lookup x=some .free:=by
    cases e:scope.names.lookup x with
    | none=>rw[e]at hx'; rcases hx' with z | z <;> cases z
    | some kd=>
     rw[e,Option.map_some]at hx'
     cases kd <;> first
      | exact .inl rfl
      | exact .inr rfl
      | (rcases hx' with z | z <;> (have z':=Option.some.inj z; unfold y3s at z'; simp at z'))
   rcases this with q | q
   ·exact Option.isSome_iff_exists.mp (PySem.W.cellsFrom_some scope.names (s2.heap.objs.size+1+1) _ (.inl q))
   ·have qm:=PySem.mem_of_lookup q
    have hk:=S.free qm
    obtain⟨c,hc⟩:=I2.ok.has x hk
    exact Option.isSome_iff_exists.mp (PySem.W.cellsFrom_some scope.names (s2.heap.objs.size+1+1) _ (.inr (x40 hc qm)))
  ·have hf':(scope.names.lookup x == some .cell)=true:=hf
   have:=x60 (lo:=s2.heap.objs.size) (n:=s2.heap.objs.size+1+1) (acc:=x1x X.env.cells scope.names []) (by omega) (PySem.mem_of_lookup (beq_iff_eq.mp hf')) c h
   exact this
  ·have:=hfp b hb
   show b≠s2.heap.objs.size+1
   exact Nat.ne_of_lt (Nat.lt_of_lt_of_le this (Nat.le_succ _))
  ·have q:=hfp b hb
   rcases cmem x c (PySem.mem_of_lookup h)with w | ⟨w,_⟩
   ·exact(f2 b hb).2.2.2.2.1 x c w z
   ·subst z; exact absurd (Nat.lt_of_lt_of_le q (Nat.le_trans (by omega) w)) (Nat.lt_irrefl _)
  ·rcases(f2 b hb).2.2.2.1 with z | z
   ·exact I2.ok.noex b o e z
   ·have:=Heap.lt_size e
    have:=I2.ok.bsz
    exact absurd (Nat.lt_of_lt_of_le (Heap.lt_size e) (Nat.le_trans I2.ok.bsz z)) (Nat.lt_irrefl _)
  ·rcases List.mem_cons.mp (I2.stkSub b z)with q | q
   ·exact(f2 b hb).2.1 q
   ·exact(f2 b hb).2.2.1 q
 obtain⟨m,hn,hloc⟩:=id I2.loc
 refine⟨ok,rfl,I2.bare,Un.kept keep,⟨fun _=>none,?_,fun i y v h1 h2 h3=>?_⟩,fun y c h=>?_,I2.hok.fresh (Nat.le_succ _),fun y c h=>?_,fun p hp=>?_,I2.hok.kept keep,?_⟩
 ·have:=(Heap.Ns.new (s2.heap.push (lsO [] 0)) (.type "dict")).keeps (pushCells_keeps scope.names _)
  rw[e1]at this
  exact this
 ·by_cases hi:i<σ.length
  ·have h3':Vis (relabel scope X.env) y:=h3
   obtain⟨o1,o2⟩:=S.out (by rw[<- I2.len]; exact hi) h1 h3'
   have hk:=S.free (PySem.mem_of_lookup o2)
   have hs:σ[i]? = some (some v):=by
    rw[List.getElem?_append_left hi]at h2
    exact h2
   obtain⟨u,r,l⟩:=hloc i y v o1 hs (.inr hk)
   refine⟨u,r,?_⟩
   rcases l with⟨l,_⟩ | ⟨_,c,hc,hcell⟩
   ·rcases hk with z | z <;> (rw[l]at z; cases z)
   ·refine .inr ⟨?_,c,?_,hcell.keeps keep⟩
    ·show(relabel scope X.env).names.lookup y=some .cell\/(relabel scope X.env).names.lookup y=some .free
     rw[hl y,o2,Option.map_some]
     unfold y3s
     split
     ·exact .inl rfl
     ·exact .inr rfl
    ·show(cellsFrom (s2.heap.objs.size+1+1) scope.names (x1x X.env.cells scope.names [])).lookup y=some c
     rw[x48 (fun z=>by have:=y42 S.names z; rw[o2]at this; cases this)]
     obtain⟨c',hc'⟩:=Option.isSome_iff_exists.mp (x40 (acc:=[]) hc (PySem.mem_of_lookup o2))
     have:=hsub y c' (PySem.mem_of_lookup hc')
     rw[hc]at this; cases this
     exact hc'
  ·rw[List.getElem?_append_right (by omega),List.getElem?_replicate]at h2
   split at h2 <;> cases h2
 ·rcases cmem y c (PySem.mem_of_lookup h)with w | ⟨_,w⟩
  ·obtain⟨v,z⟩:=I2.cell y c w
   exact⟨v,z.keeps keep⟩
  ·exact⟨_,w⟩
 ·rcases cmem y c (PySem.mem_of_lookup h)with w | ⟨w,_⟩
  ·exact I2.freeC y c w
  ·exact I2.hok.fresh (by omega)
 ·have e:p=(s2.heap.objs.size,lsO [] 0):=by
   have:p ∈ [(s2.heap.objs.size,lsO [] 0)]:=hp
   simpa using this
  subst e
  refine⟨pushCells_keeps _ _ _ _ (Heap.get?_push_of_some _ (Heap.get?_push_size _ rfl)),I2.hok.fresh (Nat.le_refl _),?_,fun z=>?_,fun v z=>nomatch z⟩
  ·show s2.heap.objs.size≠s2.heap.objs.size+1
   omega
  ·have z':s2.heap.objs.size∈frs X.stack:=z
   rcases List.mem_cons.mp (I2.stkSub _ z')with q | q
   ·exact absurd I2.lt (by rw[<- q]; exact Nat.lt_irrefl _)
   ·exact I2.nofs (Nat.le_refl _) q
 ·rw[List.length_append,List.length_replicate,I2.len]
  exact S.len.symm
theorem z0n {us:List Value} {n:Nat} {ys:List V} {H':Hp} {s':Shared} {σ':St} {C:Addr} (I2:Inv X pins σ H2 s2) (f2:∀ b∈fp,y9o X pins H2 b)
  (I3:Inv (x1r X N' scope C s2 H2 fp) [(s2.heap.objs.size,lsO us n)] σ' H' s') (r:x2h ys us) (hz:ys.length<=sizeLine):Inv X pins σ (upd H' s2.heap.objs.size (.lst ys)) s':=by
 obtain⟨e,hn,_⟩:=I3.pin (s2.heap.objs.size,lsO us n) (List.mem_append_right _ (List.mem_singleton.mpr rfl))
 have u:Un (frs X.stack) fp H2 H' s2.heap s'.heap:=I3.base
 exact I2.call' (ch:=fp) I3.os (u.updNew I2.hok (Nat.le_refl _)) (I3.hok.add hn ⟨hz,us,n,r,e⟩) I3.bare fun b hb=>⟨(f2 b hb).2.2.2.1,(f2 b hb).2.1,(f2 b hb).2.2.2.2⟩
end
theorem y6a {X:Cx} {k:Nat} {N':List Str} {scope:Scope} {pins:List (Addr × Obj)} {σ:St} {H2:Hp} {s2:Shared} {fp:List Addr} {elt tg iter:Expr} {ifs:List Expr} {pos:Pos} {it:Addr} {tn:Nat->Heap->Prop} {J:It} {g:TG} {tt:TT} {te:TE} {Fin:List V->Hp->Prop} {E:Value->Shared->Prop} {RR:Value->Addr->Result->Shared->Prop}
  (hc:X.calm=true) (S:CompOk X k N' scope) (hg:∀ C s H fp,PG (x1r X N' scope C s H fp) tg g) (ht:∀ C s H fp,PTs (x1r X N' scope C s H fp) ifs tt) (he:∀ C s H fp,PE (x1r X N' scope C s H fp) elt te)
  (I2:Inv X pins σ H2 s2) (T:Turn X.prog X.w X.K tg J fp it tn) (st2:tn 0 s2.heap) (f2:∀ b∈fp,y9o X pins H2 b) (R:z9j k g tt te σ J H2 Fin)
  (hRR:∀ C ys H' s' m',Inv X pins σ (upd H' s2.heap.objs.size (.lst ys)) s'->s'.heap.Ns C m'->H' s2.heap.objs.size=none->upd H' s2.heap.objs.size (.lst ys) C=none->C≠X.env.locals->X.s₀.heap.objs.size<=C->s2.heap.objs.size<C->
    Fin ys H'->RR (.ref s2.heap.objs.size) C (.ok .next) s') :
  wpAny (model X.prog X.w) X.A (newList []) (fun acc s₃=>wpAny (model X.prog X.w) X.A (newFunctionEnv scope X.env.globals (x1x X.env.cells scope.names []) [] X.env.qual none .none (some X.env)) (fun cenv s₄=>
   codeAny (model X.prog X.w) X.A (.compStart (.ListComp elt [⟨tg,iter,ifs,0⟩] scope pos) 0 (.ref it) acc { cenv with scope:=relabel scope X.env }) (RR acc cenv.locals) s₄) E s₃) E s2:=by
 refine wpAny_newObj_type (y4w ?_)
 have e1:(s2.heap.push (lsO [] 0)).objs.size=s2.heap.objs.size+1:=Heap.size_push ..
 have hfp:∀ b∈fp,b<s2.heap.objs.size:=fun b hb=>by obtain⟨o,e,_⟩:=T.obj _ _ st2 b hb; exact Heap.lt_size e
 obtain⟨W,⟨m0,w0⟩,turn⟩:=R
 have I3:=z1u S I2 f2 hfp
 have st3:tn 0 (x7o scope s2):=T.keep _ _ _ st2 fun b hb o e=>pushCells_keeps _ _ b o (Heap.get?_push_of_some _ (Heap.get?_push_of_some _ e))
 have hDC:s2.heap.objs.size≠s2.heap.objs.size+1:=by omega
 -- what stays true of the iterator's objects
 have stat:∀ {H':Hp} {us:List Value} {n:Nat},(∀ b∈fp,H' b=none)->∀ b∈fp,y9o (x1r X N' scope (s2.heap.objs.size+1) s2 H2 fp) [(s2.heap.objs.size,lsO us n)] H' b:=fun {H' us n} hn b hb=>by
  have q:=I3.ok.exf b hb
  refine⟨hn b hb,q.1,I3.ok.exfs b hb,.inl hb,q.2,fun p hp z=>?_⟩
  have hp':p ∈ [(s2.heap.objs.size,lsO us n)]:=hp
  have e:p=(s2.heap.objs.size,lsO us n):=by simpa using hp'
  subst e
  have:=hfp b hb
  have z':s2.heap.objs.size=b:=z
  exact absurd this (by rw[z']; exact Nat.lt_irrefl _)
 have loop:∀ it',it'=Value.ref it->codeAny (model X.prog X.w) X.A (.compLoop (.ListComp elt [⟨tg,iter,ifs,0⟩] scope pos) 0 it' (.ref s2.heap.objs.size) (y8x scope X.env (s2.heap.objs.size+1))) (RR (.ref s2.heap.objs.size) (s2.heap.objs.size+1)) { s2 with heap:=x7o scope s2 }:=by
  rintro _ rfl
  refine y41 (fun n s'=>∃ i ys us cnt H',Inv (x1r X N' scope (s2.heap.objs.size+1) s2 H2 fp) [(s2.heap.objs.size,lsO us cnt)] (σ++List.replicate k none) H' s'/\tn i s'.heap/\(∀ b∈fp,H' b=none)/\x2h ys us/\W i n ys H') ?_ m0
   ⟨0,[],[],0,H2,I3,st3,fun b hb=>(f2 b hb).1,.nil,w0⟩
  rintro n s3 ⟨i,ys,us,cnt,H3,J3,st,fr,r3,w3⟩
  obtain⟨hz,hw⟩:=turn i n ys H3 w3
  rcases hw with⟨stop,fin⟩ | ⟨go,hlt,step⟩
  ·refine thn (T.done (x1r X N' scope (s2.heap.objs.size+1) s2 H2 fp) rfl rfl rfl hc i _ s3 _ H3 _ J3 (stat fr) st stop) fun rr s4 ⟨hr,I4⟩=>?_
   subst hr
   obtain⟨m',hn',_⟩:=id I4.loc
   obtain⟨eD,nD,_⟩:=I4.pin (s2.heap.objs.size,lsO us cnt) (List.mem_append_right _ (List.mem_singleton.mpr rfl))
   refine hRR (s2.heap.objs.size+1) ys H3 s4 m' (z0n I2 f2 I4 r3 hz) hn' nD ?_ ?_ ?_ (Nat.lt_succ_self _) fin
   ·rw[x0g (Ne.symm hDC)]; exact I4.free
   ·exact Ne.symm (Nat.ne_of_lt (Nat.lt_of_lt_of_le I2.lt (Nat.le_succ _)))
   ·have:=I2.sz; omega
  ·refine thn (T.item (x1r X N' scope (s2.heap.objs.size+1) s2 H2 fp) rfl rfl rfl hc i _ s3 _ H3 _ J3 (stat fr) st go) fun rr s4 ⟨u,hr,h4⟩=>?_
   subst hr
   refine thn h4 fun _ s5 hh0=>?_
   obtain⟨x,H5,I5,r5,y5,st5,fr5⟩:=hh0
   have I5':=I5.pinned (stat fr5) (T.obj _ _ st5)
   refine thn (hg _ _ _ _ _ s5 _ H5 x u _ I5' r5 (step x H5 y5)) fun _ s6 ⟨σ6,H6,I6,⟨τ,e6,l6⟩,q6⟩=>?_
   subst e6
   refine thn (ht _ _ _ _ _ s6 _ H6 _ I6 q6) fun ok s7 hh0=>?_
   obtain⟨H7,I7,q7⟩:=hh0
   have kept:∀ {s':Shared} {H':Hp} {σ':St},Inv (x1r X N' scope (s2.heap.objs.size+1) s2 H2 fp) ([(s2.heap.objs.size,lsO us cnt)]++x8s fp s5.heap) σ' H' s'->tn (i+1) s'.heap/\∀ b∈fp,H' b=none:=fun {s' H' σ'} I'=>by
    refine⟨T.keep _ _ _ st5 fun b hb o e=>(I'.pin (b,o) (List.mem_append_right _ (List.mem_append_right _ (x69 hb e)))).1,fun b hb=>?_⟩
    obtain⟨o,e,d⟩:=T.obj _ _ st5 b hb
    exact(I'.pin (b,o) (List.mem_append_right _ (List.mem_append_right _ (x69 hb e)))).2.1
   cases ok with
   | false=>
    rw[if_neg (by decide)]at q7 ⊢
    obtain⟨m',hm,w7⟩:=q7
    have:=j0e I7.unpinned
    rw[l6]at this
    exact⟨m',hm,i+1,ys,us,cnt,H7,this,(kept I7).1,(kept I7).2,r3,w7⟩
   | true=>
    rw[if_pos rfl]at q7 ⊢
    refine thn (he _ _ _ _ _ s7 _ H7 _ I7 q7) fun u8 s8 hh0=>?_
    obtain⟨v,H8,I8,r8,m',hm,w8⟩:=hh0
    obtain⟨eD,nD,neD,nfD,dD⟩:=I8.pin (s2.heap.objs.size,lsO us cnt) (List.mem_append_right _ (List.mem_append_left _ (List.mem_singleton.mpr rfl)))
    refine append_at eD (fun h9 hs9 hD9=>?_) (hsz:=by rw[List.size_toArray,<- r3.length]; exact Nat.le_of_lt hlt)
    have Ia:=I8.pins_of (pins':=x8s fp s5.heap) fun p hp=>I8.pin p (List.mem_append_right _ (List.mem_append_right _ hp))
    have nfp:∀ p∈x8s fp s5.heap,p.1≠s2.heap.objs.size:=fun p hp z=>by
     have:=hfp p.1 (y45 hp).1
     exact absurd this (by rw[z]; exact Nat.lt_irrefl _)
    have Ib:=Ia.turned (h':=h9) (t':=s8.toks) (it:=s2.heap.objs.size) (fun b o hb e=>hs9.extBut b o hb e) nD neD (.inr (Nat.le_refl _)) (fun y c h z=>by
      obtain⟨vv,o,ho,hd⟩:=I8.cell y c h
      rw[z,eD]at ho
      cases ho
      cases hd) (fun p hp=>nfp p (by
      have hp':p ∈ []++x8s fp s5.heap:=hp
      simpa using hp'))
    have Ic:=Ib.pins_of (pins':=[(s2.heap.objs.size,lsO (us++[u8]) (cnt+1))]) fun p hp=>by
     have e:p=(s2.heap.objs.size,lsO (us++[u8]) (cnt+1)):=by simpa using hp
     subst e
     refine⟨?_,nD,neD,nfD,fun v z=>nomatch z⟩
     show h9.get? s2.heap.objs.size=_
     rw[hD9]
     unfold lsO
     simp
    have Id:=j0e Ic
    rw[l6]at Id
    have kp:=kept I8
    refine⟨m',hm,i+1,ys++[v],us++[u8],cnt+1,H8,Id,T.keep _ _ _ kp.1 fun b hb o e=>hs9.extBut b o (fun z=>by
     have:=hfp b hb
     have z':b=s2.heap.objs.size:=z
     exact absurd this (by rw[z']; exact Nat.lt_irrefl _)) e,kp.2,x2h.append r3 (.cons r8 .nil),w8⟩
 have hC:(s2.heap.push { cls:=.type "list",dict:=none,data:=.seq ([]:List Value).toArray }).objs.size=s2.heap.objs.size+1:=Heap.size_push ..
 have fin:=codeAny_compStart_list (loop _ rfl) (T.self X.A 0 _ _ _ st3 (loop _ rfl))
 dsimp only at fin ⊢
 rw[hC]
 exact fin
theorem CompOk.locs {X:Cx} {k:Nat} {N':List Str} {scope:Scope} (S:CompOk X k N' scope):∀ y∈scope.names,y.2=.local->scope.names.lookup y.1=some .local:=fun y hy e=>by
 obtain⟨n,kd⟩:=y
 have e':kd=.local:=e
 subst e'
 exact y42 S.names hy
theorem x8p {h:Heap} {C c:Addr} {m:Str->Option Value} {v:Option Value} (hn:h.Ns C m) (hc:h.IsCell c v):c≠C:=fun z=>by
 obtain⟨o,es,ep,ho,hd,_⟩:=hn
 obtain⟨o',ho',hd'⟩:=hc
 rw[z,ho]at ho'
 cases ho'
 rw[hd]at hd'
 cases hd'
section
variable {X:Cx} {k:Nat} {N':List Str} {scope:Scope} {elt tg iter:Expr} {ifs:List Expr} {pos:Pos} {wi:TI} {g:TG} {tt:TT} {te:TE}
theorem z4y (hc:X.calm=true) (S:CompOk X k N' scope) (hi:PI X tg iter wi) (hg:∀ C s H fp,PG (x1r X N' scope C s H fp) tg g) (ht:∀ C s H fp,PTs (x1r X N' scope C s H fp) ifs tt) (he:∀ C s H fp,PE (x1r X N' scope C s H fp) elt te)
  (hs:∀ x,foldedSetIterable iter X.env x=pure x:=by intro _; rfl):PE X (.ListComp elt [⟨tg,iter,ifs,0⟩] scope pos) (z1y k wi g tt te):=by
 intro pins s σ H Q I h
 rw[eval_ListComp]
 refine wpAny_comprehension_free (use:=none) rfl hs (x7v fun y hy e=>?_) S.kind S.locs (thn (hi pins s σ H _ I h) fun v s1 h1=>thn h1 fun itv s2 h2=>?_)
 ·obtain⟨n,kd⟩:=y
  have e':kd=.free:=e
  subst e'
  exact I.ok.has n (S.free hy)
 ·obtain⟨it,fp,tn,J,H2,e,I2,T,st2,f2,R⟩:=h2
  subst e
  refine y6a hc S hg ht he I2 T st2 f2 R ?_
  intro C ys H' s' m' I' hn hD hCn hCL hCs hCD fin
  refine⟨m',hn,fun h' hs'=>⟨.ref s2.heap.objs.size,_,I'.turned (h':=h') (t':=s'.toks) (it:=C) (fun b o hb e=>hs'.extBut b o hb e) hCn hCL (.inr hCs) (fun x c h=>?_) (fun p hp z=>?_),rfl,fin _ hD⟩⟩
  ·obtain⟨v,q⟩:=I'.cell x c h
   exact x8p hn q
  ·have:=Heap.lt_size (I2.pin p hp).1
   exact absurd (Nat.lt_trans this hCD) (by rw[z]; exact Nat.lt_irrefl _)
theorem z6k {i:Nat} {y:Str} {py spos:Pos} (hN:X.N.Nodup) (hy:X.N[i]? = some y) (hx:Loc X.env.scope y) (hsw:swapsWith (.ListComp elt [⟨tg,iter,ifs,0⟩] scope pos) (some (.Name y py)) spos.line X.env=pure true)
  (hc:X.calm=true) (S:CompOk X k N' scope) (hi:PI X tg iter wi) (hg:∀ C s H fp,PG (x1r X N' scope C s H fp) tg g) (ht:∀ C s H fp,PTs (x1r X N' scope C s H fp) ifs tt) (he:∀ C s H fp,PE (x1r X N' scope C s H fp) elt te)
  (hs:∀ x,foldedSetIterable iter X.env x=pure x:=by intro _; rfl) (hf:X.fn y=true\/X.env.scope.names.lookup y=some .local:=by first | exact .inl rfl | exact .inr rfl | assumption) :
  PS X (.Assign [.Name y py] (.ListComp elt [⟨tg,iter,ifs,0⟩] scope pos) spos) (j1q (z1y k wi g tt te) (z5g i)):=by
 intro pins s σ H D I h
 rw[exec_Assign_Name_used _ _ _ _ hsw]
 refine wpAny_bind (wpAny_standAt (wpAny_bind ?_))
 show wpAny _ X.A (do let _ <- comprehension (.ListComp elt [⟨tg,iter,ifs,0⟩] scope pos) scope X.env _ (newList []) false (eval iter X.env) (some (assign (.Name y py) X.env))) _ _ s
 refine wpAny_bind (wpAny_mono (wpAny_comprehension_free (use:=some (assign (.Name y py) X.env)) (Q:=fun _ s'=>SP X pins D .next s') rfl hs (x7v fun z hz e=>?_) S.kind S.locs
  (thn (hi pins s σ H _ I h) fun v s1 h1=>thn h1 fun itv s2 h2=>?_)) (fun _ s' hq=>wpAny_pure (wpAny_pure hq)) fun _ _ e=>e)
 ·obtain⟨n,kd⟩:=z
  have e':kd=.free:=e
  subst e'
  exact I.ok.has n (S.free hz)
 ·obtain⟨it,fp,tn,J,H2,e,I2,T,st2,f2,R⟩:=h2
  subst e
  refine y6a hc S hg ht he I2 T st2 f2 R ?_
  intro C ys H' s' m' I' hn hD hCn hCL hCs hCD fin
  show wpAny _ X.A (assign (.Name y py) X.env (.ref s2.heap.objs.size)) _ _ _
  refine wpAny_assign_Name (y3j I' hN hy hx (v:=.ref s2.heap.objs.size) rfl (fun s'' I'' ⟨a,sb,ha⟩=>?_) hf)
  have hCa:C≠a:=fun z=>by
   rcases ha with q | q
   ·exact hCL (z.trans q)
   ·obtain⟨v,w⟩:=I'.cell y a q
    exact x8p hn w z.symm
  have hn2:=hn.sameBut sb hCa
  refine⟨m',hn2,fun h' hs'=>⟨_,_,I''.turned (h':=h') (t':=s''.toks) (it:=C) (fun b o hb e=>hs'.extBut b o hb e) hCn hCL (.inr hCs) (fun x c h=>?_) (fun p hp z=>?_),fin _ hD⟩⟩
  ·obtain⟨v,q⟩:=I''.cell x c h
   exact x8p hn2 q
  ·have:=Heap.lt_size (I2.pin p hp).1
   exact absurd (Nat.lt_trans this hCD) (by rw[z]; exact Nat.lt_irrefl _)
end
end L2
namespace L3
open PySem PySem.Spec PyProof.Rows PySem.W L2
section
variable {prog:Program} {w:World} {A:Around} {E:Value->Shared->Prop} {s:Shared} {K:Frag} {x C:Addr} {ox:Obj}
structure XAt (h:Heap) (x:Addr) (ox:Obj) (C:Addr):Prop where
 at_:h.get? x=some ox
 cls:ox.cls=.ref C
theorem XAt.type {M:Model} {h:Heap} (I:XAt h x ox C):Looks M h (typeOf (.ref x)) (.ref C):=I.cls ▸ (Looks.ld I.at_).andThen .now
structure XCls (K:Frag) (C:Addr):Prop where
 ci:(clsIn K C).isSome=true
 ga:findIn K (.ref C) "__getattribute__" = some (some (.builtin "BaseException.__getattribute__"))
 gt:findIn K (.ref C) "__getattr__" = some none
 cl:findIn K (.ref C) "__class__" = some (some (.builtin "object.__class__"))
 cg:specialIn K (.builtin "object.__class__") "__get__" = some (some (.builtin "getset_descriptor.__get__"))
 ct:takesIn K (.builtin "object.__class__")=some true
 mo:mroIn K C (.type "object")=some true
 mb:mroIn K C (.type "BaseException")=some true
theorem z5u {M:Model} {h:Heap} (X:K.In h) (I:XAt h x ox C) (XC:XCls K C):Looks M h (Builtin.ObjectAttr.find (.ref x) (.ref C) "__class__") (.bind (.builtin "getset_descriptor.__get__") (.builtin "object.__class__")):=by
 have L1:=looks_findIn (M:=M) X XC.cl
 have L2:Looks M h (Builtin.ObjectAttr.getOf (some (.builtin "object.__class__"))) _:=looks_specialIn (M:=M) X XC.cg
 have L3:=looks_takesIn (M:=M) X XC.ct
 exact L1.andThen (L2.andThen ((show Looks M h (Builtin.ObjectAttr.dataDescriptor? (some (.builtin "object.__class__")) (some (.builtin "getset_descriptor.__get__"))) (some ((.builtin "getset_descriptor.__get__"),(.builtin "object.__class__")))from L3.andThen .now).andThen (Looks.tag .now)))
theorem y5f {tp:Value} {R:Result->Shared->Prop} (X:K.In s.heap) (I:XAt s.heap x ox C) (hm:mroIn K C (.type "object")=some true)
  (h:R (.ok (.ret (.ref C))) s):codeAny (model prog w) A (.call (.builtin "getset_descriptor.__get__") ⟨[.builtin "object.__class__",.ref x,tp],[]⟩) R s:=by
 obtain⟨hh,g,dr,t,os⟩:=s
 have L0:=I.type (M:=model prog w)
 have L1:=looks_mroIn (M:=model prog w) X hm
 refine codeAny_call_builtin KF.slot_gs.plain KF.entry_gs (KF.slot_gs.check _ _ _ _ _ _ _ _ KF.type_class (KF.args_gs _ _ _) ?_)
 unfold Builtin.«getset_descriptor.__get__» Builtin.Getset_descriptor.descrGet
 rw[dga_obj]
 refine wpAny_bind (wpAny_pure ?_)
 unfold Builtin.Getset_descriptor.descrGetter Builtin.Getset_descriptor.descrCheckInstance Builtin.Getset_descriptor.descrNameAndClass isInstance
 simp only[KF.owner_class]
 repeat lk
 refine⟨Code.quiet_builtin _ (by decide +kernel),codeAny_builtin KF.entry_class ?_⟩
 unfold Builtin.«object.__class__» shownTypeOf
 repeat lk
 exact h
theorem z2y {M:Model} {nameV:Value} {Q:Unit->Shared->Prop} (X:K.In s.heap) (I:XAt s.heap x ox C) (XC:XCls K C) (hq:Q () s):wpAny M A (checkBuiltinCall "BaseException.__getattribute__" ⟨[.ref x,nameV],[]⟩) Q E s:=by
 obtain⟨hh,g,d,t,os⟩:=s
 have L0:=I.type (M:=M)
 have L1:=looks_mroIn (M:=M) X XC.mb
 have hk:builtinKind "BaseException.__getattribute__" = some .slot:=by decide +kernel
 have hsplit:splitId "BaseException.__getattribute__" = some ("BaseException","__getattribute__"):=by decide +kernel
 have ha:=PySem.F.args_bexc_ga (.ref x) nameV
 simp only[checkBuiltinCall,hk,hsplit]
 unfold isInstance
 repeat lk
 exact hq
theorem j1b {tk:Tok} {R:Result->Shared->Prop} (X:K.In s.heap) (I:XAt s.heap x ox C) (XC:XCls K C) (h:R (.ok (.ret (.ref C))) s) :
  codeAny (model prog w) A (.call (.builtin "BaseException.__getattribute__") ⟨[.ref x,.str "__class__" tk],[]⟩) R s:=by
 refine codeAny_call_builtin PySem.F.excAttr_ValueError.ga.plain PySem.F.entry_bexc_ga (z2y X I XC ?_)
 obtain⟨hh,g,d,t,os⟩:=s
 have L0:=I.type (M:=model prog w)
 have L1:=z5u (M:=model prog w) X I XC
 show wpAny _ _ (Builtin.«object.__getattribute__» ⟨[.ref x,.str "__class__" tk],[]⟩) _ _ _
 refine wpAny_bind (wpAny_pure ?_)
 refine wpAny_bind (wpAny_pure ?_)
 refine wpAny_bind (L0.at (wpAny_bind (L1.at ?_)))
 show wpAny _ _ (holding [.builtin "object.__class__"] (call (.builtin "getset_descriptor.__get__") [.builtin "object.__class__",.ref x,.ref C]) >>= ret) _ _ _
 exact wpAny_bind (wpAny_holding (wpAny_call (y5f X I XC.mo (wpAny_pure h))))
theorem z0v {Q:Option Value->Shared->Prop} (X:K.In s.heap) (I:XAt s.heap x ox C) (XC:XCls K C) (h:Q (some (.ref C)) { s with toks:=s.toks+1 }):wpAny (model prog w) A (getAttr? (.ref x) "__class__") Q E s:=by
 obtain⟨hh,g,d,t,os⟩:=s
 have L0:=I.type (M:=model prog w)
 have L1:=looks_findIn (M:=model prog w) X XC.ga
 have L2:=looks_findIn (M:=model prog w) X XC.gt
 have f3:=PySem.F.excAttr_ValueError.ga.bind (.ref x)
 unfold getAttr? getAttrBy? getAttrBy
 refine wpAny_bind (wpAny_mkText (wpAny_bind (wpAny_attempt (wpAny_holding (wpAny_bind (L0.at (wpAny_bind (L1.at ?_))))))))
 show wpAny _ _ (getAttrByItsOwn _ _ _ _ _ _) _ _ _
 unfold getAttrByItsOwn
 refine wpAny_bind (L2.at ?_)
 refine wpAny_bind (wpAny_attempt (wpAny_holding ?_))
 show wpAny _ _ (boundAndCalled _ _ _) _ _ _
 unfold boundAndCalled
 rw[f3]
 refine wpAny_bind (wpAny_pure ?_)
 show wpAny _ _ (call (.builtin "BaseException.__getattribute__") [.ref x,.str "__class__" t]) _ _ _
 refine wpAny_call (j1b (s:=⟨hh,g,d,t+1,os⟩) X I XC ?_)
 exact handed_on rfl (wpAny_pure h)
theorem y3b {M:Model} {h:Heap} {D:Addr} (X:K.In h) (e:(clsIn K D).isSome=true):Looks M h (isType (.ref D)) true:=by
 unfold clsIn at e
 split at e
 ·rename_i c' d' cd' sl' ho
  intro A' Q' E' s' k q
  unfold isType loadHead
  exact wpAny_bind (wpAny_loadPart (k _ _ (X _ _ ho)) (wpAny_pure q))
 ·cases e
theorem y8a {c:Value} {dep:Int} {tk:Tok} {Q:Fin->Shared->Prop} (X:K.In s.heap) (I:XAt s.heap x ox C) (XC:XCls K C) (hty:Looks (model prog w) s.heap (typeOf c) (.type "type")) (his:Looks (model prog w) s.heap (isType c) true)
  (hne:(Value.ref C == c)=false) (hsub:Looks (model prog w) s.heap (isSubtype (.ref C) c) false) (h:Q (.done (.ret (.bool false))) { s with toks:=s.toks+1 }) :
  wpAny (model prog w) A (Builtin.«isinstance.nested» ⟨[.ref x,c,.int dep tk],[]⟩) Q E s:=by
 have hisD:=y3b (M:=model prog w) X XC.ci
 obtain⟨h0,g,d,tt,os⟩:=s
 have L0:=I.type (M:=model prog w)
 have LI:Looks (model prog w) h0 (isInstance (.ref x) c) false:=L0.andThen hsub
 unfold Builtin.«isinstance.nested»
 refine wpAny_bind (L0.at ?_)
 rw[if_neg (fun q=>by rw[hne]at q; exact Bool.noConfusion q)]
 refine wpAny_bind (hty.at ?_)
 rw[if_pos (by decide)]
 k_delta "plainIsInstance"
 refine wpAny_bind (wpAny_bind (his.at ?_))
 simp only[Bool.not_true,Bool.false_eq_true,if_false]
 refine wpAny_bind (LI.at ?_)
 simp only[Bool.false_eq_true,if_false]
 refine wpAny_bind (z0v X I XC ?_)
 refine wpAny_bind (hisD.at ?_)
 simp only[Bool.not_true,Bool.false_eq_true,if_false]
 refine wpAny_bind (wpAny_rule ?_)
 refine hsub.at ?_
 first
  | exact wpAny_pure h
  | exact wpAny_pure (wpAny_pure h)
  | exact wpAny_bind (wpAny_pure (wpAny_pure h))
theorem z80 {T:String} {Q:Value->Shared->Prop} (X:K.In s.heap) (I:XAt s.heap x ox C) (XC:XCls K C) (hty:typeOf (.type T)=pure (.type "type")) (e:subIn K (.ref C) (.type T)=some false) (h:Q (.bool false) { s with toks:=s.toks+1 }):wpAny (model prog w) A (call (.builtin "isinstance") [.ref x,.type T]) Q E s:=
 call_isinstance (S:=fun _ R s=>(K.In s.heap/\XAt s.heap x ox C)/\R (.ok (.ret (.bool false))) { s with toks:=s.toks+1 })
  (fun _ _ _ _ _ hs=>isinstance_outer (y8a hs.1.1 hs.1.2 XC (Looks.of_pure hty) (Looks.of_pure rfl) (Bool.eq_false_iff.mpr fun q=>by cases beq_iff_eq.mp q) (looks_subIn hs.1.1 e) hs.2) (by intro q; cases q)) ⟨⟨X,I⟩,h⟩
end
def bmV:List Value:=[.type "ValueError",.type "Exception",.type "BaseException",.type "object"]
structure XKls (K:Frag) (nm:Str) (C:Addr):Prop where
 ns:nsIn K mainGlobals nm=some (some (.ref C))
 xc:XCls K C
 ex:excIn K C bmV "ValueError.__new__" = true
 ve:subIn K (.ref C) (.type "ValueError")=some true
 no:∀ T ∈ ["int","bool","tuple","list","str"],subIn K (.ref C) (.type T)=some false
noncomputable def XO (K:Frag) (nm:Str) (ob:Obj):Prop:=∃ C,ob.cls=.ref C/\XKls K nm C
end L3
namespace L3
open PySem PySem.Spec PyProof.Rows L2
theorem y2f:Slot "function" "__getattribute__" "object.__getattribute__" :=
 .of (owner:="object") (n:="__getattribute__") (by rw[typeLookup_type,builtinLookup_eq_fast]; kernel_rfl) (by decide +kernel) (by decide +kernel) (by decide +kernel)
  (by first | exact .inl (by decide +kernel) | exact .inr (by decide +kernel)) (by rw[isSubtype_type]; kernel_rfl)
theorem z4h:typeLookup (.type "function") "__class__" = pure (some (.builtin "object.__class__")):=by rw[typeLookup_type,builtinLookup_eq_fast]; kernel_rfl
theorem j0h:isSubtype (.type "function") (.type (".".intercalate ("object.__class__".cutAt '.').dropLast))=pure true:=by
 rw[PySem.F.owner_object_class,isSubtype_type]; kernel_rfl
theorem z1x:entryFor table "object.__getattribute__" = some Builtin.«object.__getattribute__»:=entryFor_of_tree (by kernel_rfl)
theorem z61 (a b:Value):argsOk "object.__getattribute__" ⟨[a,b],[]⟩:=by unfold argsOk; kernel_rfl
section
variable {prog:Program} {w:World} {A:Around} {E:Value->Shared->Prop} {s:Shared} {a:Addr}
theorem z6u {R:Result->Shared->Prop} (hT:s.TypeIs (.ref a) "function") (hq:R (.ok (.ret (.type "function"))) s) :
  codeAny (model prog w) A (.call (.builtin "getset_descriptor.__get__") ⟨[.builtin "object.__class__",.ref a,.type "function"],[]⟩) R s:=by
 obtain⟨h,g,d,t,os⟩:=s
 have h5:(⟨h,g,d,t,os⟩:Shared).TypeIs (.builtin "object.__class__") "getset_descriptor":=PySem.F.typeOf_object_class
 have f8:=j0h
 refine codeAny_call_builtin PySem.F.slot_gs_get.plain PySem.F.entry_gs_get (PySem.F.slot_gs_get.check _ _ _ _ _ _ _ _ h5 (PySem.F.args_gs_get _ _ _) ?_)
 repeat (any_goals (first | assumption | wp_step))
 refine⟨Code.quiet_builtin _ (by decide +kernel),codeAny_builtin PySem.F.entry_object_class ?_⟩
 repeat (any_goals (first | assumption | wp_step))
theorem z0g {Q:Option Value->Shared->Prop} (hT:s.TypeIs (.ref a) "function") (hq:Q (some (.type "function")) { s with toks:=s.toks+1 }):wpAny (model prog w) A (getAttr? (.ref a) "__class__") Q E s:=by
 obtain⟨h,g,d,t,os⟩:=s
 have hT1:∀ t',(⟨h,g,d,t',os⟩:Shared).TypeIs (.ref a) "function":=fun _=>hT
 have en:∀ {tk:Tok} {t':Nat} {Q:Fin->Shared->Prop} {E:Value->Shared->Prop} {A:Around},Q (.done (.ret (.type "function"))) ⟨h,g,d,t',os⟩->
   wpAny (model prog w) A (Builtin.«object.__getattribute__» ⟨[.ref a,.str "__class__" tk],[]⟩) Q E ⟨h,g,d,t',os⟩:=by
  intro tk t' Q E A hq
  have hT:=hT1 t'
  have h5:(⟨h,g,d,t',os⟩:Shared).TypeIs (.builtin "object.__class__") "getset_descriptor":=PySem.F.typeOf_object_class
  have f4:=z4h
  have f5:=PySem.F.typeOf_object_class
  have f6:=PySem.F.slot_gs_get.lookup
  have f7:=PySem.F.slot_gs_set.lookup
  repeat (any_goals (first | assumption | wp_step))
  refine z6u hT ?_
  repeat (any_goals (first | assumption | wp_step))
 have by':∀ {tk:Tok} {t':Nat} {Q:Value->Shared->Prop} {E:Value->Shared->Prop} {A:Around},Q (.type "function") ⟨h,g,d,t',os⟩->wpAny (model prog w) A (getAttrBy (.ref a) (.str "__class__" tk) false) Q E ⟨h,g,d,t',os⟩:=by
  intro tk t' Q E A hq
  have hT:=hT1 t'
  have f2:=y2f.lookup
  have f3:=y2f.bind (.ref a)
  repeat (any_goals (first | assumption | wp_step))
  refine codeAny_call_builtin y2f.plain z1x (y2f.check _ _ _ _ _ _ _ _ hT (z61 _ _) (en ?_))
  repeat (any_goals (first | assumption | wp_step))
 unfold getAttr? getAttrBy?
 repeat (any_goals (first | assumption | with_reducible apply by' | wp_step))
theorem z0f {K:PySem.W.Frag}:PySem.W.KitX K (.ref a) (.type "function") (PySem.W.KitAt a "function"):=PySem.W.kitx_of PySem.W.kitAt_ty (fun {_ _ _ _ _ s} p k=>z0g (by obtain⟨o,h1,h2⟩:=p; exact⟨o,h1,h2⟩) k)
end
inductive D where
 | non | bl (b:Bool) | int (i:Int) | str (x:Str) | tup (ds:List D) | lst (ds:List D)
 /-- a dict that is not changed,its keys texts -/
 | dic (ks:List Str) (ds:List D)
 /-- an exception,by its class's name -/
 | exc (nm:Str)
 /-- a function made here: its place,its object,what it keeps of the names around it -/
 | ob (f:Addr) (fo:Obj) (vs:List V) (ds:List D)
noncomputable abbrev St:=L2.St
inductive Ow where
 | s (i:Nat) | t (i:Nat) | f
 deriving DecidableEq
noncomputable abbrev Wn:=Addr->Option Ow
noncomputable def KL (K:PySem.W.Frag) (a:Addr) (xs:List V):Prop:=
 ∃ (o:Obj) (its:Array Value) (n:Nat),K.lookup a=some o/\o.cls=.type "list" /\ o.dict=none/\o.data=.seq its n/\its.size<=sizeLine/\x2h xs its.toList
theorem SqL.cases {K:PySem.W.Frag} {H:Hp} {a:Addr} {xs:List V} (h:SqL K H a xs):Rd H a (.lst xs)\/KL K a xs:=h
theorem KL.sq {K:PySem.W.Frag} {H:Hp} {a:Addr} {xs:List V} (h:KL K a xs):SqL K H a xs:=.inr h
noncomputable def kvL (ks:List Str) (vs:List V):List (Key × V):=(ks.map fun x=>(Sum.inr x:Key)).zip vs
noncomputable def Clo (fo:Obj) (c:Addr) (oc:Obj):Prop:=fo.cls=.type "function" /\ (∃ fd,fo.data=.func fd/\fd.code=.ref c)/\∃ fs q t,oc.data=.fields fs/\fs[1]? = some (.str q t)
mutual
/-- q: how deep the lists are owned -/
inductive Rep (K:PySem.W.Frag) (H:Hp) (w:Wn) (o:Ow):Nat->D->V->List Addr->Prop
 | non {q}:Rep K H w o q .non .non []
 | bl {q} (b:Bool):Rep K H w o q (.bl b) (.bl b) []
 | int {q} (i:Int):Rep K H w o q (.int i) (.int i) []
 | str {q} (x:Str):Rep K H w o q (.str x) (.str x) []
 | tup {q} {a:Addr} {vs:List V} {ds:List D}:H a=some (.tup vs)->Reps K H w o 0 ds vs []->Rep K H w o q (.tup ds) (.ref a) []
 | dic {q} {a:Addr} {ks:List Str} {vs:List V} {ds:List D}:H a=some (.dK (kvL ks vs))->Reps K H w o 0 ds vs []->Rep K H w o q (.dic ks ds) (.ref a) []
 | exc {q} {a:Addr} {nm:Str} {ob:Obj} {u:HO}:H a=some (.frz ob u)->XO K nm ob->(∀ xs,u ≠ .lst xs)->Rep K H w o q (.exc nm) (.ref a) []
 | ob {q} {f c:Addr} {fo oc:Obj} {u u':HO} {vs:List V} {ds:List D}:H f=some (.frz fo u)->H c=some (.frz oc u')->Clo fo c oc->Reps K H w o 0 ds vs []->Rep K H w o q (.ob f fo vs ds) (.ref f) []
 | kl {a:Addr} {vs:List V} {ds:List D}:KL K a vs->Reps K H w o 0 ds vs []->Rep K H w o 0 (.lst ds) (.ref a) []
 | shr {a:Addr} {vs:List V} {ds:List D}:Rd H a (.lst vs)->w a=none->Reps K H w o 0 ds vs []->Rep K H w o 0 (.lst ds) (.ref a) []
 | own {q} {a:Addr} {vs:List V} {ds:List D} {F:List Addr}:H a=some (.lst vs)->w a=some o->Reps K H w o q ds vs F->a ∉ F->Rep K H w o (q+1) (.lst ds) (.ref a) (a::F)
inductive Reps (K:PySem.W.Frag) (H:Hp) (w:Wn) (o:Ow):Nat->List D->List V->List Addr->Prop
 | nil {q}:Reps K H w o q [] [] []
 | cons {q} {d:D} {v:V} {ds:List D} {vs:List V} {F G:List Addr}:Rep K H w o q d v F->Reps K H w o q ds vs G->(∀ a∈F,a ∉ G)->Reps K H w o q (d::ds) (v::vs) (F++G)
end
noncomputable def z8p:HO->Bool
 | .tbl _=>true
 | _=>false
noncomputable def Sm (x:HO) (y:Option HO):Prop:=match x with
 | .tbl _=>∃ ps,y=some (.tbl ps)
 | x=>y=some x
theorem sm {x:HO} {y:Option HO} (h:y=some x):Sm x y:=by cases x <;> first | exact h | exact⟨_,h⟩
theorem Sm.is {x:HO} {y:Option HO} (h:Sm x y):∃ z,y=some z/\z8p z=z8p x:=by
 cases x <;> first | exact⟨_,h,rfl⟩ | (obtain⟨ps,e⟩:=h; exact⟨_,e,rfl⟩)
theorem Sm.eq {x:HO} {y:Option HO} (h:Sm x y) (n:z8p x=false):y=some x:=by cases x <;> first | exact h | cases n
noncomputable def x6v:List Str:=["turned","chain_ladder","flat_ladder","paired"]
structure TB (K:PySem.W.Frag) (H:Hp):Prop where
 tr:∀ P ps,H P=some (.tbl ps)->PySem.TriplesOk ps.toList
 cd:∀ P ps,H P=some (.tbl ps)->∀ pos cv,PySem.codeAmong pos ps.toList=some cv->∃ c oc u vs q t,cv=.ref c/\H c=some (.frz oc u)/\oc.data=.fields vs/\vs[1]? = some (.str q t)/\∀ xs,u ≠ .lst xs
 is:∀ x∈x6v,∀ c P,PySem.W.tabIn K x=some (c,P)->∃ ps,H P=some (.tbl ps)
structure WL (K:PySem.W.Frag) (w:Wn) (H:Hp):Prop where
 own:∀ a o,w a=some o->∃ vs,H a=some (.lst vs)
 tb:TB K H
instance {K:PySem.W.Frag} {w:Wn} {H:Hp}:CoeFun (WL K w H) (fun _=>∀ a o,w a=some o->∃ vs,H a=some (.lst vs)):=⟨WL.own⟩
theorem TB.upd {K:PySem.W.Frag} {H:Hp} (t:TB K H) {p:Addr} {x:HO} (hx:z8p x=false) (hp:H p=none\/∃ vs,H p=some (.lst vs)):TB K (L2.upd H p x):=by
 have ne:∀ a y,H a=some y->(∀ vs,y ≠ .lst vs)->a≠p:=fun a y e h z=>by
  subst z
  rcases hp with q | ⟨vs,q⟩
  ·rw[e]at q; cases q
  ·rw[e]at q; cases q; exact h _ rfl
 refine⟨fun P ps e=>?_,fun P ps e pos cv hc=>?_,fun x hx c P hP=>by
  obtain⟨ps,e⟩:=t.is x hx c P hP
  exact⟨ps,by rw[x0g (ne P _ e fun _ z=>nomatch z)]; exact e⟩⟩
 ·by_cases hP:P=p
  ·subst hP; rw[x0x]at e; cases e; cases hx
  ·rw[x0g hP]at e; exact t.tr P ps e
 ·by_cases hP:P=p
  ·subst hP; rw[x0x]at e; cases e; cases hx
  ·rw[x0g hP]at e
   obtain⟨c,oc,u,vs,q,tt,h1,h2,h3,h4,h5⟩:=t.cd P ps e pos cv hc
   exact⟨c,oc,u,vs,q,tt,h1,by rw[x0g (ne c _ h2 fun _ z=>nomatch z)]; exact h2,h3,h4,h5⟩
noncomputable def x78 (H:Hp) (w:Wn) (H':Hp) (w':Wn):Prop:=∀ a x,H a=some x->w a=none->Sm x (H' a)/\w' a=none
theorem x78.trans {H H1 H2:Hp} {w w1 w2:Wn} (a:x78 H w H1 w1) (b:x78 H1 w1 H2 w2):x78 H w H2 w2:=fun c x h n=>by
 obtain⟨s1,n1⟩:=a c x h n
 cases ht:z8p x with
 | false=>exact b c x (s1.eq ht) n1
 | true=>
  obtain⟨y,e,hy⟩:=s1.is
  obtain⟨s2,n2⟩:=b c y e n1
  refine⟨?_,n2⟩
  rw[ht]at hy
  cases x with
  | tbl ps=>
   cases y with
   | tbl ps'=>exact s2
   | _=>cases hy
  | _=>cases ht
theorem WL.rdT {K:PySem.W.Frag} {w:Wn} {H:Hp} (wl:WL K w H) {a:Addr} {x:HO} (e:H a=some x) (h:∀ vs,x ≠ .lst vs):w a=none:=by
 cases q:w a with
 | none=>rfl
 | some o=>
  obtain⟨vs,e'⟩:=wl a o q
  rw[e]at e'
  exact absurd (Option.some.inj e') (h vs)
theorem SqT.go {K:PySem.W.Frag} {H H':Hp} {w w':Wn} (wl:WL K w H) (st:x78 H w H' w') {a:Addr} {vs:List V} (h:SqT K H a vs):SqT K H' a vs:=by
 rcases h with(h | ⟨o,h⟩) | h
 ·exact .inl (.inl (st a _ h (wl.rdT h (fun _ z=>nomatch z))).1)
 ·exact .inl (.inr ⟨o,(st a _ h (wl.rdT h (fun _ z=>nomatch z))).1⟩)
 ·exact .inr h
theorem RdL.go {H H':Hp} {w w':Wn} (st:x78 H w H' w') {a:Addr} {vs:List V} (n:w a=none) (h:Rd H a (.lst vs)):Rd H' a (.lst vs)/\w' a=none:=by
 rcases h with h | ⟨o,h⟩
 ·exact⟨.inl (st a _ h n).1,(st a _ h n).2⟩
 ·exact⟨.inr ⟨o,(st a _ h n).1⟩,(st a _ h n).2⟩
theorem Rep.go {K:PySem.W.Frag} {H H':Hp} {w w':Wn} {o o':Ow} (wl:WL K w H) (st:x78 H w H' w'):∀ {q:Nat} {d:D} {v:V} {F:List Addr},Rep K H w o q d v F->(∀ a∈F,H' a=H a/\w' a=some o')->Rep K H' w' o' q d v F:=by
 intro q d v F r
 refine Rep.rec (motive_1:=fun q d v F _=>(∀ a∈F,H' a=H a/\w' a=some o')->Rep K H' w' o' q d v F) (motive_2:=fun q ds vs F _=>(∀ a∈F,H' a=H a/\w' a=some o')->Reps K H' w' o' q ds vs F) ?_ ?_ ?_ ?_ ?_ ?_ ?_ ?_ ?_ ?_ ?_ ?_ ?_ r
 ·intro q _; exact .non
 ·intro q b _; exact .bl b
 ·intro q i _; exact .int i
 ·intro q x _; exact .str x
 ·intro q a vs ds h r ih _; exact .tup (st _ _ h (wl.rdT h (fun _ z=>by cases z))).1 (ih (fun _ z=>(List.not_mem_nil z).elim))
 ·intro q a ks vs ds h r ih _; exact .dic (st _ _ h (wl.rdT h (fun _ z=>by cases z))).1 (ih (fun _ z=>(List.not_mem_nil z).elim))
 ·intro q a nm ob u h x n _; exact .exc (st _ _ h (wl.rdT h (fun _ z=>by cases z))).1 x n
 ·intro q f c fo oc u u' vs ds h1 h2 x r ih _; exact .ob (st _ _ h1 (wl.rdT h1 (fun _ z=>by cases z))).1 (st _ _ h2 (wl.rdT h2 (fun _ z=>by cases z))).1 x (ih (fun _ z=>(List.not_mem_nil z).elim))
 ·intro a vs ds h r ih _; exact .kl h (ih (fun _ z=>(List.not_mem_nil z).elim))
 ·intro a vs ds h n r ih _; exact .shr (RdL.go st n h).1 (RdL.go st n h).2 (ih (fun _ z=>(List.not_mem_nil z).elim))
 ·intro q a vs ds F h e r ne ih k; exact .own ((k _ List.mem_cons_self).1.trans h) (k _ List.mem_cons_self).2 (ih fun a m=>k a (List.mem_cons_of_mem _ m)) ne
 ·intro q _; exact .nil
 ·intro q d v ds vs F G r s ne ih1 ih2 k; exact .cons (ih1 fun a m=>k a (List.mem_append_left _ m)) (ih2 fun a m=>k a (List.mem_append_right _ m)) ne
theorem Reps.go {K:PySem.W.Frag} {H H':Hp} {w w':Wn} {o o':Ow} (wl:WL K w H) (st:x78 H w H' w'):∀ {q:Nat} {ds:List D} {vs:List V} {F:List Addr},Reps K H w o q ds vs F->(∀ a∈F,H' a=H a/\w' a=some o')->Reps K H' w' o' q ds vs F:=by
 intro q ds vs F r
 refine Reps.rec (motive_1:=fun q d v F _=>(∀ a∈F,H' a=H a/\w' a=some o')->Rep K H' w' o' q d v F) (motive_2:=fun q ds vs F _=>(∀ a∈F,H' a=H a/\w' a=some o')->Reps K H' w' o' q ds vs F) ?_ ?_ ?_ ?_ ?_ ?_ ?_ ?_ ?_ ?_ ?_ ?_ ?_ r
 ·intro q _; exact .non
 ·intro q b _; exact .bl b
 ·intro q i _; exact .int i
 ·intro q x _; exact .str x
 ·intro q a vs ds h r ih _; exact .tup (st _ _ h (wl.rdT h (fun _ z=>by cases z))).1 (ih (fun _ z=>(List.not_mem_nil z).elim))
 ·intro q a ks vs ds h r ih _; exact .dic (st _ _ h (wl.rdT h (fun _ z=>by cases z))).1 (ih (fun _ z=>(List.not_mem_nil z).elim))
 ·intro q a nm ob u h x n _; exact .exc (st _ _ h (wl.rdT h (fun _ z=>by cases z))).1 x n
 ·intro q f c fo oc u u' vs ds h1 h2 x r ih _; exact .ob (st _ _ h1 (wl.rdT h1 (fun _ z=>by cases z))).1 (st _ _ h2 (wl.rdT h2 (fun _ z=>by cases z))).1 x (ih (fun _ z=>(List.not_mem_nil z).elim))
 ·intro a vs ds h r ih _; exact .kl h (ih (fun _ z=>(List.not_mem_nil z).elim))
 ·intro a vs ds h n r ih _; exact .shr (RdL.go st n h).1 (RdL.go st n h).2 (ih (fun _ z=>(List.not_mem_nil z).elim))
 ·intro q a vs ds F h e r ne ih k; exact .own ((k _ List.mem_cons_self).1.trans h) (k _ List.mem_cons_self).2 (ih fun a m=>k a (List.mem_cons_of_mem _ m)) ne
 ·intro q _; exact .nil
 ·intro q d v ds vs F G r s ne ih1 ih2 k; exact .cons (ih1 fun a m=>k a (List.mem_append_left _ m)) (ih2 fun a m=>k a (List.mem_append_right _ m)) ne
theorem Rep.freeze {K:PySem.W.Frag} {H:Hp} {w w':Wn} {o o':Ow} (n:∀ a,w a=none->w' a=none):∀ {q:Nat} {d:D} {v:V} {F:List Addr},Rep K H w o q d v F->(∀ a∈F,w' a=none)->Rep K H w' o' 0 d v []:=by
 intro q d v F r
 refine Rep.rec (motive_1:=fun q d v F _=>(∀ a∈F,w' a=none)->Rep K H w' o' 0 d v []) (motive_2:=fun q ds vs F _=>(∀ a∈F,w' a=none)->Reps K H w' o' 0 ds vs []) ?_ ?_ ?_ ?_ ?_ ?_ ?_ ?_ ?_ ?_ ?_ ?_ ?_ r
 ·intro q _; exact .non
 ·intro q b _; exact .bl b
 ·intro q i _; exact .int i
 ·intro q x _; exact .str x
 ·intro q a vs ds h r ih _; exact .tup h (ih (fun _ z=>(List.not_mem_nil z).elim))
 ·intro q a ks vs ds h r ih _; exact .dic h (ih (fun _ z=>(List.not_mem_nil z).elim))
 ·intro q a nm ob u h x n _; exact .exc h x n
 ·intro q f c fo oc u u' vs ds h1 h2 x r ih _; exact .ob h1 h2 x (ih (fun _ z=>(List.not_mem_nil z).elim))
 ·intro a vs ds h r ih _; exact .kl h (ih (fun _ z=>(List.not_mem_nil z).elim))
 ·intro a vs ds h e r ih _; exact .shr h (n _ e) (ih (fun _ z=>(List.not_mem_nil z).elim))
 ·intro q a vs ds F h e r ne ih k; exact .shr (Rd.of h) (k _ List.mem_cons_self) (ih fun a m=>k a (List.mem_cons_of_mem _ m))
 ·intro q _; exact .nil
 ·intro q d v ds vs F G r s ne ih1 ih2 k; exact .cons (F:=[]) (G:=[]) (ih1 fun a m=>k a (List.mem_append_left _ m)) (ih2 fun a m=>k a (List.mem_append_right _ m)) (fun _ z=>(List.not_mem_nil z).elim)
theorem Reps.freeze {K:PySem.W.Frag} {H:Hp} {w w':Wn} {o o':Ow} (n:∀ a,w a=none->w' a=none):∀ {q:Nat} {ds:List D} {vs:List V} {F:List Addr},Reps K H w o q ds vs F->(∀ a∈F,w' a=none)->Reps K H w' o' 0 ds vs []:=by
 intro q ds vs F r
 refine Reps.rec (motive_1:=fun q d v F _=>(∀ a∈F,w' a=none)->Rep K H w' o' 0 d v []) (motive_2:=fun q ds vs F _=>(∀ a∈F,w' a=none)->Reps K H w' o' 0 ds vs []) ?_ ?_ ?_ ?_ ?_ ?_ ?_ ?_ ?_ ?_ ?_ ?_ ?_ r
 ·intro q _; exact .non
 ·intro q b _; exact .bl b
 ·intro q i _; exact .int i
 ·intro q x _; exact .str x
 ·intro q a vs ds h r ih _; exact .tup h (ih (fun _ z=>(List.not_mem_nil z).elim))
 ·intro q a ks vs ds h r ih _; exact .dic h (ih (fun _ z=>(List.not_mem_nil z).elim))
 ·intro q a nm ob u h x n _; exact .exc h x n
 ·intro q f c fo oc u u' vs ds h1 h2 x r ih _; exact .ob h1 h2 x (ih (fun _ z=>(List.not_mem_nil z).elim))
 ·intro a vs ds h r ih _; exact .kl h (ih (fun _ z=>(List.not_mem_nil z).elim))
 ·intro a vs ds h e r ih _; exact .shr h (n _ e) (ih (fun _ z=>(List.not_mem_nil z).elim))
 ·intro q a vs ds F h e r ne ih k; exact .shr (Rd.of h) (k _ List.mem_cons_self) (ih fun a m=>k a (List.mem_cons_of_mem _ m))
 ·intro q _; exact .nil
 ·intro q d v ds vs F G r s ne ih1 ih2 k; exact .cons (F:=[]) (G:=[]) (ih1 fun a m=>k a (List.mem_append_left _ m)) (ih2 fun a m=>k a (List.mem_append_right _ m)) (fun _ z=>(List.not_mem_nil z).elim)
theorem Rep.owns {K:PySem.W.Frag} {H:Hp} {w:Wn} {o:Ow}:∀ {q:Nat} {d:D} {v:V} {F:List Addr},Rep K H w o q d v F->∀ a∈F,w a=some o:=by
 intro q d v F r
 refine Rep.rec (motive_1:=fun q d v F _=>∀ a∈F,w a=some o) (motive_2:=fun q ds vs F _=>∀ a∈F,w a=some o) ?_ ?_ ?_ ?_ ?_ ?_ ?_ ?_ ?_ ?_ ?_ ?_ ?_ r
 ·intro q a m; exact(List.not_mem_nil m).elim
 ·intro q b a m; exact(List.not_mem_nil m).elim
 ·intro q i a m; exact(List.not_mem_nil m).elim
 ·intro q x a m; exact(List.not_mem_nil m).elim
 ·intro q a vs ds h r ih b m; exact(List.not_mem_nil m).elim
 ·intro q a ks vs ds h r ih b m; exact(List.not_mem_nil m).elim
 ·intro q a nm ob u h x n b m; exact(List.not_mem_nil m).elim
 ·intro q f c fo oc u u' vs ds h1 h2 x r ih b m; exact(List.not_mem_nil m).elim
 ·intro a vs ds h r ih b m; exact(List.not_mem_nil m).elim
 ·intro a vs ds h e r ih b m; exact(List.not_mem_nil m).elim
 ·intro q a vs ds F h e r ne ih b m
  rcases List.mem_cons.mp m with z | z
  ·rw[z]; exact e
  ·exact ih b z
 ·intro q a m; exact(List.not_mem_nil m).elim
 ·intro q d v ds vs F G r s ne ih1 ih2 a m
  rcases List.mem_append.mp m with z | z
  ·exact ih1 a z
  ·exact ih2 a z
theorem Reps.owns {K:PySem.W.Frag} {H:Hp} {w:Wn} {o:Ow}:∀ {q:Nat} {ds:List D} {vs:List V} {F:List Addr},Reps K H w o q ds vs F->∀ a∈F,w a=some o:=by
 intro q ds vs F r
 refine Reps.rec (motive_1:=fun q d v F _=>∀ a∈F,w a=some o) (motive_2:=fun q ds vs F _=>∀ a∈F,w a=some o) ?_ ?_ ?_ ?_ ?_ ?_ ?_ ?_ ?_ ?_ ?_ ?_ ?_ r
 ·intro q a m; exact(List.not_mem_nil m).elim
 ·intro q b a m; exact(List.not_mem_nil m).elim
 ·intro q i a m; exact(List.not_mem_nil m).elim
 ·intro q x a m; exact(List.not_mem_nil m).elim
 ·intro q a vs ds h r ih b m; exact(List.not_mem_nil m).elim
 ·intro q a ks vs ds h r ih b m; exact(List.not_mem_nil m).elim
 ·intro q a nm ob u h x n b m; exact(List.not_mem_nil m).elim
 ·intro q f c fo oc u u' vs ds h1 h2 x r ih b m; exact(List.not_mem_nil m).elim
 ·intro a vs ds h r ih b m; exact(List.not_mem_nil m).elim
 ·intro a vs ds h e r ih b m; exact(List.not_mem_nil m).elim
 ·intro q a vs ds F h e r ne ih b m
  rcases List.mem_cons.mp m with z | z
  ·rw[z]; exact e
  ·exact ih b z
 ·intro q a m; exact(List.not_mem_nil m).elim
 ·intro q d v ds vs F G r s ne ih1 ih2 a m
  rcases List.mem_append.mp m with z | z
  ·exact ih1 a z
  ·exact ih2 a z
noncomputable def D.isL:D->Bool
 | .lst _=>true
 | _=>false
@[simp] theorem D.isL_non:D.isL .non=false:=rfl
@[simp] theorem D.isL_bl (b:Bool):D.isL (.bl b)=false:=rfl
@[simp] theorem D.isL_int (i:Int):D.isL (.int i)=false:=rfl
@[simp] theorem D.isL_str (x:Str):D.isL (.str x)=false:=rfl
@[simp] theorem D.isL_tup (ds:List D):D.isL (.tup ds)=false:=rfl
@[simp] theorem D.isL_dic (ks:List Str) (ds:List D):D.isL (.dic ks ds)=false:=rfl
@[simp] theorem D.isL_exc (nm:Str):D.isL (.exc nm)=false:=rfl
@[simp] theorem D.isL_ob (f:Addr) (fo:Obj) (vs:List V) (ds:List D):D.isL (.ob f fo vs ds)=false:=rfl
@[simp] theorem D.isL_lst (ds:List D):D.isL (.lst ds)=true:=rfl
theorem Rep.nolist {K:PySem.W.Frag} {H:Hp} {w:Wn} {o:Ow} {q:Nat} {d:D} {v:V} {F:List Addr} (r:Rep K H w o q d v F) (h:d.isL=false):F=[]/\∀ q',Rep K H w o q' d v []:=by
 cases r with
 | non=>exact⟨rfl,fun _=>.non⟩
 | bl b=>exact⟨rfl,fun _=>.bl b⟩
 | int i=>exact⟨rfl,fun _=>.int i⟩
 | str x=>exact⟨rfl,fun _=>.str x⟩
 | tup h' r'=>exact⟨rfl,fun _=>.tup h' r'⟩
 | dic h' r'=>exact⟨rfl,fun _=>.dic h' r'⟩
 | exc h' x n=>exact⟨rfl,fun _=>.exc h' x n⟩
 | ob h1 h2 x r=>exact⟨rfl,fun _=>.ob h1 h2 x r⟩
 | kl=>cases h
 | shr=>cases h
 | own=>cases h
theorem Rep.zero {K:PySem.W.Frag} {H:Hp} {w:Wn} {o:Ow} {d:D} {v:V} {F:List Addr} (r:Rep K H w o 0 d v F):F=[]:=by
 cases r <;> rfl
theorem Reps.zero {K:PySem.W.Frag} {H:Hp} {w:Wn} {o:Ow}:∀ {ds:List D} {vs:List V} {F:List Addr},Reps K H w o 0 ds vs F->F=[]
 | _,_,_,.nil=>rfl
 | _,_,_,.cons r s _=>by rw[r.zero,s.zero]; rfl
theorem Reps.length {K:PySem.W.Frag} {H:Hp} {w:Wn} {o:Ow} {q:Nat}:∀ {ds:List D} {vs:List V} {F:List Addr},Reps K H w o q ds vs F->ds.length=vs.length
 | _,_,_,.nil=>rfl
 | _,_,_,.cons _ s _=>by simp[s.length]
theorem Rep.any {K:PySem.W.Frag} {H:Hp} {w:Wn} {o o':Ow} {q:Nat} {d:D} {v:V} (r:Rep K H w o q d v []) (wl:WL K w H):Rep K H w o' q d v []:=
 Rep.go wl (fun a x h n=>⟨sm h,n⟩) r (fun _ z=>nomatch z)
theorem Reps.any {K:PySem.W.Frag} {H:Hp} {w:Wn} {o o':Ow} {q:Nat} {d:List D} {v:List V} (r:Reps K H w o q d v []) (wl:WL K w H):Reps K H w o' q d v []:=
 Reps.go wl (fun a x h n=>⟨sm h,n⟩) r (fun _ z=>nomatch z)
theorem Reps.get {K:PySem.W.Frag} {H:Hp} {w:Wn} {o:Ow}:∀ {ds:List D} {vs:List V} {i:Nat} {d:D},Reps K H w o 0 ds vs []->ds[i]? = some d->∃ v,vs[i]? = some v/\Rep K H w o 0 d v []
 | ds,vs,i,d,r,e=>by
  generalize hF:([]:List Addr)=F at r
  cases r with
  | nil=>simp at e
  | @cons _ d' v' ds' vs' F' G' r s _=>
   have h1:F'=[]:=r.zero
   have h2:G'=[]:=s.zero
   subst h1 h2
   cases i with
   | zero=>simp at e; subst e; exact⟨v',rfl,r⟩
   | succ j=>
    obtain⟨v,h1,h2⟩:=Reps.get (i:=j) (d:=d) s (by simpa using e)
    exact⟨v,by simpa using h1,h2⟩
theorem Reps.snoc {K:PySem.W.Frag} {H:Hp} {w:Wn} {o:Ow} {q:Nat} {d:D} {v:V} {G:List Addr} (r':Rep K H w o q d v G):∀ {ds:List D} {vs:List V} {F:List Addr},Reps K H w o q ds vs F->(∀ a∈F,a ∉ G)->Reps K H w o q (ds++[d]) (vs++[v]) (F++G)
 | _,_,_,.nil,_=>by
  have:Reps K H w o q [d] [v] (G++[]):=.cons r' .nil (fun a _ z=>nomatch z)
  simpa using this
 | _,_,_,.cons (F:=F) (G:=F') r s ne,k=>by
  rw[List.append_assoc]
  refine .cons r (Reps.snoc r' s fun a m=>k a (List.mem_append_right _ m)) fun a m z=>?_
  rcases List.mem_append.mp z with z | z
  ·exact ne a m z
  ·exact k a (List.mem_append_left _ m) z
noncomputable abbrev Rho:=List (Option (D × Nat))
structure Good (K:PySem.W.Frag) (ρ:Rho) (σ:St) (H:Hp) (w:Wn) (t:Nat):Prop where
 wl:WL K w H
 ws:∀ a i,w a=some (.s i)->i<σ.length
 wt:∀ a i,w a=some (.t i)->i<t
 len:ρ.length=σ.length
 slot:∀ (i:Nat) d q,ρ[i]? = some (some (d,q))->∃ v F,σ[i]? = some (some v)/\Rep K H w (.s i) q d v F
structure Go (H:Hp) (w:Wn) (H':Hp) (w':Wn):Prop where
 stab:x78 H w H' w'
 keep:∀ a o,w a=some o->(∀ i,o ≠ .s i)->H' a=H a/\w' a=some o
theorem Go.refl {H:Hp} {w:Wn}:Go H w H w:=⟨fun a x h n=>⟨sm h,n⟩,fun a o e _=>⟨rfl,e⟩⟩
theorem Go.trans {H H1 H2:Hp} {w w1 w2:Wn} (a:Go H w H1 w1) (b:Go H1 w1 H2 w2):Go H w H2 w2:=
 ⟨a.stab.trans b.stab,fun c o e h=>by
   obtain⟨h1,w1⟩:=a.keep c o e h
   obtain⟨h2,w2⟩:=b.keep c o w1 h
   exact⟨h2.trans h1,w2⟩⟩
theorem Rep.gone {K:PySem.W.Frag} {H H':Hp} {w w':Wn} {q:Nat} {d:D} {v:V} {F:List Addr} {i:Nat} (r:Rep K H w (.t i) q d v F) (wl:WL K w H) (g:Go H w H' w'):Rep K H' w' (.t i) q d v F:=
 Rep.go wl g.stab r fun a m=>g.keep a _ (r.owns a m) (fun _ z=>nomatch z)
theorem Reps.gone {K:PySem.W.Frag} {H H':Hp} {w w':Wn} {q:Nat} {d:List D} {v:List V} {F:List Addr} {i:Nat} (r:Reps K H w (.t i) q d v F) (wl:WL K w H) (g:Go H w H' w'):Reps K H' w' (.t i) q d v F:=
 Reps.go wl g.stab r fun a m=>g.keep a _ (r.owns a m) (fun _ z=>nomatch z)
noncomputable def x1n (t:Nat) (w:Wn):Wn:=fun a=>match w a with
 | some (.t i)=>if t<=i then none else some (.t i)
 | x=>x
theorem x6a {t:Nat} {w:Wn} {a:Addr} (h:w a=none):x1n t w a=none:=by unfold x1n; rw[h]
theorem z62 {t:Nat} {w:Wn} {a:Addr} {i:Nat} (h:w a=some (.s i)):x1n t w a=some (.s i):=by unfold x1n; rw[h]
theorem z69 {t:Nat} {w:Wn} {a:Addr} (h:w a=some .f):x1n t w a=some .f:=by unfold x1n; rw[h]
theorem z0w {t:Nat} {w:Wn} {a:Addr} {i:Nat} (h:w a=some (.t i)) (hi:i<t):x1n t w a=some (.t i):=by unfold x1n; rw[h]; exact if_neg (by omega)
theorem z25 {t:Nat} {w:Wn} {a:Addr} {i:Nat} (h:w a=some (.t i)) (hi:t<=i):x1n t w a=none:=by unfold x1n; rw[h]; exact if_pos hi
theorem x8b {t:Nat} {w:Wn} {a:Addr} {o:Ow} (h:x1n t w a=some o):w a=some o/\∀ i,o=.t i->i<t:=by
 unfold x1n at h
 cases e:w a with
 | none=>rw[e]at h; cases h
 | some o'=>
  rw[e]at h
  cases o' with
  | s i=>cases h; exact⟨rfl,fun i z=>nomatch z⟩
  | f=>cases h; exact⟨rfl,fun i z=>nomatch z⟩
  | t i=>
   dsimp only at h
   split at h
   ·cases h
   ·cases h; exact⟨rfl,fun j z=>by cases z; omega⟩
theorem Good.drop {K:PySem.W.Frag} {ρ:Rho} {σ:St} {H:Hp} {w:Wn} {t t':Nat} (g:Good K ρ σ H w t):Good K ρ σ H (x1n t' w) t':=by
 refine⟨⟨fun a o e=>g.wl a o (x8b e).1,g.wl.tb⟩,fun a i e=>g.ws a i (x8b e).1,fun a i e=>(x8b e).2 i rfl,g.len,fun i d q e=>?_⟩
 obtain⟨v,F,h1,h2⟩:=g.slot i d q e
 exact⟨v,F,h1,Rep.go g.wl (fun a x h n=>⟨sm h,x6a n⟩) h2 fun a m=>⟨rfl,z62 (h2.owns a m)⟩⟩
theorem Go.drop {H H':Hp} {w w':Wn} {t:Nat} (g:Go H w H' w') (wt:∀ a i,w a=some (.t i)->i<t):Go H w H' (x1n t w'):=
 ⟨fun a x h n=>⟨(g.stab a x h n).1,x6a (g.stab a x h n).2⟩,fun a o e h=>by
   obtain⟨h1,h2⟩:=g.keep a o e h
   refine⟨h1,?_⟩
   cases o with
   | s i=>exact absurd rfl (h i)
   | f=>exact z69 h2
   | t i=>exact z0w h2 (wt a i e)⟩
theorem Rep.drop {K:PySem.W.Frag} {H:Hp} {w:Wn} {q:Nat} {d:D} {v:V} {F:List Addr} {t:Nat} {o:Ow} (r:Rep K H w (.t t) q d v F) {t':Nat} (h:t'<=t):Rep K H (x1n t' w) o 0 d v []:=
 Rep.freeze (fun a n=>x6a n) r fun a m=>z25 (r.owns a m) h
noncomputable abbrev Den:=Rho->Option (D × Nat × Rho)
noncomputable def tD (K:PySem.W.Frag) (f:Den):TE:=fun σ H Q=>∃ ρ w t r q ρ',Good K ρ σ H w t/\f ρ=some (r,q,ρ')/\∀ v H' w' F,Good K ρ' σ H' w' (t+1)->Go H w H' w'->Rep K H' w' (.t t) q r v F->Q v H'
theorem PE.imp {X:Cx} {e:Expr} {t t':TE} (h:PE X e t) (i:∀ σ H Q,t' σ H Q->t σ H Q):PE X e t':=fun pins s σ H Q I q=>h pins s σ H Q I (i σ H Q q)
noncomputable abbrev PD (X:Cx) (e:Expr) (f:Den):Prop:=PE X e (tD X.K f)
theorem Good.up {K:PySem.W.Frag} {ρ:Rho} {σ:St} {H:Hp} {w:Wn} {t:Nat} (g:Good K ρ σ H w t):Good K ρ σ H w (t+1):=⟨g.wl,g.ws,fun a i e=>Nat.lt_succ_of_lt (g.wt a i e),g.len,g.slot⟩
@[simp] noncomputable def x3t (d:D):Nat:=if d.isL then 0 else 9
theorem Rep.dep {K:PySem.W.Frag} {H:Hp} {w:Wn} {o:Ow} {d:D} {v:V} (r:Rep K H w o 0 d v []):Rep K H w o (x3t d) d v []:=by
 unfold x3t
 cases e:d.isL with
 | true=>exact r
 | false=>exact(r.nolist e).2 9
section
variable {K:PySem.W.Frag} {σ:St} {H:Hp} {ρ ρ' ρ1 ρ2:Rho} {w:Wn} {t:Nat} {Q:VK}
theorem z44 {fa fb:Den} {R:V->V->Hp->Prop} (g:Good K ρ σ H w t) {d1 d2:D} {q1 q2:Nat} (e1:fa ρ=some (d1,q1,ρ1)) (e2:fb ρ1=some (d2,q2,ρ2))
  (k:∀ x y H2 w2 F1 F2,Good K ρ2 σ H2 w2 (t+2)->Go H w H2 w2->Rep K H2 w2 (.t t) q1 d1 x F1->Rep K H2 w2 (.t (t+1)) q2 d2 y F2->R x y H2) :
  tD K fa σ H fun x H1=>tD K fb σ H1 fun y H2=>R x y H2:=
 ⟨ρ,w,t,d1,q1,ρ1,g,e1,fun x H1 w1 F1 g1 go1 r1=>⟨ρ1,w1,t+1,d2,q2,ρ2,g1,e2,fun y H2 w2 F2 g2 go2 r2=>k x y H2 w2 F1 F2 g2 (go1.trans go2) (r1.gone g1.wl go2) r2⟩⟩
theorem z4z {r:D} {q:Nat} {v:V} {H2:Hp} {w2:Wn} {t2:Nat} (k:∀ v H' w' F,Good K ρ' σ H' w' (t+1)->Go H w H' w'->Rep K H' w' (.t t) q r v F->Q v H') (g:Good K ρ σ H w t) (g2:Good K ρ' σ H2 w2 t2) (go:Go H w H2 w2)
  (rr:Rep K H2 (x1n t w2) (.t t) q r v []):Q v H2:=k v H2 (x1n t w2) [] g2.drop.up (go.drop g.wt) rr
noncomputable def z03 (p:Addr) (o:Ow) (w:Wn):Wn:=fun a=>if a=p then some o else w a
theorem x4s {p:Addr} {o:Ow} {w:Wn}:z03 p o w p=some o:=if_pos rfl
theorem x3j {p a:Addr} {o:Ow} {w:Wn} (h:a≠p):z03 p o w a=w a:=if_neg h
theorem y3i {H1:Hp} {p:Addr} {vs:List V} {ds:List D} {w1:Wn} (g:Good K ρ σ H1 w1 t) (hp:H1 p=none) (r:Reps K H1 w1 .f 0 ds vs []) :
  Good K ρ σ (upd H1 p (.lst vs)) (z03 p (.t t) w1) (t+1)/\Go H1 w1 (upd H1 p (.lst vs)) (z03 p (.t t) w1)/\Rep K (upd H1 p (.lst vs)) (z03 p (.t t) w1) (.t t) 1 (.lst ds) (.ref p) [p]:=by
 have ne:∀ a x,H1 a=some x->a≠p:=fun a x e=>x0u e hp
 have nw:∀ a o,w1 a=some o->a≠p:=fun a o e=>by obtain⟨vs,q⟩:=g.wl a o e; exact ne a _ q
 have st:x78 H1 w1 (upd H1 p (.lst vs)) (z03 p (.t t) w1):=fun a x e n=>⟨sm (by rw[x0g (ne a x e)]; exact e),by rw[x3j (ne a x e)]; exact n⟩
 refine⟨⟨⟨fun a o e=>?_,g.wl.tb.upd rfl (.inl hp)⟩,fun a i e=>?_,fun a i e=>?_,g.len,fun i d q e=>?_⟩,⟨st,fun a o e _=>⟨x0g (nw a o e),(x3j (nw a o e)).trans e⟩⟩,?_⟩
 ·by_cases h:a=p
  ·subst h; exact⟨vs,x0x⟩
  ·rw[x3j h]at e
   obtain⟨us,q⟩:=g.wl a o e
   exact⟨us,by rw[x0g h]; exact q⟩
 ·by_cases h:a=p
  ·subst h; rw[x4s]at e; cases e
  ·rw[x3j h]at e; exact g.ws a i e
 ·by_cases h:a=p
  ·subst h; rw[x4s]at e; cases e; exact Nat.lt_succ_self _
  ·rw[x3j h]at e; exact Nat.lt_succ_of_lt (g.wt a i e)
 ·obtain⟨v,F,h1,h2⟩:=g.slot i d q e
  exact⟨v,F,h1,Rep.go g.wl st h2 fun a m=>⟨x0g (nw a _ (h2.owns a m)),(x3j (nw a _ (h2.owns a m))).trans (h2.owns a m)⟩⟩
 ·exact .own x0x x4s (Reps.go g.wl st r (fun _ z=>nomatch z)) (fun z=>nomatch z)
theorem y1u {H1:Hp} {p:Addr} {vs:List V} {ds:List D} {w1:Wn} (g:Good K ρ σ H1 w1 t) (hp:H1 p=none) (r:Reps K H1 w1 .f 0 ds vs []) :
  Good K ρ σ (upd H1 p (.tup vs)) w1 (t+1)/\Go H1 w1 (upd H1 p (.tup vs)) w1/\Rep K (upd H1 p (.tup vs)) w1 (.t t) 9 (.tup ds) (.ref p) []:=by
 have ne:∀ a x,H1 a=some x->a≠p:=fun a x e=>x0u e hp
 have nw:∀ a o,w1 a=some o->a≠p:=fun a o e=>by obtain⟨vs,q⟩:=g.wl a o e; exact ne a _ q
 have st:x78 H1 w1 (upd H1 p (.tup vs)) w1:=fun a x e n=>⟨sm (by rw[x0g (ne a x e)]; exact e),n⟩
 refine⟨⟨⟨fun a o e=>?_,g.wl.tb.upd rfl (.inl hp)⟩,g.ws,fun a i e=>Nat.lt_succ_of_lt (g.wt a i e),g.len,fun i d q e=>?_⟩,⟨st,fun a o e _=>⟨x0g (nw a o e),e⟩⟩,?_⟩
 ·obtain⟨us,q⟩:=g.wl a o e
  exact⟨us,by rw[x0g (nw a o e)]; exact q⟩
 ·obtain⟨v,F,h1,h2⟩:=g.slot i d q e
  exact⟨v,F,h1,Rep.go g.wl st h2 fun a m=>⟨x0g (nw a _ (h2.owns a m)),h2.owns a m⟩⟩
 ·exact .tup x0x (Reps.go g.wl st r (fun _ z=>nomatch z))
end
@[simp] noncomputable def eC (d:D):Den:=fun ρ=>some (d,9,ρ)
@[simp] noncomputable def x06 (i:Nat):Den:=fun ρ=>match ρ[i]? with
 | some (some (d,q))=>if d.isL=false then some (d,9,ρ)else if q=0 then some (d,0,ρ)else some (d,0,ρ.set i (some (d,0)))
 | _=>none
section
variable {X:Cx} {a b c e:Expr} {fa fb fc f:Den} {pos:Pos}
theorem x9o {v:V} {d:D} (h:PE X e (tC v)) (r:∀ K H w o q,Rep K H w o q d v []):PD X e (eC d):=PE.imp h fun σ H Q hh0=>by
 obtain⟨ρ,w,t,r',q,ρ',g,ee,k⟩:=hh0
 cases ee
 exact k v H w [] g.up Go.refl (r _ _ _ _ _)
theorem z7z {i j}:PD X (.Constant (.int i) j pos) (eC (.int i)):=x9o z31 fun _ _ _ _ _=>.int i
theorem j22 {i j}:PD X (.Constant (.bool i) j pos) (eC (.bl i)):=x9o j29 fun _ _ _ _ _=>.bl i
theorem z9b {j}:PD X (.Constant .none j pos) (eC .non):=x9o z8y fun _ _ _ _ _=>.non
theorem z8q {x j}:PD X (.Constant (.str x) j pos) (eC (.str x)):=x9o y7s fun _ _ _ _ _=>.str x
noncomputable def x6k (i:Nat) (w:Wn):Wn:=fun a=>if w a=some (.s i)then none else w a
theorem x65 {i:Nat} {w:Wn} {a:Addr} (h:w a=none):x6k i w a=none:=by unfold x6k; rw[h]; rfl
theorem y1p {i:Nat} {w:Wn} {a:Addr} (h:w a=some (.s i)):x6k i w a=none:=by unfold x6k; rw[if_pos h]
theorem x9h {i:Nat} {w:Wn} {a:Addr} {o:Ow} (h:w a=some o) (n:o ≠ .s i):x6k i w a=some o:=by unfold x6k; rw[if_neg (by rw[h]; exact fun z=>n (Option.some.inj z))]; exact h
theorem x3z {i:Nat} {w:Wn} {a:Addr} {o:Ow} (h:x6k i w a=some o):w a=some o/\o ≠ .s i:=by
 unfold x6k at h
 split at h
 ·cases h
 ·rename_i n; exact⟨h,fun z=>n (by rw[h,z])⟩
theorem Good.give {K:PySem.W.Frag} {ρ:Rho} {σ:St} {H:Hp} {w:Wn} {t i:Nat} {d:D} {q:Nat} (g:Good K ρ σ H w t) (e:ρ[i]? = some (some (d,q))):Good K (ρ.set i (some (d,0))) σ H (x6k i w) t/\Go H w H (x6k i w):=by
 have st:x78 H w H (x6k i w):=fun a x h n=>⟨sm h,x65 n⟩
 refine⟨⟨⟨fun a o h=>g.wl a o (x3z h).1,g.wl.tb⟩,fun a j h=>g.ws a j (x3z h).1,fun a j h=>g.wt a j (x3z h).1,by rw[List.length_set]; exact g.len,fun j d' q' e'=>?_⟩,⟨st,fun a o h n=>⟨rfl,x9h h (n i)⟩⟩⟩
 by_cases hj:i=j
 ·subst hj
  rw[List.getElem?_set_self (List.getElem?_eq_some_iff.mp e).1]at e'
  cases e'
  obtain⟨v,F,h1,h2⟩:=g.slot i d q e
  exact⟨v,[],h1,Rep.freeze (fun a n=>x65 n) h2 fun a m=>y1p (h2.owns a m)⟩
 ·rw[List.getElem?_set_ne hj]at e'
  obtain⟨v,F,h1,h2⟩:=g.slot j d' q' e'
  exact⟨v,F,h1,Rep.go g.wl st h2 fun a m=>⟨rfl,x9h (h2.owns a m) (fun z=>hj (by cases z; rfl))⟩⟩
theorem j0j {i:Nat} {x:Str} (h:PE X (.Name x pos) (x74 i)):PD X (.Name x pos) (x06 i):=PE.imp h fun σ H Q hh0=>by
 obtain⟨ρ,w,t,r',q,ρ',g,ee,k⟩:=hh0
 unfold x06 at ee
 split at ee
 ·rename_i d q0 e0
  obtain⟨v,F,h1,h2⟩:=g.slot i d q0 e0
  refine⟨v,h1,?_⟩
  split at ee
  ·rename_i hl
   cases ee
   obtain⟨hF,hr⟩:=h2.nolist hl
   exact k v H w [] g.up Go.refl ((hr 9).any g.wl)
  ·split at ee
   ·rename_i hq
    subst hq
    cases ee
    have:=h2.zero
    subst this
    exact k v H w [] g.up Go.refl (h2.any g.wl)
   ·cases ee
    obtain⟨g',go'⟩:=g.give e0
    refine k v H (x6k i w) [] g'.up go' ?_
    exact Rep.freeze (fun a n=>x65 n) h2 fun a m=>y1p (h2.owns a m)
 ·cases ee
noncomputable def y29:D->Option V
 | .non=>some .non
 | .bl b=>some (.bl b)
 | .int i=>some (.int i)
 | .str x=>some (.str x)
 | _=>none
theorem y2p {K:PySem.W.Frag} {H:Hp} {w:Wn} {o:Ow} {q:Nat} {d:D} {v:V} (h:y29 d=some v):Rep K H w o q d v []:=by
 cases d <;> cases h
 ·exact .non
 ·exact .bl _
 ·exact .int _
 ·exact .str _
@[simp] noncomputable def e2 (g:D->D->Option D) (fa fb:Den):Den:=fun ρ=>match fa ρ with
 | some (x,_,ρ1)=>match fb ρ1 with
  | some (y,_,ρ2)=>match g x y with
   | some d=>some (d,9,ρ2)
   | none=>none
  | none=>none
 | none=>none
theorem z4f {g:D->D->Option D} {ρ ρ':Rho} {r:D} {q:Nat} (h:e2 g fa fb ρ=some (r,q,ρ')):∃ x q1 ρ1 y q2,fa ρ=some (x,q1,ρ1)/\fb ρ1=some (y,q2,ρ')/\g x y=some r/\q=9:=by
 unfold e2 at h
 split at h
 ·rename_i x q1 ρ1 h1
  split at h
  ·rename_i y q2 ρ2 h2
   split at h
   ·rename_i d hd
    cases h
    exact⟨x,q1,ρ1,y,q2,h1,h2,hd,rfl⟩
   ·cases h
  ·cases h
 ·cases h
theorem x9t {K:PySem.W.Frag} {g:D->D->Option D} {r:R2} (hg:∀ x y d,g x y=some d->∃ v,y29 d=some v/\∀ H w o o' q q' u u' F F',Rep K H w o q x u F->Rep K H w o' q' y u' F'->WL K w H->∀ Q:VK,Q v H->r u u' H Q) :
  ∀ σ H Q,tD K (e2 g fa fb) σ H Q->tOp r (tD K fa) (tD K fb) σ H Q:=fun σ H Q hh0=>by
 obtain⟨ρ,w,t,r',q,ρ',gd,ee,k⟩:=hh0
 obtain⟨x,q1,ρ1,y,q2,h1,h2,h3,rfl⟩:=z4f ee
 obtain⟨v,hv,hr⟩:=hg x y r' h3
 exact z44 gd h1 h2 fun u u' H2 w2 F1 F2 g2 go r1 r2=>hr H2 w2 _ _ _ _ u u' F1 F2 r1 r2 g2.wl Q (z4z k gd g2 go (y2p hv))
@[simp] noncomputable def gI (f:Int->Int->Option D):D->D->Option D
 | .int i,.int j=>f i j
 | _,_=>none
theorem y0e {f:Int->Int->Option D} {x y d:D} (h:gI f x y=some d):∃ i j,x=.int i/\y=.int j/\f i j=some d:=by
 unfold gI at h
 split at h
 ·exact⟨_,_,rfl,rfl,h⟩
 ·cases h
theorem x3u {K:PySem.W.Frag} {H:Hp} {w:Wn} {o:Ow} {q:Nat} {i:Int} {v:V} {F:List Addr} (r:Rep K H w o q (.int i) v F):v=.int i:=by cases r; rfl
theorem y51 {K:PySem.W.Frag} {f:Int->Int->Option D} {C:Int->Int->Prop} {h:Int->Int->V} (hf:∀ i j d,f i j=some d->C i j/\y29 d=some (h i j)) :
  ∀ σ H Q,tD K (e2 (gI f) fa fb) σ H Q->tOp (rI C h) (tD K fa) (tD K fb) σ H Q:=
 x9t fun x y d e=>by
  obtain⟨i,j,rfl,rfl,e⟩:=y0e e
  obtain⟨c,s⟩:=hf i j d e
  exact⟨_,s,fun H w o o' q q' u u' F F' r1 r2 _ Q hq=>⟨i,j,x3u r1,x3u r2,c,hq⟩⟩
theorem y5w {K:PySem.W.Frag} {f:Int->Int->Option D} {h:Int->Int->V} (hf:∀ i j d,f i j=some d->y29 d=some (h i j)) :
  ∀ σ H Q,tD K (e2 (gI f) fa fb) σ H Q->tOp (rI0 h) (tD K fa) (tD K fb) σ H Q:=
 x9t fun x y d e=>by
  obtain⟨i,j,rfl,rfl,e⟩:=y0e e
  exact⟨_,hf i j d e,fun H w o o' q q' u u' F F' r1 r2 _ Q hq=>⟨i,j,x3u r1,x3u r2,hq⟩⟩
end
section
variable {X:Cx} {a b c e:Expr} {fa fb fc f:Den} {pos:Pos}
@[simp] noncomputable def x39:D->D->Option D:=gI fun i j=>some (.int (i+j))
@[simp] noncomputable def y22:D->D->Option D:=gI fun i j=>if(-(2 ^ 64)<i/\i<2 ^ 64)\/(-(2 ^ 64)<j/\j<2 ^ 64)then some (.int (i*j))else none
@[simp] noncomputable def j08:D->D->Option D:=gI fun i j=>if 0<j/\j<1073741824 then some (.int (i / j))else none
@[simp] noncomputable def z3q:D->D->Option D:=gI fun i j=>if 0<j then some (.int (i % j))else none
theorem z98 (ha:PD X a fa) (hb:PD X b fb):PD X (.BinOp a .Add b pos) (e2 x39 fa fb):=PE.imp (y3e z78 ha hb) (y5w fun i j d h=>by cases h; rfl)
theorem z8s (ha:PD X a fa) (hb:PD X b fb):PD X (.BinOp a .Mult b pos) (e2 y22 fa fb):=PE.imp (y3e j0g ha hb) (y51 fun i j d h=>by
 split at h
 ·cases h; exact⟨by assumption,rfl⟩
 ·cases h)
theorem j06 (ha:PD X a fa) (hb:PD X b fb):PD X (.BinOp a .FloorDiv b pos) (e2 j08 fa fb):=PE.imp (y3e z58 ha hb) (y51 fun i j d h=>by
 split at h
 ·cases h; exact⟨by assumption,rfl⟩
 ·cases h)
theorem z9h (ha:PD X a fa) (hb:PD X b fb):PD X (.BinOp a .Mod b pos) (e2 z3q fa fb):=PE.imp (y3e j03 ha hb) (y51 fun i j d h=>by
 split at h
 ·cases h; exact⟨by assumption,rfl⟩
 ·cases h)
noncomputable def atD:D->Int->Option D
 | .lst ds,i=>atI ds i
 | .tup ds,i=>atI ds i
 | _,_=>none
@[simp] noncomputable def eIx (fa fb:Den):Den:=fun ρ=>match fa ρ with
 | some (x,_,ρ1)=>match fb ρ1 with
  | some (.int i,_,ρ2)=>match atD x i with
   | some d=>some (d,x3t d,ρ2)
   | none=>none
  | _=>none
 | none=>none
theorem Rep.seqL {K:PySem.W.Frag} {H:Hp} {w:Wn} {o:Ow} {q:Nat} {ds:List D} {v:V} {F:List Addr} (r:Rep K H w o q (.lst ds) v F):∃ a vs q' G,v=.ref a/\SqL K H a vs/\Reps K H w o q' ds vs G:=by
 cases r with
 | kl h r=>exact⟨_,_,_,_,rfl,h.sq,r⟩
 | shr h n r=>exact⟨_,_,_,_,rfl,.inl h,r⟩
 | own h n r _=>exact⟨_,_,_,_,rfl,SqL.of h,r⟩
theorem Rep.seqL0 {K:PySem.W.Frag} {H:Hp} {w:Wn} {o:Ow} {ds:List D} {v:V} {F:List Addr} (r:Rep K H w o 0 (.lst ds) v F):∃ a vs,v=.ref a/\SqL K H a vs/\Reps K H w o 0 ds vs []:=by
 cases r with
 | kl h r=>exact⟨_,_,rfl,h.sq,r⟩
 | shr h n r=>exact⟨_,_,rfl,.inl h,r⟩
theorem Rep.seqT {K:PySem.W.Frag} {H:Hp} {w:Wn} {o:Ow} {q:Nat} {ds:List D} {v:V} {F:List Addr} (r:Rep K H w o q (.tup ds) v F):∃ a vs,v=.ref a/\SqT K H a vs/\Reps K H w o 0 ds vs []:=by
 cases r with
 | tup h r=>exact⟨_,_,rfl,SqT.of h,r⟩
theorem Rep.tupAt {K:PySem.W.Frag} {H:Hp} {w:Wn} {o:Ow} {q:Nat} {ds:List D} {v:V} {F:List Addr} (r:Rep K H w o q (.tup ds) v F):∃ a vs,v=.ref a/\H a=some (.tup vs)/\Reps K H w o 0 ds vs []:=by
 cases r with
 | tup h r=>exact⟨_,_,rfl,h,r⟩
theorem Reps.atI {K:PySem.W.Frag} {H:Hp} {w:Wn} {o:Ow} {ds:List D} {vs:List V} {i:Int} {d:D} (r:Reps K H w o 0 ds vs []) (h:L2.atI ds i=some d):∃ v,L2.atI vs i=some v/\Rep K H w o 0 d v []:=by
 unfold L2.atI at h ⊢
 rw[<- r.length]
 cases e:ixN ds.length i with
 | none=>rw[e]at h; cases h
 | some j=>
  rw[e]at h
  exact r.get h
theorem j2c (ha:PD X a fa) (hb:PD X b fb) (hs:x49 b:=by exact fun _ _=>rfl):PD X (.Subscript a b pos) (eIx fa fb):=PE.imp (y9a y4j ha hb hs) fun σ H Q hh0=>by
 obtain⟨ρ,w,t,r',q,ρ',gd,ee,k⟩:=hh0
 unfold eIx at ee
 split at ee
 ·rename_i x q1 ρ1 h1
  split at ee
  ·rename_i i q2 ρ2 h2
   split at ee
   ·rename_i d hd
    cases ee
    refine z44 gd h1 h2 fun u u' H2 w2 F1 F2 g2 go r1 r2=>?_
    have hu':=x3u r2
    subst hu'
    have r0:=r1.drop (o:=.t t) (Nat.le_refl t)
    cases x with
    | lst ds=>
     obtain⟨p,vs,rfl,hq,rs⟩:=r0.seqL0
     obtain⟨v,hv,rv⟩:=rs.atI hd
     exact .inl ⟨p,vs,i,v,rfl,rfl,hq,hv,z4z k gd g2 go rv.dep⟩
    | tup ds=>
     obtain⟨p,vs,rfl,hq,rs⟩:=r0.seqT
     obtain⟨v,hv,rv⟩:=rs.atI hd
     exact .inr (.inl ⟨p,vs,i,v,rfl,rfl,hq,hv,z4z k gd g2 go rv.dep⟩)
    | _=>cases hd
   ·cases ee
  ·cases ee
 ·cases ee
noncomputable abbrev x1u:=Rho->Option (List D × Rho)
noncomputable def tDA (K:PySem.W.Frag) (f:x1u):TA:=fun σ H Q=>∃ ρ w t ds ρ',Good K ρ σ H w t/\f ρ=some (ds,ρ')/\∀ vs H' w',Good K ρ' σ H' w' t->Go H w H' w'->Reps K H' w' .f 0 ds vs []->Q vs H'
noncomputable abbrev PDA (X:Cx) (es:List Expr) (f:x1u):Prop:=PA X es (tDA X.K f)
theorem PA.imp {X:Cx} {e:List Expr} {t t':TA} (h:PA X e t) (i:∀ σ H Q,t' σ H Q->t σ H Q):PA X e t':=fun pos pins s σ H Q I q=>h pos pins s σ H Q I (i σ H Q q)
@[simp] noncomputable def x0f:x1u:=fun ρ=>some ([],ρ)
@[simp] noncomputable def x01 (f:Den) (g:x1u):x1u:=fun ρ=>match f ρ with
 | some (d,_,ρ1)=>match g ρ1 with
  | some (ds,ρ2)=>some (d::ds,ρ2)
  | none=>none
 | none=>none
theorem z63:PDA X [] x0f:=PA.imp y0s fun σ H Q hh0=>by
 obtain⟨ρ,w,t,ds,ρ',gd,ee,k⟩:=hh0
 cases ee
 exact k [] H w gd Go.refl .nil
theorem z2a {es:List Expr} {g:x1u} (ha:PD X e f) (hr:PDA X es g) (hs:starEach (e::es) X.env=(false,eval e X.env)::starEach es X.env:=by rfl):PDA X (e::es) (x01 f g):=PA.imp (x64 ha hr hs) fun σ H Q hh0=>by
 obtain⟨ρ,w,t,ds,ρ',gd,ee,k⟩:=hh0
 unfold x01 at ee
 split at ee
 ·rename_i d q ρ1 h1
  split at ee
  ·rename_i ds' ρ2 h2
   cases ee
   refine⟨ρ,w,t,d,q,ρ1,gd,h1,fun x H1 w1 F1 g1 go1 r1=>⟨ρ1,x1n t w1,t,ds',_,g1.drop,h2,fun vs H2 w2 g2 go2 r2=>?_⟩⟩
   have gl:=(g1.drop (t':=t)).wl
   have r0:Rep X.K H2 w2 .f 0 d x []:=Rep.go gl go2.stab (r1.drop (o:=.f) (Nat.le_refl t)) (fun _ z=>nomatch z)
   exact k (x::vs) H2 w2 g2 ((go1.drop gd.wt).trans go2) (.cons (F:=[]) (G:=[]) r0 r2 (fun _ z=>nomatch z))
  ·cases ee
 ·cases ee
@[simp] noncomputable def x5h (g:x1u):Den:=fun ρ=>match g ρ with
 | some (ds,ρ1)=>if ds.length<=1000 then some (.lst ds,1,ρ1)else none
 | none=>none
@[simp] noncomputable def x91 (g:x1u):Den:=fun ρ=>match g ρ with
 | some (ds,ρ1)=>if ds.length<=1000 then some (.tup ds,9,ρ1)else none
 | none=>none
theorem y09 {n:Nat} (h:n<=1000):n<=sizeLine:=Nat.le_of_lt (x42 h)
theorem z7q {es:List Expr} {g:x1u} (h:PDA X es g):PD X (.List es pos) (x5h g):=PE.imp (j0i h) fun σ H Q hh0=>by
 obtain⟨ρ,w,t,r',q,ρ',gd,ee,k⟩:=hh0
 unfold x5h at ee
 split at ee
 ·rename_i ds ρ1 h1
  split at ee
  ·rename_i hl
   cases ee
   refine⟨ρ,w,t,ds,_,gd,h1,fun vs H1 w1 g1 go1 r1=>⟨by rw[<- r1.length]; exact y09 hl,fun p hp=>?_⟩⟩
   obtain⟨a1,a2,a3⟩:=y3i g1 hp r1
   exact k _ _ _ _ a1 (go1.trans a2) a3
  ·cases ee
 ·cases ee
theorem z81 {es:List Expr} {g:x1u} {x1} (h:PDA X es g):PD X (.Tuple es x1 pos) (x91 g):=PE.imp (j0m h) fun σ H Q hh0=>by
 obtain⟨ρ,w,t,r',q,ρ',gd,ee,k⟩:=hh0
 unfold x91 at ee
 split at ee
 ·rename_i ds ρ1 h1
  split at ee
  ·rename_i hl
   cases ee
   refine⟨ρ,w,t,ds,_,gd,h1,fun vs H1 w1 g1 go1 r1=>⟨by rw[<- r1.length]; exact y09 hl,fun p hp=>?_⟩⟩
   obtain⟨a1,a2,a3⟩:=y1u g1 hp r1
   exact k _ _ _ _ a1 (go1.trans a2) a3
  ·cases ee
 ·cases ee
noncomputable def spD (K:PySem.W.Frag) (n:Nat) (F:List D->Option (D × Nat)):Sp:=fun vs H Q _=>vs.length=n/\∃ ds w r q,(∀ a o,w a=some o->o=.f)/\WL K w H/\Reps K H w .f 0 ds vs []/\F ds=some (r,q) /\
 ∀ v H' w' Fo,Go H w H' w'->WL K w' H'->Rep K H' w' (.t 0) q r v Fo->Q v H'
@[simp] noncomputable def x0k (F:List D->Option (D × Nat)) (n:Nat) (g:x1u):Den:=fun ρ=>match g ρ with
 | some (ds,ρ1)=>if ds.length=n then match F ds with
  | some (r,q)=>some (r,q,ρ1)
  | none=>none
  else none
 | none=>none
theorem j1s {K:PySem.W.Frag} {ρ:Rho} {σ:St} {H H':Hp} {w w':Wn} {t q:Nat} {d:D} {v:V} {Fo:List Addr} (g:Good K ρ σ H w t)
  (go:Go H (fun a=>(w a).map fun _=>Ow.f) H' w') (wl':WL K w' H') (r:Rep K H' w' (.t 0) q d v Fo) :
  Good K ρ σ H' (fun a=>if a∈Fo then some (.t t)else w a) (t+1)/\Go H w H' (fun a=>if a∈Fo then some (.t t)else w a)/\Rep K H' (fun a=>if a∈Fo then some (.t t)else w a) (.t t) q d v Fo:=by
 have kf:∀ a o,w a=some o->H' a=H a/\w' a=some .f:=fun a o e=>go.keep a .f (by show(w a).map _=_; rw[e]; rfl) (fun _ z=>nomatch z)
 have nf:∀ a x,H a=some x->a ∉ Fo:=fun a x e m=>by
  have h1:=r.owns a m
  cases ew:w a with
  | none=>
   have:=(go.stab a x e (by show(w a).map _=_; rw[ew]; rfl)).2
   rw[h1]at this; cases this
  | some o=>rw[(kf a o ew).2]at h1; cases h1
 have nw:∀ a o,w a=some o->a ∉ Fo:=fun a o e=>by obtain⟨vs,q⟩:=g.wl a o e; exact nf a _ q
 have st:x78 H w H' (fun a=>if a∈Fo then some (.t t)else w a):=fun a x e n=>⟨(go.stab a x e (by show(w a).map _=_; rw[n]; rfl)).1,by show(if a∈Fo then _ else _)=_; rw[if_neg (nf a x e)]; exact n⟩
 have wv:∀ a o,(if a∈Fo then some (Ow.t t)else w a)=some o->(a∈Fo/\o=.t t)\/w a=some o:=fun a o e=>by
  split at e
  ·cases e; exact .inl ⟨by assumption,rfl⟩
  ·exact .inr e
 refine⟨⟨⟨fun a o e=>?_,wl'.tb⟩,fun a i e=>?_,fun a i e=>?_,g.len,fun i d q e=>?_⟩,⟨st,fun a o e _=>⟨(kf a o e).1,by show(if a∈Fo then _ else _)=_; rw[if_neg (nw a o e)]; exact e⟩⟩,?_⟩
 ·rcases wv a o e with⟨m,_⟩ | z
  ·exact wl' a _ (r.owns a m)
  ·obtain⟨vs,h⟩:=g.wl a o z
   exact⟨vs,(kf a o z).1.trans h⟩
 ·rcases wv a _ e with⟨_,z⟩ | z
  ·cases z
  ·exact g.ws a i z
 ·rcases wv a _ e with⟨_,z⟩ | z
  ·cases z; exact Nat.lt_succ_self _
  ·exact Nat.lt_succ_of_lt (g.wt a i z)
 ·obtain⟨v,F,h1,h2⟩:=g.slot i d q e
  refine⟨v,F,h1,Rep.go g.wl st h2 fun a m=>⟨(kf a _ (h2.owns a m)).1,?_⟩⟩
  show(if a∈Fo then _ else _)=_
  rw[if_neg (nw a _ (h2.owns a m))]
  exact h2.owns a m
 ·refine Rep.go wl' (fun a x e n=>⟨sm e,?_⟩) r fun a m=>⟨rfl,if_pos m⟩
  show(if a∈Fo then _ else _)=_
  rw[if_neg (fun m=>by have:=r.owns a m; rw[n]at this; cases this)]
  cases ew:w a with
  | none=>rfl
  | some o=>have:=(kf a o ew).2; rw[n]at this; cases this
theorem z2k {CX:CXT} {k n:Nat} {fn:Addr} {fd:FuncData} {ps:List Str} {x:Str} {p:Pos} {es:List Expr} {F:List D->Option (D × Nat)} {g:x1u} {E:XK} (Fk:FnOk X.prog X.w X.K X.mg X.base CX k fn fd ps (spD X.K n F)) (hr:Room k X.A) (hm:X.mg x=some (.ref fn)) (hk:PySem.W.keepIn X.K (.ref fn)=true) (hb:y36 X.K fd ps [])
  (hx:y60 CX X E) (ha:PDA X (e::es) g) (hg:Gl X x:=by rfl) (hdb:(x == ("__debug__":Str))=false:=by decide) (he:starEach (e::es) X.env=(false,eval e X.env)::starEach es X.env:=by rfl) (hpl:(backTo pos (starEach es X.env)).any (·.1)=false:=by rfl) :
  PD X (.Call (.Name x p) (e::es) [] pos) (x0k F n g):=PE.imp (z4w Fk hr hg hm hk hb .nil hx ha hdb he hpl) fun σ H Q hh0=>by
 obtain⟨ρ,w,t,r',q,ρ',gd,ee,k⟩:=hh0
 unfold x0k at ee
 split at ee
 ·rename_i ds ρ1 h1
  split at ee
  ·rename_i hn
   split at ee
   ·rename_i r0 q0 h2
    cases ee
    refine⟨ρ,w,t,ds,_,gd,h1,fun vs H1 w1 g1 go1 r1=>?_⟩
    show spD X.K n F (vs++[]) H1 Q E
    rw[List.append_nil]
    refine⟨by rw[<- r1.length]; exact hn,ds,fun a=>(w1 a).map fun _=>Ow.f,r',q,fun a o e=>?_,⟨fun a o e=>?_,g1.wl.tb⟩,?_,h2,fun v H2 w2 Fo go2 wl2 rr=>?_⟩
    ·dsimp only at e
     cases ew:w1 a with
     | none=>rw[ew]at e; cases e
     | some o'=>rw[ew]at e; cases e; rfl
    ·try dsimp only at e
     cases ew:w1 a with
     | none=>rw[ew]at e; cases e
     | some o'=>exact g1.wl a o' ew
    ·exact Reps.freeze (fun a n=>by show(w1 a).map _=_; rw[n]; rfl) r1 (fun _ z=>nomatch z)
    ·obtain⟨b1,b2,b3⟩:=j1s g1 go2 wl2 rr
     exact k _ _ _ _ b1 (go1.trans b2) b3
   ·cases ee
  ·cases ee
 ·cases ee
end
noncomputable abbrev x2j:=Rho->Option (Bool × Rho)
noncomputable def tDT (K:PySem.W.Frag) (f:x2j):TT:=fun σ H Q=>∃ ρ w t b ρ',Good K ρ σ H w t/\f ρ=some (b,ρ')/\∀ H' w',Good K ρ' σ H' w' t->Go H w H' w'->Q b H'
theorem PT.imp {X:Cx} {e:Expr} {t t':TT} (h:PT X e t) (i:∀ σ H Q,t' σ H Q->t σ H Q):PT X e t':=fun pins s σ H Q I q=>h pins s σ H Q I (i σ H Q q)
theorem PW.imp {X:Cx} {e:Expr} {t t':TT} (h:PW X e t) (i:∀ σ H Q,t' σ H Q->t σ H Q):PW X e t':=fun whole pins s σ H Q I q=>h whole pins s σ H Q I (i σ H Q q)
noncomputable abbrev PDT (X:Cx) (e:Expr) (f:x2j):Prop:=PT X e (tDT X.K f)
noncomputable abbrev PDW (X:Cx) (e:Expr) (f:x2j):Prop:=PW X e (tDT X.K f)
@[simp] noncomputable def j3h:D->Option Bool
 | .non=>some false
 | .bl b=>some b
 | .int i=>some (i != 0)
 | .tup ds=>some (!ds.isEmpty)
 | .lst ds=>some (!ds.isEmpty)
 | .str _=>none
 | .dic _ _=>none
 | .exc _=>none
 | .ob _ _ _ _=>none
@[simp] noncomputable def x88 (f:Den):x2j:=fun ρ=>match f ρ with
 | some (d,_,ρ1)=>match j3h d with
  | some b=>some (b,ρ1)
  | none=>none
 | none=>none
section
variable {X:Cx} {a b c e:Expr} {fa fb fc f:Den} {ga gb gc:x2j} {pos:Pos}
theorem x9p {α β:Type} {l:List α} {l':List β} (h:l.length=l'.length):(!l.isEmpty) = !l'.isEmpty:=by
 cases l <;> cases l' <;> first | rfl | cases h
theorem z45 (ha:PD X a fa) (he:∀ whole,isTrue a X.env whole=(do let v <- whole; standAt a.pos; holding [v] (truthy v)):=by exact fun _=>rfl):PDT X a (x88 fa):=PT.imp (z2n ha he) fun σ H Q hh0=>by
 obtain⟨ρ,w,t,b,ρ',gd,ee,k⟩:=hh0
 unfold x88 at ee
 split at ee
 ·rename_i d q ρ1 h1
  split at ee
  ·rename_i b' hb
   cases ee
   refine⟨ρ,w,t,d,q,_,gd,h1,fun v H1 w1 F g1 go1 r1=>⟨b,?_,k H1 (x1n t w1) g1.drop (go1.drop gd.wt)⟩⟩
   cases r1 with
   | non=>cases hb; rfl
   | bl x=>cases hb; rfl
   | int i=>cases hb; rfl
   | str x=>cases hb
   | tup h r=>cases hb; exact .inr (.inl ⟨_,SqT.of h,x9p r.length⟩)
   | dic h r=>cases hb
   | exc h x n=>cases hb
   | ob h1 h2 x r=>cases hb
   | kl h r=>cases hb; exact .inl ⟨_,h.sq,x9p r.length⟩
   | shr h _ r=>cases hb; exact .inl ⟨_,.inl h,x9p r.length⟩
   | own h _ r _=>cases hb; exact .inl ⟨_,SqL.of h,x9p r.length⟩
  ·cases ee
 ·cases ee
@[simp] noncomputable def x3n (f:Den):x2j:=fun ρ=>match f ρ with
 | some (.bl b,_,ρ1)=>some (b,ρ1)
 | _=>none
theorem z2s {K:PySem.W.Frag} {te:TE} (h:∀ σ H Q,tD K f σ H Q->te σ H Q):∀ σ H Q,tDT K (x3n f) σ H Q->z9x te σ H Q:=fun σ H Q hh0=>by
 obtain⟨ρ,w,t,b,ρ',gd,ee,k⟩:=hh0
 unfold x3n at ee
 split at ee
 ·rename_i b' q ρ1 h1
  cases ee
  refine h σ H _ ⟨ρ,w,t,.bl b,q,_,gd,h1,fun v H1 w1 F g1 go1 r1=>?_⟩
  cases r1
  exact⟨b,rfl,k H1 (x1n t w1) g1.drop (go1.drop gd.wt)⟩
 ·cases ee
theorem y04 {op:CmpOp} {g:D->D->Option D} {r:R2} (ho:OpR X (compareOp op) r) (hr:∀ σ H Q,tD X.K (e2 g fa fb) σ H Q->tOp r (tD X.K fa) (tD X.K fb) σ H Q) (ha:PD X a fa) (hb:PD X b fb) (hm:behindInMarks op b=false) :
  PDT X (.Compare a [op] [b] pos) (x3n (e2 g fa fb)):=PT.imp (z5h ho ha hb hm) (z2s hr)
theorem z3h {op:CmpOp} {g:D->D->Option D} {r:R2} (ho:OpR X (compareOp op) r) (hr:∀ σ H Q,tD X.K (e2 g fa fb) σ H Q->tOp r (tD X.K fa) (tD X.K fb) σ H Q) (ha:PD X a fa) (hb:PD X b fb) (hm:behindInMarks op b=false) :
  PD X (.Compare a [op] [b] pos) (e2 g fa fb):=PE.imp (y8v ho ha hb hm) hr
@[simp] noncomputable def dLt:D->D->Option D:=gI fun i j=>some (.bl (decide (i<j)))
@[simp] noncomputable def dLe:D->D->Option D:=gI fun i j=>some (.bl (decide (i<=j)))
theorem hLt {K:PySem.W.Frag}:∀ σ H Q,tD K (e2 dLt fa fb) σ H Q->tOp (rI0 fun i j=>.bl (decide (i<j))) (tD K fa) (tD K fb) σ H Q:=y5w fun i j d h=>by cases h; rfl
theorem z86 (ha:PD X a fa) (hb:PD X b fb):PDT X (.Compare a [.Lt] [b] pos) (x3n (e2 dLt fa fb)):=y04 z8j hLt ha hb (y0c _)
@[simp] noncomputable def x4z (g:x2j):x2j:=fun ρ=>match g ρ with
 | some (b,ρ1)=>some (!b,ρ1)
 | none=>none
theorem z5m (ha:PDT X a ga):PDT X (.UnaryOp .Not a pos) (x4z ga):=PT.imp (j07 ha) fun σ H Q hh0=>by
 obtain⟨ρ,w,t,b,ρ',gd,ee,k⟩:=hh0
 unfold x4z at ee
 split at ee
 ·rename_i b' ρ1 h1
  cases ee
  exact⟨ρ,w,t,b',_,gd,h1,fun H1 w1 g1 go1=>k H1 w1 g1 go1⟩
 ·cases ee
@[simp] noncomputable def y88 (g h:x2j):x2j:=fun ρ=>match g ρ with
 | some (b,ρ1)=>if b=true then some (true,ρ1)else h ρ1
 | none=>none
variable {x2i:List Expr}
theorem z4t (ha:PDT X a ga):PDW X (.BoolOp .Or [a] pos) ga:=z8i ha
theorem z8r (ha:PDT X a ga) (hb:PDW X (.BoolOp .Or (b::x2i) pos) gb):PDW X (.BoolOp .Or (a::b::x2i) pos) (y88 ga gb):=PW.imp (j1h ha hb) fun σ H Q hh0=>by
 obtain⟨ρ,w,t,b,ρ',gd,ee,k⟩:=hh0
 unfold y88 at ee
 split at ee
 ·rename_i b' ρ1 h1
  refine⟨ρ,w,t,b',ρ1,gd,h1,fun H1 w1 g1 go1=>?_⟩
  split at ee
  ·rename_i hb; rw[if_pos hb]
   cases ee
   exact k H1 w1 g1 go1
  ·rename_i hb; rw[if_neg hb]
   exact⟨ρ1,w1,t,b,ρ',g1,ee,fun H2 w2 g2 go2=>k H2 w2 g2 (go1.trans go2)⟩
 ·cases ee
@[simp] noncomputable def eIf (g:x2j) (fa fb:Den):Den:=fun ρ=>match g ρ with
 | some (b,ρ1)=>if b=true then fa ρ1 else fb ρ1
 | none=>none
theorem z1q (hc:PDT X c gc) (ha:PD X a fa) (hb:PD X b fb):PD X (.IfExp c a b pos) (eIf gc fa fb):=PE.imp (z2m hc ha hb) fun σ H Q hh0=>by
 obtain⟨ρ,w,t,r',q,ρ',gd,ee,k⟩:=hh0
 unfold eIf at ee
 split at ee
 ·rename_i b' ρ1 h1
  refine⟨ρ,w,t,b',ρ1,gd,h1,fun H1 w1 g1 go1=>?_⟩
  split at ee
  ·rename_i hb; rw[if_pos hb]
   exact⟨ρ1,w1,t,r',q,ρ',g1,ee,fun v H2 w2 F g2 go2=>k v H2 w2 F g2 (go1.trans go2)⟩
  ·rename_i hb; rw[if_neg hb]
   exact⟨ρ1,w1,t,r',q,ρ',g1,ee,fun v H2 w2 F g2 go2=>k v H2 w2 F g2 (go1.trans go2)⟩
 ·cases ee
end
inductive Out where
 | nx (ρ:Rho) | rt (d:D) (q:Nat) | bk (ρ:Rho) | ct (ρ:Rho)
noncomputable abbrev x1a:=Rho->Option Out
noncomputable def y17 (K:PySem.W.Frag) (Dn:Ends) (n:Nat) (H:Hp) (w:Wn):Out->Prop
 | .nx ρ'=>∀ σ' H' w',σ'.length=n->Good K ρ' σ' H' w' 0->Go H w H' w'->Dn.nx σ' H'
 | .bk ρ'=>∀ σ' H' w',σ'.length=n->Good K ρ' σ' H' w' 0->Go H w H' w'->Dn.bk σ' H'
 | .ct ρ'=>∀ σ' H' w',σ'.length=n->Good K ρ' σ' H' w' 0->Go H w H' w'->Dn.ct σ' H'
 | .rt d q=>∀ v H' w' F,WL K w' H'->Go H w H' w'->Rep K H' w' (.t 0) q d v F->Dn.rt v H'
noncomputable def tDS (K:PySem.W.Frag) (f:x1a):TS:=fun Dn σ H=>∃ ρ w o,Good K ρ σ H w 0/\f ρ=some o/\y17 K Dn σ.length H w o
theorem PS.imp {X:Cx} {e:Stmt} {t t':TS} (h:PS X e t) (i:∀ D σ H,t' D σ H->t D σ H):PS X e t':=fun pins s σ H D I q=>h pins s σ H D I (i D σ H q)
theorem PSs.imp {X:Cx} {e:List Stmt} {t t':TS} (h:PSs X e t) (i:∀ D σ H,t' D σ H->t D σ H):PSs X e t':=fun pins s σ H D I q=>h pins s σ H D I (i D σ H q)
noncomputable abbrev PDS (X:Cx) (st:Stmt) (f:x1a):Prop:=PS X st (tDS X.K f)
noncomputable abbrev y7l (X:Cx) (st:List Stmt) (f:x1a):Prop:=PSs X st (tDS X.K f)
@[simp] noncomputable def x5i:x1a:=fun ρ=>some (.nx ρ)
@[simp] noncomputable def x18 (f g:x1a):x1a:=fun ρ=>match f ρ with
 | some (.nx ρ1)=>g ρ1
 | o=>o
theorem y17.trans {K:PySem.W.Frag} {Dn:Ends} {n:Nat} {H H1:Hp} {w w1:Wn} (go:Go H w H1 w1):∀ {o:Out},y17 K Dn n H w o->y17 K Dn n H1 w1 o
 | .nx _,h=>fun σ' H' w' e g go'=>h σ' H' w' e g (go.trans go')
 | .bk _,h=>fun σ' H' w' e g go'=>h σ' H' w' e g (go.trans go')
 | .ct _,h=>fun σ' H' w' e g go'=>h σ' H' w' e g (go.trans go')
 | .rt _ _,h=>fun v H' w' F wl go'=>h v H' w' F wl (go.trans go')
section
variable {X:Cx} {a b c e:Expr} {fa fb fc f:Den} {ga gb gc:x2j} {pos:Pos} {st:Stmt} {x2i sa sb:List Stmt} {s s':x1a}
theorem z60:y7l X [] x5i:=PSs.imp z4o fun D σ H hh0=>by
 obtain⟨ρ,w,o,g,ee,k⟩:=hh0
 cases ee
 exact k σ H w rfl g Go.refl
theorem z0k (h1:PDS X st s) (h2:y7l X x2i s'):y7l X (st::x2i) (x18 s s'):=PSs.imp (z08 h1 h2) fun D σ H hh0=>by
 obtain⟨ρ,w,o,g,ee,k⟩:=hh0
 unfold x18 at ee
 split at ee
 ·rename_i ρ1 h1
  exact⟨ρ,w,.nx ρ1,g,h1,fun σ' H' w' e g' go'=>⟨ρ1,w',o,g',ee,by rw[e]; exact k.trans go'⟩⟩
 ·rename_i hne
  refine⟨ρ,w,o,g,ee,?_⟩
  cases o with
  | nx ρ1=>exact absurd ee (hne ρ1)
  | bk ρ1=>exact k
  | ct ρ1=>exact k
  | rt d q=>exact k
theorem z4i (h1:PDS X st s):y7l X [st] s:=z51 h1
@[simp] noncomputable def x2m (f:Den):x1a:=fun ρ=>match f ρ with
 | some (d,q,_)=>some (.rt d q)
 | none=>none
theorem z59 (h:PD X e f):PDS X (.Return (some e) pos) (x2m f):=PS.imp (z6y h) fun D σ H hh0=>by
 obtain⟨ρ,w,o,g,ee,k⟩:=hh0
 unfold x2m at ee
 split at ee
 ·rename_i d q ρ1 h1
  cases ee
  exact⟨ρ,w,0,d,q,ρ1,g,h1,fun v H' w' F g' go' r=>k v H' w' F g'.wl go' r⟩
 ·cases ee
@[simp] noncomputable def sIf (g:x2j) (s s':x1a):x1a:=fun ρ=>match g ρ with
 | some (b,ρ1)=>if b=true then s ρ1 else s' ρ1
 | none=>none
theorem z7f (hc:PDT X c gc) (ha:y7l X sa s) (hb:y7l X sb s'):PDS X (.If c sa sb pos) (sIf gc s s'):=PS.imp (j23 hc ha hb) fun D σ H hh0=>by
 obtain⟨ρ,w,o,g,ee,k⟩:=hh0
 unfold sIf at ee
 split at ee
 ·rename_i b' ρ1 h1
  refine⟨ρ,w,0,b',ρ1,g,h1,fun H1 w1 g1 go1=>?_⟩
  split at ee
  ·rename_i hb; rw[if_pos hb]
   exact⟨ρ1,w1,o,g1,ee,k.trans go1⟩
  ·rename_i hb; rw[if_neg hb]
   exact⟨ρ1,w1,o,g1,ee,k.trans go1⟩
 ·cases ee
noncomputable def x8n (t i:Nat) (w:Wn):Wn:=fun a=>if w a=some (.t t)then some (.s i)else if w a=some (.s i)then none else w a
theorem Good.set {K:PySem.W.Frag} {ρ:Rho} {σ:St} {H:Hp} {w:Wn} {i q:Nat} {d:D} {v:V} {F:List Addr} (g:Good K ρ σ H w 1) (hi:i<σ.length) (r:Rep K H w (.t 0) q d v F) :
  Good K (ρ.set i (some (d,q))) (σ.set i (some v)) H (x8n 0 i w) 0/\∀ H₀ w₀,Go H₀ w₀ H w->(∀ a j,w₀ a=some (.t j)->j<0)->Go H₀ w₀ H (x8n 0 i w):=by
 have mN:∀ a,w a=none->x8n 0 i w a=none:=fun a e=>by unfold x8n; rw[e]; rfl
 have mT:∀ a,w a=some (.t 0)->x8n 0 i w a=some (.s i):=fun a e=>by unfold x8n; rw[if_pos e]
 have mS:∀ a j,w a=some (.s j)->j≠i->x8n 0 i w a=some (.s j):=fun a j e n=>by
  unfold x8n
  rw[if_neg (by rw[e]; exact fun z=>nomatch z),if_neg (by rw[e]; intro z; cases z; exact n rfl)]
  exact e
 have mF:∀ a,w a=some .f->x8n 0 i w a=some .f:=fun a e=>by
  unfold x8n
  rw[if_neg (by rw[e]; exact fun z=>nomatch z),if_neg (by rw[e]; exact fun z=>nomatch z)]
  exact e
 have mI:∀ a o,x8n 0 i w a=some o->(w a=some (.t 0)/\o=.s i)\/(w a=some o/\o ≠ .s i/\o ≠ .t 0):=fun a o e=>by
  unfold x8n at e
  split at e
  ·cases e; exact .inl ⟨by assumption,rfl⟩
  ·rename_i n1
   split at e
   ·cases e
   ·rename_i n2; exact .inr ⟨e,fun z=>n2 (by rw[e,z]),fun z=>n1 (by rw[e,z])⟩
 have st:x78 H w H (x8n 0 i w):=fun a x h n=>⟨sm h,mN a n⟩
 refine⟨⟨⟨fun a o e=>?_,g.wl.tb⟩,fun a j e=>?_,fun a j e=>?_,by rw[List.length_set,List.length_set]; exact g.len,fun j d' q' e'=>?_⟩,fun H₀ w₀ go hw=>⟨fun a x h n=>⟨(go.stab a x h n).1,mN a (go.stab a x h n).2⟩,fun a o e n=>?_⟩⟩
 ·rcases mI a o e with⟨z,_⟩ | ⟨z,_⟩
  ·exact g.wl a _ z
  ·exact g.wl a _ z
 ·rw[List.length_set]
  rcases mI a _ e with⟨_,z⟩ | ⟨z,_⟩
  ·cases z; exact hi
  ·exact g.ws a j z
 ·rcases mI a _ e with⟨_,z⟩ | ⟨z,_,n⟩
  ·cases z
  ·have:=g.wt a j z
   have:j=0:=by omega
   subst this
   exact absurd rfl n
 ·by_cases hj:i=j
  ·subst hj
   rw[List.getElem?_set_self (by rw[g.len]; exact hi)]at e'
   cases e'
   exact⟨v,F,List.getElem?_set_self hi,Rep.go g.wl st r fun a m=>⟨rfl,mT a (r.owns a m)⟩⟩
  ·rw[List.getElem?_set_ne hj]at e'
   obtain⟨v',F',h1,h2⟩:=g.slot j d' q' e'
   exact⟨v',F',by rw[List.getElem?_set_ne hj]; exact h1,Rep.go g.wl st h2 fun a m=>⟨rfl,mS a j (h2.owns a m) (fun z=>hj z.symm)⟩⟩
 ·obtain⟨h1,h2⟩:=go.keep a o e n
  refine⟨h1,?_⟩
  cases o with
  | s j=>exact absurd rfl (n j)
  | f=>exact mF a h2
  | t j=>exact absurd (hw a j e) (Nat.not_lt_zero _)
@[simp] noncomputable def x23 (i:Nat) (f:Den):x1a:=fun ρ=>match f ρ with
 | some (d,q,ρ1)=>some (.nx (ρ1.set i (some (d,q))))
 | none=>none
theorem y85 {K:PySem.W.Frag} {i:Nat} {D:Ends} {σ:St} {H:Hp} {te:TE} (hi:i<σ.length) (he:∀ Q,tD K f σ H Q->te σ H Q) (h:tDS K (x23 i f) D σ H):te σ H fun x H1=>D.nx (σ.set i (some x)) H1:=by
 obtain⟨ρ,w,o,g,ee,k⟩:=h
 unfold x23 at ee
 split at ee
 ·rename_i d q ρ1 h1
  cases ee
  refine he _ ⟨ρ,w,0,d,q,ρ1,g,h1,fun v H' w' F g' go' r=>?_⟩
  obtain⟨a1,a2⟩:=g'.set hi r
  exact k _ _ _ (by rw[List.length_set]) a1 (a2 _ _ go' g.wt)
 ·cases ee
theorem z4l {i:Nat} {x:Str} {pos':Pos} (hN:X.N.Nodup) (hi:X.N[i]? = some x) (hx:Loc X.env.scope x) (he:PD X e f) (hs:swapsWith e (some (.Name x pos')) pos.line X.env=pure false:=by rfl) (hf:X.fn x=true\/X.env.scope.names.lookup x=some .local:=by first | exact .inl rfl | exact .inr rfl) :
  PDS X (.Assign [.Name x pos'] e pos) (x23 i f):=by
 intro pins s σ H D I h
 have hl:i<σ.length:=by rw[I.len]; exact(List.getElem?_eq_some_iff.mp hi).1
 exact z72 (te:=tD X.K f) hN hi hx he hs hf pins s σ H D I (y85 hl (fun _ z=>z) h)
@[simp] noncomputable def x3q (f:Den):x1a:=fun ρ=>match f ρ with
 | some (_,_,ρ1)=>some (.nx ρ1)
 | none=>none
theorem z1p (he:PD X e f) (hs:swapsWith e none pos.line X.env=pure false:=by rfl):PDS X (.Expr e pos) (x3q f):=PS.imp (z48 he hs) fun D σ H hh0=>by
 obtain⟨ρ,w,o,g,ee,k⟩:=hh0
 unfold x3q at ee
 split at ee
 ·rename_i d q ρ1 h1
  cases ee
  exact⟨ρ,w,0,d,q,ρ1,g,h1,fun v H' w' F g' go' r=>k σ H' (x1n 0 w') rfl g'.drop (go'.drop g.wt)⟩
 ·cases ee
end
structure Mo (K:PySem.W.Frag) (H H':Hp):Prop where
 mo:∀ a o,H a=some o->H' a=some o
 tb:TB K H->TB K H'
theorem Mo.rfl' {K:PySem.W.Frag} {H:Hp}:Mo K H H:=⟨fun _ _ e=>e,fun t=>t⟩
structure ItOk (K:PySem.W.Frag) (J:It) (ds:List D) (P:Hp->Wn->Prop):Prop where
 go:∀ i H w,P H w->i<ds.length->J.go i H
 yld:∀ i H w x H' d,P H w->WL K w H->ds[i]? = some d->J.yld i H x H'->Mo K H H'/\Rep K H' w .f 0 d x []/\P H' w
 stop:∀ H w,P H w->J.stop ds.length H
 st:∀ H w H' w',P H w->WL K w H->x78 H w H' w'->P H' w'
noncomputable abbrev y28:=Rho->Option (List D × Rho)
noncomputable def tDI (K:PySem.W.Frag) (f:y28):TI:=fun σ H R=>∃ ρ w t ds ρ',Good K ρ σ H w t/\f ρ=some (ds,ρ') /\
 ∀ J P H' w',Good K ρ' σ H' w' t->Go H w H' w'->ItOk K J ds P->P H' w'->ds.length<sizeLine->R J H'
theorem PI.imp {X:Cx} {tg e:Expr} {t t':TI} (h:PI X tg e t) (i:∀ σ H R,t' σ H R->t σ H R):PI X tg e t':=fun pins s σ H R I q=>h pins s σ H R I (i σ H R q)
noncomputable abbrev PDI (X:Cx) (tg e:Expr) (f:y28):Prop:=PI X tg e (tDI X.K f)
theorem It.list {K:PySem.W.Frag} {a:Addr} {vs:List V} {ds:List D} (hl:ds.length=vs.length):ItOk K (Itl K a) ds fun H w=>(KL K a vs\/(Rd H a (.lst vs)/\w a=none))/\Reps K H w .f 0 ds vs []:=by
 have sq:∀ {H:Hp} {w:Wn},KL K a vs\/(Rd H a (.lst vs)/\w a=none)->SqL K H a vs:=fun h=>h.elim (fun z=>z.sq) fun z=>.inl z.1
 refine⟨fun i H w p hi=>⟨vs,vs[i],sq p.1,by simp[hl ▸ hi]⟩,fun i H w x H' d p wl hd y=>?_,fun H w p=>⟨vs,sq p.1,by omega⟩,fun H w H' w' p wl st=>?_⟩
 ·obtain⟨rfl,hx⟩:=y
  obtain⟨v,hv,rv⟩:=p.2.get hd
  have:=hx vs (sq p.1)
  rw[hv]at this
  cases this
  exact⟨Mo.rfl',rv,p⟩
 ·refine⟨?_,Reps.go wl st p.2 (fun _ z=>nomatch z)⟩
  rcases p.1 with p | ⟨p,n⟩
  ·exact .inl p
  ·exact .inr (RdL.go st n p)
theorem It.tup {K:PySem.W.Frag} {a:Addr} {vs:List V} {ds:List D} (hl:ds.length=vs.length):ItOk K (Itt K a) ds fun H w=>SqT K H a vs/\Reps K H w .f 0 ds vs []:=
 ⟨fun i H w p hi=>⟨vs,vs[i],p.1,by simp[hl ▸ hi]⟩,fun i H w x H' d p wl hd y=>by
   obtain⟨rfl,hx⟩:=y
   obtain⟨v,hv,rv⟩:=p.2.get hd
   have:=hx vs p.1
   rw[hv]at this
   cases this
   exact⟨Mo.rfl',rv,p⟩,fun H w p=>⟨vs,p.1,by omega⟩,fun H w H' w' p wl st=>⟨SqT.go wl st p.1,Reps.go wl st p.2 (fun _ z=>nomatch z)⟩⟩
noncomputable def x96 (n:Nat):List V:=(List.range n).map fun i=>.int (Int.ofNat i)
noncomputable def x17 (n:Nat):List D:=(List.range n).map fun i=>.int (Int.ofNat i)
theorem x0z (n:Nat):(x17 n).length=n:=by simp[x17]
theorem y21 (n:Nat):(x96 n).length=n:=by simp[x96]
theorem It.range {K:PySem.W.Frag} {n:Nat}:ItOk K (Itr 0 n) (x17 n) fun _ _=>True:=by
 refine⟨fun i H w _ hi=>by rw[x0z]at hi; exact hi,fun i H w x H' d _ _ hd y=>?_,fun H w _=>by rw[x0z]; exact Nat.le_refl _,fun _ _ _ _ _ _ _=>trivial⟩
 have hi:i<n:=by have:=(List.getElem?_eq_some_iff.mp hd).1; rw[x0z]at this; exact this
 have e:x=.int (0+(i:Int)):=y.2
 have ed:d=.int (Int.ofNat i):=by
  have:(x17 n)[i]? = some (.int (Int.ofNat i)):=by simp[x17,hi]
  rw[hd]at this
  exact Option.some.inj this
 obtain⟨rfl,_⟩:=y
 subst ed
 rw[e,Int.zero_add]
 exact⟨Mo.rfl',.int _,trivial⟩
theorem x7s {K:PySem.W.Frag} {H:Hp} {w:Wn} {o:Ow}:∀ (ns:List Int),Reps K H w o 0 (ns.map D.int) (ns.map V.int) []
 | []=>.nil
 | n::r=>.cons (F:=[]) (G:=[]) (.int n) (x7s r) (fun _ z=>nomatch z)
theorem y6u {K:PySem.W.Frag} {H:Hp} {w:Wn} {o:Ow} (n:Nat):Reps K H w o 0 (x17 n) (x96 n) []:=by
 have:=x7s (K:=K) (H:=H) (w:=w) (o:=o) ((List.range n).map Int.ofNat)
 rw[List.map_map,List.map_map]at this
 exact this
section
variable {X:Cx} {tg a b c e:Expr} {fa fb fc f:Den} {ga gb gc:x2j} {pos p:Pos}
@[simp] noncomputable def x15 (g:x1u):y28:=fun ρ=>match g ρ with
 | some ([.int n],ρ1)=>if -1000<=n/\n<=1000 then some (x17 n.toNat,ρ1)else none
 | _=>none
theorem y6t {g:x1u} (hm:X.mg "range" = none) (ha:PDA X [a] g) (hg:Gl X "range":=by rfl) (hs:starEach [a] X.env=[(false,eval a X.env)]:=by rfl):PDI X tg (.Call (.Name "range" p) [a] [] pos) (x15 g):=PI.imp (y95 hg hm ha hs) fun σ H R hh0=>by
 obtain⟨ρ,w,t,ds,ρ',gd,ee,k⟩:=hh0
 unfold x15 at ee
 split at ee
 ·rename_i n ρ1 h1
  split at ee
  ·rename_i hn
   cases ee
   refine⟨ρ,w,t,[.int n],_,gd,h1,fun vs H1 w1 g1 go1 r1=>?_⟩
   have hv:vs=[.int n]:=by
    have l:=r1.length
    match vs,l with
    | [v],_=>
     obtain⟨v',h1,h2⟩:=r1.get (i:=0) rfl
     cases h1
     rw[x3u h2]
   subst hv
   refine⟨n,rfl,by omega,by omega,k _ _ H1 w1 g1 go1 It.range trivial ?_⟩
   rw[x0z]
   exact x42 (by omega)
  ·cases ee
 ·cases ee
noncomputable def j2x (K:PySem.W.Frag) (tl:TE):TI:=fun σ H R=>tl σ H fun x H1=>∃ a,x=.ref a/\(((∃ xs,SqL K H1 a xs)/\R (Itl K a) H1)\/((∃ xs,SqT K H1 a xs)/\R (Itt K a) H1))
theorem z7b {l:Expr} {tl:TE} (hl:PE X l tl):PI X tg l (j2x X.K tl):=by
 intro pins s σ H R I h
 refine thn (hl pins s σ H _ I h) fun v s1 ⟨x,H1,I1,r1,q1⟩=>?_
 obtain⟨a,e,q⟩:=q1
 subst e
 cases r1
 rcases q with⟨⟨xs,hq⟩,q⟩ | ⟨⟨xs,hq⟩,q⟩
 ·obtain⟨its,rv,p,hz⟩:=I1.list hq
  refine wpAny_pyIter_list p.isList ?_
  refine⟨s1.heap.objs.size,[s1.heap.objs.size],_,_,H1,rfl,I1.kept (t':=s1.toks) fun b o e=>Heap.get?_push_of_some _ e,y8s a _,⟨_,Heap.get?_push_size _ rfl,rfl,rfl⟩,fun b hb=>?_,q⟩
  have e:b=s1.heap.objs.size:=by simpa using hb
  subst e
  exact I1.fpOk (Nat.le_refl _) (I1.hok.fresh (Nat.le_refl _))
 ·obtain⟨its,rv,p,hz⟩:=I1.tuple hq
  refine wpAny_pyIter_tuple (show s1.heap.IsTuple a its.toArray from p) ?_
  refine⟨s1.heap.objs.size,[s1.heap.objs.size],_,_,H1,rfl,I1.kept (t':=s1.toks) fun b o e=>Heap.get?_push_of_some _ e,y7j a _,⟨_,Heap.get?_push_size _ rfl,rfl,rfl⟩,fun b hb=>?_,q⟩
  have e:b=s1.heap.objs.size:=by simpa using hb
  subst e
  exact I1.fpOk (Nat.le_refl _) (I1.hok.fresh (Nat.le_refl _))
@[simp] noncomputable def x6f (f:Den):y28:=fun ρ=>match f ρ with
 | some (.lst ds,_,ρ1)=>if ds.length<=1000 then some (ds,ρ1)else none
 | some (.tup ds,_,ρ1)=>if ds.length<=1000 then some (ds,ρ1)else none
 | _=>none
theorem z6f (ha:PD X a fa):PDI X tg a (x6f fa):=PI.imp (z7b ha) fun σ H R hh0=>by
 obtain⟨ρ,w,t,ds,ρ',gd,ee,k⟩:=hh0
 unfold x6f at ee
 split at ee
 ·rename_i ds' q ρ1 h1
  split at ee
  ·rename_i hl
   cases ee
   refine⟨ρ,w,t,.lst ds,q,ρ',gd,h1,fun v H1 w1 F g1 go1 r1=>?_⟩
   have r0:=r1.drop (o:=.f) (Nat.le_refl t)
   cases r0 with
   | kl h r=>exact⟨_,rfl,.inl ⟨⟨_,h.sq⟩,k _ _ H1 (x1n t w1) g1.drop (go1.drop gd.wt) (It.list r.length) ⟨.inl h,r⟩ (x42 hl)⟩⟩
   | shr h n r=>exact⟨_,rfl,.inl ⟨⟨_,.inl h⟩,k _ _ H1 (x1n t w1) g1.drop (go1.drop gd.wt) (It.list r.length) ⟨.inr ⟨h,n⟩,r⟩ (x42 hl)⟩⟩
  ·cases ee
 ·rename_i ds' q ρ1 h1
  split at ee
  ·rename_i hl
   cases ee
   refine⟨ρ,w,t,.tup ds,q,ρ',gd,h1,fun v H1 w1 F g1 go1 r1=>?_⟩
   have r0:=r1.drop (o:=.f) (Nat.le_refl t)
   cases r0 with
   | tup h r=>exact⟨_,rfl,.inr ⟨⟨_,SqT.of h⟩,k _ _ H1 (x1n t w1) g1.drop (go1.drop gd.wt) (It.tup r.length) ⟨SqT.of h,r⟩ (x42 hl)⟩⟩
  ·cases ee
 ·cases ee
end
noncomputable abbrev x5p:=D->Rho->Option Rho
noncomputable def tDG (K:PySem.W.Frag) (b:Nat) (pt:x5p):TG:=fun v σ H Q=>∃ d ρ w t ρ',Good K ρ σ H w t/\Rep K H w .f 0 d v []/\pt d ρ=some ρ'/\∀ σ' H' w',σ'.length=σ.length->(∀ i,i<b->σ'[i]? = σ[i]?)->Good K ρ' σ' H' w' t->Go H w H' w'->Q σ' H'
theorem PG.imp {X:Cx} {tg:Expr} {t t':TG} (h:PG X tg t) (i:∀ v σ H Q,t' v σ H Q->t v σ H Q):PG X tg t':=fun pins s σ H v u Q I r q=>h pins s σ H v u Q I r (i v σ H Q q)
noncomputable abbrev PDG (X:Cx) (b:Nat) (tg:Expr) (pt:x5p):Prop:=PG X tg (tDG X.K b pt)
@[simp] noncomputable def x0i (i:Nat):x5p:=fun d ρ=>if i<ρ.length then some (ρ.set i (some (d,x3t d)))else none
theorem Good.setV {K:PySem.W.Frag} {ρ:Rho} {σ:St} {H:Hp} {w:Wn} {t i:Nat} {d:D} {v:V} (g:Good K ρ σ H w t) (hi:i<σ.length) (r:Rep K H w .f 0 d v []) :
  Good K (ρ.set i (some (d,x3t d))) (σ.set i (some v)) H (x6k i w) t/\Go H w H (x6k i w):=by
 have st:x78 H w H (x6k i w):=fun a x h n=>⟨sm h,x65 n⟩
 refine⟨⟨⟨fun a o h=>g.wl a o (x3z h).1,g.wl.tb⟩,fun a j h=>by rw[List.length_set]; exact g.ws a j (x3z h).1,fun a j h=>g.wt a j (x3z h).1,by rw[List.length_set,List.length_set]; exact g.len,fun j d' q' e'=>?_⟩,⟨st,fun a o h n=>⟨rfl,x9h h (n i)⟩⟩⟩
 by_cases hj:i=j
 ·subst hj
  rw[List.getElem?_set_self (by rw[g.len]; exact hi)]at e'
  cases e'
  exact⟨v,[],List.getElem?_set_self hi,(Rep.go g.wl st r (fun _ z=>nomatch z):Rep K H (x6k i w) (.s i) 0 d v []).dep⟩
 ·rw[List.getElem?_set_ne hj]at e'
  obtain⟨v',F,h1,h2⟩:=g.slot j d' q' e'
  exact⟨v',F,by rw[List.getElem?_set_ne hj]; exact h1,Rep.go g.wl st h2 fun a m=>⟨rfl,x9h (h2.owns a m) (fun z=>hj (by cases z; rfl))⟩⟩
theorem z1c {X:Cx} {b i:Nat} {x:Str} {pos:Pos} (hb:b<=i) (hN:X.N.Nodup) (hi:X.N[i]? = some x) (hx:Loc X.env.scope x) (hf:X.fn x=true\/X.env.scope.names.lookup x=some .local:=by first | exact .inl rfl | exact .inr rfl):PDG X b (.Name x pos) (x0i i):=PG.imp (z5p hN hi hx hf) fun v σ H Q hh0=>by
 obtain⟨d,ρ,w,t,ρ',g,r,e,k⟩:=hh0
 unfold x0i at e
 split at e
 ·rename_i hl
  cases e
  obtain⟨a1,a2⟩:=g.setV (by rw[<- g.len]; exact hl) r
  exact k _ _ _ (by rw[List.length_set]) (fun j hj=>List.getElem?_set_ne (by omega)) a1 a2
 ·cases e
noncomputable def x75 (pt:x5p) (body:x1a):List D->Rho->Option Out
 | [],ρ=>some (.nx ρ)
 | d::ds,ρ=>match pt d ρ with
  | none=>none
  | some ρ1=>match body ρ1 with
   | some (.nx ρ2)=>x75 pt body ds ρ2
   | some (.ct ρ2)=>x75 pt body ds ρ2
   | some (.bk ρ2)=>some (.nx ρ2)
   | o=>o
@[simp] noncomputable def x6h (it:y28) (pt:x5p) (body:x1a):x1a:=fun ρ=>match it ρ with
 | some (ds,ρ1)=>x75 pt body ds ρ1
 | none=>none
theorem Reps.go0 {K:PySem.W.Frag} {H H':Hp} {w w':Wn} {ds:List D} {vs:List V} (r:Reps K H w .f 0 ds vs []) (wl:WL K w H) (st:x78 H w H' w'):Reps K H' w' .f 0 ds vs []:=Reps.go wl st r (fun _ z=>nomatch z)
theorem Rep.go0 {K:PySem.W.Frag} {H H':Hp} {w w':Wn} {ds:D} {vs:V} (r:Rep K H w .f 0 ds vs []) (wl:WL K w H) (st:x78 H w H' w'):Rep K H' w' .f 0 ds vs []:=Rep.go wl st r (fun _ z=>nomatch z)
theorem Reps.drop0 {K:PySem.W.Frag} {H:Hp} {w:Wn}:∀ {ds:List D} {vs:List V} (i:Nat),Reps K H w .f 0 ds vs []->Reps K H w .f 0 (ds.drop i) (vs.drop i) []
 | _,_,0,r=>r
 | ds,vs,i+1,r=>by
  generalize hF:([]:List Addr)=F at r
  cases r with
  | nil=>exact .nil
  | cons r s _=>
   have h2:=s.zero
   have h1:=r.zero
   subst h2
   subst h1
   exact Reps.drop0 i s
theorem Good.more {K:PySem.W.Frag} {ρ:Rho} {σ:St} {H H':Hp} {w:Wn} {t:Nat} (g:Good K ρ σ H w t) (hm:Mo K H H'):Good K ρ σ H' w t/\Go H w H' w:=by
 have h:=hm.mo
 have st:x78 H w H' w:=fun a x e n=>⟨sm (h a x e),n⟩
 have kp:∀ a o,w a=some o->H' a=H a:=fun a o e=>by
  obtain⟨vs,q⟩:=g.wl a o e
  rw[q,h a _ q]
 refine⟨⟨⟨fun a o e=>?_,hm.tb g.wl.tb⟩,g.ws,g.wt,g.len,fun i d q e=>?_⟩,st,fun a o e _=>⟨kp a o e,e⟩⟩
 ·obtain⟨vs,q⟩:=g.wl a o e
  exact⟨vs,h a _ q⟩
 ·obtain⟨v,F,h1,h2⟩:=g.slot i d q e
  exact⟨v,F,h1,Rep.go g.wl st h2 fun a m=>⟨kp a _ (h2.owns a m),h2.owns a m⟩⟩
theorem z6a {X:Cx} {tg iter:Expr} {body:List Stmt} {it:y28} {pt:x5p} {s:x1a} {pos:Pos} (hp:PassesOwn (model X.prog X.w) X.A X.env X.xe) (hc:X.calm=true) (hi:PDI X tg iter it) (hg:PDG X 0 tg pt) (hb:y7l X body s)
  (hs:∀ x,foldedSetIterable iter X.env x=pure x:=by intro _; rfl):PDS X (.For tg iter body [] pos) (x6h it pt s):=PS.imp (z75 hp hc hi hg hb hs) fun D σ H hh0=>by
 obtain⟨ρ,w,o,g,ee,k⟩:=hh0
 unfold x6h at ee
 split at ee
 ·rename_i ds ρ1 h1
  refine⟨ρ,w,0,ds,ρ1,g,h1,fun J P H1 w1 g1 go1 ok p1 hl=>?_⟩
  refine⟨fun i m σ' H'=>m=ds.length-i/\i<=ds.length/\σ'.length=σ.length/\∃ ρ' w',Good X.K ρ' σ' H' w' 0/\P H' w'/\x75 pt s (ds.drop i) ρ'=some o/\y17 X.K D σ.length H' w' o,
   ⟨ds.length,by simp,Nat.zero_le _,rfl,ρ1,w1,g1,p1,ee,k.trans go1⟩,?_⟩
  rintro i m σ' H' ⟨rfl,hile,hσ,ρ',w',g',p',e',k'⟩
  by_cases hlt:i<ds.length
  ·refine .inr ⟨ok.go i H' w' p' hlt,fun σ2 H2=>ds.length-(i+1)=ds.length-(i+1)/\i+1<=ds.length/\σ2.length=σ.length/\∃ ρ2 w2,Good X.K ρ2 σ2 H2 w2 0/\P H2 w2/\x75 pt s (ds.drop (i+1)) ρ2=some o/\y17 X.K D σ.length H2 w2 o,
    fun σ2 H2 n2=>⟨ds.length-(i+1),by omega,n2⟩,fun x H2 hy=>?_⟩
   obtain⟨mo,rx,p2⟩:=ok.yld i H' w' x H2 ds[i] p' g'.wl (List.getElem?_eq_getElem hlt) hy
   obtain⟨g2,go2⟩:=g'.more mo
   have ed:ds.drop i=ds[i]::ds.drop (i+1):=List.drop_eq_getElem_cons hlt
   rw[ed]at e'
   unfold x75 at e'
   split at e'
   ·cases e'
   ·rename_i ρ3 h3
    refine⟨ds[i],ρ',w',0,ρ3,g2,rx,h3,fun σ4 H4 w4 l4 _ g4 go4=>?_⟩
    have p4:=ok.st _ _ _ _ p2 g2.wl go4.stab
    have nx:∀ {ρ5:Rho},x75 pt s (ds.drop (i+1)) ρ5=some o->∀ σ5 H5 w5,σ5.length=σ4.length->Good X.K ρ5 σ5 H5 w5 0->Go H4 w4 H5 w5->ds.length-(i+1)=ds.length-(i+1)/\i+1<=ds.length/\σ5.length=σ.length/\∃ ρ2 w2,Good X.K ρ2 σ5 H5 w2 0/\P H5 w2/\x75 pt s (ds.drop (i+1)) ρ2=some o/\y17 X.K D σ.length H5 w2 o:=fun {ρ5} e5 σ5 H5 w5 l5 g5 go5=>
     ⟨rfl,hlt,by rw[l5,l4,hσ],ρ5,w5,g5,ok.st _ _ _ _ p4 g4.wl go5.stab,e5,k'.trans ((go2.trans go4).trans go5)⟩
    cases h6:s ρ3 with
    | none=>rw[h6]at e'; cases e'
    | some o6=>
     rw[h6]at e'
     refine⟨ρ3,w4,o6,g4,h6,?_⟩
     cases o6 with
     | nx ρ5=>exact nx e'
     | ct ρ5=>exact nx e'
     | bk ρ5=>
      cases e'
      exact fun σ5 H5 w5 l5 g5 go5=>k' σ5 H5 w5 (by rw[l5,l4,hσ]) g5 ((go2.trans go4).trans go5)
     | rt d q=>
      cases e'
      exact fun v H5 w5 F wl5 go5 r5=>k' v H5 w5 F wl5 ((go2.trans go4).trans go5) r5
  ·have hi':i=ds.length:=Nat.le_antisymm hile (Nat.not_lt.mp hlt)
   subst hi'
   refine .inl ⟨ok.stop H' w' p',?_⟩
   have ed:ds.drop ds.length=[]:=by simp
   rw[ed]at e'
   cases e'
   exact k' σ' H' w' hσ g' Go.refl
 ·cases ee
@[simp] noncomputable def x3f (n:Nat) (ds:List D):Rho:=ds.map (fun d=>some (d,x3t d))++List.replicate (n-ds.length) none
@[simp] noncomputable def fnD (n:Nat) (body:x1a):List D->Option (D × Nat):=fun ds=>match body (x3f n ds)with
 | some (.rt d q)=>some (d,q)
 | some (.nx _)=>some (.non,9)
 | _=>none
theorem x8g {K:PySem.W.Frag} {H:Hp} {w:Wn} {N:List Str} {ds:List D} {vs:List V} (hw:∀ a o,w a=some o->o=.f) (wl:WL K w H) (r:Reps K H w .f 0 ds vs []):Good K (x3f N.length ds) (y0w N vs) H w 0:=by
 refine⟨wl,(fun a i e=>by cases (hw a _ e)),(fun a i e=>by cases (hw a _ e)),?_,fun i d q e=>?_⟩
 ·unfold x3f L2.y0w
  rw[List.length_append,List.length_append,List.length_map,List.length_map,List.length_replicate,List.length_replicate,r.length]
 ·unfold x3f at e
  by_cases hi:i<ds.length
  ·rw[List.getElem?_append_left (by simpa using hi),List.getElem?_map]at e
   cases h:ds[i]? with
   | none=>rw[h]at e; cases e
   | some d'=>
    rw[h]at e
    cases e
    obtain⟨v,hv,rv⟩:=r.get h
    refine⟨v,[],?_,(rv.any wl:Rep K H w (.s i) 0 d v []).dep⟩
    unfold L2.y0w
    rw[List.getElem?_append_left (by rw[List.length_map,<- r.length]; exact hi),List.getElem?_map,hv]
    rfl
  ·rw[List.getElem?_append_right (by simpa using hi),List.getElem?_replicate]at e
   split at e <;> cases e
theorem y5z {K:PySem.W.Frag} {N:List Str} {n:Nat} {body:x1a} {vs:List V} {H:Hp} {Q:VK} {E:XK} (h:spD K n (fnD N.length body) vs H Q E):tDS K body { nx:=fun _ H'=>Q .non H',rt:=Q } (y0w N vs) H:=by
 obtain⟨hn,ds,w,r,q,hw,wl,rs,e,k⟩:=h
 unfold fnD at e
 split at e
 ·rename_i d q' h1
  cases e
  exact⟨_,w,_,x8g hw wl rs,h1,fun v H' w' F wl' go' r'=>k v H' w' F go' wl' r'⟩
 ·rename_i ρ' h1
  cases e
  exact⟨_,w,_,x8g hw wl rs,h1,fun σ' H' w' _ g' go'=>k .non H' w' [] go' g'.wl .non⟩
 ·cases e
theorem z79 {P:Program} {wd:World} {K:PySem.W.Frag} {mg:Str->Option Value} {base:Heap} {x qual:Str} {st:Stmt} {f:Addr} {fd:FuncData} {N ps:List Str} {k:Nat} {body:x1a} (F:Fun K x qual st f fd) (S:FnScope N ps (x0e st))
  (h:∀ (cdv:Value) (A:Around) (outer:List Env) (s:Shared) (H:Hp) (E:XK),Room k (A.deeper (envOfC qual (x0e st) s.heap.objs.size f cdv))->y7l (y2o CX0 P wd K mg base N qual (x0e st) f cdv A outer s H E).nox (x32 st) body) :
  FnOk P wd K mg base CX0 (k+1) f fd ps (spD K ps.length (fnD N.length body)):=
 F.ok S (fun vs H Q E h=>h.1) fun cdv A outer s H vs Q E hr hsp=>⟨_,h cdv A outer s H E hr,y5z hsp⟩
noncomputable def x6l (k:Nat) (pt:x5p) (tt:x2j) (te:Den) (deep:Bool):List D->Rho->Option (List D × Rho)
 | [],ρ=>some ([],ρ)
 | d::ds,ρ=>match pt d (ρ++List.replicate k none)with
  | none=>none
  | some ρ1=>match tt ρ1 with
   | none=>none
   | some (b,ρ2)=>if b=true then(match te ρ2 with
     | none=>none
     | some (v,q,ρ3)=>if deep=true/\v.isL=true/\q≠1 then none else match x6l k pt tt te deep ds (ρ3.take ρ.length)with
      | none=>none
      | some (vs,ρ4)=>some (v::vs,ρ4))
    else x6l k pt tt te deep ds (ρ2.take ρ.length)
@[simp] noncomputable def x2y (k:Nat) (it:y28) (pt:x5p) (tt:x2j) (te:Den) (deep:Bool):Den:=fun ρ=>match it ρ with
 | some (ds,ρ1)=>match x6l k pt tt te deep ds ρ1 with
  | some (vs,ρ2)=>some (.lst vs,if deep=true then 2 else 1,ρ2)
  | none=>none
 | none=>none
@[simp] noncomputable def x2l:x2j:=fun ρ=>some (true,ρ)
theorem Good.ext {K:PySem.W.Frag} {ρ:Rho} {σ:St} {H:Hp} {w:Wn} {t:Nat} (g:Good K ρ σ H w t) (k:Nat):Good K (ρ++List.replicate k none) (σ++List.replicate k none) H w t:=by
 refine⟨g.wl,fun a i e=>by rw[List.length_append]; exact Nat.lt_of_lt_of_le (g.ws a i e) (Nat.le_add_right _ _),g.wt,by rw[List.length_append,List.length_append,List.length_replicate,List.length_replicate,g.len],fun i d q e=>?_⟩
 by_cases hi:i<ρ.length
 ·rw[List.getElem?_append_left hi]at e
  obtain⟨v,F,h1,h2⟩:=g.slot i d q e
  exact⟨v,F,by rw[List.getElem?_append_left (by rw[<- g.len]; exact hi)]; exact h1,h2⟩
 ·rw[List.getElem?_append_right (by omega),List.getElem?_replicate]at e
  split at e <;> cases e
noncomputable def x3c (n:Nat) (w:Wn):Wn:=fun a=>match w a with
 | some (.s i)=>if n<=i then none else some (.s i)
 | x=>x
theorem y30 {n:Nat} {w:Wn} {a:Addr} (h:w a=none):x3c n w a=none:=by unfold x3c; rw[h]
theorem y59 {n:Nat} {w:Wn} {a:Addr} {i:Nat} (h:w a=some (.s i)) (hi:i<n):x3c n w a=some (.s i):=by unfold x3c; rw[h]; exact if_neg (by omega)
theorem y5g {n:Nat} {w:Wn} {a:Addr} {o:Ow} (h:w a=some o) (hn:∀ i,o ≠ .s i):x3c n w a=some o:=by
 unfold x3c; rw[h]
 cases o with
 | s i=>exact absurd rfl (hn i)
 | t i=>rfl
 | f=>rfl
theorem x57 {n:Nat} {w:Wn} {a:Addr} {o:Ow} (h:x3c n w a=some o):w a=some o/\∀ i,o=.s i->i<n:=by
 unfold x3c at h
 cases e:w a with
 | none=>rw[e]at h; cases h
 | some o'=>
  rw[e]at h
  cases o' with
  | t i=>cases h; exact⟨rfl,fun i z=>nomatch z⟩
  | f=>cases h; exact⟨rfl,fun i z=>nomatch z⟩
  | s i=>
   dsimp only at h
   split at h
   ·cases h
   ·cases h; exact⟨rfl,fun j z=>by cases z; omega⟩
theorem Good.cut {K:PySem.W.Frag} {ρ:Rho} {σ τ:St} {H:Hp} {w:Wn} {t:Nat} (g:Good K ρ (σ++τ) H w t):Good K (ρ.take σ.length) σ H (x3c σ.length w) t/\Go H w H (x3c σ.length w):=by
 have st:x78 H w H (x3c σ.length w):=fun a x h n=>⟨sm h,y30 n⟩
 refine⟨⟨⟨fun a o e=>g.wl a o (x57 e).1,g.wl.tb⟩,fun a i e=>(x57 e).2 i rfl,fun a i e=>g.wt a i (x57 e).1,?_,fun i d q e=>?_⟩,⟨st,fun a o e n=>⟨rfl,y5g e n⟩⟩⟩
 ·rw[List.length_take,g.len,List.length_append]
  omega
 ·by_cases hi:i<σ.length
  ·rw[List.getElem?_take_of_lt hi]at e
   obtain⟨v,F,h1,h2⟩:=g.slot i d q e
   rw[List.getElem?_append_left hi]at h1
   exact⟨v,F,h1,Rep.go g.wl st h2 fun a m=>⟨rfl,y59 (h2.owns a m) hi⟩⟩
  ·rw[List.getElem?_take_eq_none (by omega)]at e
   cases e
theorem j1f {σ σ' τ:St} (l:σ'.length=(σ++τ).length) (h:∀ i,i<σ.length->σ'[i]? = (σ++τ)[i]?):∃ τ',σ'=σ++τ'/\τ'.length=τ.length:=by
 refine⟨σ'.drop σ.length,?_,by rw[List.length_drop,l,List.length_append]; omega⟩
 have e:σ'.take σ.length=σ:=by
  apply List.ext_getElem?
  intro i
  by_cases hi:i<σ.length
  ·rw[List.getElem?_take_of_lt hi,h i hi,List.getElem?_append_left hi]
  ·rw[List.getElem?_take_eq_none (by omega),List.getElem?_eq_none (by omega)]
 conv=>lhs; rw[<- List.take_append_drop σ.length σ',e]
noncomputable def dq (deep:Bool):Nat:=if deep=true then 1 else 0
noncomputable def x6n (deep:Bool) (t:Nat) (w:Wn):Wn:=fun a=>if w a=some (.t (t+1))then(if deep=true then some (.t t)else none)else w a
theorem j3a {K:PySem.W.Frag} {ρ:Rho} {σ:St} {H:Hp} {w:Wn} {t q:Nat} {d:D} {v:V} {F:List Addr} {deep:Bool} (g:Good K ρ σ H w (t+2)) (r:Rep K H w (.t (t+1)) q d v F) (hq:¬ (deep=true/\d.isL=true/\q≠1)) :
  Good K ρ σ H (x6n deep t w) (t+1)/\(∃ F',Rep K H (x6n deep t w) (.t t) (dq deep) d v F'/\∀ a∈F',w a=some (.t (t+1)))/\x78 H w H (x6n deep t w)/\(∀ a o,w a=some o->o ≠ .t (t+1)->x6n deep t w a=some o):=by
 have hN:∀ a,w a=none->x6n deep t w a=none:=fun a e=>by unfold x6n; rw[e]; rfl
 have hO:∀ a o,w a=some o->o ≠ .t (t+1)->x6n deep t w a=some o:=fun a o e n=>by
  unfold x6n
  rw[if_neg (by rw[e]; exact fun z=>n (Option.some.inj z))]
  exact e
 have hI:∀ a o,x6n deep t w a=some o->(w a=some (.t (t+1))/\o=.t t)\/(w a=some o/\o ≠ .t (t+1)):=fun a o e=>by
  unfold x6n at e
  split at e
  ·split at e
   ·cases e; exact .inl ⟨by assumption,rfl⟩
   ·cases e
  ·rename_i n; exact .inr ⟨e,fun z=>n (by rw[e,z])⟩
 have st:x78 H w H (x6n deep t w):=fun a x h n=>⟨sm h,hN a n⟩
 refine⟨⟨⟨fun a o e=>?_,g.wl.tb⟩,fun a i e=>?_,fun a i e=>?_,g.len,fun i d' q' e'=>?_⟩,?_,st,hO⟩
 ·rcases hI a o e with⟨z,_⟩ | ⟨z,_⟩ <;> exact g.wl a _ z
 ·rcases hI a _ e with⟨_,z⟩ | ⟨z,_⟩
  ·cases z
  ·exact g.ws a i z
 ·rcases hI a _ e with⟨_,z⟩ | ⟨z,n⟩
  ·cases z; exact Nat.lt_succ_self _
  ·have:=g.wt a i z
   have:i≠t+1:=fun z=>n (by rw[z])
   omega
 ·obtain⟨v',F',h1,h2⟩:=g.slot i d' q' e'
  exact⟨v',F',h1,Rep.go g.wl st h2 fun a m=>⟨rfl,hO a _ (h2.owns a m) (fun z=>nomatch z)⟩⟩
 ·cases deep with
  | false=>
   refine⟨[],Rep.freeze hN r fun a m=>?_,fun _ z=>nomatch z⟩
   unfold x6n
   rw[if_pos (r.owns a m)]
   rfl
  | true=>
   have hT:∀ a,w a=some (.t (t+1))->x6n true t w a=some (.t t):=fun a e=>by unfold x6n; rw[if_pos e]; rfl
   cases hl:d.isL with
   | false=>
    obtain⟨_,hr⟩:=r.nolist hl
    exact⟨[],Rep.go g.wl st (hr 1) (fun _ z=>nomatch z),fun _ z=>nomatch z⟩
   | true=>
    have:q=1:=by
     by_cases h:q=1
     ·exact h
     ·exact absurd ⟨rfl,hl,h⟩ hq
    subst this
    exact⟨F,Rep.go g.wl st r fun a m=>⟨rfl,hT a (r.owns a m)⟩,r.owns⟩
theorem j01 {K:PySem.W.Frag} {ρ:Rho} {σ:St} {H1:Hp} {w1:Wn} {t q:Nat} {p:Addr} {vs:List V} {ds:List D} {F:List Addr} (g:Good K ρ σ H1 w1 (t+1)) (hp:H1 p=none) (r:Reps K H1 w1 (.t t) q ds vs F) :
  Good K ρ σ (upd H1 p (.lst vs)) (z03 p (.t t) w1) (t+1)/\Go H1 w1 (upd H1 p (.lst vs)) (z03 p (.t t) w1)/\Rep K (upd H1 p (.lst vs)) (z03 p (.t t) w1) (.t t) (q+1) (.lst ds) (.ref p) (p::F):=by
 have ne:∀ a x,H1 a=some x->a≠p:=fun a x e=>x0u e hp
 have nw:∀ a o,w1 a=some o->a≠p:=fun a o e=>by obtain⟨vs,q⟩:=g.wl a o e; exact ne a _ q
 have st:x78 H1 w1 (upd H1 p (.lst vs)) (z03 p (.t t) w1):=fun a x e n=>⟨sm (by rw[x0g (ne a x e)]; exact e),by rw[x3j (ne a x e)]; exact n⟩
 refine⟨⟨⟨fun a o e=>?_,g.wl.tb.upd rfl (.inl hp)⟩,fun a i e=>?_,fun a i e=>?_,g.len,fun i d q e=>?_⟩,⟨st,fun a o e _=>⟨x0g (nw a o e),(x3j (nw a o e)).trans e⟩⟩,?_⟩
 ·by_cases h:a=p
  ·subst h; exact⟨vs,x0x⟩
  ·rw[x3j h]at e
   obtain⟨us,q⟩:=g.wl a o e
   exact⟨us,by rw[x0g h]; exact q⟩
 ·by_cases h:a=p
  ·subst h; rw[x4s]at e; cases e
  ·rw[x3j h]at e; exact g.ws a i e
 ·by_cases h:a=p
  ·subst h; rw[x4s]at e; cases e; exact Nat.lt_succ_self _
  ·rw[x3j h]at e; exact g.wt a i e
 ·obtain⟨v,F,h1,h2⟩:=g.slot i d q e
  exact⟨v,F,h1,Rep.go g.wl st h2 fun a m=>⟨x0g (nw a _ (h2.owns a m)),(x3j (nw a _ (h2.owns a m))).trans (h2.owns a m)⟩⟩
 ·exact .own x0x x4s (Reps.go g.wl st r fun a m=>⟨x0g (nw a _ (r.owns a m)),(x3j (nw a _ (r.owns a m))).trans (r.owns a m)⟩) fun m=>absurd rfl (nw p _ (r.owns p m))
theorem y1x {K:PySem.W.Frag} {k:Nat} {it:y28} {pt:x5p} {tt:x2j} {te:Den} {deep:Bool}:∀ σ H Q,tD K (x2y k it pt tt te deep) σ H Q->z1y k (tDI K it) (tDG K σ.length pt) (tDT K tt) (tD K te) σ H Q:=fun σ H Q hh0=>by
 obtain⟨ρ,w,t,r',q,ρ',g,ee,kk⟩:=hh0
 unfold x2y at ee
 split at ee
 ·rename_i ds ρ1 h1
  split at ee
  ·rename_i all ρ2 h2
   cases ee
   refine⟨ρ,w,t,ds,ρ1,g,h1,fun J P H1 w1 g1 go1 ok p1 hl=>?_⟩
   refine⟨fun i m ys H'=>m=ds.length-i/\i<=ds.length/\ys.length<=i/\∃ ρ3 w3 zs F x2i,Good K ρ3 σ H' w3 (t+1)/\Go H w H' w3/\P H' w3/\Reps K H' w3 (.t t) (dq deep) zs ys F /\
     x6l k pt tt te deep (ds.drop i) ρ3=some (x2i,ρ')/\zs++x2i=all,
    ⟨ds.length,by simp,Nat.zero_le _,Nat.le_refl _,ρ1,w1,[],[],all,g1.up,go1,p1,.nil,h2,rfl⟩,?_⟩
   rintro i m ys H' ⟨rfl,hile,hys,ρ3,w3,zs,F,x2i,g0,go0,p0,rz0,e3,ez⟩
   have hsz:ys.length<sizeLine:=by omega
   refine⟨Nat.le_of_lt hsz,?_⟩
   by_cases hlt:i<ds.length
   ·refine .inr ⟨ok.go i H' w3 p0 hlt,hsz,fun x H2 hy=>?_⟩
    obtain⟨mo,rx,p3⟩:=ok.yld i H' w3 x H2 ds[i] p0 g0.wl (List.getElem?_eq_getElem hlt) hy
    obtain⟨g3,go2⟩:=g0.more mo
    have go3:=go0.trans go2
    have rz:=rz0.gone g0.wl go2
    have ed:ds.drop i=ds[i]::ds.drop (i+1):=List.drop_eq_getElem_cons hlt
    rw[ed]at e3
    unfold x6l at e3
    split at e3
    ·cases e3
    ·rename_i ρ4 h4
     split at e3
     ·cases e3
     ·rename_i b ρ5 h5
      have gx:=g3.ext k
      have lρ:ρ3.length=σ.length:=g3.len
      refine⟨ds[i],_,w3,t+1,ρ4,gx,rx,h4,fun σ4 H4 w4 l4 s4 g4 go4=>?_⟩
      obtain⟨τ,rfl,lτ⟩:=j1f l4 s4
      refine⟨⟨τ,rfl,by rw[lτ,List.length_replicate]⟩,ρ4,w4,t+1,b,ρ5,g4,h5,fun H5 w5 g5 go5=>?_⟩
      have p5:=ok.st _ _ _ _ (ok.st _ _ _ _ p3 g3.wl go4.stab) g4.wl go5.stab
      have z5:Reps K H5 w5 (.t t) (dq deep) zs ys F:=(rz.gone g3.wl go4).gone g4.wl go5
      cases b with
      | false=>
       rw[if_neg (by decide)]at e3
       dsimp only
       rw[if_neg (by decide)]
       obtain⟨gc,goc⟩:=g5.cut
       rw[lρ]at e3
       refine⟨ds.length-(i+1),by omega,rfl,hlt,by omega,_,_,zs,F,x2i,gc,(go3.trans go4).trans (go5.trans goc),ok.st _ _ _ _ p5 g5.wl goc.stab,z5.gone g5.wl goc,e3,ez⟩
      | true=>
       rw[if_pos rfl]at e3
       dsimp only
       rw[if_pos rfl]
       split at e3
       ·cases e3
       ·rename_i d6 q6 ρ6 h6
        split at e3
        ·cases e3
        ·rename_i hq6
         split at e3
         ·cases e3
         ·rename_i vs7 ρ7 h7
          cases e3
          refine⟨ρ5,w5,t+1,d6,q6,ρ6,g5,h6,fun v H6 w6 F6 g6 go6 r6=>?_⟩
          obtain⟨gs,⟨F',rs,hF'⟩,sts,hOs⟩:=j3a g6 r6 hq6
          obtain⟨gc,goc⟩:=gs.cut
          rw[lρ]at h7
          have zs6:=z5.gone g5.wl go6
          have zF:∀ a∈F,w6 a=some (.t t):=zs6.owns
          have zs7:Reps K H6 (x6n deep t w6) (.t t) (dq deep) zs ys F:=Reps.go g6.wl sts zs6 fun a m=>⟨rfl,hOs a _ (zF a m) (by intro z; cases z)⟩
          have gos:Go H w H6 (x6n deep t w6):=by
           have go:Go H w H6 w6:=(go3.trans go4).trans (go5.trans go6)
           refine⟨go.stab.trans sts,fun a o h n=>⟨(go.keep a o h n).1,hOs a o (go.keep a o h n).2 fun z=>?_⟩⟩
           subst z
           have:=g.wt a _ h
           omega
          refine⟨ds.length-(i+1),by omega,rfl,hlt,by rw[List.length_append]; simp; omega,_,_,zs++[d6],F++F',vs7,gc,gos.trans goc,ok.st _ _ _ _ (ok.st _ _ _ _ p5 g5.wl go6.stab |> fun q=>ok.st _ _ _ _ q g6.wl sts) gs.wl goc.stab,
           ?_,h7,by rw[List.append_assoc]; exact ez⟩
          refine(Reps.snoc rs zs7 fun a m m'=>?_).gone gs.wl goc
          have h1:=zF a m
          rw[hF' a m']at h1
          cases h1
   ·have hi':i=ds.length:=Nat.le_antisymm hile (Nat.not_lt.mp hlt)
    subst hi'
    refine .inl ⟨ok.stop H' w3 p0,fun p hp=>?_⟩
    have ed:ds.drop ds.length=[]:=by simp
    rw[ed]at e3
    cases e3
    rw[List.append_nil]at ez
    subst ez
    obtain⟨a1,a2,a3⟩:=j01 g0 hp rz0
    refine kk _ _ _ (p::F) a1 (go0.trans a2) ?_
    cases deep <;> exact a3
  ·cases ee
 ·cases ee
section
variable {X:Cx} {k:Nat} {N':List Str} {scope:Scope} {elt tg iter:Expr} {ifs:List Expr} {pos:Pos} {it:y28} {pt:x5p} {tt:x2j} {te:Den}
noncomputable abbrev z8a (X:Cx) (ifs:List Expr) (f:x2j):Prop:=PTs X ifs (tDT X.K f)
theorem z1b:z8a X [] x2l:=fun pins s σ H Q I hh0=>by
 obtain⟨ρ,w,t,b,ρ',gd,ee,k⟩:=hh0
 cases ee
 exact z52 pins s σ H Q I (k H w gd Go.refl)
theorem z0j {c:Expr} {g:x2j} (h:PDT X c g):z8a X [c] g:=z4s h
theorem z6d (deep:Bool) (hc:X.calm=true) (S:CompOk X k N' scope) (hi:PDI X tg iter it) (hg:∀ C s H fp,PDG (x1r X N' scope C s H fp) X.N.length tg pt) (ht:∀ C s H fp,z8a (x1r X N' scope C s H fp) ifs tt) (he:∀ C s H fp,PD (x1r X N' scope C s H fp) elt te)
  (hs:∀ x,foldedSetIterable iter X.env x=pure x:=by intro _; rfl):PD X (.ListComp elt [⟨tg,iter,ifs,0⟩] scope pos) (x2y k it pt tt te deep):=by
 intro pins s σ H Q I h
 have:=y1x σ H Q h
 rw[I.len]at this
 exact z4y (N':=N') hc S hi hg ht he hs pins s σ H Q I this
theorem z30 {i:Nat} {y:Str} {py spos:Pos} (deep:Bool) (hN:X.N.Nodup) (hy:X.N[i]? = some y) (hx:Loc X.env.scope y) (hsw:swapsWith (.ListComp elt [⟨tg,iter,ifs,0⟩] scope pos) (some (.Name y py)) spos.line X.env=pure true)
  (hc:X.calm=true) (S:CompOk X k N' scope) (hi:PDI X tg iter it) (hg:∀ C s H fp,PDG (x1r X N' scope C s H fp) X.N.length tg pt) (ht:∀ C s H fp,z8a (x1r X N' scope C s H fp) ifs tt) (he:∀ C s H fp,PD (x1r X N' scope C s H fp) elt te)
  (hs:∀ x,foldedSetIterable iter X.env x=pure x:=by intro _; rfl) (hf:X.fn y=true\/X.env.scope.names.lookup y=some .local:=by first | exact .inl rfl | exact .inr rfl | assumption) :
  PDS X (.Assign [.Name y py] (.ListComp elt [⟨tg,iter,ifs,0⟩] scope pos) spos) (x23 i (x2y k it pt tt te deep)):=by
 intro pins s σ H D I h
 have hl:i<σ.length:=by rw[I.len]; exact(List.getElem?_eq_some_iff.mp hy).1
 refine z6k (N':=N') (te:=tD X.K te) (tt:=tDT X.K tt) (g:=tDG X.K X.N.length pt) (wi:=tDI X.K it) hN hy hx hsw hc S hi hg ht he hs hf pins s σ H D I ?_
 have z:=y85 (te:=z1y k (tDI X.K it) (tDG X.K σ.length pt) (tDT X.K tt) (tD X.K te)) hl (fun Q q=>y1x σ H Q q) h
 rw[I.len]at z
 exact z
end
mutual
noncomputable def toP:D->PyData
 | .non=>.none
 | .bl b=>.bool b
 | .int i=>.int i
 | .str x=>.str x
 | .tup ds=>.tuple (x9n ds)
 | .lst ds=>.list (x9n ds)
 | .dic _ _=>.none
 | .exc _=>.none
 | .ob _ _ _ _=>.none
noncomputable def x9n:List D->List PyData
 | []=>[]
 | d::ds=>toP d::x9n ds
end
mutual
noncomputable def x7r:D->Bool
 | .dic _ _=>false
 | .exc _=>false
 | .ob _ _ _ _=>false
 | .tup ds=>y07 ds
 | .lst ds=>y07 ds
 | _=>true
noncomputable def y07:List D->Bool
 | []=>true
 | d::ds=>x7r d && y07 ds
end
noncomputable def okD (d:D):Bool:=x7r d && SeqAt.shaped (toP d)
theorem y49 {d:D} (h:okD d=true):x7r d=true:=(Bool.and_eq_true_iff.mp h).1
theorem y3o {d:D} (h:okD d=true):SeqAt.shaped (toP d)=true:=(Bool.and_eq_true_iff.mp h).2
noncomputable def eqD (d e:D):Bool:=PyData.eqv (toP d) (toP e)
section
variable {X:Cx} {pins:List (Addr × Obj)} {σ:St} {H:Hp} {s:Shared}
theorem Rep.reads (I:Inv X pins σ H s) {w:Wn} {o:Ow}:∀ {q:Nat} {d:D} {v:V} {F:List Addr} {u:Value},Rep X.K H w o q d v F->x3g v u->x7r d=true->∃ as,Reads s.heap u (toP d) as:=by
 intro q d v F u r
 refine(Rep.rec (motive_1:=fun q d v F _=>∀ u,x3g v u->x7r d=true->∃ as,Reads s.heap u (toP d) as) (motive_2:=fun q ds vs F _=>∀ us,x2h vs us->y07 ds=true->∃ as,ReadsAll s.heap us (x9n ds) as) ?_ ?_ ?_ ?_ ?_ ?_ ?_ ?_ ?_ ?_ ?_ ?_ ?_ r:∀ u,x3g v u->x7r d=true->∃ as,Reads s.heap u (toP d) as) u
 ·intro q u ru hn; cases ru; exact⟨_,by unfold toP; exact .none⟩
 ·intro q b u ru hn; cases ru; exact⟨_,by unfold toP; exact .bool b⟩
 ·intro q i u ru hn; obtain⟨t,rfl⟩:=ru; exact⟨_,by unfold toP; exact .int i t⟩
 ·intro q x u ru hn; obtain⟨t,rfl⟩:=ru; exact⟨_,by unfold toP; exact .str x t⟩
 ·intro q a vs ds h r ih u ru hn
  cases ru
  obtain⟨its,rv,p,hz⟩:=I.tuple (SqT.of h)
  obtain⟨as,ra⟩:=ih its rv (by unfold x7r at hn; exact hn)
  obtain⟨ob,ho,hc,n,hd⟩:=p
  exact⟨_,by unfold toP; exact .tuple ho hc hd ra⟩
 ·intro q a ks vs ds h r ih u ru hn; cases hn
 ·intro q a nm ob v h x n u ru hn; cases hn
 ·intro q f c fo oc u1 u2 vs ds h1 h2 x r ih u ru hn; cases hn
 ·intro a vs ds h r ih u ru hn
  cases ru
  obtain⟨its,rv,p,hz⟩:=I.list h.sq
  obtain⟨as,ra⟩:=ih its rv (by unfold x7r at hn; exact hn)
  obtain⟨ob,ho,hc,n,hd⟩:=p.isList
  exact⟨_,by unfold toP; exact .list ho hc hd ra⟩
 ·intro a vs ds h n0 r ih u ru hn
  cases ru
  obtain⟨its,rv,p,hz⟩:=I.list (.inl h)
  obtain⟨as,ra⟩:=ih its rv (by unfold x7r at hn; exact hn)
  obtain⟨ob,ho,hc,n,hd⟩:=p.isList
  exact⟨_,by unfold toP; exact .list ho hc hd ra⟩
 ·intro q a vs ds F h e r ne ih u ru hn
  cases ru
  obtain⟨its,rv,p,hz⟩:=I.list (SqL.of h)
  obtain⟨as,ra⟩:=ih its rv (by unfold x7r at hn; exact hn)
  obtain⟨ob,ho,hc,n,hd⟩:=p.isList
  exact⟨_,by unfold toP; exact .list ho hc hd ra⟩
 ·intro q us ru hn; cases ru; exact⟨_,by unfold x9n; exact .nil⟩
 ·intro q d v ds vs F G r s' ne ih1 ih2 us ru hn
  cases ru with
  | cons rv rvs=>
   unfold y07 at hn
   obtain⟨as,ra⟩:=ih1 _ rv (Bool.and_eq_true_iff.mp hn).1
   obtain⟨bs,rb⟩:=ih2 _ rvs (Bool.and_eq_true_iff.mp hn).2
   exact⟨_,by unfold x9n; exact .cons ra rb⟩
end
noncomputable def Is (K:PySem.W.Frag) (H:Hp) (d:D) (v:V):Prop:=∃ w o q F,Rep K H w o q d v F
noncomputable def j2n (K:PySem.W.Frag):R2:=fun x y H Q=>∃ d e,Is K H d x/\Is K H e y/\okD d=true/\okD e=true/\Q (.bl (eqD d e)) H
noncomputable def j2h (K:PySem.W.Frag):R2:=fun x y H Q=>∃ d e,Is K H d x/\Is K H e y/\okD d=true/\okD e=true/\Q (.bl (!eqD d e)) H
noncomputable def inD (d:D):D->Option Bool
 | .lst ds=>some ((x9n ds).any fun y=>PyData.eqv y (toP d))
 | .tup ds=>some ((x9n ds).any fun y=>PyData.eqv y (toP d))
 | _=>none
noncomputable def j2g (K:PySem.W.Frag) (neg:Bool):R2:=fun x y H Q=>∃ d e b,Is K H d x/\Is K H e y/\okD d=true/\okD e=true/\inD d e=some b/\Q (.bl (if neg then !b else b)) H
section
variable {X:Cx} {a b c e:Expr} {fa fb fc f:Den} {pos:Pos}
theorem z3n (hu:X.A.units+64<cLine):OpR X (compareOp .Eq) (j2n X.K):=by
 intro pins s σ H x y v u Q I rx ry ⟨d,e,⟨w,o,q,F,h1⟩,⟨w',o',q',F',h2⟩,k1,k2,hq⟩
 obtain⟨as,ra⟩:=h1.reads I rx (y49 k1)
 obtain⟨bs,rb⟩:=h2.reads I ry (y49 k2)
 exact eq_dataH ra rb (y3o k1) (y3o k2) hu ⟨.bl _,H,I,rfl,hq⟩
theorem z3k (hu:X.A.units+64<cLine):OpR X (compareOp .NotEq) (j2h X.K):=by
 intro pins s σ H x y v u Q I rx ry ⟨d,e,⟨w,o,q,F,h1⟩,⟨w',o',q',F',h2⟩,k1,k2,hq⟩
 obtain⟨as,ra⟩:=h1.reads I rx (y49 k1)
 obtain⟨bs,rb⟩:=h2.reads I ry (y49 k2)
 exact ne_dataH ra rb (y3o k1) (y3o k2) hu ⟨.bl _,H,I,rfl,hq⟩
theorem z9t (hu:X.A.units+65<cLine):OpR X (compareOp .In) (j2g X.K false):=by
 intro pins s σ H x y v u Q I rx ry ⟨d,e,b,⟨w,o,q,F,h1⟩,⟨w',o',q',F',h2⟩,k1,k2,hb,hq⟩
 obtain⟨as,ra⟩:=h1.reads I rx (y49 k1)
 obtain⟨bs,rb⟩:=h2.reads I ry (y49 k2)
 replace k1:=y3o k1
 replace k2:=y3o k2
 cases e with
 | lst ds=>
  cases hb
  unfold toP at rb k2
  exact SeqAt.in_list_reads rb ra (SeqAt.canLay_of_shaped k2) (SeqAt.canLay_of_shaped k1) (room_in_shaped k1 hu) ⟨.bl _,H,I,rfl,hq⟩
 | tup ds=>
  cases hb
  unfold toP at rb k2
  exact SeqAt.in_tuple_reads rb ra (SeqAt.canLay_of_shaped k2) (SeqAt.canLay_of_shaped k1) (room_in_shaped k1 hu) ⟨.bl _,H,I,rfl,hq⟩
 | _=>cases hb
noncomputable def dEq (x y:D):Option D:=if okD x=true/\okD y=true then some (.bl (eqD x y))else none
noncomputable def dNe (x y:D):Option D:=if okD x=true/\okD y=true then some (.bl (!eqD x y))else none
noncomputable def dIn (x y:D):Option D:=if okD x=true/\okD y=true then(inD x y).map fun b=>.bl b else none
theorem hEq {K:PySem.W.Frag}:∀ σ H Q,tD K (e2 dEq fa fb) σ H Q->tOp (j2n K) (tD K fa) (tD K fb) σ H Q:=x9t fun x y d h=>by
 unfold dEq at h
 split at h
 ·rename_i hk
  cases h
  exact⟨_,rfl,fun H w o o' q q' u u' F F' r1 r2 _ Q hq=>⟨x,y,⟨_,_,_,_,r1⟩,⟨_,_,_,_,r2⟩,hk.1,hk.2,hq⟩⟩
 ·cases h
theorem hNe {K:PySem.W.Frag}:∀ σ H Q,tD K (e2 dNe fa fb) σ H Q->tOp (j2h K) (tD K fa) (tD K fb) σ H Q:=x9t fun x y d h=>by
 unfold dNe at h
 split at h
 ·rename_i hk
  cases h
  exact⟨_,rfl,fun H w o o' q q' u u' F F' r1 r2 _ Q hq=>⟨x,y,⟨_,_,_,_,r1⟩,⟨_,_,_,_,r2⟩,hk.1,hk.2,hq⟩⟩
 ·cases h
theorem hIn {K:PySem.W.Frag}:∀ σ H Q,tD K (e2 dIn fa fb) σ H Q->tOp (j2g K false) (tD K fa) (tD K fb) σ H Q:=x9t fun x y d h=>by
 unfold dIn at h
 split at h
 ·rename_i hk
  cases hi:inD x y with
  | none=>rw[hi]at h; cases h
  | some b=>
   rw[hi]at h
   cases h
   exact⟨_,rfl,fun H w o o' q q' u u' F F' r1 r2 _ Q hq=>⟨x,y,b,⟨_,_,_,_,r1⟩,⟨_,_,_,_,r2⟩,hk.1,hk.2,hi,hq⟩⟩
 ·cases h
theorem j1y {k:Nat} (hr:Room k X.A) (ha:PD X a fa) (hb:PD X b fb):PD X (.Compare a [.Eq] [b] pos) (e2 dEq fa fb):=z3h (z3n hr.units) hEq ha hb (y0c _)
theorem z7p {k:Nat} (hr:Room k X.A) (ha:PD X a fa) (hb:PD X b fb):PDT X (.Compare a [.Eq] [b] pos) (x3n (e2 dEq fa fb)):=y04 (z3n hr.units) hEq ha hb (y0c _)
theorem z85 {k:Nat} (hr:Room k X.A) (ha:PD X a fa) (hb:PD X b fb):PDT X (.Compare a [.NotEq] [b] pos) (x3n (e2 dNe fa fb)):=y04 (z3k hr.units) hNe ha hb (y0c _)
theorem u65 {k:Nat} {A:Around} (r:Room k A):A.units+65<cLine:=by have:=r.un; omega
theorem j0d {k:Nat} (hr:Room k X.A) (ha:PD X a fa) (hb:PD X b fb) (hm:behindInMarks .In b=false:=by with_unfolding_all rfl):PDT X (.Compare a [.In] [b] pos) (x3n (e2 dIn fa fb)):=y04 (z9t (u65 hr)) hIn ha hb hm
end
@[simp] noncomputable def eB (h:List D->Option D) (g:x1u):Den:=fun ρ=>match g ρ with
 | some (ds,ρ1)=>match h ds with
  | some d=>some (d,9,ρ1)
  | none=>none
 | none=>none
section
variable {X:Cx} {a b c e:Expr} {es:List Expr} {fa fb fc f:Den} {g:x1u} {pos p p1 p2:Pos}
theorem y8l {K:PySem.W.Frag} {h:List D->Option D} {r:List V->Hp->VK->Prop} (hh:∀ ds d,h ds=some d->∃ v,y29 d=some v/\∀ H w vs,WL K w H->Reps K H w .f 0 ds vs []->∀ Q:VK,Q v H->r vs H Q) :
  ∀ σ H Q,tD K (eB h g) σ H Q->tCB r (tDA K g) σ H Q:=fun σ H Q hh0=>by
 obtain⟨ρ,w,t,r',q,ρ',gd,ee,k⟩:=hh0
 unfold eB at ee
 split at ee
 ·rename_i ds ρ1 h1
  split at ee
  ·rename_i d hd
   cases ee
   obtain⟨v,hv,hr⟩:=hh ds _ hd
   exact⟨ρ,w,t,ds,_,gd,h1,fun vs H1 w1 g1 go1 r1=>hr H1 w1 vs g1.wl r1 Q (k v H1 w1 [] g1.up go1 (y2p hv))⟩
  ·cases ee
 ·cases ee
theorem one {K:PySem.W.Frag} {H:Hp} {w:Wn} {o:Ow} {d:D} {vs:List V} (r:Reps K H w o 0 [d] vs []):∃ v,vs=[v]/\Rep K H w o 0 d v []:=by
 have l:=r.length
 match vs,l with
 | [v],_=>
  obtain⟨v',h1,h2⟩:=r.get (i:=0) rfl
  cases h1
  exact⟨v,rfl,h2⟩
theorem two {K:PySem.W.Frag} {H:Hp} {w:Wn} {o:Ow} {d d':D} {vs:List V} (r:Reps K H w o 0 [d,d'] vs []):∃ v v',vs=[v,v']/\Rep K H w o 0 d v []/\Rep K H w o 0 d' v' []:=by
 have l:=r.length
 match vs,l with
 | [v,v'],_=>
  obtain⟨u,h1,h2⟩:=r.get (i:=0) rfl
  obtain⟨u',h3,h4⟩:=r.get (i:=1) rfl
  cases h1
  cases h3
  exact⟨v,v',rfl,h2,h4⟩
noncomputable def x79:D->Option Nat
 | .lst ds=>some ds.length
 | .tup ds=>some ds.length
 | _=>none
@[simp] noncomputable def z1e:List D->Option D
 | [d]=>(x79 d).map fun n=>.int (Int.ofNat n)
 | _=>none
theorem Rep.len {K:PySem.W.Frag} {H:Hp} {w:Wn} {o:Ow} {q:Nat} {d:D} {v:V} {F:List Addr} {n:Nat} (r:Rep K H w o q d v F) (h:x79 d=some n):∃ p ys,v=.ref p/\(SqL K H p ys\/SqT K H p ys)/\ys.length=n:=by
 cases d with
 | lst ds=>
  cases h
  obtain⟨p,vs,q',G,rfl,hq,rs⟩:=r.seqL
  exact⟨p,vs,rfl,.inl hq,rs.length.symm⟩
 | tup ds=>
  cases h
  obtain⟨p,vs,rfl,hq,rs⟩:=r.seqT
  exact⟨p,vs,rfl,.inr hq,rs.length.symm⟩
 | _=>cases h
theorem j0f (hm:X.mg "len" = none) (ha:PDA X [a] g) (hg:Gl X "len":=by rfl) (he:starEach [a] X.env=(false,eval a X.env)::starEach [] X.env:=by rfl) (hpl:(backTo pos (starEach [] X.env)).any (·.1)=false:=by rfl):PD X (.Call (.Name "len" p) [a] [] pos) (eB z1e g):=
 PE.imp (x67 x5v hg hm PySem.boot_len ha (by decide) (by decide) he hpl) (y8l fun ds d h=>by
  match ds,h with
  | [d0],h=>
   cases hl:x79 d0 with
   | none=>simp only[z1e,hl,Option.map_none]at h; cases h
   | some n=>
    simp only[z1e,hl,Option.map_some,Option.some.injEq]at h
    subst h
    refine⟨_,rfl,fun H w vs wl r Q hq=>?_⟩
    obtain⟨v,rfl,rv⟩:=one r
    obtain⟨p,ys,rfl,hs,hn⟩:=rv.len hl
    exact⟨p,ys,rfl,hs,by rw[hn]; exact hq⟩)
@[simp] noncomputable def x1d (i:Nat):Den:=fun ρ=>match ρ[i]? with
 | some (some (d,_))=>match x79 d with
  | some n=>some (.int (Int.ofNat n),9,ρ)
  | none=>none
 | _=>none
theorem z5e {i:Nat} {x:Str} (hm:X.mg "len" = none) (h:PE X (.Name x p1) (x74 i)) (hg:Gl X "len":=by rfl) (he:starEach [.Name x p1] X.env=(false,eval (.Name x p1) X.env)::starEach [] X.env:=by rfl) (hpl:(backTo pos (starEach [] X.env)).any (·.1)=false:=by rfl):PD X (.Call (.Name "len" p) [.Name x p1] [] pos) (x1d i):=
 PE.imp (x67 x5v hg hm PySem.boot_len (x64 h y0s he) (by decide) (by decide) he hpl) fun σ H Q hh0=>by
 obtain⟨ρ,w,t,r',q,ρ',gd,ee,k⟩:=hh0
 unfold x1d at ee
 split at ee
 ·rename_i d q0 e0
  split at ee
  ·rename_i n hn
   cases ee
   obtain⟨v,F,h1,h2⟩:=gd.slot i d q0 e0
   obtain⟨p,ys,rfl,hs,hl⟩:=h2.len hn
   exact⟨_,h1,p,ys,rfl,hs,by rw[hl]; exact k _ H w [] gd.up Go.refl (.int _)⟩
  ·cases ee
 ·cases ee
@[simp] noncomputable def z9l:List D->Option D
 | [.int i,.int j]=>some (.int (if j > i then j else i))
 | _=>none
theorem z4v (hc:X.calm=true) (hm:X.mg "max" = none) (hb:bootBuiltins "max" = some (.builtin "max")) (ha:PDA X (a::es) g) (hg:Gl X "max":=by rfl) (he:starEach (a::es) X.env=(false,eval a X.env)::starEach es X.env:=by rfl) (hpl:(backTo pos (starEach es X.env)).any (·.1)=false:=by rfl):PD X (.Call (.Name "max" p) (a::es) [] pos) (eB z9l g):=
 PE.imp (x67 (y93 hc) hg hm hb ha (by decide) (by decide) he hpl) (y8l fun ds d h=>by
  unfold z9l at h
  split at h
  ·rename_i i j
   cases h
   refine⟨_,rfl,fun H w vs wl r Q hq=>?_⟩
   obtain⟨v,v',rfl,r1,r2⟩:=two r
   exact⟨i,j,by rw[x3u r1,x3u r2],hq⟩
  ·cases h)
@[simp] noncomputable def x5b (g:x1u):Den:=fun ρ=>match g ρ with
 | some ([.lst ds],ρ1)=>some (.lst ds,1,ρ1)
 | some ([.tup ds],ρ1)=>some (.lst ds,1,ρ1)
 | _=>none
theorem y9u (hm:X.mg "list" = none) (hb:bootBuiltins "list" = some (.type "list")) (ha:PDA X [a] g) (hg:Gl X "list":=by rfl) (he:starEach [a] X.env=(false,eval a X.env)::starEach [] X.env:=by rfl) (hpl:(backTo pos (starEach [] X.env)).any (·.1)=false:=by rfl):PD X (.Call (.Name "list" p) [a] [] pos) (x5b g):=
 PE.imp (x61 x95 hg hm hb ha (by decide) (by decide) he hpl) fun σ H Q hh0=>by
 obtain⟨ρ,w,t,r',q,ρ',gd,ee,k⟩:=hh0
 unfold x5b at ee
 split at ee
 ·rename_i ds ρ1 h1
  cases ee
  refine⟨ρ,w,t,_,_,gd,h1,fun vs H1 w1 g1 go1 r1=>?_⟩
  obtain⟨v,rfl,rv⟩:=one r1
  obtain⟨p,ys,rfl,hs,rs⟩:=rv.seqL0
  refine⟨p,ys,rfl,.inl hs,fun l hl=>?_⟩
  obtain⟨a1,a2,a3⟩:=y3i g1 hl rs
  exact k _ _ _ _ a1 (go1.trans a2) a3
 ·rename_i ds ρ1 h1
  cases ee
  refine⟨ρ,w,t,_,_,gd,h1,fun vs H1 w1 g1 go1 r1=>?_⟩
  obtain⟨v,rfl,rv⟩:=one r1
  obtain⟨p,ys,rfl,hs,rs⟩:=rv.seqT
  refine⟨p,ys,rfl,.inr hs,fun l hl=>?_⟩
  obtain⟨a1,a2,a3⟩:=y3i g1 hl rs
  exact k _ _ _ _ a1 (go1.trans a2) a3
 ·cases ee
@[simp] noncomputable def x2r (g:x1u):Den:=fun ρ=>match g ρ with
 | some ([.lst ds],ρ1)=>some (.tup ds,9,ρ1)
 | some ([.tup ds],ρ1)=>some (.tup ds,9,ρ1)
 | _=>none
theorem z27 (hm:X.mg "tuple" = none) (hb:bootBuiltins "tuple" = some (.type "tuple")) (ha:PDA X [a] g) (hg:Gl X "tuple":=by rfl) (he:starEach [a] X.env=(false,eval a X.env)::starEach [] X.env:=by rfl) (hpl:(backTo pos (starEach [] X.env)).any (·.1)=false:=by rfl):PD X (.Call (.Name "tuple" p) [a] [] pos) (x2r g):=
 PE.imp (x61 y2d hg hm hb ha (by decide) (by decide) he hpl) fun σ H Q hh0=>by
 obtain⟨ρ,w,t,r',q,ρ',gd,ee,k⟩:=hh0
 unfold x2r at ee
 split at ee
 ·rename_i ds ρ1 h1
  cases ee
  refine⟨ρ,w,t,_,_,gd,h1,fun vs H1 w1 g1 go1 r1=>?_⟩
  obtain⟨v,rfl,rv⟩:=one r1
  obtain⟨p,ys,rfl,hs,rs⟩:=rv.seqL0
  refine⟨p,ys,rfl,.inl ⟨hs,fun l hl=>?_⟩⟩
  obtain⟨a1,a2,a3⟩:=y1u g1 hl rs
  exact k _ _ _ _ a1 (go1.trans a2) a3
 ·rename_i ds ρ1 h1
  cases ee
  refine⟨ρ,w,t,_,_,gd,h1,fun vs H1 w1 g1 go1 r1=>?_⟩
  obtain⟨v,rfl,rv⟩:=one r1
  have rr:=rv
  obtain⟨p,ys,rfl,hs,rs⟩:=rv.seqT
  refine⟨p,ys,rfl,.inr ⟨hs,?_⟩⟩
  exact k _ H1 w1 [] g1.up go1 (((rr.nolist rfl).2 9).any g1.wl)
 ·cases ee
noncomputable def z37 (ta:TA):TE:=fun σ H Q=>ta σ H fun vs H1=>∃ j:Int,vs=[.int j] /\ -(2 ^ 62)<=j/\j<2 ^ 62/\∀ p,H1 p=none->Q (.ref p) (upd H1 p (.rng 0 j))
theorem y68 {ta:TA} (hg:Gl X "range") (hm:X.mg "range" = none) (ha:PA X [a] ta) (hs:starEach [a] X.env=[(false,eval a X.env)]:=by rfl):PE X (.Call (.Name "range" p) [a] [] pos) (z37 ta):=by
 intro pins s σ H Q I h
 refine Call_ (y1g I hg hm boot_range (PyProof.Rows.callWith_type1 (thn (ha pos pins s σ H _ I h) fun us s1 ⟨vs,H1,I1,r1,q1⟩=>?_) hs rfl))
 obtain⟨j,e,q1,q2,q⟩:=q1
 subst e
 cases r1 with
 | cons r rr=>
  cases rr
  obtain⟨t,rfl⟩:=r
  refine call_range_1 ?_
  exact⟨.ref s1.heap.objs.size,upd H1 s1.heap.objs.size (.rng 0 j),I1.laid (fun b u e=>Heap.get?_push_of_some _ e) (Nat.le_refl _) ⟨_,_,_,Heap.get?_push_size _ rfl⟩,rfl,q _ (I1.hok.fresh (Nat.le_refl _))⟩
end
end L3
namespace L3
open PySem PySem.Spec PyProof.Rows L2
theorem x9x {j:Int} (h1:-(2 ^ 62)<=j) (h2:j<2 ^ 62):Builtin.Range.small 0 j 1=true:=by
 have hs:Builtin.Range.rangeSize 0 j 1=((j.toNat:Nat):Int):=by
  simp[Builtin.Range.rangeSize] <;> split <;> omega
 simp only[Builtin.Range.small,hs,Builtin.Range.rangeFitsLong]
 simp
 omega
theorem y1s (j:Int):Builtin.Range.rangeSize 0 j 1=((j.toNat:Nat):Int):=by
 simp[Builtin.Range.rangeSize] <;> split <;> omega
theorem y1w {n:Nat} {acc:Array Value} (h:ItemsOf (fun i v=>∃ t,v=Value.int (0+(i:Nat)*1) t) acc n):x2h (x96 n) acc.toList:=by
 have key:∀ (us:List Value) (k:Nat),(∀ j v,us[j]? = some v->∃ t,v=Value.int (((k+j:Nat)):Int) t)->x2h ((List.range' k us.length).map fun i=>V.int (Int.ofNat i)) us:=by
  intro us
  induction us with
  | nil=>intro k _; exact .nil
  | cons u r ih=>
   intro k hk
   obtain⟨t,e⟩:=hk 0 u rfl
   refine .cons ⟨t,by rw[e]; rfl⟩ (ih (k+1) fun j v hv=>?_)
   obtain⟨t',e'⟩:=hk (j+1) v (by simpa using hv)
   exact⟨t',by rw[e']; congr 2; omega⟩
 have:=key acc.toList 0 fun j v hv=>by
  obtain⟨t,e⟩:=h.2 j v (by simpa using hv)
  exact⟨t,by rw[e]; congr 1; omega⟩
 have hl:acc.toList.length=n:=by simpa using h.1
 rw[hl]at this
 unfold x96
 rw[List.range_eq_range']
 exact this
section
variable {prog:Program} {w:World} {A:Around} {E:Value->Shared->Prop} {s:Shared}
open AutoSeq1 (wpAny_loadPart')
theorem y2c {Q:List Value->Shared->Prop} {r:Addr} {a b c:Int} {t u v:Tok} {n:Nat} (hh:A.handled=none) (hr:IsRange s.heap r a b c t u v) (hsmall:Builtin.Range.small a b c=true) (hn:Builtin.Range.rangeSize a b c=n) (hlen:n<=2 ^ 24)
  (hQ:∀ h' tk acc',(∀ b o',s.heap.get? b=some o'->h'.get? b=some o')->ItemsOf (fun i v=>∃ t,v=.int (a+i*c) t) acc' n->Q acc'.toList { s with heap:=h',toks:=tk }) :
  wpAny (model prog w) A (collect (.ref r)) Q E s:=by
 unfold collect
 refine wpAny_bind (wpAny_runValue (codeAny_builtin F.entry_proto_collect ?_))
 rw[Around.under_plainId F.plain_proto_collect _]
 show wpAny _ A.in1 (newList [] >>= fun l=>again (.builtin "list.__iadd__" ⟨[l,.ref r],[]⟩)) _ _ s
 refine wpAny_bind (wpAny_newObj_type ?_)
 refine wpAny_pure ⟨plainId_quiet F.plain_list_iadd _,codeAny_builtin F.entry_list_iadd ?_⟩
 rw[Around.under_plainId F.plain_list_iadd _]
 show wpAny _ A.in1 (Builtin.List.listExtendWith (.ref s.heap.objs.size) (.ref r) (.ref s.heap.objs.size)) _ _ _
 have hS:(s.heap.push { cls:=.type "list",data:=.seq ([]:List Value).toArray }).get? s.heap.objs.size=some { cls:=.type "list",data:=.seq #[] 0 }:=Heap.get?_push_size _ rfl
 have fin':∀ (h':Heap) (tk:Nat) (acc':Array Value) (c':Nat),(∀ b o,b≠s.heap.objs.size->(s.heap.push { cls:=.type "list",data:=.seq ([]:List Value).toArray }).get? b=some o->h'.get? b=some o)->
   h'.get? s.heap.objs.size=some { cls:=.type "list",dict:=none,data:=.seq acc' c',slots:=#[] }->ItemsOf (fun i v=>∃ t,v=.int (a+i*c) t) acc' n->wpAny (model prog w) A (match Value.ref s.heap.objs.size with
   | Value.ref a=>do
    match (<- load a).data with
     | Data.seq xs _=>pure xs.toList
     | _=>unsupported "internal:collect"
   | _=>unsupported "internal:collect") Q E { s with heap:=h',toks:=tk }:=fun h' tk acc' c' hk hS' hacc=>by
  show wpAny _ A (load s.heap.objs.size >>= _) _ _ _
  refine wpAny_bind (wpAny_load hS' ?_)
  refine wpAny_pure (hQ h' tk acc' (fun b o' hb=>?_) hacc)
  exact hk b o' (Nat.ne_of_lt (Heap.lt_size hb)) (Heap.get?_push_of_some _ hb)
 refine wpAny_mono (wpAny_extend_range (A:=A) (R:=fun rs s'=>rs=.ok (.ret (.ref s.heap.objs.size))/\∃ h' tk acc' c',s'={ s with heap:=h',toks:=tk }/\(∀ b o,b≠s.heap.objs.size->(s.heap.push { cls:=.type "list",data:=.seq ([]:List Value).toArray }).get? b=some o->h'.get? b=some o) /\
   h'.get? s.heap.objs.size=some { cls:=.type "list",dict:=none,data:=.seq acc' c',slots:=#[] }/\ItemsOf (fun i v=>∃ t,v=.int (a+i*c) t) acc' n)
  (s:={ s with heap:=s.heap.push { cls:=.type "list",data:=.seq ([]:List Value).toArray } }) hh (Heap.get?_push_of_some _ hr) hsmall hn hlen s.heap.objs.size (.ref s.heap.objs.size) 0 hS (fun h' tk acc' c' hk hS' hacc=>⟨rfl,h',tk,acc',c',rfl,hk,hS',hacc⟩)) (fun fin s' h=>?_) (fun e s' h=>?_)
 ·cases fin with
  | done f=>
   obtain⟨e,h',tk,acc',c',rfl,hk,hS',hacc⟩:=h
   cases e
   exact fin' h' tk acc' c' hk hS' hacc
  | again c'=>exact⟨h.1,codeAny_mono h.2 fun r s'' hr=>by
    obtain⟨rfl,h',tk,acc',c',rfl,hk,hS',hacc⟩:=hr
    exact fin' h' tk acc' c' hk hS' hacc⟩
 ·exact absurd h.1 (by simp)
end
theorem x5k (r:Addr) (a b c:Int) (t u v:Tok) (n:Nat) (hsmall:Builtin.Range.small a b c=true) (hn:Builtin.Range.rangeSize a b c=n) (hlen:n<=2 ^ 24) :
  Meets (Builtin.«tuple.__new__» ⟨[.type "tuple",.ref r],[]⟩)
   (fun A R s=>A.handled=none/\IsRange s.heap r a b c t u v/\∀ (h':Heap) tk acc',(∀ b o',s.heap.get? b=some o'->h'.get? b=some o')->ItemsOf (fun i v=>∃ t,v=.int (a+i*c) t) acc' n->R (.ok (.ret (.ref h'.objs.size))) { s with heap:=h'.push { cls:=.type "tuple",data:=.seq acc' },toks:=tk }):=
 .of_wp fun prog w A R s h=>by
  obtain⟨hp,g,d,tk,os⟩:=s; obtain⟨hh,hr,h⟩:=h
  have hsub:=sub_tuple_self
  have hinit:=init_tuple_lookup
  have hmh:=madeHere_tuple
  have hT:Shared.TypeIs ⟨hp,g,d,tk,os⟩ (.ref r) "range":=⟨_,hr,rfl⟩
  have hh1:A.in1.handled=none:=hh
  wp_walk using AutoSeq1.wpAny_loadPart' hr,wpAny_typeOf hT,y2c hh1 hr hsmall hn hlen
  intro h' tk' acc' hk hacc
  show wpAny _ _ (Builtin.Tuple.tupleExact acc'.toList.toArray >>= fun v=>ret v) _ _ _
  unfold Builtin.Tuple.tupleExact
  have hsz:acc'.size<=sizeLine:=by rw[hacc.1]; exact hlen
  refine wpAny_bind (wpAny_newObj_type ?_ (by show acc'.toList.toArray.size<=sizeLine; simpa using hsz))
  refine wpAny_pure ⟨_,rfl,?_⟩
  have e:acc'.toList.toArray=acc':=by simp
  rw[e]
  exact h h' tk' acc' hk hacc
theorem x99 {prog:Program} {w:World} {A:Around} {E:Value->Shared->Prop} {s:Shared} {r:Addr} {a b c:Int} {t u v:Tok} {n:Nat} {Q:Value->Shared->Prop} (hh:A.handled=none) (hr:IsRange s.heap r a b c t u v) (hsmall:Builtin.Range.small a b c=true) (hn:Builtin.Range.rangeSize a b c=n) (hlen:n<=2 ^ 24)
  (h:∀ (h':Heap) tk acc',(∀ b o',s.heap.get? b=some o'->h'.get? b=some o')->ItemsOf (fun i v=>∃ t,v=.int (a+i*c) t) acc' n->Q (.ref h'.objs.size) { s with heap:=h'.push { cls:=.type "tuple",data:=.seq acc' },toks:=tk }) :
  wpAny (model prog w) A (call (.type "tuple") [.ref r]) Q E s:=
 callType_new F.called_tuple (by decide) (F.typeCall_tuple_1 _) (F.newCall_tuple_1 _) (fun obj=>F.args_object_init_2 obj _) F.entry_tuple_new
  (x5k r a b c t u v n hsmall hn hlen) ⟨hh,hr,fun h' tk acc' hk hacc=>⟨⟨_,Heap.get?_push_size _ rfl,rfl⟩,h h' tk acc' hk hacc⟩⟩
section
variable {X:Cx}
noncomputable def j1g (mk:List V->HO):List V->Hp->VK->Prop:=fun xs H Q=>∃ a j,xs=[.ref a]/\H a=some (.rng 0 j) /\ -1000<=j/\j<=1000/\∀ p,H p=none->Q (.ref p) (upd H p (mk (x96 j.toNat)))
theorem y2e (hc:X.calm=true):y13 X (.type "list") (j1g .lst):=by
 intro pins s σ H xs us Q I r h
 obtain⟨a,j,rfl,hr,j1,j2,q⟩:=h
 obtain⟨u,rfl,rx⟩:=y5k r
 cases rx
 obtain⟨t,u,v,ho⟩:=(show x27 X.prog X.w H s.heap a (.rng 0 j)from I.hok a _ hr)
 refine call_list_range (I.ok.hd hc) ho (x9x (by omega) (by omega)) (y1s j) (by omega) fun h' tk acc' c' hk hS' hacc=>?_
 refine⟨.ref s.heap.objs.size,_,I.laid (t':=tk) (o:=.lst (x96 j.toNat)) hk (Nat.le_refl _) ⟨by rw[y21]; exact Nat.le_trans (by omega:j.toNat<=1000) (by decide),acc'.toList,c',y1w hacc,by simpa using hS'⟩,rfl,q _ (I.hok.fresh (Nat.le_refl _))⟩
theorem y0y (hc:X.calm=true):y13 X (.type "tuple") (j1g .tup):=by
 intro pins s σ H xs us Q I r h
 obtain⟨a,j,rfl,hr,j1,j2,q⟩:=h
 obtain⟨u,rfl,rx⟩:=y5k r
 cases rx
 obtain⟨t,u,v,ho⟩:=(show x27 X.prog X.w H s.heap a (.rng 0 j)from I.hok a _ hr)
 refine x99 (I.ok.hd hc) ho (x9x (by omega) (by omega)) (y1s j) (by omega) fun h' tk acc' hk hacc=>?_
 have I1:Inv X pins σ H { s with heap:=h',toks:=tk }:=I.kept hk
 have I2:Inv X pins σ (upd H h'.objs.size (.tup (x96 j.toNat))) { s with heap:=h'.push { cls:=.type "tuple",data:=.seq acc' },toks:=tk }:=
  I1.laid (t':=tk) (fun b o e=>Heap.get?_push_of_some _ e) (Nat.le_refl _) (show x27 X.prog X.w _ _ _ (.tup _)from⟨by rw[y21]; exact Nat.le_trans (by omega:j.toNat<=1000) (by decide),acc'.toList,y1w hacc,by simpa using x4t.new h' acc'⟩)
 exact⟨.ref h'.objs.size,_,I2,rfl,q _ (I1.hok.fresh (Nat.le_refl _))⟩
variable {a:Expr} {g:x1u} {pos p p1 pos1:Pos}
@[simp] noncomputable def x5z (g:x1u):Den:=fun ρ=>match x15 g ρ with
 | some (ds,ρ1)=>some (.lst ds,1,ρ1)
 | none=>none
@[simp] noncomputable def z4e (g:x1u):Den:=fun ρ=>match x15 g ρ with
 | some (ds,ρ1)=>some (.tup ds,9,ρ1)
 | none=>none
theorem y35 {K:PySem.W.Frag} {mk:List V->HO} {q0:Nat} {md:List D->D} (al:∀ {ρ:Rho} {σ:St} {H1:Hp} {w1:Wn} {t:Nat} {p:Addr} {vs:List V} {ds:List D},Good K ρ σ H1 w1 t->H1 p=none->Reps K H1 w1 .f 0 ds vs []->∃ w' F,Good K ρ σ (upd H1 p (mk vs)) w' (t+1)/\Go H1 w1 (upd H1 p (mk vs)) w'/\Rep K (upd H1 p (mk vs)) w' (.t t) q0 (md ds) (.ref p) F) :
  ∀ σ H Q,tD K (fun ρ=>match x15 g ρ with
   | some (ds,ρ1)=>some (md ds,q0,ρ1)
   | none=>none) σ H Q->tCB (j1g mk) (z96 (z37 (tDA K g)) j2l) σ H Q:=fun σ H Q hh0=>by
 obtain⟨ρ,w,t,r',q,ρ',gd,ee,k⟩:=hh0
 dsimp only at ee
 split at ee
 ·rename_i ds ρ1 h1
  cases ee
  unfold x15 at h1
  split at h1
  ·rename_i n ρ2 h2
   split at h1
   ·rename_i hn
    cases h1
    refine⟨ρ,w,t,_,_,gd,h2,fun vs H1 w1 g1 go1 r1=>?_⟩
    obtain⟨v,rfl,rv⟩:=one r1
    have hv:=x3u rv
    subst hv
    refine⟨n,rfl,by omega,by omega,fun p hp=>⟨p,n,rfl,x0x,hn.1,hn.2,fun l hl=>?_⟩⟩
    have ne:∀ a x,H1 a=some x->a≠p:=fun a x e=>x0u e hp
    have st:x78 H1 w1 (upd H1 p (.rng 0 n)) w1:=fun a x e nn=>⟨sm (by rw[x0g (ne a x e)]; exact e),nn⟩
    have nw:∀ a o,w1 a=some o->a≠p:=fun a o e=>by obtain⟨vs,q⟩:=g1.wl a o e; exact ne a _ q
    have g2:Good K ρ' σ (upd H1 p (.rng 0 n)) w1 t:=⟨⟨fun a o e=>by
     obtain⟨us,q⟩:=g1.wl a o e
     exact⟨us,by rw[x0g (nw a o e)]; exact q⟩,g1.wl.tb.upd rfl (.inl hp)⟩,g1.ws,g1.wt,g1.len,fun i d q e=>by
     obtain⟨v,F,h1,h2⟩:=g1.slot i d q e
     exact⟨v,F,h1,Rep.go g1.wl st h2 fun a m=>⟨x0g (nw a _ (h2.owns a m)),h2.owns a m⟩⟩⟩
    have go2:Go H1 w1 (upd H1 p (.rng 0 n)) w1:=⟨st,fun a o e _=>⟨x0g (nw a o e),e⟩⟩
    obtain⟨w',F,a1,a2,a3⟩:=al g2 hl (y6u n.toNat)
    exact k _ _ _ _ a1 ((go1.trans go2).trans a2) a3
   ·cases h1
  ·cases h1
 ·cases ee
theorem z2r (hc:X.calm=true) (hm:X.mg "list" = none) (hb:bootBuiltins "list" = some (.type "list")) (hmr:X.mg "range" = none) (ha:PDA X [a] g) (hg:Gl X "list":=by rfl) (hgr:Gl X "range":=by rfl) (hs:starEach [a] X.env=[(false,eval a X.env)]:=by rfl)
  (he:starEach [.Call (.Name "range" p1) [a] [] pos1] X.env=(false,eval (.Call (.Name "range" p1) [a] [] pos1) X.env)::starEach [] X.env:=by rfl) (hpl:(backTo pos (starEach [] X.env)).any (·.1)=false:=by rfl):PD X (.Call (.Name "list" p) [.Call (.Name "range" p1) [a] [] pos1] [] pos) (x5z g):=
 PE.imp (x61 (y2e hc) hg hm hb (x64 (y68 hgr hmr ha hs) y0s he) (by decide) (by decide) he hpl) (y35 fun g hp r=>by
  obtain⟨a1,a2,a3⟩:=y3i g hp r
  exact⟨_,_,a1,a2,a3⟩)
theorem z4u (hc:X.calm=true) (hm:X.mg "tuple" = none) (hb:bootBuiltins "tuple" = some (.type "tuple")) (hmr:X.mg "range" = none) (ha:PDA X [a] g) (hg:Gl X "tuple":=by rfl) (hgr:Gl X "range":=by rfl) (hs:starEach [a] X.env=[(false,eval a X.env)]:=by rfl)
  (he:starEach [.Call (.Name "range" p1) [a] [] pos1] X.env=(false,eval (.Call (.Name "range" p1) [a] [] pos1) X.env)::starEach [] X.env:=by rfl) (hpl:(backTo pos (starEach [] X.env)).any (·.1)=false:=by rfl):PD X (.Call (.Name "tuple" p) [.Call (.Name "range" p1) [a] [] pos1] [] pos) (z4e g):=
 PE.imp (x61 (y0y hc) hg hm hb (x64 (y68 hgr hmr ha hs) y0s he) (by decide) (by decide) he hpl) (y35 fun g hp r=>by
  obtain⟨a1,a2,a3⟩:=y1u g hp r
  exact⟨_,_,a1,a2,a3⟩)
end
end L3
namespace L3
open PySem PySem.Spec PyProof.Rows L2
theorem x9e {M:Model} {A:Around} {E:Value->Shared->Prop} {s:Shared} {β:Type} {n:Nat} (f:Nat->β->Sem (ForInStep β)) (I:List Nat->β->Shared->Prop) (Q:β->Shared->Prop) (b:β)
  (turn:∀ x x2i b s,I (x::x2i) b s->wpAny M A (f x b) (fun r s'=>match r with | .yield b'=>I x2i b' s' | .done b'=>Q b' s') E s)
  (fin:∀ b s,I [] b s->Q b s) (h:I (List.range' 0 n 1) b s):wpAny M A (forIn [0:n] b f) Q E s:=by
 rw[Std.Legacy.Range.forIn_eq_forIn_range']
 refine wpAny_forIn_list f I Q turn fin _ b ?_
 have e:(Std.Legacy.Range.size [0:n])=n:=by simp[Std.Legacy.Range.size]
 show I (List.range' 0 (Std.Legacy.Range.size [0:n]) 1) b s
 rw[e]
 exact h
open AutoSeq1 (wpAny_loadPart') in
theorem y2a (l:Addr) (items:Array Value) (n:Nat) (dd:Option Addr) (sl:Array (Option Value)) (x:Value) (e:Value->Bool) (j:Nat) (hj:j<items.size) (hit:e items[j]=true) (hno:∀ m (hm:m<items.size),m<j->e items[m]=false) :
  Meets (Builtin.«tuple.index» ⟨[.ref l,x],[]⟩)
   (fun A R s=>s.heap.get? l=some { cls:=.type "tuple",dict:=dd,data:=.seq items n,slots:=sl }/\(∀ y,y∈items->SeqAt.EqAt A.in1 s y x (e y))/\R (.ok (.ret (.int j s.toks))) { s with toks:=s.toks+1 }):=
 .of_wp fun prog w A R s h=>by
  obtain⟨hp,g,d,tk,os⟩:=s; obtain⟨hl,he,h⟩:=h
  wp_walk using wpAny_loadPart' hl,x9e _ (fun x2i b s'=>b.1=none/\s'=⟨hp,g,d,tk,os⟩/\∃ i k,x2i=List.range' i k 1/\i+k=items.size/\i<=j) _
  case turn=>
   rintro y x2i b s' ⟨hb,rfl,i,k,hr,hik,hij⟩
   cases k with
   | zero=>simp at hr
   | succ k=>
    rw[List.range'_succ]at hr
    obtain⟨rfl,rfl⟩:=List.cons.inj hr
    have hlt:y<items.size:=by omega
    have hget:items[y]? = some items[y]:=by simp[hlt]
    rw[hget]
    refine wpAny_bind (he _ (Array.getElem_mem hlt) prog w _ _ ?_)
    by_cases hyj:y=j
    ·subst hyj
     rw[hit]
     wp_walk
     exact⟨_,rfl,h⟩
    ·rw[hno y hlt (by omega)]
     wp_walk
     exact⟨rfl,rfl,y+1,k,rfl,by omega,by omega⟩
  case fin=>
   rintro ⟨b1,b2⟩ s' ⟨hb,rfl,i,k,hr,hik,hij⟩
   cases k with
   | zero=>omega
   | succ k=>simp[List.range'_succ]at hr
  case h=>
   exact⟨rfl,rfl,0,items.size,by simp,by omega,by omega⟩
end L3
namespace L3
open PySem PySem.Spec PyProof.Rows L2
noncomputable def j0s (d:D) (ds:List D):Option Nat:=(x9n ds).findIdx? fun y=>PyData.eqv y (toP d)
noncomputable def z67 (K:PySem.W.Frag):V->List V->Hp->VK->Prop:=fun x xs H Q=>∃ ds d y j,xs=[y]/\Is K H (.tup ds) x/\Is K H d y/\okD (.tup ds)=true/\okD d=true/\j0s d ds=some j/\Q (.int (Int.ofNat j)) H
section
variable {X:Cx} {a b c e:Expr} {es:List Expr} {fa fb fc f:Den} {g:x1u} {pos p p1 p2 cpos apos:Pos}
theorem y7p (hu:X.A.units+65<cLine):MtR X "tuple.index" (z67 X.K):=by
 intro pins s σ H x xs v us Q I rx rs ⟨ds,d,y,j,e,⟨w,o,q,F,h1⟩,⟨w',o',q',F',h2⟩,k1,k2,hj,hq⟩
 subst e
 obtain⟨u,rfl,ru⟩:=y5k rs
 obtain⟨as,ra⟩:=h1.reads I rx (y49 k1)
 obtain⟨bs,rb⟩:=h2.reads I ru (y49 k2)
 replace k1:=y3o k1
 replace k2:=y3o k2
 unfold toP at ra k1
 have hc1:PyData.canLayAll0 (x9n ds)=true:=SeqAt.canLay_of_shaped k1
 have hc2:=SeqAt.canLay_of_shaped k2
 cases ra with
 | @tuple a ob vs n _ _ ho hcl hd hrs=>
  obtain⟨cls,dd,data,sl⟩:=ob
  simp only at hcl hd
  subst hcl hd
  have hmap:=SeqAt.readsAll_map _ _ _ hc1 hrs
  have hfi:=List.findIdx?_eq_some_iff_getElem.mp hj
  obtain⟨hjl,hjt,hjf⟩:=hfi
  have hlen:vs.size=(x9n ds).length:=by rw[<- hmap]; simp
  have hat:∀ m (hm:m<vs.size) (hm':m<(x9n ds).length),SeqAt.readOf s.heap vs[m]=(x9n ds)[m]:=fun m hm hm'=>by
   have:(vs.toList.map (SeqAt.readOf s.heap))[m]? = (x9n ds)[m]?:=by rw[hmap]
   simpa [hm,hm']using this
  refine call_meets PySem.F.slot_tuple_index ⟨_,ho,rfl⟩ PySem.F.entry_tuple_index (PySem.F.args_tuple_index_2 _ _)
   (y2a a vs n dd sl u (fun y=>PyData.eqv (SeqAt.readOf s.heap y) (toP d)) j (by omega) (by rw[hat j (by omega) hjl]; simpa using hjt) (fun m hm hmj=>by rw[hat m hm (by omega)]; simpa using hjf m hmj)) ⟨ho,SeqAt.items_eqAt hrs rb hc1 hc2 (room_in_shaped k2 hu),?_⟩
  exact⟨.int (Int.ofNat j),H,I.tok _,⟨_,rfl⟩,hq⟩
@[simp] noncomputable def y5y (fo:Den) (g:x1u):Den:=fun ρ=>match fo ρ with
 | some (.tup ds,_,ρ1)=>match g ρ1 with
  | some ([d],ρ2)=>if okD (.tup ds)=true/\okD d=true then match j0s d ds with
   | some j=>some (.int (Int.ofNat j),9,ρ2)
   | none=>none
   else none
  | _=>none
 | _=>none
theorem z0c {k:Nat} (hr:Room k X.A) (ho:PD X a fa) (ha:PDA X [e] g)
  (hbase:attributeBase a "index" X.env (eval a X.env)=eval a X.env:=by rfl)
  (hfew:((backTo cpos (starEach [e] X.env)).all (fun x=>!x.1) && (backToKw cpos (keywordEach [] X.env)).all (fun x=>x.1.isSome)
    && decide ([e].length+([]:List Keyword).length+(if([]:List Keyword).isEmpty then 0 else 1)<30))=true:=by rfl)
  (hline:(apos.endLine == cpos.line)=true:=by rfl) (hs:starEach [e] X.env=(false,eval e X.env)::starEach [] X.env:=by rfl) (hplain:(backTo cpos (starEach [] X.env)).any (·.1)=false:=by rfl) :
  PD X (.Call (.Attribute a "index" apos) [e] [] cpos) (y5y fa g):=
 PE.imp (z5t PySem.F.plainAttrs_tuple PySem.F.slot_tuple_index PySem.F.type_tuple_index (y7p (u65 hr)) ho ha hbase hfew hline hs hplain) fun σ H Q hh0=>by
 obtain⟨ρ,w,t,r',q,ρ',gd,ee,k⟩:=hh0
 unfold y5y at ee
 split at ee
 ·rename_i ds q1 ρ1 h1
  split at ee
  ·rename_i d ρ2 h2
   split at ee
   ·rename_i hok
    split at ee
    ·rename_i j hj
     cases ee
     refine⟨ρ,w,t,_,_,_,gd,h1,fun v H1 w1 F1 g1 go1 r1=>?_⟩
     have r0:=r1.drop (o:=.f) (Nat.le_refl t)
     have gg:=g1.drop (t':=t)
     obtain⟨p0,vs,rfl,hq,rs⟩:=r0.tupAt
     refine⟨?_,ρ1,x1n t w1,t,_,_,gg,h2,fun vs2 H2 w2 g2 go2 r2=>?_⟩
     ·exact .inr (.inl ⟨rfl,.inr ⟨_,hq⟩⟩)
     ·obtain⟨v2,rfl,rv2⟩:=one r2
      have r3:Rep X.K H2 w2 .f 0 (.tup ds) (.ref p0) []:=r0.go0 gg.wl go2.stab
      exact⟨ds,d,v2,j,rfl,⟨_,_,_,_,r3⟩,⟨_,_,_,_,rv2⟩,hok.1,hok.2,hj,k _ H2 w2 [] g2.up ((go1.drop gd.wt).trans go2) (.int _)⟩
    ·cases ee
   ·cases ee
  ·cases ee
 ·cases ee
theorem Good.mut {K:PySem.W.Frag} {ρ:Rho} {σ:St} {H:Hp} {w:Wn} {t i:Nat} {ds:List D} (g:Good K ρ σ H w t) (e:ρ[i]? = some (some (.lst ds,1))) :
  ∃ l vs,σ[i]? = some (some (.ref l))/\H l=some (.lst vs)/\Reps K H w .f 0 ds vs []/\∀ ds' vs',Reps K H w .f 0 ds' vs' []->
   Good K (ρ.set i (some (.lst ds',1))) σ (upd H l (.lst vs')) w t/\Go H w (upd H l (.lst vs')) w:=by
 obtain⟨v,F,h1,h2⟩:=g.slot i _ _ e
 cases h2 with
 | @own _ l vs _ F' hl hw rs ne=>
  have hF:=rs.zero
  subst hF
  refine⟨l,vs,h1,hl,rs.any g.wl,fun ds' vs' r'=>?_⟩
  have nl:∀ a o,w a=some o->o ≠ .s i->a≠l:=fun a o e n z=>by subst z; rw[hw]at e; exact n (Option.some.inj e).symm
  have nn:∀ a,w a=none->a≠l:=fun a e z=>by subst z; rw[hw]at e; cases e
  have st:x78 H w (upd H l (.lst vs')) w:=fun a x h n=>⟨sm (by rw[x0g (nn a n)]; exact h),n⟩
  refine⟨⟨⟨fun a o h=>?_,g.wl.tb.upd rfl (.inr (g.wl l _ hw))⟩,g.ws,g.wt,by rw[List.length_set]; exact g.len,fun j d' q' e'=>?_⟩,⟨st,fun a o h n=>⟨x0g (nl a o h (n i)),h⟩⟩⟩
  ·by_cases z:a=l
   ·subst z; exact⟨_,x0x⟩
   ·obtain⟨us,q⟩:=g.wl a o h
    exact⟨us,by rw[x0g z]; exact q⟩
  ·by_cases hj:i=j
   ·subst hj
    rw[List.getElem?_set_self (List.getElem?_eq_some_iff.mp e).1]at e'
    cases e'
    exact⟨_,_,h1,.own x0x hw (Reps.go g.wl st r' (fun _ z=>nomatch z)) (fun z=>nomatch z)⟩
   ·rw[List.getElem?_set_ne hj]at e'
    obtain⟨v',F',h1',h2'⟩:=g.slot j d' q' e'
    exact⟨v',F',h1',Rep.go g.wl st h2' fun a m=>⟨x0g (nl a _ (h2'.owns a m) (fun z=>hj (by cases z; rfl))),h2'.owns a m⟩⟩
@[simp] noncomputable def y8f:Option (Option (D × Nat))->Bool
 | some (some (.lst _,_))=>true
 | _=>false
theorem Good.isL {K:PySem.W.Frag} {ρ:Rho} {σ:St} {H:Hp} {w:Wn} {t i:Nat} (g:Good K ρ σ H w t) (h:y8f ρ[i]? = true):∃ l,σ[i]? = some (some (.ref l))/\∃ vs,SqL K H l vs:=by
 unfold y8f at h
 split at h
 ·rename_i ds q e
  obtain⟨v,F,h1,h2⟩:=g.slot i _ _ e
  obtain⟨p,vs,_,_,rfl,hq,_⟩:=h2.seqL
  exact⟨p,h1,vs,hq⟩
 ·cases h
@[simp] noncomputable def x9g (i:Nat) (g:x1u):Den:=fun ρ=>if y8f ρ[i]? = true then match g ρ with
 | some ([d],ρ1)=>match ρ1[i]? with
  | some (some (.lst ds,1))=>if ds.length<=1000 then some (.non,9,ρ1.set i (some (.lst (ds++[d]),1)))else none
  | _=>none
 | _=>none
 else none
theorem y9m {i:Nat} {x:Str} (h:PE X (.Name x p1) (x74 i)) (ha:PDA X [e] g)
  (hbase:attributeBase (.Name x p1) "append" X.env (eval (.Name x p1) X.env)=eval (.Name x p1) X.env:=by rfl)
  (hfew:((backTo cpos (starEach [e] X.env)).all (fun x=>!x.1) && (backToKw cpos (keywordEach [] X.env)).all (fun x=>x.1.isSome)
    && decide ([e].length+([]:List Keyword).length+(if([]:List Keyword).isEmpty then 0 else 1)<30))=true:=by rfl)
  (hline:(apos.endLine == cpos.line)=true:=by rfl) (hs:starEach [e] X.env=(false,eval e X.env)::starEach [] X.env:=by rfl) (hplain:(backTo cpos (starEach [] X.env)).any (·.1)=false:=by rfl) :
  PD X (.Call (.Attribute (.Name x p1) "append" apos) [e] [] cpos) (x9g i g):=
 PE.imp (z5t PySem.F.plainAttrs_list PySem.F.slot_list_append PySem.F.type_list_append y8y h ha hbase hfew hline hs hplain) fun σ H Q hh0=>by
 obtain⟨ρ,w,t,r',q,ρ',gd,ee,k⟩:=hh0
 unfold x9g at ee
 split at ee
 ·rename_i hl
  obtain⟨l,hσ,us,hq⟩:=gd.isL hl
  split at ee
  ·rename_i d ρ1 h1
   split at ee
   ·rename_i ds e1
    split at ee
    ·rename_i hlen
     cases ee
     refine⟨_,hσ,.inl ⟨rfl,us,hq⟩,ρ,w,t,_,_,gd,h1,fun vs H1 w1 g1 go1 r1=>?_⟩
     obtain⟨v,rfl,rv⟩:=one r1
     obtain⟨l',ws,hσ',hH,rs,mk⟩:=g1.mut e1
     rw[hσ]at hσ'
     cases hσ'
     have r2:Reps X.K H1 w1 .f 0 (ds++[d]) (ws++[v]) []:=Reps.snoc (F:=[]) (G:=[]) rv rs (fun _ z=>nomatch z)
     obtain⟨m1,m2⟩:=mk _ _ r2
     refine⟨l,ws,v,rfl,rfl,hH,by rw[<- rs.length]; exact x42 hlen,?_⟩
     exact k .non _ w1 [] m1.up (go1.trans m2) .non
    ·cases ee
   ·cases ee
  ·cases ee
 ·cases ee
theorem Reps.eraseIdx {K:PySem.W.Frag} {H:Hp} {w:Wn}:∀ {ds:List D} {vs:List V} (i:Nat),Reps K H w .f 0 ds vs []->Reps K H w .f 0 (ds.eraseIdx i) (vs.eraseIdx i) []
 | ds,vs,i,r=>by
  generalize hF:([]:List Addr)=F at r
  cases r with
  | nil=>exact .nil
  | @cons _ d v ds vs F G r s _=>
   have h1:F=[]:=r.zero
   have h2:G=[]:=s.zero
   subst h1 h2
   cases i with
   | zero=>exact s
   | succ j=>exact .cons (F:=[]) (G:=[]) r (Reps.eraseIdx j s) (fun _ z=>nomatch z)
@[simp] noncomputable def z6s (i:Nat) (g:x1u):Den:=fun ρ=>if y8f ρ[i]? = true then match g ρ with
 | some ([.int n],ρ1)=>match ρ1[i]? with
  | some (some (.lst ds,1))=>if -1000<=n/\n<=1000 then match seqIndex? n ds.length with
   | some j=>match ds[j]? with
    | some d=>some (d,x3t d,ρ1.set i (some (.lst (ds.eraseIdx j),1)))
    | none=>none
   | none=>none
   else none
  | _=>none
 | _=>none
 else none
theorem z9u {i:Nat} {x:Str} (h:PE X (.Name x p1) (x74 i)) (ha:PDA X [e] g)
  (hbase:attributeBase (.Name x p1) "pop" X.env (eval (.Name x p1) X.env)=eval (.Name x p1) X.env:=by rfl)
  (hfew:((backTo cpos (starEach [e] X.env)).all (fun x=>!x.1) && (backToKw cpos (keywordEach [] X.env)).all (fun x=>x.1.isSome)
    && decide ([e].length+([]:List Keyword).length+(if([]:List Keyword).isEmpty then 0 else 1)<30))=true:=by rfl)
  (hline:(apos.endLine == cpos.line)=true:=by rfl) (hs:starEach [e] X.env=(false,eval e X.env)::starEach [] X.env:=by rfl) (hplain:(backTo cpos (starEach [] X.env)).any (·.1)=false:=by rfl) :
  PD X (.Call (.Attribute (.Name x p1) "pop" apos) [e] [] cpos) (z6s i g):=
 PE.imp (z5t PySem.F.plainAttrs_list PySem.F.slot_list_pop PySem.F.type_list_pop z1h h ha hbase hfew hline hs hplain) fun σ H Q hh0=>by
 obtain⟨ρ,w,t,r',q,ρ',gd,ee,k⟩:=hh0
 unfold z6s at ee
 split at ee
 ·rename_i hl
  obtain⟨l,hσ,us,hq⟩:=gd.isL hl
  split at ee
  ·rename_i n ρ1 h1
   split at ee
   ·rename_i ds e1
    split at ee
    ·rename_i hn
     split at ee
     ·rename_i j hj
      split at ee
      ·rename_i d hd
       cases ee
       refine⟨_,hσ,.inl ⟨rfl,us,hq⟩,ρ,w,t,_,_,gd,h1,fun vs H1 w1 g1 go1 r1=>?_⟩
       obtain⟨v,rfl,rv⟩:=one r1
       have hv:=x3u rv
       subst hv
       obtain⟨l',ws,hσ',hH,rs,mk⟩:=g1.mut e1
       rw[hσ]at hσ'
       cases hσ'
       obtain⟨y,hy,ry⟩:=rs.get hd
       obtain⟨m1,m2⟩:=mk _ _ (rs.eraseIdx j)
       refine⟨l,ws,n,j,y,rfl,rfl,hH,by omega,by omega,by rw[<- rs.length]; exact hj,hy,?_⟩
       have ry':Rep X.K _ w1 (.t t) 0 r' y []:=Rep.go g1.wl m2.stab ry (fun _ z=>nomatch z)
       exact k y _ w1 [] m1.up (go1.trans m2) ry'.dep
      ·cases ee
     ·cases ee
    ·cases ee
   ·cases ee
  ·cases ee
 ·cases ee
end
theorem Reps.getQ {K:PySem.W.Frag} {H:Hp} {w:Wn} {o:Ow} {q:Nat}:∀ {ds:List D} {vs:List V} {F:List Addr} {i:Nat} {d:D},Reps K H w o q ds vs F->ds[i]? = some d->∃ v G,vs[i]? = some v/\Rep K H w o q d v G/\∀ a∈G,a∈F
 | _,_,_,_,_,.nil,e=>by simp at e
 | _,_,_,0,_,.cons r _ _,e=>by
  simp at e; subst e; exact⟨_,_,rfl,r,fun a m=>List.mem_append_left _ m⟩
 | _,_,_,i+1,d,.cons _ s _,e=>by
  obtain⟨v,G,h1,h2,h3⟩:=Reps.getQ (i:=i) (d:=d) s (by simpa using e)
  exact⟨v,G,by simpa using h1,h2,fun a m=>List.mem_append_right _ (h3 a m)⟩
theorem Reps.atQ {K:PySem.W.Frag} {H:Hp} {w:Wn} {o:Ow} {q:Nat} {ds:List D} {vs:List V} {F:List Addr} {i:Int} {d:D} (r:Reps K H w o q ds vs F) (h:L2.atI ds i=some d):∃ v G,L2.atI vs i=some v/\Rep K H w o q d v G/\∀ a∈G,a∈F:=by
 unfold L2.atI at h ⊢
 rw[<- r.length]
 cases e:ixN ds.length i with
 | none=>rw[e]at h; cases h
 | some j=>
  rw[e]at h
  exact r.getQ h
@[simp] noncomputable def x10 (n:Nat) (fb:Den):Den:=fun ρ=>match ρ[n]? with
 | some (some _)=>match fb ρ with
  | some (.int i,_,ρ2)=>match ρ2[n]? with
   | some (some (x,q))=>match atD x i with
    | some d=>if d.isL=true/\1<q/\x.isL=true then none else some (d,x3t d,ρ2)
    | none=>none
   | _=>none
  | _=>none
 | _=>none
section
variable {X:Cx} {a b c e:Expr} {es:List Expr} {fa fb fc f:Den} {g:x1u} {pos p p1 p2 cpos apos:Pos}
theorem z7s {n:Nat} {x:Str} (h:PE X (.Name x p1) (x74 n)) (hb:PD X b fb) (hs:x49 b:=by exact fun _ _=>rfl):PD X (.Subscript (.Name x p1) b pos) (x10 n fb):=PE.imp (y9a y4j h hb hs) fun σ H Q hh0=>by
 obtain⟨ρ,w,t,r',q,ρ',gd,ee,k⟩:=hh0
 unfold x10 at ee
 split at ee
 ·rename_i z0 e0
  obtain⟨d0,q0⟩:=z0
  obtain⟨v,F,hσ,_⟩:=gd.slot n d0 q0 e0
  split at ee
  ·rename_i i q2 ρ2 h2
   split at ee
   ·rename_i x q e2
    split at ee
    ·rename_i d hd
     split at ee
     ·cases ee
     ·rename_i hn
      cases ee
      refine⟨v,hσ,ρ,w,t,_,_,_,gd,h2,fun y H2 w2 F2 g2 go r2=>?_⟩
      have hy:=x3u r2
      subst hy
      have gg:=g2.drop (t':=t)
      obtain⟨v',F',hσ',rr⟩:=gg.slot n x q e2
      rw[hσ]at hσ'
      cases hσ'
      have fin:∀ u,Rep X.K H2 (x1n t w2) (.t t) 0 r' u []->Q u H2:=fun u ru=>k u H2 (x1n t w2) [] gg.up (go.drop gd.wt) ru.dep
      cases x with
      | lst ds=>
       by_cases hq0:q=0
       ·subst hq0
        obtain⟨p0,vs,rfl,hq,rs⟩:=rr.seqL0
        obtain⟨u,hu,ru⟩:=rs.atI hd
        exact .inl ⟨p0,vs,i,u,rfl,rfl,hq,hu,fin u (ru.any gg.wl)⟩
       ·by_cases hq1:q=1
        ·subst hq1
         cases rr with
         | own h0 _ rs _=>
          have z0:=rs.zero
          subst z0
          obtain⟨u,hu,ru⟩:=rs.atI hd
          exact .inl ⟨_,_,i,u,rfl,rfl,SqL.of h0,hu,fin u (ru.any gg.wl)⟩
        ·obtain⟨p0,vs,q',G,rfl,hq,rs⟩:=rr.seqL
         obtain⟨u,G',hu,ru,_⟩:=rs.atQ hd
         refine .inl ⟨p0,vs,i,u,rfl,rfl,hq,hu,fin u ?_⟩
         cases hL:r'.isL with
         | false=>exact((ru.nolist hL).2 0).any gg.wl
         | true=>exact absurd ⟨hL,by omega,rfl⟩ hn
      | tup ds=>
       obtain⟨p0,vs,rfl,hq,rs⟩:=rr.seqT
       obtain⟨u,hu,ru⟩:=rs.atI hd
       exact .inr (.inl ⟨p0,vs,i,u,rfl,rfl,hq,hu,fin u (ru.any gg.wl)⟩)
      | _=>cases hd
    ·cases ee
   ·cases ee
  ·cases ee
 ·cases ee
@[simp] noncomputable def y50 (fa fb:Den):Den:=fun ρ=>match fa ρ with
 | some (.lst ds,1,ρ1)=>match fb ρ1 with
  | some (.int n,_,ρ2)=>if -1000<=n/\n<=1000/\ds.length*n.toNat<=1000 then some (.lst (List.replicate n.toNat ds).flatten,1,ρ2)else none
  | _=>none
 | _=>none
theorem Reps.app {K:PySem.W.Frag} {H:Hp} {w:Wn} {es:List D} {us:List V} (s:Reps K H w .f 0 es us []):∀ {ds:List D} {vs:List V},Reps K H w .f 0 ds vs []->Reps K H w .f 0 (ds++es) (vs++us) []
 | ds,vs,r=>by
  generalize hF:([]:List Addr)=F at r
  cases r with
  | nil=>rw[<- hF]; exact s
  | @cons _ d v ds vs F G r t _=>
   have h1:F=[]:=r.zero
   have h2:G=[]:=t.zero
   subst h1 h2
   exact .cons (F:=[]) (G:=[]) r (Reps.app s t) (fun _ z=>nomatch z)
theorem Reps.times {K:PySem.W.Frag} {H:Hp} {w:Wn} {ds:List D} {vs:List V} (r:Reps K H w .f 0 ds vs []):∀ n:Nat,Reps K H w .f 0 (List.replicate n ds).flatten (List.replicate n vs).flatten []
 | 0=>.nil
 | n+1=>by
  rw[List.replicate_succ,List.replicate_succ,List.flatten_cons,List.flatten_cons]
  exact Reps.app (Reps.times r n) r
theorem z4g (ha:PD X a fa) (hb:PD X b fb):PD X (.BinOp a .Mult b pos) (y50 fa fb):=PE.imp (y3e z9r ha hb) fun σ H Q hh0=>by
 obtain⟨ρ,w,t,r',q,ρ',gd,ee,k⟩:=hh0
 unfold y50 at ee
 split at ee
 ·rename_i ds ρ1 h1
  split at ee
  ·rename_i n q2 ρ2 h2
   split at ee
   ·rename_i hn
    cases ee
    refine z44 gd h1 h2 fun u u' H2 w2 F1 F2 g2 go r1 r2=>?_
    have hu':=x3u r2
    subst hu'
    cases r1 with
    | @own _ l vs _ F hl hw rs ne=>
     have hF:=rs.zero
     subst hF
     have gg:=g2.drop (t':=t)
     have rs':Reps X.K H2 (x1n t w2) .f 0 ds vs []:=Reps.go g2.wl (fun a x h n=>⟨sm h,x6a n⟩) rs (fun _ z=>nomatch z)
     refine⟨l,n,vs,rfl,rfl,hl,by omega,by omega,?_,fun p hp=>?_⟩
     ·rw[<- rs.length]; exact y09 hn.2.2
     ·obtain⟨a1,a2,a3⟩:=y3i gg hp (rs'.times n.toNat)
      exact k _ _ _ _ a1 ((go.drop gd.wt).trans a2) a3
   ·cases ee
  ·cases ee
 ·cases ee
end
theorem Reps.row {K:PySem.W.Frag} {H:Hp} {w:Wn} {o:Ow} (wl:WL K w H):∀ {rows:List D} {vs:List V} {F:List Addr} {i:Nat} {row:List D},Reps K H w o 1 rows vs F->rows[i]? = some (.lst row)->
  ∃ b ws,vs[i]? = some (.ref b)/\H b=some (.lst ws)/\w b=some o/\b∈F/\Reps K H w .f 0 row ws [] /\
   ∀ row' ws',Reps K H w .f 0 row' ws' []->Reps K (upd H b (.lst ws')) w o 1 (rows.set i (.lst row')) vs F
 | _,_,_,_,_,.nil,e=>by simp at e
 | _,_,_,0,row,.cons r s ne,e=>by
  simp at e
  subst e
  cases r with
  | @own _ b ws _ F' hb hw rs nb=>
   have hF:=rs.zero
   subst hF
   refine⟨b,ws,rfl,hb,hw,by simp,rs.any wl,fun row' ws' r'=>?_⟩
   have nn:∀ a,w a=none->a≠b:=fun a e z=>by subst z; rw[hw]at e; cases e
   have st:x78 H w (upd H b (.lst ws')) w:=fun a x h n=>⟨sm (by rw[x0g (nn a n)]; exact h),n⟩
   refine .cons (.own x0x hw (Reps.go wl st r' (fun _ z=>nomatch z)) (fun z=>nomatch z)) (Reps.go wl st s fun a m=>⟨x0g fun z=>?_,s.owns a m⟩) ne
   subst z
   exact ne a (by simp) m
 | _,_,_,i+1,row,.cons (d:=d) (v:=v) (F:=F) (G:=G) r s ne,e=>by
  obtain⟨b,ws,h1,h2,h3,h4,h5,mk⟩:=Reps.row wl (i:=i) (row:=row) s (by simpa using e)
  refine⟨b,ws,by simpa using h1,h2,h3,List.mem_append_right _ h4,h5,fun row' ws' r'=>?_⟩
  have nn:∀ a,w a=none->a≠b:=fun a e z=>by subst z; rw[h3]at e; cases e
  have st:x78 H w (upd H b (.lst ws')) w:=fun a x h n=>⟨sm (by rw[x0g (nn a n)]; exact h),n⟩
  refine .cons (Rep.go wl st r fun a m=>⟨x0g fun z=>?_,r.owns a m⟩) (mk row' ws' r') ne
  subst z
  exact ne a m h4
theorem Good.mut2 {K:PySem.W.Frag} {ρ:Rho} {σ:St} {H:Hp} {w:Wn} {t i m:Nat} {rows row:List D} (g:Good K ρ σ H w t) (e:ρ[i]? = some (some (.lst rows,2))) (em:rows[m]? = some (.lst row)) :
  ∃ l vs b ws,σ[i]? = some (some (.ref l))/\SqL K H l vs/\vs.length=rows.length/\vs[m]? = some (.ref b)/\H b=some (.lst ws)/\Reps K H w .f 0 row ws []/\∀ row' ws',Reps K H w .f 0 row' ws' []->
   Good K (ρ.set i (some (.lst (rows.set m (.lst row')),2))) σ (upd H b (.lst ws')) w t/\Go H w (upd H b (.lst ws')) w:=by
 obtain⟨v,F,h1,h2⟩:=g.slot i _ _ e
 cases h2 with
 | @own _ l vs _ F' hl hw rs nl=>
  obtain⟨b,ws,b1,b2,b3,b4,b5,mk⟩:=Reps.row g.wl rs em
  have hbl:l≠b:=fun z=>by subst z; exact nl b4
  refine⟨l,vs,b,ws,h1,SqL.of hl,rs.length.symm,b1,b2,b5,fun row' ws' r'=>?_⟩
  have nl':∀ a o,w a=some o->o ≠ .s i->a≠b:=fun a o e n z=>by subst z; rw[b3]at e; exact n (Option.some.inj e).symm
  have nn:∀ a,w a=none->a≠b:=fun a e z=>by subst z; rw[b3]at e; cases e
  have st:x78 H w (upd H b (.lst ws')) w:=fun a x h n=>⟨sm (by rw[x0g (nn a n)]; exact h),n⟩
  refine⟨⟨⟨fun a o h=>?_,g.wl.tb.upd rfl (.inr (g.wl b _ b3))⟩,g.ws,g.wt,by rw[List.length_set]; exact g.len,fun j d' q' e'=>?_⟩,⟨st,fun a o h n=>⟨x0g (nl' a o h (n i)),h⟩⟩⟩
  ·by_cases z:a=b
   ·subst z; exact⟨_,x0x⟩
   ·obtain⟨us,q⟩:=g.wl a o h
    exact⟨us,by rw[x0g z]; exact q⟩
  ·by_cases hj:i=j
   ·subst hj
    rw[List.getElem?_set_self (List.getElem?_eq_some_iff.mp e).1]at e'
    cases e'
    exact⟨_,_,h1,.own (by rw[x0g hbl]; exact hl) hw (mk row' ws' r') nl⟩
   ·rw[List.getElem?_set_ne hj]at e'
    obtain⟨v',F',h1',h2'⟩:=g.slot j d' q' e'
    exact⟨v',F',h1',Rep.go g.wl st h2' fun a m=>⟨x0g (nl' a _ (h2'.owns a m) (fun z=>hj (by cases z; rfl))),h2'.owns a m⟩⟩
theorem Reps.set0 {K:PySem.W.Frag} {H:Hp} {w:Wn} {d:D} {v:V} (rv:Rep K H w .f 0 d v []):∀ {ds:List D} {vs:List V} (i:Nat),Reps K H w .f 0 ds vs []->Reps K H w .f 0 (ds.set i d) (vs.set i v) []
 | ds,vs,i,r=>by
  generalize hF:([]:List Addr)=F at r
  cases r with
  | nil=>rw[<- hF]; exact .nil
  | @cons _ d' v' ds vs F G r s _=>
   have h1:F=[]:=r.zero
   have h2:G=[]:=s.zero
   subst h1 h2
   cases i with
   | zero=>exact .cons (F:=[]) (G:=[]) rv s (fun _ z=>nomatch z)
   | succ j=>exact .cons (F:=[]) (G:=[]) r (Reps.set0 rv j s) (fun _ z=>nomatch z)
noncomputable abbrev y0k:=Rho->Option Int
noncomputable def tQ (K:PySem.W.Frag) (f:y0k):TE:=fun σ H Q=>∃ ρ w t i,Good K ρ σ H w t/\f ρ=some i/\Q (.int i) H
noncomputable abbrev PQ (X:Cx) (e:Expr) (f:y0k):Prop:=PE X e (tQ X.K f)
@[simp] noncomputable def y69 (n:Nat):y0k:=fun ρ=>match ρ[n]? with
 | some (some (.int i,_))=>some i
 | _=>none
@[simp] noncomputable def qIx (n:Nat) (f:y0k):y0k:=fun ρ=>match f ρ with
 | some i=>match ρ[n]? with
  | some (some (x,_))=>match atD x i with
   | some (.int j)=>some j
   | _=>none
  | _=>none
 | none=>none
section
variable {X:Cx} {a b c e:Expr} {es:List Expr} {fa fb fc f:Den} {qa qb:y0k} {g:x1u} {pos p p1 p2 cpos apos:Pos}
theorem z6z {n:Nat} {x:Str} (h:PE X (.Name x p1) (x74 n)):PQ X (.Name x p1) (y69 n):=PE.imp h fun σ H Q hh0=>by
 obtain⟨ρ,w,t,i,gd,ee,k⟩:=hh0
 unfold y69 at ee
 split at ee
 ·rename_i j q e0
  cases ee
  obtain⟨v,F,h1,h2⟩:=gd.slot n _ _ e0
  rw[x3u h2]at h1
  exact⟨_,h1,k⟩
 ·cases ee
theorem j1t {n:Nat} {x:Str} (h:PE X (.Name x p1) (x74 n)) (hb:PQ X b qb) (hs:x49 b:=by exact fun _ _=>rfl):PQ X (.Subscript (.Name x p1) b pos) (qIx n qb):=PE.imp (y9a y4j h hb hs) fun σ H Q hh0=>by
 obtain⟨ρ,w,t,i,gd,ee,k⟩:=hh0
 unfold qIx at ee
 split at ee
 ·rename_i i0 h0
  split at ee
  ·rename_i x q e0
   split at ee
   ·rename_i j hj
    cases ee
    obtain⟨v,F,h1,h2⟩:=gd.slot n _ _ e0
    refine⟨v,h1,ρ,w,t,i0,gd,h0,?_⟩
    cases x with
    | lst ds=>
     obtain⟨p0,vs,q',G,rfl,hq,rs⟩:=h2.seqL
     obtain⟨u,G',hu,ru,_⟩:=rs.atQ hj
     rw[x3u ru]at hu
     exact .inl ⟨p0,vs,i0,_,rfl,rfl,hq,hu,k⟩
    | tup ds=>
     obtain⟨p0,vs,rfl,hq,rs⟩:=h2.seqT
     obtain⟨u,hu,ru⟩:=rs.atI hj
     rw[x3u ru]at hu
     exact .inr (.inl ⟨p0,vs,i0,_,rfl,rfl,hq,hu,k⟩)
    | _=>cases hj
   ·cases ee
  ·cases ee
 ·cases ee
@[simp] noncomputable def y7g (n:Nat) (qi qj:y0k) (fe:Den):x1a:=fun ρ=>match fe ρ with
 | some (d,_,ρ1)=>match qi ρ1,qj ρ1,ρ1[n]? with
  | some i,some j,some (some (.lst rows,2))=>match ixN rows.length i with
   | some m=>match rows[m]? with
    | some (.lst row)=>match ixN row.length j with
     | some k=>some (.nx (ρ1.set n (some (.lst (rows.set m (.lst (row.set k d))),2))))
     | none=>none
    | _=>none
   | none=>none
  | _,_,_=>none
 | none=>none
theorem z0l {n:Nat} {x:Str} (h:PE X (.Name x p1) (x74 n)) (ha:PQ X a qa) (hb:PQ X b qb) (he:PD X e f) (hi:x49 a:=by exact fun _ _=>rfl)
  (hasg:∀ v,assign (.Subscript (.Subscript (.Name x p1) a p2) b p) X.env v=(do
    let ov <- holding [v] (eval (.Subscript (.Name x p1) a p2) X.env)
    let iv <- holding [v,ov] (eval b X.env)
    standAt p
    holding [v,ov,iv] (setItem ov iv v)
    release [v,ov,iv] []):=by exact fun _=>rfl)
  (hs:swapsWithSole [.Subscript (.Subscript (.Name x p1) a p2) b p] e pos.line X.env=pure false:=by rfl) :
  PDS X (.Assign [.Subscript (.Subscript (.Name x p1) a p2) b p] e pos) (y7g n qa qb f):=by
 refine PS.imp (z3o he (z3e (y9a y4j h ha hi) hb y6f hasg) hs) fun D σ H ⟨ρ,w,o,gd,ee,k⟩=>?_
 unfold y7g at ee
 split at ee
 ·rename_i d q0 ρ1 h1
  split at ee
  ·rename_i i j rows hi hj er
   split at ee
   ·rename_i m hm
    split at ee
    ·rename_i row erow
     split at ee
     ·rename_i kk hk
      cases ee
      refine⟨ρ,w,0,d,q0,ρ1,gd,h1,fun v H1 w1 F1 g1 go1 r1=>?_⟩
      have rv:=r1.drop (o:=.f) (Nat.le_refl 0)
      have gg:=g1.drop (t':=0)
      obtain⟨l,vs,b0,ws,m1,m2,m3,m4,m5,m6,mk⟩:=gg.mut2 er erow
      refine⟨_,m1,ρ1,x1n 0 w1,0,i,gg,hi,.inl ⟨l,vs,i,.ref b0,rfl,rfl,m2,?_,ρ1,x1n 0 w1,0,j,gg,hj,b0,ws,j,kk,rfl,rfl,m5,?_,?_⟩⟩
      ·unfold atI; rw[m3,hm]; exact m4
      ·rw[<- m6.length]; exact hk
      ·obtain⟨n1,n2⟩:=mk _ _ (m6.set0 rv kk)
       exact k _ _ _ rfl n1 ((go1.drop gd.wt).trans n2)
     ·cases ee
    ·cases ee
   ·cases ee
  ·cases ee
 ·cases ee
end
@[simp] noncomputable def z3c (fa fb:Den):Den:=fun ρ=>match fa ρ with
 | some (.bl b,_,ρ1)=>if b=true then fb ρ1 else some (.bl false,9,ρ1)
 | _=>none
@[simp] noncomputable def j0w (fa:Den):Den:=fun ρ=>match fa ρ with
 | some (.bl b,_,ρ1)=>some (.bl (!b),9,ρ1)
 | _=>none
section
variable {X:Cx} {a b c e:Expr} {es x2i:List Expr} {fa fb fc f:Den} {g:x1u} {pos p p1 p2 cpos apos:Pos}
theorem z9o {op} (h:PD X a fa):PD X (.BoolOp op [a] pos) fa:=z76 h
theorem z9q (ha:PD X a fa) (hb:PD X (.BoolOp .And (b::x2i) pos) fb):PD X (.BoolOp .And (a::b::x2i) pos) (z3c fa fb):=PE.imp (z73 ha hb) fun σ H Q hh0=>by
 obtain⟨ρ,w,t,r',q,ρ',gd,ee,k⟩:=hh0
 unfold z3c at ee
 split at ee
 ·rename_i b' q1 ρ1 h1
  refine⟨ρ,w,t,_,_,_,gd,h1,fun v H1 w1 F1 g1 go1 r1=>?_⟩
  cases r1
  refine⟨b',rfl,?_⟩
  split at ee
  ·rename_i hb; rw[if_pos hb]
   exact⟨ρ1,x1n t w1,t,r',q,ρ',g1.drop,ee,fun v H2 w2 F g2 go2=>k v H2 w2 F g2 ((go1.drop gd.wt).trans go2)⟩
  ·rename_i hb; rw[if_neg hb]
   cases ee
   exact k _ H1 w1 [] g1 go1 (.bl false)
 ·cases ee
theorem z7n (ha:PD X a fa):PD X (.UnaryOp .Not a pos) (j0w fa):=PE.imp (z77 ha) fun σ H Q hh0=>by
 obtain⟨ρ,w,t,r',q,ρ',gd,ee,k⟩:=hh0
 unfold j0w at ee
 split at ee
 ·rename_i b' q1 ρ1 h1
  cases ee
  refine⟨ρ,w,t,_,_,_,gd,h1,fun v H1 w1 F1 g1 go1 r1=>?_⟩
  cases r1
  exact⟨b',rfl,k _ H1 w1 [] g1 go1 (.bl _)⟩
 ·cases ee
end
section
variable {es x2i:List Expr} {a b c e:Expr} {pos:Pos} {env:Env}
theorem x13 {op}:starEach (.BinOp a op b pos::x2i) env=(false,eval (.BinOp a op b pos) env)::starEach x2i env:=by simp only[starEach]
theorem z0s:starEach (.IfExp a b c pos::x2i) env=(false,eval (.IfExp a b c pos) env)::starEach x2i env:=by simp only[starEach]
theorem x2c {g sc}:starEach (.ListComp a g sc pos::x2i) env=(false,eval (.ListComp a g sc pos) env)::starEach x2i env:=by simp only[starEach]
theorem x0o {k}:starEach (.Call a es k pos::x2i) env=(false,eval (.Call a es k pos) env)::starEach x2i env:=by simp only[starEach]
theorem x08 {v k}:starEach (.Constant v k pos::x2i) env=(false,eval (.Constant v k pos) env)::starEach x2i env:=by simp only[starEach]
theorem x0m:starEach (.Subscript a b pos::x2i) env=(false,eval (.Subscript a b pos) env)::starEach x2i env:=by simp only[starEach]
theorem x04 {x}:starEach (.Name x pos::x2i) env=(false,eval (.Name x pos) env)::starEach x2i env:=by simp only[starEach]
theorem x9z:starEach (.List es pos::x2i) env=(false,eval (.List es pos) env)::starEach x2i env:=by simp only[starEach]
theorem y62 {k}:starEach (.Tuple es k pos::x2i) env=(false,eval (.Tuple es k pos) env)::starEach x2i env:=by simp only[starEach]
theorem y4a {ar sc}:starEach (.Lambda ar b sc pos::x2i) env=(false,eval (.Lambda ar b sc pos) env)::starEach x2i env:=by simp only[starEach]
end
noncomputable def At (K:PySem.W.Frag) (mg:Str->Option Value) (x:Str) (st:Stmt) (ps:List Str):Prop:=
 ∃ f fd,Fun K x x st f fd/\mg x=some (.ref f)/\y36 K fd ps []
noncomputable def Cal (P:Program) (w:World) (K:PySem.W.Frag) (mg:Str->Option Value) (base:Heap) (k:Nat) (x:Str) (n:Nat) (F:List D->Option (D × Nat)):Prop:=
 ∃ f fd ps,FnOk P w K mg base CX0 k f fd ps (spD K n F)/\mg x=some (.ref f)/\PySem.W.keepIn K (.ref f)=true/\y36 K fd ps []
theorem Cal.mk {P:Program} {w:World} {K:PySem.W.Frag} {mg:Str->Option Value} {base:Heap} {k:Nat} {x:Str} {st:Stmt} {N ps:List Str} {body:x1a} (a:At K mg x st ps) (S:FnScope N ps (x0e st))
  (h:∀ (f:Addr) (cdv:Value) (A:Around) (outer:List Env) (s:Shared) (H:Hp) (E:XK),Room k (A.deeper (envOfC x (x0e st) s.heap.objs.size f cdv))->y7l (y2o CX0 P w K mg base N x (x0e st) f cdv A outer s H E).nox (x32 st) body) :
  Cal P w K mg base (k+1) x ps.length (fnD N.length body):=by
 obtain⟨f,fd,F,m,b⟩:=a
 exact⟨f,fd,ps,z79 F S (h f),m,F.kp,b⟩
section
variable {X:Cx} {a b c e:Expr} {es x2i:List Expr} {fa fb fc f:Den} {g:x1u} {pos p p1 p2 cpos apos:Pos}
theorem z2u {j k n:Nat} {x:Str} {F:List D->Option (D × Nat)} (C:Cal X.prog X.w X.K X.mg X.base k x n F) (hr:Room j X.A) (hk:k<=j) (ha:PDA X (e::es) g)
  (hg:Gl X x:=by rfl) (hdb:(x == ("__debug__":Str))=false:=by decide) (he:starEach (e::es) X.env=(false,eval e X.env)::starEach es X.env:=by rfl) (hpl:(backTo pos (starEach es X.env)).any (·.1)=false:=by rfl) :
  PD X (.Call (.Name x p) (e::es) [] pos) (x0k F n g):=by
 obtain⟨f,fd,ps,G,hm,hkp,hb⟩:=C
 exact z2k G (hr.mono hk) hm hkp hb j1r ha hg hdb he hpl
end
theorem z7k {K:PySem.W.Frag} {F:List D->Option (D × Nat)} (h:∀ ns:List Int,ns.length<=63->∃ q,F [.lst (ns.map D.int)]=some (.bl true,q)) {H:Hp} {a:Addr} {ns:List Int} (hl:ns.length<=63) (hS:SqL K H a (ns.map V.int)) (tb:TB K H) {E:XK} :
  spD K 1 F [.ref a] H (fun v _=>v=.bl true) E:=by
 obtain⟨q,e⟩:=h ns hl
 have r:Rep K H (fun _=>none) .f 0 (.lst (ns.map D.int)) (.ref a) []:=by
  rcases SqL.cases hS with z | z
  ·exact .shr z rfl (x7s ns)
  ·exact .kl z (x7s ns)
 exact⟨rfl,[.lst (ns.map D.int)],fun _=>none,.bl true,q,(fun a o z=>nomatch z),⟨(fun a o z=>nomatch z),tb⟩,.cons (F:=[]) (G:=[]) r .nil (fun _ z=>nomatch z),e,fun v H' w' Fo _ _ rr=>by cases rr; rfl⟩
theorem z8m {P:Program} {w:World} {K:PySem.W.Frag} {mg:Str->Option Value} {base:Heap} {k:Nat} {x:Str} {st:Stmt} {N ps:List Str} {body:x1a} {f:Addr} {fd:FuncData} (F:Fun K x x st f fd) (S:FnScope N ps (x0e st))
  (h:∀ (f:Addr) (cdv:Value) (A:Around) (outer:List Env) (s:Shared) (H:Hp) (E:XK),Room k (A.deeper (envOfC x (x0e st) s.heap.objs.size f cdv))->y7l (y2o CX0 P w K mg base N x (x0e st) f cdv A outer s H E).nox (x32 st) body) :
  FnOk P w K mg base CX0 (k+1) f fd ps (spD K ps.length (fnD N.length body)):=z79 F S (h f)
section
variable {prog:Program} {w:World} {A:Around} {E:Value->Shared->Prop} {s:Shared}
theorem x8f {j p:Addr} {n:Nat} {vs:Array Value} {v:Value} {Q:Value->Shared->Prop} (a:s.heap.IsTupleIter j p n) (b:s.heap.IsTuple p vs) (c:vs[n]? = some v)
  (k:∀ g:Heap,g.IsTupleIter j p (n+1)->Heap.SameBut j s.heap g->Q v { s with heap:=g }):wpAny (model prog w) A (Builtin.SmallTypes.nextOf (.ref j)) Q E s:=by
 obtain⟨oj,ej,kj,dj⟩:=id a
 obtain⟨op,ep,_,mp,dp⟩:=b
 unfold Builtin.SmallTypes.nextOf
 refine wpAny_bind (wpAny_callSpecial?_slot (name:=Str.ofString "__next__") a.typeIs F.slot_tuple_iterator_next (wpAny_call_entry F.slot_tuple_iterator_next a.typeIs F.entry_tuple_iterator_next ?_ (F.args_tuple_iterator_next_1 _)))
 show wpAny _ _ (field (.ref j) 0 >>= _) _ _ s
 refine wpAny_bind (wpAny_field ej dj (x:=.ref p) rfl ?_)
 show wpAny _ _ (if(Value.ref p == Value.none)=true then _ else _) _ _ s
 rw[if_neg (show ¬ ((Value.ref p == Value.none)=true)from Bool.false_ne_true)]
 show wpAny _ _ (field (.ref j) 1 >>= _) _ _ s
 refine wpAny_bind (wpAny_field ej dj (x:=.int n 0) rfl ?_)
 show wpAny _ _ (seqItems? (.ref p) >>= _) _ _ s
 refine wpAny_bind (wpAny_seqItems ep dp ?_)
 simp only[Int.toNat_natCast,c]
 refine wpAny_bind (wpAny_setField ej dj (by simp) (wpAny_pure ⟨v,rfl,wpAny_pure (k _ ⟨_,Heap.get?_update_self _ ej (Obj.isFreed_of_fields (Obj.data_mapFields dj _)),(Obj.cls_mapFields ..).trans kj,?_⟩ (Heap.SameBut.update ..))⟩))
 rw[Obj.data_mapFields dj]
 simp[rawInt]
theorem y3r {j p:Addr} {n:Nat} {vs:Array Value} {Q:Value->Shared->Prop} (hh:A.handled=none) (a:s.heap.IsTupleIter j p n) (b:s.heap.IsTuple p vs) (c:vs[n]? = none)
  (k:∀ (g:Heap) x,Heap.ExtBut j s.heap g->(∃ o,g.get? x=some o/\o.cls=.type "StopIteration")->E (.ref x) { s with heap:=g }):wpAny (model prog w) A (Builtin.SmallTypes.nextOf (.ref j)) Q E s:=by
 obtain⟨oj,ej,kj,dj⟩:=id a
 obtain⟨op,ep,_,mp,dp⟩:=b
 unfold Builtin.SmallTypes.nextOf
 refine wpAny_bind (wpAny_callSpecial?_slot (name:=Str.ofString "__next__") a.typeIs F.slot_tuple_iterator_next (wpAny_call_entry F.slot_tuple_iterator_next a.typeIs F.entry_tuple_iterator_next ?_ (F.args_tuple_iterator_next_1 _)))
 show wpAny _ _ (field (.ref j) 0 >>= _) _ _ s
 refine wpAny_bind (wpAny_field ej dj (x:=.ref p) rfl ?_)
 show wpAny _ _ (if(Value.ref p == Value.none)=true then _ else _) _ _ s
 rw[if_neg (show ¬ ((Value.ref p == Value.none)=true)from Bool.false_ne_true)]
 show wpAny _ _ (field (.ref j) 1 >>= _) _ _ s
 refine wpAny_bind (wpAny_field ej dj (x:=.int n 0) rfl ?_)
 show wpAny _ _ (seqItems? (.ref p) >>= _) _ _ s
 refine wpAny_bind (wpAny_seqItems ep dp ?_)
 simp only[Int.toNat_natCast,c]
 refine wpAny_bind (wpAny_rule (wpAny_bind (wpAny_setField ej dj (by simp) ?_)))
 show wpAny _ _ (newExc (.type "StopIteration") [] >>= _) _ _ _; refine wpAny_bind ?_; simp only[newExc,newTuple]
 refine wpAny_bind (wpAny_newObj_type ?_ (by size_fits)); refine wpAny_bind (m:=firstArgMember _ _) (wpAny_of_eq (a:=Value.none) (by first | rfl | (simp only[firstArgMember]; rfl)) (wpAny_newObj_type ?_ (by size_fits)))
 simp only[raiseNew]
 refine wpAny_bind (wpAny_handled ?_); first | rw[show A.in1.handled=none from hh] | rw[hh]
 exact wpAny_bind (wpAny_pure (wpAny_throw (k _ _ (((Heap.SameBut.update ..).extBut.push _).push _) ⟨_,Heap.get?_push_size _ rfl,rfl⟩)))
structure ZT (h:Heap) (z u o i1 i2 p1 p2:Addr) (f0:Value) (k1 k2:Nat):Prop where
 hz:IsZip h z u o f0
 hu:IsPair h u (.ref i1) (.ref i2)
 ho:∃ a b,IsPair h o a b
 h1:h.IsTupleIter i1 p1 k1
 h2:h.IsTupleIter i2 p2 k2
noncomputable def zfp (z u o i1 i2:Addr):List Addr:=[z,u,o,i1,i2]
structure ZA (z u o i1 i2:Addr):Prop where
 nd:(zfp z u o i1 i2).Nodup
theorem ZA.ne {z u o i1 i2:Addr} (d:ZA z u o i1 i2):z≠u/\z≠o/\z≠i1/\z≠i2/\u≠o/\u≠i1/\u≠i2/\o≠i1/\o≠i2/\i1≠i2:=by
 have:=d.nd
 simp only[zfp,List.nodup_cons,List.mem_cons,List.not_mem_nil,or_false,not_or]at this
 obtain⟨⟨a,b,c,d⟩,⟨e,f,g⟩,⟨h,i⟩,j,_⟩:=this
 exact⟨a,b,c,d,e,f,g,h,i,j⟩
theorem y2x {g:Heap} {o:Addr} {a b x:Value} {n:Nat} {Q:Unit->Shared->Prop} (e:IsPair s.heap o a b)
  (k:∀ g:Heap,g.get? o=some { cls:=.type "tuple",data:=.seq ((#[a,b]:Array Value).setIfInBounds n x) }->Heap.SameBut o s.heap g->Q () { s with heap:=g }):wpAny (model prog w) A (updateSeq o (·.setIfInBounds n x)) Q E s:=by
 refine wpAny_updateSeq e rfl (k _ ?_ (Heap.SameBut.update ..))
 rw[Heap.get?_update_self _ e rfl]; simp[Obj.mapSeq]
theorem y9d {z u o i1 i2 p1 p2:Addr} {n:Nat} {xs ys:Array Value} {x y:Value} {Q:Option Value->Shared->Prop} (d:ZA z u o i1 i2) (Z:ZT s.heap z u o i1 i2 p1 p2 .none n n) (t1:s.heap.IsTuple p1 xs) (t2:s.heap.IsTuple p2 ys)
  (n1:p1 ∉ zfp z u o i1 i2) (n2:p2 ∉ zfp z u o i1 i2) (ex:xs[n]? = some x) (ey:ys[n]? = some y)
  (k:∀ g:Heap,ZT g z u o i1 i2 p1 p2 (rawInt s.heap.objs.size) (n+1) (n+1)->IsPair g s.heap.objs.size x y->(∀ c q,c ∉ zfp z u o i1 i2->s.heap.get? c=some q->g.get? c=some q)->Q (some (.ref s.heap.objs.size)) { s with heap:=g }) :
  wpAny (model prog w) A (pyNext (.ref z)) Q E s:=by
 obtain⟨zu,zo,z1,z2,uo,u1,u2,o1,o2,i12⟩:=d.ne
 obtain⟨hz,hu,⟨a,b,ho⟩,h1,h2⟩:=Z
 have nz:∀ p,p ∉ zfp z u o i1 i2->p≠z/\p≠o/\p≠i1/\p≠i2:=fun p h=>by
  simp only[zfp,List.mem_cons,List.not_mem_nil,or_false,not_or]at h
  exact⟨h.1,h.2.2.1,h.2.2.2.1,h.2.2.2.2⟩
 obtain⟨az,ao,a1,a2⟩:=nz p1 n1
 obtain⟨bz,bo,b1,b2⟩:=nz p2 n2
 have ty:s.TypeIs (.ref z) "zip":=⟨_,hz,rfl⟩
 unfold pyNext
 refine wpAny_bind (wpAny_attempt (wpAny_callSpecial?_slot (name:=Str.ofString "__next__") ty F.slot_zip_next (wpAny_call_entry F.slot_zip_next ty F.entry_zip_next ?_ (F.args_zip_next_1 _))))
 show wpAny _ _ (field (.ref z) 2 >>= _) _ _ _; refine wpAny_bind (wpAny_field hz rfl (x:=.bool false) rfl ?_)
 show wpAny _ _ (field (.ref z) 3 >>= _) _ _ _; refine wpAny_bind (wpAny_field hz rfl (x:=.ref u) rfl (wpAny_bind (wpAny_seqItems hu rfl ?_)))
 show wpAny _ _ (Builtin.SmallTypes.ownedTupleIsFree (.ref z) >>= _) _ _ _; refine wpAny_bind ?_; unfold Builtin.SmallTypes.ownedTupleIsFree
 refine wpAny_bind (wpAny_field hz rfl (x:=.none) rfl (wpAny_pure ?_)); simp only[if_true]
 refine wpAny_bind (wpAny_rule (wpAny_bind (wpAny_field hz rfl (x:=.ref o) rfl (wpAny_bind (wpAny_setField_rec hz (by simp) fun g1 e1 b1'=>?_)))))
 replace e1:IsZip g1 z u o .ellipsis:=e1
 refine wpAny_bind ?_; simp only[List.zipIdx_cons,List.zipIdx_nil,List.forIn_cons,List.forIn_nil]
 -- the first
 refine wpAny_bind (wpAny_bind (wpAny_onRaise ?_)); show wpAny _ _ (Builtin.SmallTypes.nextOf (.ref i1) >>= _) _ _ _
 refine wpAny_bind (x8f (h1.extBut b1'.extBut (Ne.symm z1)) (t1.extBut b1'.extBut az) ex fun g2 e2 c2=>wpAny_pure ?_)
 have q2:IsPair g2 o a b:=c2.extBut _ _ o1 (b1'.extBut _ _ (Ne.symm zo) ho)
 refine wpAny_bind (wpAny_seqItems q2 rfl (wpAny_bind (y2x (g:=g2) q2 fun g3 e3 c3=>wpAny_bind (wpAny_letGo (wpAny_pure ?_)))))
 replace e3:IsPair g3 o x b:=e3
 -- the second
 refine wpAny_bind (wpAny_bind (wpAny_onRaise ?_)); show wpAny _ _ (Builtin.SmallTypes.nextOf (.ref i2) >>= _) _ _ _
 refine wpAny_bind (x8f (((h2.extBut b1'.extBut (Ne.symm z2)).extBut c2.extBut (Ne.symm i12)).extBut c3.extBut (Ne.symm o2)) (((t2.extBut b1'.extBut bz).extBut c2.extBut b1).extBut c3.extBut bo) ey fun g4 e4 c4=>wpAny_pure ?_)
 have q4:IsPair g4 o x b:=c4.extBut _ _ o2 e3
 refine wpAny_bind (wpAny_seqItems q4 rfl (wpAny_bind (y2x (g:=g4) q4 fun g5 e5 c5=>wpAny_bind (wpAny_letGo (wpAny_pure (wpAny_pure ?_))))))
 replace e5:IsPair g5 o x y:=e5
 refine wpAny_bind (wpAny_seqItems e5 rfl (wpAny_bind (wpAny_newTuple ?_)))
 have sz:g5.objs.size=s.heap.objs.size:=by rw[c5.1,c4.1,c3.1,c2.1,b1'.1]
 have z5:IsZip g5 z u o .ellipsis:=c5.extBut _ _ zo (c4.extBut _ _ z2 (c3.extBut _ _ zo (c2.extBut _ _ z1 e1)))
 have kp:∀ c q,c≠z->c≠o->c≠i1->c≠i2->s.heap.get? c=some q->g5.get? c=some q:=fun c q x1 x2 x3 x4 e=>c5.extBut _ _ x2 (c4.extBut _ _ x4 (c3.extBut _ _ x2 (c2.extBut _ _ x3 (b1'.extBut _ _ x1 e))))
 have w1:g5.IsTupleIter i1 p1 (n+1):=((e2.extBut c3.extBut (Ne.symm o1)).extBut c4.extBut i12).extBut c5.extBut (Ne.symm o1)
 have w2:g5.IsTupleIter i2 p2 (n+1):=e4.extBut c5.extBut (Ne.symm o2)
 have zl:z<g5.objs.size:=Heap.lt_size z5
 show wpAny _ _ (Builtin.SmallTypes.ownedTupleHandOut (.ref z) (.ref g5.objs.size) >>= _) _ _ _; refine wpAny_bind ?_; unfold Builtin.SmallTypes.ownedTupleHandOut
 have z6:IsZip (g5.push { cls:=.type "tuple",data:=.seq #[x,y] }) z u o .ellipsis:=Heap.get?_push_of_some _ z5
 refine wpAny_bind (wpAny_setField_rec z6 (by simp) fun g7 e7 c7=>?_)
 replace e7:IsZip g7 z u o (rawInt g5.objs.size):=e7
 refine wpAny_setField_rec e7 (by simp) fun g8 e8 c8=>?_
 replace e8:IsZip g8 z u o (rawInt g5.objs.size):=e8
 have up:∀ c q,c≠z->g5.get? c=some q->g8.get? c=some q:=fun c q h e=>c8.extBut _ _ h (c7.extBut _ _ h (Heap.get?_push_of_some _ e))
 have nw:IsPair g8 g5.objs.size x y:=c8.extBut _ _ (Nat.ne_of_gt zl) (c7.extBut _ _ (Nat.ne_of_gt zl) (Heap.get?_push_size _ rfl))
 rw[sz]at e8 nw
 refine wpAny_pure ⟨_,rfl,wpAny_pure ?_⟩
 show Q (some (.ref g5.objs.size)) _
 rw[sz]
 refine k g8 ⟨e8,up _ _ (Ne.symm zu) (kp _ _ (Ne.symm zu) uo u1 u2 hu),⟨x,y,up _ _ (Ne.symm zo) e5⟩,w1.at fun q e=>up _ q (Ne.symm z1) e,w2.at fun q e=>up _ q (Ne.symm z2) e⟩ nw fun c q h e=>?_
 obtain⟨y1,y2,y3,y4⟩:=nz c h
 exact up c q y1 (kp c q y1 y2 y3 y4 e)
theorem z2c {z u o i1 i2 p1 p2:Addr} {n:Nat} {xs ys:Array Value} {Q:Option Value->Shared->Prop} (hh:A.handled=none) (d:ZA z u o i1 i2) (Z:ZT s.heap z u o i1 i2 p1 p2 .none n n) (t1:s.heap.IsTuple p1 xs) (t2:s.heap.IsTuple p2 ys)
  (n1:p1 ∉ zfp z u o i1 i2) (n2:p2 ∉ zfp z u o i1 i2) (en:xs[n]? = none\/ys[n]? = none)
  (k:∀ g:Heap,(∀ c q,c ∉ zfp z u o i1 i2->s.heap.get? c=some q->g.get? c=some q)->Q none { s with heap:=g }) :
  wpAny (model prog w) A (pyNext (.ref z)) Q E s:=by
 obtain⟨zu,zo,z1,z2,uo,u1,u2,o1,o2,i12⟩:=d.ne
 obtain⟨hz,hu,⟨a,b,ho⟩,h1,h2⟩:=Z
 have nz:∀ p,p ∉ zfp z u o i1 i2->p≠z/\p≠o/\p≠i1/\p≠i2:=fun p h=>by
  simp only[zfp,List.mem_cons,List.not_mem_nil,or_false,not_or]at h
  exact⟨h.1,h.2.2.1,h.2.2.2.1,h.2.2.2.2⟩
 obtain⟨az,ao,a1,a2⟩:=nz p1 n1
 obtain⟨bz,bo,b1,b2⟩:=nz p2 n2
 have ty:s.TypeIs (.ref z) "zip":=⟨_,hz,rfl⟩
 unfold pyNext
 refine wpAny_bind (wpAny_attempt (wpAny_callSpecial?_slot (name:=Str.ofString "__next__") ty F.slot_zip_next (wpAny_call_entry F.slot_zip_next ty F.entry_zip_next ?_ (F.args_zip_next_1 _))))
 show wpAny _ _ (field (.ref z) 2 >>= _) _ _ _; refine wpAny_bind (wpAny_field hz rfl (x:=.bool false) rfl ?_)
 show wpAny _ _ (field (.ref z) 3 >>= _) _ _ _; refine wpAny_bind (wpAny_field hz rfl (x:=.ref u) rfl (wpAny_bind (wpAny_seqItems hu rfl ?_)))
 show wpAny _ _ (Builtin.SmallTypes.ownedTupleIsFree (.ref z) >>= _) _ _ _; refine wpAny_bind ?_; unfold Builtin.SmallTypes.ownedTupleIsFree
 refine wpAny_bind (wpAny_field hz rfl (x:=.none) rfl (wpAny_pure ?_)); simp only[if_true]
 refine wpAny_bind (wpAny_rule (wpAny_bind (wpAny_field hz rfl (x:=.ref o) rfl (wpAny_bind (wpAny_setField_rec hz (by simp) fun g1 e1 b1'=>?_)))))
 replace e1:IsZip g1 z u o .ellipsis:=e1
 refine wpAny_bind ?_; simp only[List.zipIdx_cons,List.zipIdx_nil,List.forIn_cons,List.forIn_nil]
 have away:∀ (g:Heap) x,IsZip g z u o .ellipsis->(∃ q,g.get? x=some q/\q.cls=.type "StopIteration")->x≠z:=fun g x e ⟨q,e',c'⟩ h=>by
  subst h; rw[e]at e'; cases e'; simp at c'
 refine wpAny_bind (wpAny_bind (wpAny_onRaise ?_)); show wpAny _ _ (Builtin.SmallTypes.nextOf (.ref i1) >>= _) _ _ _
 cases ex:xs[n]? with
 | none=>
  refine wpAny_bind (y3r hh (h1.extBut b1'.extBut (Ne.symm z1)) (t1.extBut b1'.extBut az) ex fun g2 x c2 hx=>?_)
  have e2:IsZip g2 z u o .ellipsis:=c2 _ _ z1 e1
  have xz:=away g2 x e2 hx
  obtain⟨q,hq,cq⟩:=hx
  refine wpAny_setField_rec e2 (by simp) fun g3 _ c3=>?_
  refine wpAny_bind (wpAny_isInstance (T:="StopIteration") (b:=true) ⟨q,c3.extBut _ _ xz hq,cq⟩ isSubtype_stop (wpAny_pure (k g3 fun c r h e=>?_)))
  obtain⟨y1,y2,y3,y4⟩:=nz c h
  exact c3.extBut _ _ y1 (c2 _ _ y3 (b1'.extBut _ _ y1 e))
 | some x=>
  have ey:ys[n]? = none:=by rcases en with h | h; rw[ex]at h; cases h; exact h
  refine wpAny_bind (x8f (h1.extBut b1'.extBut (Ne.symm z1)) (t1.extBut b1'.extBut az) ex fun g2 e2 c2=>wpAny_pure ?_)
  have q2:IsPair g2 o a b:=c2.extBut _ _ o1 (b1'.extBut _ _ (Ne.symm zo) ho)
  refine wpAny_bind (wpAny_seqItems q2 rfl (wpAny_bind (y2x (g:=g2) q2 fun g3 e3 c3=>wpAny_bind (wpAny_letGo (wpAny_pure ?_)))))
  refine wpAny_bind (wpAny_bind (wpAny_onRaise ?_)); show wpAny _ _ (Builtin.SmallTypes.nextOf (.ref i2) >>= _) _ _ _
  refine wpAny_bind (y3r hh (((h2.extBut b1'.extBut (Ne.symm z2)).extBut c2.extBut (Ne.symm i12)).extBut c3.extBut (Ne.symm o2)) (((t2.extBut b1'.extBut bz).extBut c2.extBut b1).extBut c3.extBut bo) ey fun g4 x' c4 hx=>?_)
  have e4:IsZip g4 z u o .ellipsis:=c4 _ _ z2 (c3.extBut _ _ zo (c2.extBut _ _ z1 e1))
  have xz:=away g4 x' e4 hx
  obtain⟨q,hq,cq⟩:=hx
  refine wpAny_setField_rec e4 (by simp) fun g5 _ c5=>?_
  refine wpAny_bind (wpAny_isInstance (T:="StopIteration") (b:=true) ⟨q,c5.extBut _ _ xz hq,cq⟩ isSubtype_stop (wpAny_pure (k g5 fun c r h e=>?_)))
  obtain⟨y1,y2,y3,y4⟩:=nz c h
  exact c5.extBut _ _ y1 (c4 _ _ y4 (c3.extBut _ _ y2 (c2.extBut _ _ y3 (b1'.extBut _ _ y1 e))))
theorem z2o {p1 p2:Addr} {xs ys:Array Value} {Q:Value->Shared->Prop} (t1:s.heap.IsTuple p1 xs) (t2:s.heap.IsTuple p2 ys)
  (k:∀ g:Heap,ZT g (s.heap.objs.size+4) (s.heap.objs.size+2) (s.heap.objs.size+3) s.heap.objs.size (s.heap.objs.size+1) p1 p2 .none 0 0->(∀ c q,s.heap.get? c=some q->g.get? c=some q)->Q (.ref (s.heap.objs.size+4)) { s with heap:=g }) :
  wpAny (model prog w) A (call (.type "zip") [.ref p1,.ref p2]) Q E s:=by
 let g1:=s.heap.push { cls:=.type "tuple_iterator",data:=.fields #[.ref p1,.int 0 0] }
 let g2:=g1.push { cls:=.type "tuple_iterator",data:=.fields #[.ref p2,.int 0 0] }
 let g3:=g2.push { cls:=.type "tuple",data:=.seq #[.ref s.heap.objs.size,.ref g1.objs.size] }
 let g4:=g3.push { cls:=.type "tuple",data:=.seq #[.none,.none] }
 let g5:=g4.push { cls:=.type "zip",data:=.fields #[.none,.bool false,.bool false,.ref g2.objs.size,.ref g3.objs.size] }
 have mt:Meets (Builtin.«zip.__new__» ⟨[.type "zip",.ref p1,.ref p2],[]⟩) (fun _ R s'=>s'=s/\R (.ok (.ret (.ref g4.objs.size))) { s with heap:=g5 }):=.of_wp fun prog w A R s' h=>by
  obtain⟨rfl,h⟩:=h
  have hsub:=sub_zip
  obtain⟨hp,gn,dr,tk,os⟩:=s'
  have q1:Heap.IsTuple (Shared.heap ⟨hp,gn,dr,tk,os⟩) p1 xs:=t1
  have q2:Heap.IsTuple (Shared.heap ⟨hp.push { cls:=.type "tuple_iterator",data:=.fields #[.ref p1,.int 0 0] },gn,dr,tk,os⟩) p2 ys:=t2.push _
  wp_walk using wpAny_pyIter_tuple q1,wpAny_pyIter_tuple q2
  exact⟨_,rfl,h⟩
 refine callType_new F.called_zip (by decide) (F.typeCall_zip_2 _ _) (F.newCall_zip_2 _ _) (fun obj=>F.args_object_init_3 obj _ _) F.entry_zip_new mt ⟨rfl,?_⟩
 have s1:g1.objs.size=s.heap.objs.size+1:=Heap.size_push ..
 have s2:g2.objs.size=s.heap.objs.size+2:=by rw[Heap.size_push,s1]
 have s3:g3.objs.size=s.heap.objs.size+3:=by rw[Heap.size_push,s2]
 have s4:g4.objs.size=s.heap.objs.size+4:=by rw[Heap.size_push,s3]
 have a5:g5.get? g4.objs.size=some { cls:=.type "zip",data:=.fields #[.none,.bool false,.bool false,.ref g2.objs.size,.ref g3.objs.size] }:=Heap.get?_push_size _ rfl
 have up4:∀ {c q},g3.get? c=some q->g5.get? c=some q:=fun e=>Heap.get?_push_of_some _ (Heap.get?_push_of_some _ e)
 have a4:g5.get? g3.objs.size=some { cls:=.type "tuple",data:=.seq #[.none,.none] }:=Heap.get?_push_of_some _ (Heap.get?_push_size _ rfl)
 have a3:g5.get? g2.objs.size=some { cls:=.type "tuple",data:=.seq #[.ref s.heap.objs.size,.ref g1.objs.size] }:=up4 (Heap.get?_push_size _ rfl)
 have a2:g5.get? g1.objs.size=some { cls:=.type "tuple_iterator",data:=.fields #[.ref p2,.int 0 0] }:=up4 (Heap.get?_push_of_some _ (Heap.get?_push_size _ rfl))
 have a1:g5.get? s.heap.objs.size=some { cls:=.type "tuple_iterator",data:=.fields #[.ref p1,.int 0 0] }:=up4 (Heap.get?_push_of_some _ (Heap.get?_push_of_some _ (Heap.get?_push_size _ rfl)))
 rw[s2,s3,s4]at a5
 rw[s3]at a4
 rw[s1,s2]at a3
 rw[s1]at a2
 show _/\_
 rw[s4]
 exact⟨⟨_,a5,rfl⟩,k g5 ⟨a5,a3,⟨_,_,a4⟩,⟨_,a1,rfl,rfl⟩,⟨_,a2,rfl,rfl⟩⟩ fun c q e=>up4 (Heap.get?_push_of_some _ (Heap.get?_push_of_some _ (Heap.get?_push_of_some _ e)))⟩
end
theorem y9y {X:Cx} {pins:List (Addr × Obj)} {σ:St} {H:Hp} {s:Shared} {h':Heap} {t':Nat} {ch:List Addr} (I:Inv X pins σ H s) (k:∀ b o,b ∉ ch->s.heap.get? b=some o->h'.get? b=some o) (hf:∀ b∈ch,y9o X pins H b) :
  Inv X pins σ H { s with heap:=h',toks:=t' }:=by
 have nit:∀ b u,H b=some u->b ∉ ch:=fun b u e z=>by rw[(hf b z).1]at e; cases e
 refine I.step (g':=s.gens) (d':=s.drawn) (ch:=ch) (fun b hb=>?_) (fun b o _ _ hc e _=>k b o hc e) (fun b o _ _ hc e _=>⟨o.slots,k b o hc e⟩) (fun _ _ _ _ n=>n)
  (fun b o hc e=>⟨o,k b o hc e⟩) (fun _ _ e=>e) (fun _ _ _ e=>e) (fun b ps e=>⟨#[],by rw[e]; simp⟩) (fun m hm=>?_) (fun b u e=>?_) I.bare
 ·obtain⟨f0,f1,f2,f3,f4,f5⟩:=hf b hb
  exact⟨f3,f1,f4,f5⟩
 ·obtain⟨o,es,ep,ho,r⟩:=hm
  exact⟨o,es,ep,k _ o (fun z=>(hf _ z).2.1 rfl) ho,r⟩
 ·refine(I.hok b u e).stay (fun c v hc q=>k c v ?_ q) (fun _ q=>q) fun _ _ q=>q
  rcases hc with z | z
  ·rw[z]; exact nit b u e
  ·exact nit c _ z
noncomputable def Itz (K:PySem.W.Frag) (p1 p2:Addr):It:=
 ⟨fun i H=>∃ xs ys x y,SqT K H p1 xs/\SqT K H p2 ys/\xs[i]? = some x/\ys[i]? = some y,
  fun i H v H'=>∃ T x y,v=.ref T/\H T=none/\(∀ xs,SqT K H p1 xs->xs[i]? = some x)/\(∀ ys,SqT K H p2 ys->ys[i]? = some y)/\H'=upd H T (.tup [x,y]),
  fun i H=>∃ xs ys,SqT K H p1 xs/\SqT K H p2 ys/\(xs.length<=i\/ys.length<=i)⟩
theorem z2f {P:Program} {w:World} {K:PySem.W.Frag} {elts:List Expr} {kt:Nat} {tp:Pos} (z u o i1 i2 p1 p2:Addr) (d:ZA z u o i1 i2) (n1:p1 ∉ zfp z u o i1 i2) (n2:p2 ∉ zfp z u o i1 i2) :
  Turn P w K (.Tuple elts kt tp) (Itz K p1 p2) (zfp z u o i1 i2) z (fun i h=>ZT h z u o i1 i2 p1 p2 .none i i) where
 mem:=by simp[zfp]
 obj:=fun i h st b hb=>by
  obtain⟨hz,hu,⟨a,c,ho⟩,⟨o1,e1,c1,d1⟩,⟨o2,e2,c2,d2⟩⟩:=st
  simp only[zfp,List.mem_cons,List.not_mem_nil,or_false]at hb
  rcases hb with rfl | rfl | rfl | rfl | rfl
  ·exact⟨_,hz,fun v e=>nomatch e⟩
  ·exact⟨_,hu,fun v e=>nomatch e⟩
  ·exact⟨_,ho,fun v e=>nomatch e⟩
  ·exact⟨_,e1,fun v e=>by rw[d1]at e; cases e⟩
  ·exact⟨_,e2,fun v e=>by rw[d2]at e; cases e⟩
 keep:=fun i h h' st k=>by
  obtain⟨hz,hu,⟨a,c,ho⟩,h1,h2⟩:=st
  exact⟨k z (by simp[zfp]) _ hz,k u (by simp[zfp]) _ hu,⟨a,c,k o (by simp[zfp]) _ ho⟩,h1.at fun q e=>k i1 (by simp[zfp]) q e,h2.at fun q e=>k i2 (by simp[zfp]) q e⟩
 item:=by
  intro X hP hw hK hc i pins s σ H E I hf st hg
  subst hP hw hK
  obtain⟨xs,ys,x,y,q1,q2,ex,ey⟩:=hg
  obtain⟨as,ra,ta,_⟩:=I.tuple q1
  obtain⟨bs,rb,tb,_⟩:=I.tuple q2
  obtain⟨ux,hx,rx⟩:=ra.get ex
  obtain⟨uy,hy,ry⟩:=rb.get ey
  refine y9d d st (show s.heap.IsTuple p1 as.toArray from ta) (show s.heap.IsTuple p2 bs.toArray from tb) n1 n2 (by simpa using hx) (by simpa using hy) fun g Z nw kp=>?_
  refine⟨_,rfl,wpAny_letOwnedTupleGo_zip (s:={ s with heap:=g }) Z.hz fun g' hz' sb=>?_⟩
  have fr:H s.heap.objs.size=none:=I.hok.fresh (Nat.le_refl _)
  have I1:Inv X pins σ (upd H s.heap.objs.size (.tup [x,y])) { s with heap:=s.heap.push { cls:=.type "tuple",data:=.seq #[ux,uy] } }:=
   I.laid (t':=s.toks) (fun b q e=>Heap.get?_push_of_some _ e) (Nat.le_refl _) (show x27 X.prog X.w _ _ _ (.tup _)from⟨(by show 2<=sizeLine; decide),[ux,uy],.cons rx (.cons ry .nil),x4t.new _ _⟩)
  have lt:∀ b∈zfp z u o i1 i2,b<s.heap.objs.size:=fun b hb=>by
   obtain⟨hz,hu,⟨a,c,ho⟩,⟨o1,e1,_⟩,⟨o2,e2,_⟩⟩:=st
   simp only[zfp,List.mem_cons,List.not_mem_nil,or_false]at hb
   rcases hb with rfl | rfl | rfl | rfl | rfl
   ·exact Heap.lt_size hz
   ·exact Heap.lt_size hu
   ·exact Heap.lt_size ho
   ·exact Heap.lt_size e1
   ·exact Heap.lt_size e2
  have hn:∀ b∈zfp z u o i1 i2,upd H s.heap.objs.size (.tup [x,y]) b=none:=fun b hb=>by rw[x0g (Nat.ne_of_lt (lt b hb))]; exact(hf b hb).1
  have I2:Inv X pins σ (upd H s.heap.objs.size (.tup [x,y])) { s with heap:=g' }:=y9y (s:={ s with heap:=s.heap.push { cls:=.type "tuple",data:=.seq #[ux,uy] } }) (t':=s.toks) (ch:=zfp z u o i1 i2) I1 (fun b q nb e=>by
   have bz:b≠z:=fun h=>nb (by simp[zfp,h])
   rcases Heap.get?_push_cases e with⟨rfl,rfl⟩ | e'
   ·exact sb.extBut _ _ bz nw
   ·exact sb.extBut _ _ bz (kp b q nb e')) fun b hb=>by
     obtain⟨f0,f1,f2,f3,f4,f5⟩:=hf b hb
     exact⟨hn b hb,f1,f2,f3,f4,f5⟩
  refine⟨.ref s.heap.objs.size,_,I2,rfl,⟨s.heap.objs.size,x,y,rfl,fr,fun zs hz=>?_,fun zs hz=>?_,rfl⟩,?_,hn⟩
  ·rw[I.tuple_inj hz q1]; exact ex
  ·rw[I.tuple_inj hz q2]; exact ey
  ·obtain⟨_,hu,⟨a,c,ho⟩,h1,h2⟩:=Z
   obtain⟨zu,zo,z1,z2,_⟩:=d.ne
   exact⟨hz',sb.extBut _ _ (Ne.symm zu) hu,⟨a,c,sb.extBut _ _ (Ne.symm zo) ho⟩,h1.extBut sb.extBut (Ne.symm z1),h2.extBut sb.extBut (Ne.symm z2)⟩
 done:=by
  intro X hP hw hK hc i pins s σ H E I hf st hg
  subst hP hw hK
  obtain⟨xs,ys,q1,q2,hx⟩:=hg
  obtain⟨as,ra,ta,_⟩:=I.tuple q1
  obtain⟨bs,rb,tb,_⟩:=I.tuple q2
  have la:=ra.length
  have lb:=rb.length
  refine z2c (I.ok.hd hc) d st (show s.heap.IsTuple p1 as.toArray from ta) (show s.heap.IsTuple p2 bs.toArray from tb) n1 n2 (by rcases hx with h | h; exact .inl (by simp; omega); exact .inr (by simp; omega)) fun g kp=>⟨rfl,?_⟩
  exact y9y (t':=s.toks) (ch:=zfp z u o i1 i2) I (fun b q nb e=>kp b q nb e) hf
 self:=fun _ _ _ _ _ st h=>wpAny_pyIter_zip st.hz h
section
variable {X:Cx} {a b c e:Expr} {es elts:List Expr} {fa fb fc f:Den} {g:x1u} {pos p p1 p2 tp:Pos} {kt:Nat}
noncomputable def j31 (K:PySem.W.Frag) (ta:TA):TI:=fun σ H R=>ta σ H fun vs H1=>∃ p1 p2,vs=[.ref p1,.ref p2]/\(∃ xs,SqT K H1 p1 xs)/\(∃ ys,SqT K H1 p2 ys)/\R (Itz K p1 p2) H1
theorem z9d {ta:TA} (hg:Gl X "zip") (hm:X.mg "zip" = none) (ha:PA X [a,b] ta) (hs:starEach [a,b] X.env=[(false,eval a X.env),(false,eval b X.env)]:=by rfl) (hs2:starEach [b] X.env=[(false,eval b X.env)]:=by rfl) :
  PI X (.Tuple elts kt tp) (.Call (.Name "zip" p) [a,b] [] pos) (j31 X.K ta):=by
 intro pins s σ H R I h
 refine Call_ (y1g I hg hm boot_zip (PyProof.Rows.callWith_type1 (thn (ha pos pins s σ H _ I h) fun us s1 ⟨vs,H1,I1,r1,q1⟩=>?_) (by rw[hs,hs2]) (by rw[hs2]; rfl)))
 obtain⟨p1,p2,e,⟨xs,hx⟩,⟨ys,hy⟩,q⟩:=q1
 subst e
 cases r1 with
 | cons r rr=>
  cases rr with
  | cons r' rr=>
   cases rr
   cases r
   cases r'
   obtain⟨as,ra,ta',_⟩:=I1.tuple hx
   obtain⟨bs,rb,tb,_⟩:=I1.tuple hy
   have l1:p1<s1.heap.objs.size:=by obtain⟨_,e,_⟩:=ta'; exact Heap.lt_size e
   have l2:p2<s1.heap.objs.size:=by obtain⟨_,e,_⟩:=tb; exact Heap.lt_size e
   refine z2o (show s1.heap.IsTuple p1 as.toArray from ta') (show s1.heap.IsTuple p2 bs.toArray from tb) fun g Z kp=>?_
   have I2:Inv X pins σ H1 { s1 with heap:=g }:=I1.kept (t':=s1.toks) kp
   refine wpAny_pyIter_zip Z.hz ?_
   have dd:ZA (s1.heap.objs.size+4) (s1.heap.objs.size+2) (s1.heap.objs.size+3) s1.heap.objs.size (s1.heap.objs.size+1):=⟨by
    generalize s1.heap.objs.size=n
    unfold zfp
    simp only[List.nodup_cons,List.mem_cons,List.not_mem_nil,or_false,not_or,not_false_eq_true,List.nodup_nil,and_true]
    have ne:∀ {x y:Nat},x≠y->(x:Addr)≠(y:Addr):=fun h=>h
    refine⟨⟨ne ?_,ne ?_,ne ?_,ne ?_⟩,⟨ne ?_,ne ?_,ne ?_⟩,⟨ne ?_,ne ?_⟩,ne ?_⟩ <;> (intro h; have h':(_:Nat)=(_:Nat):=h; omega)⟩
   have far:∀ b∈zfp (s1.heap.objs.size+4) (s1.heap.objs.size+2) (s1.heap.objs.size+3) s1.heap.objs.size (s1.heap.objs.size+1),s1.heap.objs.size<=b:=fun b hb=>by
    simp only[zfp,List.mem_cons,List.not_mem_nil,or_false]at hb
    rcases hb with rfl | rfl | rfl | rfl | rfl <;> first | exact Nat.le_refl _ | exact Nat.le_add_right _ _
   refine⟨s1.heap.objs.size+4,zfp (s1.heap.objs.size+4) (s1.heap.objs.size+2) (s1.heap.objs.size+3) s1.heap.objs.size (s1.heap.objs.size+1),_,_,H1,rfl,I2,z2f _ _ _ _ _ p1 p2 dd (fun h=>absurd (far _ h) (Nat.not_le_of_lt l1)) (fun h=>absurd (far _ h) (Nat.not_le_of_lt l2)),Z,fun b hb=>?_,q⟩
   exact I1.fpOk (far b hb) (I1.hok.fresh (far b hb))
@[simp] noncomputable def y5n (g:x1u):y28:=fun ρ=>match g ρ with
 | some ([.tup ds,.tup es],ρ1)=>if ds.length<=1000 then some ((ds.zip es).map fun x=>.tup [x.1,x.2],ρ1)else none
 | _=>none
theorem It.zip {K:PySem.W.Frag} {p1 p2:Addr} {vs us:List V} {ds es:List D} (l1:ds.length=vs.length) (l2:es.length=us.length):ItOk K (Itz K p1 p2) ((ds.zip es).map fun x=>.tup [x.1,x.2]) fun H w=>SqT K H p1 vs/\SqT K H p2 us/\Reps K H w .f 0 ds vs []/\Reps K H w .f 0 es us []:=by
 refine⟨fun i H w p hi=>?_,fun i H w x H' d p wl hd y=>?_,fun H w p=>⟨vs,us,p.1,p.2.1,?_⟩,fun H w H' w' p wl st=>⟨SqT.go wl st p.1,SqT.go wl st p.2.1,Reps.go wl st p.2.2.1 (fun _ z=>nomatch z),Reps.go wl st p.2.2.2 (fun _ z=>nomatch z)⟩⟩
 ·have hi':i<vs.length/\i<us.length:=by simp[List.length_zip]at hi; omega
  exact⟨vs,us,vs[i]'hi'.1,us[i]'hi'.2,p.1,p.2.1,by simp[hi'.1],by simp[hi'.2]⟩
 ·obtain⟨T,v,u,rfl,hT,hv,hu,rfl⟩:=y
  obtain⟨q1,q2,r1,r2⟩:=p
  rw[List.getElem?_map]at hd
  cases hz:(ds.zip es)[i]? with
  | none=>rw[hz]at hd; cases hd
  | some de=>
   rw[hz]at hd
   cases hd
   obtain⟨e1,e2⟩:=List.getElem?_zip_eq_some.mp hz
   obtain⟨v',hv',rv⟩:=r1.get e1
   obtain⟨u',hu',ru⟩:=r2.get e2
   have ev:v'=v:=by have:=hv vs q1; rw[hv']at this; exact Option.some.inj this
   have eu:u'=u:=by have:=hu us q2; rw[hu']at this; exact Option.some.inj this
   subst ev eu
   have mo:∀ a o,H a=some o->upd H T (.tup [v',u']) a=some o:=fun a o e=>by rw[x0g (x0u e hT)]; exact e
   have st:x78 H w (upd H T (.tup [v',u'])) w:=fun a x e n=>⟨sm (mo a x e),n⟩
   exact⟨⟨mo,fun t=>t.upd rfl (.inl hT)⟩,.tup x0x (.cons (F:=[]) (G:=[]) (Rep.go0 rv wl st) (.cons (F:=[]) (G:=[]) (Rep.go0 ru wl st) .nil (fun _ z=>nomatch z)) (fun _ z=>nomatch z)),SqT.go wl st q1,SqT.go wl st q2,r1.go0 wl st,r2.go0 wl st⟩
 ·simp[List.length_zip]; omega
theorem z6i (hm:X.mg "zip" = none) (ha:PDA X [a,b] g) (hg:Gl X "zip":=by rfl) (hs:starEach [a,b] X.env=[(false,eval a X.env),(false,eval b X.env)]:=by rfl) (hs2:starEach [b] X.env=[(false,eval b X.env)]:=by rfl) :
  PDI X (.Tuple elts kt tp) (.Call (.Name "zip" p) [a,b] [] pos) (y5n g):=PI.imp (z9d hg hm ha hs hs2) fun σ H R hh0=>by
 obtain⟨ρ,w,t,ds,ρ',gd,ee,k⟩:=hh0
 unfold y5n at ee
 split at ee
 ·rename_i d1 d2 ρ1 h1
  split at ee
  ·rename_i hl
   cases ee
   refine⟨ρ,w,t,_,_,gd,h1,fun vs H1 w1 g1 go1 r1=>?_⟩
   obtain⟨v,v',rfl,rv,rv'⟩:=two r1
   obtain⟨p1,as,rfl,q1,s1⟩:=rv.seqT
   obtain⟨p2,bs,rfl,q2,s2⟩:=rv'.seqT
   refine⟨p1,p2,rfl,⟨_,q1⟩,⟨_,q2⟩,k _ _ H1 w1 g1 go1 (It.zip s1.length s2.length) ⟨q1,q2,s1,s2⟩ (x42 ?_)⟩
   simp[List.length_zip]; omega
  ·cases ee
 ·cases ee
end
noncomputable abbrev x9c:=List D->Rho->Option Rho
noncomputable def j39 (K:PySem.W.Frag) (b:Nat) (pt:x9c):TGs:=fun vs σ H Q=>∃ ds ρ w t ρ',Good K ρ σ H w t/\Reps K H w .f 0 ds vs []/\pt ds ρ=some ρ'/\∀ σ' H' w',σ'.length=σ.length->(∀ i,i<b->σ'[i]? = σ[i]?)->Good K ρ' σ' H' w' t->Go H w H' w'->Q σ' H'
theorem PGs.imp {X:Cx} {tg:List Expr} {t t':TGs} (h:PGs X tg t) (i:∀ v σ H Q,t' v σ H Q->t v σ H Q):PGs X tg t':=fun pins s σ H v u Q I r q=>h pins s σ H v u Q I r (i v σ H Q q)
noncomputable abbrev z8t (X:Cx) (b:Nat) (tg:List Expr) (pt:x9c):Prop:=PGs X tg (j39 X.K b pt)
@[simp] noncomputable def x3p:x9c:=fun ds ρ=>match ds with
 | []=>some ρ
 | _=>none
@[simp] noncomputable def x0s (pt:x5p) (ps:x9c):x9c:=fun ds ρ=>match ds with
 | []=>none
 | d::r=>match pt d ρ with
  | some ρ1=>ps r ρ1
  | none=>none
@[simp] noncomputable def x9m (ps:x9c):x5p:=fun d ρ=>match d with
 | .tup ds=>ps ds ρ
 | _=>none
section
variable {X:Cx} {k b:Nat} {e:Expr} {es:List Expr} {pt:x5p} {ps:x9c} {pos:Pos}
theorem z0i:z8t X b [] x3p:=PGs.imp z4d fun v σ H Q hh0=>by
 obtain⟨ds,ρ,w,t,ρ',g,r,e,k⟩:=hh0
 unfold x3p at e
 split at e
 ·cases e
  generalize hF:([]:List Addr)=F at r
  cases r
  exact⟨rfl,k σ H w rfl (fun _ _=>rfl) g Go.refl⟩
 ·cases e
theorem y7z (h1:PDG X b e pt) (h2:z8t X b es ps) (hs:(assignEach (e::es) X.env).map (·.2)=assign e X.env::(assignEach es X.env).map (·.2):=by rfl):z8t X b (e::es) (x0s pt ps):=PGs.imp (z0u h1 h2 hs) fun v σ H Q hh0=>by
 obtain⟨ds,ρ,w,t,ρ',g,r,e,k⟩:=hh0
 unfold x0s at e
 split at e
 ·cases e
 ·rename_i d x2i
  split at e
  ·rename_i ρ1 h1
   generalize hF:([]:List Addr)=F at r
   cases r with
   | cons ra rb _=>
    have z1:=ra.zero
    have z2:=rb.zero
    subst z1 z2
    refine⟨_,_,rfl,d,ρ,w,t,ρ1,g,ra,h1,fun σ1 H1 w1 l1 s1 g1 go1=>⟨x2i,ρ1,w1,t,ρ',g1,rb.go0 g.wl go1.stab,e,fun σ2 H2 w2 l2 s2 g2 go2=>k σ2 H2 w2 (l2.trans l1) (fun i hi=>(s2 i hi).trans (s1 i hi)) g2 (go1.trans go2)⟩⟩
  ·cases e
theorem z57 {n:Nat} (hc:X.calm=true) (h:z8t X b es ps) (hl:∀ ds ρ ρ',ps ds ρ=some ρ'->ds.length=n) (hn:(assignEach es X.env).length=n:=by rfl) (hst:(assignEach es X.env).findIdx? (·.1)=none:=by rfl):PDG X b (.Tuple es k pos) (x9m ps):=PG.imp (z9z hc h hn hst) fun v σ H Q hh0=>by
 obtain⟨d,ρ,w,t,ρ',g,r,e,k⟩:=hh0
 unfold x9m at e
 split at e
 ·rename_i ds
  obtain⟨a,vs,rfl,hq,rs⟩:=r.seqT
  exact⟨a,vs,rfl,hq,by rw[<- rs.length]; exact hl _ _ _ e,ds,ρ,w,t,ρ',g,rs,e,k⟩
 ·cases e
theorem y2r {p q:x5p}:∀ ds ρ ρ',x0s p (x0s q x3p) ds ρ=some ρ'->ds.length=2:=fun ds ρ ρ' h=>by
 match ds with
 | []=>cases h
 | [_]=>unfold x0s at h; simp at h; split at h <;> cases h
 | [_,_]=>rfl
 | _::_::_::_=>
  exfalso
  unfold x0s at h
  simp at h
  split at h
  ·split at h <;> cases h
  ·cases h
end
theorem y4g:∀ {bs:List Bool} {us:List Value},x2h (bs.map V.bl) us->LSm.BoolsAre us bs
 | [],_,h=>by cases h; exact .nil
 | b::bs,_,h=>by
  cases h with
  | cons r rr=>
   cases r
   exact .cons b (y4g rr)
section
variable {X:Cx} {a b c e:Expr} {es:List Expr} {fa fb fc f:Den} {g:x1u} {pos p p1 p2:Pos}
theorem z0b (hc:X.calm=true):y13 X (.builtin "all") (fun xs H Q=>∃ (a:Addr) (bs:List Bool),xs=[.ref a]/\SqL X.K H a (bs.map V.bl)/\Q (.bl (bs.all id)) H):=by
 intro pins s σ H xs us Q I r h
 obtain⟨l,bs,rfl,hq,q⟩:=h
 obtain⟨u,rfl,ru⟩:=y5k r
 cases ru
 obtain⟨its,rv,pl,hz⟩:=I.list hq
 have hb:=y4g rv
 have hl:s.heap.IsList l its.toArray:=pl.isList
 have lt:l<s.heap.objs.size:=by obtain⟨_,e,_⟩:=hl; exact Heap.lt_size e
 refine call_all_walk (wpAny_pyIter_list hl ⟨s.heap.objs.size,[s.heap.objs.size,l],[s.heap.objs.size],its.toArray.size,_,_,fun i=>(bs[i]?).getD true,rfl,Walks.list (A:=X.A.in1) (I.ok.hd hc) _ l (Nat.ne_of_lt lt) its.toArray,
  ⟨⟨_,Heap.get?_push_size _ rfl,rfl,rfl⟩,hl.push _⟩,fun i v s' Q' E' hP hQ=>?_,fun h' tk hk=>?_⟩)
 ·obtain⟨b,e,rfl⟩:=hb.get i v (by simpa using hP)
  simp only[e,Option.getD_some]at hQ
  exact wpAny_truthy_bool hQ
 ·have e:((List.range its.toArray.size).all fun i=>(bs[i]?).getD true)=bs.all id:=by
   rw[List.size_toArray,hb.length]; exact LSm.range_all bs
  rw[e]
  exact⟨.bl (bs.all id),H,I.kept fun b o z=>hk b o (fun m=>by rw[List.mem_singleton.mp m]at z; exact Nat.lt_irrefl _ (Heap.lt_size z)) (Heap.get?_push_of_some _ z),rfl,q⟩
noncomputable def z3j:List D->Option (List Bool)
 | []=>some []
 | .bl b::r=>(z3j r).map (b :: ·)
 | _=>none
noncomputable def z0r:List D->Option D
 | [.lst ds]=>(z3j ds).map fun bs=>.bl (bs.all id)
 | _=>none
theorem y37 {K:PySem.W.Frag} {H:Hp} {w:Wn} {o:Ow}:∀ {ds:List D} {vs:List V} {bs:List Bool},Reps K H w o 0 ds vs []->z3j ds=some bs->vs=bs.map V.bl
 | ds,vs,bs,r,e=>by
  generalize hF:([]:List Addr)=F at r
  cases r with
  | nil=>cases e; rfl
  | @cons _ d v ds' vs' F' G' r1 r2 _=>
   have h2:G'=[]:=r2.zero
   subst h2
   cases r1 with
   | bl b=>
    unfold z3j at e
    cases e':z3j ds' with
    | none=>rw[e']at e; cases e
    | some bs'=>
     rw[e']at e
     cases e
     rw[y37 r2 e']
     rfl
   | _=>cases e
theorem z9w (hc:X.calm=true) (hm:X.mg "all" = none) (ha:PDA X [a] g) (hg:Gl X "all":=by rfl) (he:starEach [a] X.env=(false,eval a X.env)::starEach [] X.env:=by rfl) (hpl:(backTo pos (starEach [] X.env)).any (·.1)=false:=by rfl):PD X (.Call (.Name "all" p) [a] [] pos) (eB z0r g):=
 PE.imp (x67 (z0b hc) hg hm PyProof.Rows.boot_all ha (by decide) (by decide) he hpl) (y8l fun ds d h=>by
  unfold z0r at h
  split at h
  ·rename_i ds0
   cases e:z3j ds0 with
   | none=>rw[e]at h; cases h
   | some bs=>
    rw[e]at h
    cases h
    refine⟨_,rfl,fun H w vs wl r Q hq=>?_⟩
    obtain⟨v,rfl,rv⟩:=one r
    obtain⟨p,ys,rfl,hs,rs⟩:=rv.seqL0
    rw[y37 rs e]at hs
    exact⟨p,bs,rfl,hs,hq⟩
  ·cases h)
theorem y5x {α:Type} (l:List α) (f:α->Bool):z3j (l.map fun i=>.bl (f i))=some (l.map f):=by
 induction l with
 | nil=>rfl
 | cons a l ih=>rw[List.map_cons,z3j,ih]; rfl
end
inductive IT where
 | int | bool | tuple | list | str
noncomputable def IT.nm:IT->String
 | .int=>"int"
 | .bool=>"bool"
 | .tuple=>"tuple"
 | .list=>"list"
 | .str=>"str"
noncomputable def isD:IT->D->Bool
 | .int,.int _=>true
 | .int,.bl _=>true
 | .bool,.bl _=>true
 | .tuple,.tup _=>true
 | .list,.lst _=>true
 | .str,.str _=>true
 | _,_=>false
noncomputable def tyD:D->String
 | .non=>"NoneType"
 | .bl _=>"bool"
 | .int _=>"int"
 | .str _=>"str"
 | .tup _=>"tuple"
 | .dic _ _=>"dict"
 | .exc _=>"object"
 | .ob _ _ _ _=>"function"
 | .lst _=>"list"
section
variable {X:Cx} {pins:List (Addr × Obj)} {σ:St} {H:Hp} {s:Shared}
theorem z9a {w:Wn} {o:Ow} {q:Nat} {F:List Addr} {d:D} {x:V} {u c:Value} {b:Bool} {A:Around} {E:Value->Shared->Prop} {Q:Value->Shared->Prop} (I:Inv X pins σ H s) (rx:x3g x u) (r:Rep X.K H w o q d x F)
  (e:PySem.W.kitOne X.K (.type (tyD d)) c=some b) (hx:∀ nm,d ≠ .exc nm) (h:∀ tk,Q (.bool b) { s with toks:=tk }):wpAny (model X.prog X.w) A (call (.builtin "isinstance") [u,c]) Q E s:=by
 cases r with
 | exc _ _ _=>exact absurd rfl (hx _)
 | ob h1 h2 x r=>
  cases rx
  obtain⟨e1,_⟩:=(show x27 X.prog X.w H s.heap _ (.frz _ _)from I.hok _ _ h1)
  exact PySem.W.kia_one z0f I.kIn ⟨_,e1,x.1⟩ e (fun z=>nomatch z) h
 | non=>exact x3d I rx .non e h
 | bl y=>exact x3d I rx (.bl y) e h
 | int i=>exact x3d I rx (.int i) e h
 | str y=>exact x3d I rx (.str y) e h
 | tup ha _=>exact x3d I rx (.tup ha) e h
 | dic ha _=>exact x3d I rx (.dK ha) e h
 | kl ha _=>
  obtain⟨ob,its,n,hk,hc,hd,_⟩:=ha
  cases rx
  exact PySem.W.kia_one PySem.W.kitx_list I.kIn ⟨ob,I.kIn _ _ hk,hc⟩ e (fun z=>nomatch z) h
 | shr ha _ _=>
  rcases ha with ha | ⟨ob,ha⟩
  ·exact x3d I rx (.lst ha) e h
  ·exact x3d I rx (.frz ha) e h
 | own ha _ _ _=>exact x3d I rx (.lst ha) e h
theorem z6e {K:PySem.W.Frag} (T:IT) (d:D) (hx:∀ nm,d ≠ .exc nm):PySem.W.kitOne K (.type (tyD d)) (.type T.nm)=some (isD T d):=by
 cases T <;> cases d <;> first | rfl | exact absurd rfl (hx _)
end
section
variable {X:Cx} {a b c e:Expr} {es:List Expr} {fa fb fc f:Den} {ga gb:x2j} {g:x1u} {pos p p1 p2 pT:Pos}
theorem z2h (T:IT):y13 X (.builtin "isinstance") (fun xs H Q=>∃ x w o q F d,xs=[x,.ty T.nm]/\Rep X.K H w o q d x F/\Q (.bl (isD T d)) H):=by
 intro pins s σ H xs us Q I r h
 obtain⟨x,w,o,q,F,d,rfl,rd,hq⟩:=h
 obtain⟨u,v,rfl,ru,rv⟩:=z8b r
 cases rv
 by_cases hx:∃ nm,d=.exc nm
 ·obtain⟨nm,rfl⟩:=hx
  cases rd with
  | exc ha xo _=>
   obtain⟨C,hc,k⟩:=xo
   cases ru
   obtain⟨e1,_⟩:=(show x27 X.prog X.w H s.heap _ (.frz _ _)from I.hok _ _ ha)
   have hT:isD T (.exc nm)=false:=by cases T <;> rfl
   rw[hT]at hq
   refine z80 (x:=_) I.kIn ⟨e1,hc⟩ k.xc (by cases T <;> kernel_rfl) (k.no _ (by cases T <;> simp[IT.nm])) ⟨.bl false,H,I.tok _,rfl,hq⟩
 ·exact z9a I ru rd (z6e T d fun nm z=>hx ⟨nm,z⟩) (fun nm z=>hx ⟨nm,z⟩) fun tk=>⟨.bl (isD T d),H,I.tok _,rfl,hq⟩
@[simp] noncomputable def z3f (T:IT) (fa:Den):Den:=fun ρ=>match fa ρ with
 | some (d,_,ρ1)=>some (.bl (isD T d),9,ρ1)
 | none=>none
theorem z82 (T:IT) {t:Str} (hm:X.mg "isinstance" = none) (hmT:X.mg t=none) (hbT:bootBuiltins t=some (.type T.nm)) (ha:PD X a fa) (hg:Gl X "isinstance":=by rfl) (hgT:Gl X t:=by rfl) (hnT:t ≠ "__name__":=by decide) (hdT:(t == ("__debug__":Str))=false:=by decide)
  (hs:starEach [a,.Name t pT] X.env=(false,eval a X.env)::starEach [.Name t pT] X.env:=by rfl) (hpl:(backTo pos (starEach [.Name t pT] X.env)).any (·.1)=false:=by rfl):PD X (.Call (.Name "isinstance" p) [a,.Name t pT] [] pos) (z3f T fa):=
 PE.imp (x67 (z2h T) hg hm PyProof.Rows.boot_isinstance (x64 ha (x64 (z4m (v:=.ty T.nm) hgT hmT hbT rfl hnT hdT) y0s x04) hs) (by decide) (by decide) hs hpl) fun σ H Q hh0=>by
 obtain⟨ρ,w,t,r',q,ρ',gd,ee,k⟩:=hh0
 unfold z3f at ee
 split at ee
 ·rename_i d q1 ρ1 h1
  cases ee
  refine⟨ρ,w,t,_,_,_,gd,h1,fun v H1 w1 F1 g1 go1 r1=>?_⟩
  exact⟨v,w1,_,_,F1,d,rfl,r1,k _ H1 (x1n t w1) [] g1.drop.up (go1.drop gd.wt) (.bl _)⟩
 ·cases ee
@[simp] noncomputable def eCh (g1 g2:D->D->Option D) (fa fb fc:Den):Den:=fun ρ=>match fa ρ with
 | some (x,_,ρ1)=>match fb ρ1 with
  | some (y,_,ρ2)=>match g1 x y with
   | some (.bl true)=>match fc ρ2 with
    | some (z,_,ρ3)=>match g2 y z with
     | some d=>some (d,9,ρ3)
     | none=>none
    | none=>none
   | some (.bl false)=>some (.bl false,9,ρ2)
   | _=>none
  | none=>none
 | none=>none
theorem z7l {op op':CmpOp} {g1 g2:Int->Int->Option D} {h1 h2:Int->Int->V} (ho:OpR X (compareOp op) (rI0 h1)) (ho':OpR X (compareOp op') (rI0 h2)) (e1:∀ i j d,g1 i j=some d->y29 d=some (h1 i j)) (e2':∀ i j d,g2 i j=some d->y29 d=some (h2 i j))
  (ha:PD X a fa) (hb:PD X b fb) (hc:PD X c fc) (hm:lastMarks [op,op'] [b,c]=false:=by with_unfolding_all rfl):PD X (.Compare a [op,op'] [b,c] pos) (eCh (gI g1) (gI g2) fa fb fc):=PE.imp (z0e ho ho' ha hb hc hm) fun σ H Q hh0=>by
 obtain⟨ρ,w,t,r',q,ρ',gd,ee,k⟩:=hh0
 unfold eCh at ee
 split at ee
 ·rename_i x q1 ρ1 a1
  split at ee
  ·rename_i y q2 ρ2 a2
   refine z44 gd a1 a2 fun u v H2 w2 F1 F2 g2' go2 r1 r2=>?_
   have gg:=g2'.drop (t':=t)
   split at ee
   ·rename_i hg
    obtain⟨i,j,rfl,rfl,hg'⟩:=y0e hg
    refine⟨i,j,x3u r1,x3u r2,true,by have:=e1 i j _ hg'; simpa [y29]using this.symm,?_⟩
    rw[if_pos rfl]
    split at ee
    ·rename_i z q3 ρ3 a3
     refine⟨ρ2,x1n t w2,t,z,q3,ρ3,gg,a3,fun v3 H3 w3 F3 g3 go3 r3=>?_⟩
     split at ee
     ·rename_i d hd
      cases ee
      obtain⟨j',l,ej,rfl,hd'⟩:=y0e hd
      cases ej
      exact⟨j,l,x3u r2,x3u r3,z4z k gd g3 ((go2.drop gd.wt).trans go3) (y2p (e2' j l _ hd'))⟩
     ·cases ee
    ·cases ee
   ·rename_i hg
    obtain⟨i,j,rfl,rfl,hg'⟩:=y0e hg
    cases ee
    refine⟨i,j,x3u r1,x3u r2,false,by have:=e1 i j _ hg'; simpa [y29]using this.symm,?_⟩
    rw[if_neg (by decide)]
    exact z4z k gd g2' go2 (.bl false)
   ·cases ee
  ·cases ee
 ·cases ee
theorem y5e (ha:PD X a fa) (hb:PD X b fb) (hc:PD X c fc) (hm:lastMarks [.LtE,.Lt] [b,c]=false:=by with_unfolding_all rfl):PD X (.Compare a [.LtE,.Lt] [b,c] pos) (eCh dLe dLt fa fb fc):=
 z7l j1o z8j (fun i j d h=>by cases h; rfl) (fun i j d h=>by cases h; rfl) ha hb hc hm
noncomputable def dIs:D->D->Option D
 | .bl x,.bl y=>some (.bl (x == y))
 | _,_=>none
noncomputable def x7h:D->D->Option D
 | .bl x,.bl y=>some (.bl (!(x == y)))
 | _,_=>none
theorem z7v:OpR X (compareOp .Is) (fun x y H Q=>∃ i j,x=.bl i/\y=.bl j/\Q (.bl (i == j)) H):=by
 intro pins s σ H x y v u Q I rx ry h
 obtain⟨i,j,rfl,rfl,q⟩:=h
 cases rx
 cases ry
 cases i <;> cases j
 ·exact wpAny_pure ⟨.bl true,H,I,rfl,q⟩
 ·exact wpAny_pure ⟨.bl false,H,I,rfl,q⟩
 ·exact wpAny_pure ⟨.bl false,H,I,rfl,q⟩
 ·exact wpAny_pure ⟨.bl true,H,I,rfl,q⟩
theorem y9r:OpR X (compareOp .IsNot) (fun x y H Q=>∃ i j,x=.bl i/\y=.bl j/\Q (.bl (!(i == j))) H):=by
 intro pins s σ H x y v u Q I rx ry h
 obtain⟨i,j,rfl,rfl,q⟩:=h
 cases rx
 cases ry
 cases i <;> cases j
 ·exact wpAny_pure ⟨.bl false,H,I,rfl,q⟩
 ·exact wpAny_pure ⟨.bl true,H,I,rfl,q⟩
 ·exact wpAny_pure ⟨.bl true,H,I,rfl,q⟩
 ·exact wpAny_pure ⟨.bl false,H,I,rfl,q⟩
theorem hIs {K:PySem.W.Frag}:∀ σ H Q,tD K (e2 dIs fa fb) σ H Q->tOp (fun x y H Q=>∃ i j,x=.bl i/\y=.bl j/\Q (.bl (i == j)) H) (tD K fa) (tD K fb) σ H Q:=x9t fun x y d h=>by
 unfold dIs at h
 split at h
 ·cases h
  exact⟨_,rfl,fun H w o o' q q' u u' F F' r1 r2 _ Q hq=>by cases r1; cases r2; exact⟨_,_,rfl,rfl,hq⟩⟩
 ·cases h
theorem z87 {K:PySem.W.Frag}:∀ σ H Q,tD K (e2 x7h fa fb) σ H Q->tOp (fun x y H Q=>∃ i j,x=.bl i/\y=.bl j/\Q (.bl (!(i == j))) H) (tD K fa) (tD K fb) σ H Q:=x9t fun x y d h=>by
 unfold x7h at h
 split at h
 ·cases h
  exact⟨_,rfl,fun H w o o' q q' u u' F F' r1 r2 _ Q hq=>by cases r1; cases r2; exact⟨_,_,rfl,rfl,hq⟩⟩
 ·cases h
theorem j1a (ha:PD X a fa) (hb:PD X b fb):PD X (.Compare a [.Is] [b] pos) (e2 dIs fa fb):=z3h z7v hIs ha hb (y0c _)
theorem y81 (ha:PD X a fa) (hb:PD X b fb):PDT X (.Compare a [.IsNot] [b] pos) (x3n (e2 x7h fa fb)):=y04 y9r z87 ha hb (y0c _)
@[simp] noncomputable def y6l (fa:Den):Den:=fun ρ=>match fa ρ with
 | some (.int i,_,ρ1)=>some (.int (-i),9,ρ1)
 | _=>none
theorem j0l (ha:PD X a fa):PD X (.UnaryOp .USub a pos) (y6l fa):=PE.imp (j1l z99 ha) fun σ H Q hh0=>by
 obtain⟨ρ,w,t,r',q,ρ',gd,ee,k⟩:=hh0
 unfold y6l at ee
 split at ee
 ·rename_i i q1 ρ1 h1
  cases ee
  refine⟨ρ,w,t,_,_,_,gd,h1,fun v H1 w1 F1 g1 go1 r1=>?_⟩
  exact⟨i,x3u r1,k _ H1 (x1n t w1) [] g1.drop.up (go1.drop gd.wt) (.int _)⟩
 ·cases ee
section
variable {prog:Program} {w:World} {A:Around} {E:Value->Shared->Prop} {s:Shared}
theorem z0m (l b:Addr) (us vs:Array Value) (n m:Nat) (d1 d2:Option Addr) (s1 s2:Array (Option Value)) (h0:us.isEmpty=true) :
  Meets (Builtin.«tuple.__add__» ⟨[.ref l,.ref b],[]⟩) (fun _ R s=>s.heap.get? l=some { cls:=.type "tuple",dict:=d1,data:=.seq us n,slots:=s1 }/\s.heap.get? b=some { cls:=.type "tuple",dict:=d2,data:=.seq vs m,slots:=s2 }/\R (.ok (.ret (.ref b))) s):=
 .of_wp fun prog w A R s h=>by
  obtain⟨hp,g,d,tk,os⟩:=s
  obtain⟨hl,hb,h⟩:=h
  have f2:=AutoSeq1.sub_tuple_tuple
  wp_walk using wpAny_loadPart' hl,wpAny_loadPart' hb
  exact⟨_,rfl,h⟩
theorem y9b {t b:Addr} {ws:List Value} {Q:Value->Shared->Prop} (ht:IsTup s.heap t #[]) (hb:IsTup s.heap b ws.toArray) (h:Q (.ref b) s):wpAny (model prog w) A (binaryOp .Add (.ref t) (.ref b)) Q E s:=by
 obtain⟨⟨c1,d1,a1,s1⟩,e1,hc1,n1,ha1⟩:=id ht
 obtain⟨⟨c2,d2,a2,s2⟩,e2,hc2,n2,ha2⟩:=id hb
 simp only at hc1 ha1 hc2 ha2
 subst hc1 ha1 hc2 ha2
 exact concat_meets ⟨_,e1,rfl⟩ ⟨_,e2,rfl⟩ noFill_tuple_add seq_tuple_add PySem.F.slot_tuple_add PySem.F.entry_tuple_add (PySem.F.args_tuple_add_2 _ _) (z0m t b #[] ws.toArray n1 n2 d1 d2 s1 s2 rfl) ⟨e1,e2,h⟩
end
theorem z5o:OpR X (binaryOp .Add) (fun x y H Q=>∃ a b ys,x=.ref a/\y=.ref b/\SqT X.K H a []/\SqT X.K H b ys/\Q (.ref b) H):=by
 intro pins s σ H x y v u Q I rx ry h
 obtain⟨a,b,ys,rfl,rfl,ha,hb,q⟩:=h
 cases rx
 cases ry
 obtain⟨its,r1,p1,_⟩:=I.tuple ha
 obtain⟨its2,r2,p2,_⟩:=I.tuple hb
 cases r1
 exact y9b p1 p2 ⟨.ref b,H,I,rfl,q⟩
theorem OpR.or {f:Value->Value->Sem Value} {r r':R2} (h:OpR X f r) (h':OpR X f r'):OpR X f (fun x y H Q=>r x y H Q\/r' x y H Q):=fun pins s σ H x y v u Q I rx ry q=>q.elim (fun z=>h pins s σ H x y v u Q I rx ry z) fun z=>h' pins s σ H x y v u Q I rx ry z
@[simp] noncomputable def z3a (fa fb:Den):Den:=fun ρ=>match fa ρ with
 | some (.tup ds,_,ρ1)=>match fb ρ1 with
  | some (.tup es,_,ρ2)=>if ds.length+es.length<=1000 then some (.tup (ds++es),9,ρ2)else none
  | _=>none
 | _=>none
theorem z91 (ha:PD X a fa) (hb:PD X b fb):PD X (.BinOp a .Add b pos) (z3a fa fb):=PE.imp (y3e (OpR.or z5o z5f) ha hb) fun σ H Q hh0=>by
 obtain⟨ρ,w,t,r',q,ρ',gd,ee,k⟩:=hh0
 unfold z3a at ee
 split at ee
 ·rename_i ds q1 ρ1 h1
  split at ee
  ·rename_i es q2 ρ2 h2
   split at ee
   ·rename_i hl
    cases ee
    refine z44 gd h1 h2 fun u u' H2 w2 F1 F2 g2 go r1 r2=>?_
    have r10:=r1.drop (o:=.f) (Nat.le_refl t)
    have r20:=r2.drop (o:=.f) (Nat.le_succ t)
    have gg:=g2.drop (t':=t)
    have gog:=go.drop gd.wt
    obtain⟨p1,vs,rfl,q1',s1⟩:=r10.seqT
    obtain⟨p2,us,rfl,q2',s2⟩:=r20.seqT
    have l1:=s1.length
    have l2:=s2.length
    cases ds with
    | nil=>
     have:vs=[]:=List.length_eq_zero_iff.mp (by rw[<- l1]; rfl)
     subst this
     refine .inl ⟨p1,p2,us,rfl,rfl,q1',q2',k _ H2 (x1n t w2) [] gg.up gog ?_⟩
     exact(Rep.go gg.wl (fun a x e n=>⟨sm e,n⟩) r20 (fun _ z=>nomatch z):Rep X.K H2 (x1n t w2) (.t t) 0 _ _ []).nolist rfl |>.2 9
    | cons d ds=>
     refine .inr ⟨p1,p2,vs,us,rfl,rfl,q1',q2',(fun z=>by rw[z]at l1; cases l1),y09 (by rw[<- l1,<- l2]; exact hl),fun z=>?_,fun _ p hp=>?_⟩
     ·have:es=[]:=List.length_eq_zero_iff.mp (by rw[l2,z]; rfl)
      subst this
      rw[List.append_nil]at k
      exact k _ H2 (x1n t w2) [] gg.up gog ((Rep.go gg.wl (fun a x e n=>⟨sm e,n⟩) r10 (fun _ z=>nomatch z):Rep X.K H2 (x1n t w2) (.t t) 0 _ _ []).nolist rfl |>.2 9)
     ·obtain⟨a1,a2,a3⟩:=y1u gg hp (s2.app s1)
      exact k _ _ _ _ a1 (gog.trans a2) a3
   ·cases ee
  ·cases ee
 ·cases ee
noncomputable abbrev z3l:=Rho->Option (Option Int × Rho)
noncomputable def tDO (K:PySem.W.Frag) (f:z3l):TO:=fun σ H Q=>∃ ρ w t o ρ',Good K ρ σ H w t/\f ρ=some (o,ρ')/\∀ H' w',Good K ρ' σ H' w' t->Go H w H' w'->Q o H'
noncomputable abbrev PDO (X:Cx) (e:Option Expr) (f:z3l):Prop:=PO X e (tDO X.K f)
@[simp] noncomputable def x8k:z3l:=fun ρ=>some (none,ρ)
@[simp] noncomputable def x7u (f:Den):z3l:=fun ρ=>match f ρ with
 | some (.int i,_,ρ1)=>some (some i,ρ1)
 | _=>none
theorem PO.imp {e:Option Expr} {t t':TO} (h:PO X e t) (i:∀ σ H Q,t' σ H Q->t σ H Q):PO X e t':=fun pins s σ H Q I q=>h pins s σ H Q I (i σ H Q q)
theorem z1j:PDO X none x8k:=PO.imp z3y fun σ H Q hh0=>by
 obtain⟨ρ,w,t,o,ρ',gd,ee,k⟩:=hh0
 cases ee
 exact k H w gd Go.refl
theorem z29 (h:PD X e f):PDO X (some e) (x7u f):=PO.imp (z6h h) fun σ H Q hh0=>by
 obtain⟨ρ,w,t,o,ρ',gd,ee,k⟩:=hh0
 unfold x7u at ee
 split at ee
 ·rename_i i q1 ρ1 h1
  cases ee
  exact⟨ρ,w,t,_,_,_,gd,h1,fun v H1 w1 F1 g1 go1 r1=>⟨i,x3u r1,k H1 (x1n t w1) g1.drop (go1.drop gd.wt)⟩⟩
 ·cases ee
section
variable {prog:Program} {w:World} {A:Around} {E:Value->Shared->Prop} {s:Shared}
theorem y7b {t sl:Addr} {us:Array Value} {vl vu:Value} {lo hi:Option Int} {Q:Value->Shared->Prop} (ht:IsTup s.heap t us) (hs:s.heap.IsSliceOf sl vl vu .none) (pl:IsPart vl lo) (pu:IsPart vu hi)
  (hw:HT.sIx us.size 0 lo=0/\HT.sIx us.size us.size hi=us.size) (h:Q (.ref t) s):wpAny (model prog w) A (getItem (.ref t) (.ref sl)) Q E s:=by
 obtain⟨os,hos,hcs,hds⟩:=id hs
 have ts:s.TypeIs (.ref sl) "slice":=⟨os,hos,hcs⟩
 unfold getItem
 try with_reducible refine wpAny_holding ?_
 first | refine wpAny_bind (wpAny_pure ?_) | skip
 refine wpAny_bind (wpAny_sequenceKey ht.typeIs (by decide) (wpAny_bind (wpAny_callSpecial?_slot (name:=Str.ofString "__getitem__") ht.typeIs PyProof.Rows.slot_tuple_getitem (wpAny_call_entry PyProof.Rows.slot_tuple_getitem ht.typeIs entry_tuple_getitem ?_ (args_tuple_getitem _ _)))))
 show wpAny _ _ (Builtin.Tuple.tupleItemsOf (.ref t) >>= _) _ _ s
 refine wpAny_bind (tupleItemsOf_ ht (wpAny_bind (wpAny_typeOf ts ?_)))
 rw[if_pos (by decide)]
 refine wpAny_bind (HT.x9f hs pl pu ?_)
 have yes:(((HT.sIx us.size 0 lo:Nat):Int) == 0 && (1:Int) == 1 && (HT.sIx us.size us.size hi-HT.sIx us.size 0 lo) == us.size)=true:=by rw[hw.1,hw.2]; simp
 show wpAny _ _ (if(((HT.sIx us.size 0 lo:Nat):Int) == 0 && (1:Int) == 1 && (HT.sIx us.size us.size hi-HT.sIx us.size 0 lo) == us.size)=true then _ else _) _ _ s
 rw[if_pos yes]
 refine wpAny_bind (m:=Builtin.Tuple.tupleIsExact _) ?_
 unfold Builtin.Tuple.tupleIsExact
 refine wpAny_bind (wpAny_typeOf ht.typeIs (wpAny_pure ?_))
 rw[if_pos (by decide)]
 exact wpAny_bind (wpAny_rule (wpAny_pure ⟨_,rfl,wpAny_pure h⟩))
end
noncomputable def z8u (xs:List D) (lo hi:Option Int):List D:=(xs.drop (HT.sIx xs.length 0 lo)).take (HT.sIx xs.length xs.length hi-HT.sIx xs.length 0 lo)
@[simp] noncomputable def eSl (fa:Den) (fl fh:z3l):Den:=fun ρ=>match fa ρ with
 | some (.tup ds,_,ρ1)=>match fl ρ1 with
  | some (lo,ρ2)=>match fh ρ2 with
   | some (hi,ρ3)=>some (.tup (z8u ds lo hi),9,ρ3)
   | none=>none
  | none=>none
 | _=>none
theorem Reps.take0 {K:PySem.W.Frag} {H:Hp} {w:Wn}:∀ {ds:List D} {vs:List V} (i:Nat),Reps K H w .f 0 ds vs []->Reps K H w .f 0 (ds.take i) (vs.take i) []
 | _,_,0,_=>by rw[List.take_zero,List.take_zero]; exact .nil
 | ds,vs,i+1,r=>by
  generalize hF:([]:List Addr)=F at r
  cases r with
  | nil=>exact .nil
  | cons r s _=>
   have h2:=s.zero
   have h1:=r.zero
   subst h2
   subst h1
   exact .cons (F:=[]) (G:=[]) r (Reps.take0 i s) (fun _ z=>nomatch z)
theorem z0p:SlR X (fun x lo hi H Q=>∃ a xs,x=.ref a/\SqT X.K H a xs/\(HT.sIx xs.length 0 lo=0/\HT.sIx xs.length xs.length hi=xs.length)/\Q (.ref a) H):=by
 intro pins s σ H x v vl vu lo hi sl Q I rx hs pl pu h
 obtain⟨a,xs,rfl,hx,hw,q⟩:=h
 cases rx
 obtain⟨its,r,ht,hz⟩:=I.tuple hx
 have hlen:its.toArray.size=xs.length:=by rw[List.size_toArray]; exact r.length.symm
 exact⟨"tuple",_,PyProof.Rows.slot_tuple_getitem.lookup,ht.typeIs,y7b ht hs pl pu (by rw[hlen]; exact hw) ⟨.ref a,H,I,rfl,q⟩⟩
theorem j10 {lo hi:Option Expr} {fl fh:z3l} (ha:PD X a fa) (hl:PDO X lo fl) (hh:PDO X hi fh):PD X (.Subscript a (.Slice lo hi none p2) pos) (eSl fa fl fh):=PE.imp (z23 (z0p.or j00) ha hl hh) fun σ H Q hh0=>by
 obtain⟨ρ,w,t,r',q,ρ',gd,ee,k⟩:=hh0
 unfold eSl at ee
 split at ee
 ·rename_i ds q1 ρ1 h1
  split at ee
  ·rename_i lo ρ2 h2
   split at ee
   ·rename_i hi ρ3 h3
    cases ee
    refine⟨ρ,w,t,_,_,_,gd,h1,fun v H1 w1 F1 g1 go1 r1=>?_⟩
    have gg1:=g1.drop (t':=t)
    have r0:=r1.drop (o:=.f) (Nat.le_refl t)
    refine⟨ρ1,x1n t w1,t,_,_,gg1,h2,fun H2 w2 g2 go2=>⟨ρ2,w2,t,_,_,g2,h3,fun H3 w3 g3 go3=>?_⟩⟩
    have r3:=(r0.go0 gg1.wl go2.stab).go0 g2.wl go3.stab
    obtain⟨p1,vs,rfl,q1',s1⟩:=r3.seqT
    have l1:=s1.length
    by_cases hw:HT.sIx ds.length 0 lo=0/\HT.sIx ds.length ds.length hi=ds.length
    ·have ec:z8u ds lo hi=ds:=by unfold z8u; rw[hw.1,hw.2,List.drop_zero,Nat.sub_zero,List.take_length]
     rw[ec]at k
     refine .inl ⟨p1,vs,rfl,q1',by rw[<- l1]; exact hw,?_⟩
     exact k _ H3 w3 [] g3.up (((go1.drop gd.wt).trans go2).trans go3) ((Rep.go g3.wl (fun a x e n=>⟨sm e,n⟩) r3 (fun _ z=>nomatch z):Rep X.K H3 w3 (.t t) 0 _ _ []).nolist rfl |>.2 9)
    ·refine .inr ⟨p1,vs,rfl,q1',by rw[<- l1]; exact hw,fun p hp=>?_⟩
     have s4:Reps X.K H3 w3 .f 0 (z8u ds lo hi) (z32 vs lo hi) []:=by
      unfold z8u z32
      rw[<- l1]
      exact(s1.drop0 _).take0 _
     obtain⟨a1,a2,a3⟩:=y1u g3 hp s4
     exact k _ _ _ _ a1 ((((go1.drop gd.wt).trans go2).trans go3).trans a2) a3
   ·cases ee
  ·cases ee
 ·cases ee
end
section
variable {X:Cx} {k b n:Nat} {a c e tg:Expr} {es:List Expr} {pt:x5p} {ps:x9c} {pos:Pos} {fa fb f:Den}
theorem y4t {p q r:x5p}:∀ ds ρ ρ',x0s p (x0s q (x0s r x3p)) ds ρ=some ρ'->ds.length=3:=fun ds ρ ρ' h=>by
 match ds with
 | []=>cases h
 | [_]=>unfold x0s at h; simp at h; split at h <;> cases h
 | [_,_]=>unfold x0s at h; simp at h; split at h; (split at h <;> cases h); cases h
 | [_,_,_]=>rfl
 | _::_::_::_::_=>
  exfalso
  unfold x0s at h
  simp at h
  split at h
  ·split at h
   ·split at h <;> cases h
   ·cases h
  ·cases h
end
theorem y6y:fillsNumberSlot (.type "tuple") "mul" = pure false:=PySem.fillsNumberSlot_seq (id:="tuple.__mul__") (r:=some (.builtin "tuple.__rmul__")) F.slot_tuple_mul.lookup (by decide +kernel) F.slot_tuple_rmul.lookup (by decide +kernel)
theorem y77:seqRepeat? (.type "tuple")=pure (some (.builtin "tuple.__mul__")):=by
 unfold seqRepeat?
 rw[PySem.seqSlot_of (T:="tuple") (name:="__mul__") (id:="tuple.__mul__") F.slot_tuple_mul.lookup (by decide +kernel),PySem.seqSlot_of (T:="tuple") (name:="__rmul__") (id:="tuple.__rmul__") F.slot_tuple_rmul.lookup (by decide +kernel)]; rfl
theorem y3k (a:Int) (t:Tok) (l:Addr) (us:Array Value) (n:Nat) (dd:Option Addr) (sl:Array (Option Value)) :
  Meets (Builtin.«int.__rmul__» ⟨[.int a t,.ref l],[]⟩) (fun _ R s=>s.heap.get? l=some { cls:=.type "tuple",dict:=dd,data:=.seq us n,slots:=sl }/\R (.ok (.ret Value.notImplemented)) s):=.of_wp fun prog w A R s h=>by
 obtain⟨hp,g,d,tk,os⟩:=s
 obtain⟨hl,h⟩:=h
 wp_walk
 exact⟨_,rfl,h⟩
theorem z16 (t:Tok) (l:Addr) (us:Array Value) (n:Nat) (dd:Option Addr) (sl:Array (Option Value)) :
  Meets (Builtin.«tuple.__mul__» ⟨[.ref l,.int 1 t],[]⟩) (fun _ R s=>s.heap.get? l=some { cls:=.type "tuple",dict:=dd,data:=.seq us n,slots:=sl }/\R (.ok (.ret (.ref l))) s):=.of_wp fun prog w A R s h=>by
 obtain⟨hp,g,d,tk,os⟩:=s
 obtain⟨hl,h⟩:=h
 have f1:=AutoSeq1.idx_int
 wp_walk using wpAny_loadPart' hl
 exact⟨_,rfl,h⟩
theorem z09 (k:Int) (t:Tok) (l:Addr) (us:Array Value) (n:Nat) (dd:Option Addr) (sl:Array (Option Value)) (h2:¬ (decide (k < -(2 ^ 63)) || decide (k ≥ 2 ^ 63))=true) (h3:¬ (us.isEmpty || k == 1)=true) (h4:¬ (decide (k<=0) || us.isEmpty)=true) (h5:¬ (us.size:Int)*k > (2 ^ 63-1) / 8) (h6:¬ Builtin.Tuple.tupleTooMany ((us.size:Int)*k)=true) (hsz:(List.foldl (· ++ ·) #[] (List.replicate k.toNat us)).size<=sizeLine) :
  Meets (Builtin.«tuple.__mul__» ⟨[.ref l,.int k t],[]⟩) (fun _ R s=>s.heap.get? l=some { cls:=.type "tuple",dict:=dd,data:=.seq us n,slots:=sl }/\R (.ok (.ret (.ref s.heap.objs.size))) { s with heap:=s.heap.push { cls:=.type "tuple",data:=.seq (List.foldl (· ++ ·) #[] (List.replicate k.toNat us)) } }):=.of_wp fun prog w A R s h=>by
 obtain⟨hp,g,d,tk,os⟩:=s
 obtain⟨hl,h⟩:=h
 have f1:=AutoSeq1.idx_int
 wp_walk using wpAny_loadPart' hl
 rw[if_neg h2]
 wp_walk using wpAny_loadPart' hl
 rw[if_neg h5]
 wp_walk using wpAny_loadPart' hl
 exact⟨_,rfl,h⟩
section
variable {X:Cx} {a b c e:Expr} {fa fb fc f:Den} {pos:Pos}
theorem z4r:OpR X (binaryOp .Mult) (fun x y H Q=>∃ a k xs,x=.ref a/\y=.int k/\SqT X.K H a xs/\xs ≠ []/\1<=k/\xs.length*k.toNat<=1000/\(k=1->Q (.ref a) H)/\(k≠1->∀ p,H p=none->Q (.ref p) (upd H p (.tup (List.replicate k.toNat xs).flatten)))):=by
 intro pins s σ H x y v u Q I rx ry h
 obtain⟨l,k,xs,rfl,rfl,hq,hne,h1,hz,q1,q2⟩:=h
 cases rx
 obtain⟨t,rfl⟩:=ry
 obtain⟨its,r,pt,_⟩:=I.tuple hq
 obtain⟨⟨c1,d1,a1,s1⟩,e,hc1,n1,ha1⟩:=id pt
 simp only at hc1 ha1
 subst hc1 ha1
 have hl:=r.length
 have hpos:0<its.length:=by rw[<- hl]; exact List.length_pos_iff.mpr hne
 refine wpAny_binaryOp_repeat_ref (T:="tuple") (U:="int") (by decide) ⟨_,e,rfl⟩ (fun s'=>typeIs_int s' k t) y6y F.fills_int_mul F.slot_int_rmul y77 F.slot_int_index.lookup
  (call_meets F.slot_int_rmul (typeIs_int s k t) F.entry_int_rmul (F.args_int_rmul_2 _ _) (y3k k t l its.toArray n1 d1 s1) ⟨e,rfl,⟨_,e,rfl⟩,?_⟩)
 by_cases hk:k=1
 ·subst hk
  exact call_meets F.slot_tuple_mul ⟨_,e,rfl⟩ F.entry_tuple_mul (F.args_tuple_mul_2 _ _) (z16 t l its.toArray n1 d1 s1) ⟨e,⟨.ref l,H,I,rfl,q1 rfl⟩⟩
 ·have hm:its.length*k.toNat<=1000:=by rw[<- hl]; exact hz
  have hk':k.toNat<=1000:=by
   have:=Nat.le_mul_of_pos_left k.toNat hpos
   omega
  have f0:List.foldl (fun x1 x2=>x1++x2) #[] (List.replicate k.toNat its.toArray)=(List.replicate k.toNat its).flatten.toArray:=by
   have:=y06 its k.toNat []
   rw[List.nil_append]at this
   exact this
  have lf:(List.replicate k.toNat its).flatten.length<=1000:=by rw[y4m,Nat.mul_comm]; exact hm
  have em:((its.toArray.size:Nat):Int)*k=((its.length*k.toNat:Nat):Int):=by
   rw[List.size_toArray,Int.natCast_mul,Int.toNat_of_nonneg (by omega)]
  refine call_meets F.slot_tuple_mul ⟨_,e,rfl⟩ F.entry_tuple_mul (F.args_tuple_mul_2 _ _) (z09 k t l its.toArray n1 d1 s1 (by simp; omega) (by simp[hk]; exact List.ne_nil_of_length_pos hpos) (by simp; exact⟨by omega,List.ne_nil_of_length_pos hpos⟩) (by rw[em]; omega) (by
   unfold Builtin.Tuple.tupleTooMany
   rw[em]
   simp only[gt_iff_lt,decide_eq_true_eq,Int.not_lt]
   have:(1000:Nat)<=sizeLine:=by decide
   omega) (by rw[f0,List.size_toArray]; exact y09 lf)) ⟨e,?_⟩
  rw[f0]
  refine⟨.ref s.heap.objs.size,_,I.laid (t':=s.toks) (o:=.tup (List.replicate k.toNat xs).flatten) (fun b ob q=>Heap.get?_push_of_some _ q) (Nat.le_refl _) ?_,rfl,q2 hk _ (I.hok.fresh (Nat.le_refl _))⟩
  exact⟨y09 (by rw[y4m,Nat.mul_comm]; exact hz),_,r.rep k.toNat,x4t.new _ _⟩
@[simp] noncomputable def y5q (fa fb:Den):Den:=fun ρ=>match fa ρ with
 | some (.tup ds,_,ρ1)=>match fb ρ1 with
  | some (.int n,_,ρ2)=>if ds.isEmpty=false/\1<=n/\ds.length*n.toNat<=1000 then some (.tup (List.replicate n.toNat ds).flatten,9,ρ2)else none
  | _=>none
 | _=>none
theorem z68 (ha:PD X a fa) (hb:PD X b fb):PD X (.BinOp a .Mult b pos) (y5q fa fb):=PE.imp (y3e z4r ha hb) fun σ H Q hh0=>by
 obtain⟨ρ,w,t,r',q,ρ',gd,ee,k⟩:=hh0
 unfold y5q at ee
 split at ee
 ·rename_i ds q1 ρ1 h1
  split at ee
  ·rename_i n q2 ρ2 h2
   split at ee
   ·rename_i hl
    cases ee
    obtain⟨hd,hn,hz⟩:=hl
    refine z44 gd h1 h2 fun u u' H2 w2 F1 F2 g2 go r1 r2=>?_
    have r10:=r1.drop (o:=.f) (Nat.le_refl t)
    have gg:=g2.drop (t':=t)
    have gog:=go.drop gd.wt
    obtain⟨p1,vs,rfl,q1',s1⟩:=r10.seqT
    have l1:=s1.length
    refine⟨p1,n,vs,rfl,x3u r2,q1',fun z=>?_,hn,by rw[<- l1]; exact hz,fun z=>?_,fun _ p hp=>?_⟩
    ·subst z
     have:ds=[]:=List.length_eq_zero_iff.mp l1
     subst this
     cases hd
    ·subst z
     have e:(List.replicate (Int.toNat 1) ds).flatten=ds:=by show(List.replicate 1 ds).flatten=ds; simp
     rw[e]at k
     exact k _ H2 (x1n t w2) [] gg.up gog ((Rep.go gg.wl (fun a x e n=>⟨sm e,n⟩) r10 (fun _ z=>nomatch z):Rep X.K H2 (x1n t w2) (.t t) 0 _ _ []).nolist rfl |>.2 9)
    ·obtain⟨a1,a2,a3⟩:=y1u gg hp (s1.times n.toNat)
     exact k _ _ _ _ a1 (gog.trans a2) a3
   ·cases ee
  ·cases ee
 ·cases ee
end
end L3
namespace L3
open PySem PySem.Spec PyProof.Rows L2
end L3
namespace L3
open PySem PySem.Spec PyProof.Rows L2
section
variable {X:Cx} {a b c e:Expr} {es:List Expr} {fa fb fc f:Den} {ga gb gc:x2j} {g:x1u} {qa qb:y0k} {s:x1a} {pos p p1 p2 cpos apos:Pos}
@[simp] noncomputable def y6d:x1a:=fun _=>none
theorem y7w {st:Stmt}:PDS X st y6d:=PS.imp z0d fun D σ H hh0=>by obtain⟨ρ,w,o,g,ee,k⟩:=hh0; cases ee
noncomputable def x5l (c:x2j) (b:x1a):Nat->Rho->Option Out
 | 0,_=>none
 | m+1,ρ=>match c ρ with
  | none=>none
  | some (t,ρ1)=>if t=true then match b ρ1 with
    | none=>none
    | some (.nx ρ2)=>x5l c b m ρ2
    | some (.ct ρ2)=>x5l c b m ρ2
    | some (.bk ρ2)=>some (.nx ρ2)
    | some (.rt d q)=>some (.rt d q)
   else some (.nx ρ1)
noncomputable def y4f (c:x2j) (b:x1a):x1a:=x5l c b 1000
theorem y8o {body:List Stmt} (hp:PassesOwn (model X.prog X.w) X.A X.env X.xe) (hc:PDT X c gc) (hb:y7l X body s):PDS X (.While c body [] pos) (y4f gc s):=
 PS.imp (z2e hp hc hb) fun D σ H hh0=>by
 obtain⟨ρ,w,o,g,ee,k⟩:=hh0
 refine⟨fun m σ' H'=>σ'.length=σ.length/\∃ ρ' w',Good X.K ρ' σ' H' w' 0/\x5l gc s m ρ'=some o/\y17 X.K D σ.length H' w' o,⟨1000,rfl,ρ,w,g,ee,k⟩,?_⟩
 rintro m σ' H' ⟨hσ,ρ',w',g',e',k'⟩
 cases m with
 | zero=>cases e'
 | succ m=>
  unfold x5l at e'
  split at e'
  ·cases e'
  ·rename_i t ρ1 h1
   refine⟨ρ',w',0,t,ρ1,g',h1,fun H1 w1 g1 go1=>?_⟩
   cases t with
   | true=>
    rw[if_pos rfl]at e' ⊢
    refine⟨fun σ2 H2=>σ2.length=σ.length/\∃ ρ2 w2,Good X.K ρ2 σ2 H2 w2 0/\x5l gc s m ρ2=some o/\y17 X.K D σ.length H2 w2 o,fun σ2 H2 n2=>⟨m,Nat.lt_succ_self m,n2⟩,?_⟩
    have nx:∀ {ρ5:Rho},x5l gc s m ρ5=some o->∀ σ5 H5 w5,σ5.length=σ'.length->Good X.K ρ5 σ5 H5 w5 0->Go H1 w1 H5 w5->σ5.length=σ.length/\∃ ρ2 w2,Good X.K ρ2 σ5 H5 w2 0/\x5l gc s m ρ2=some o/\y17 X.K D σ.length H5 w2 o:=fun {ρ5} e5 σ5 H5 w5 l5 g5 go5=>⟨by rw[l5,hσ],ρ5,w5,g5,e5,k'.trans (go1.trans go5)⟩
    cases h6:s ρ1 with
    | none=>rw[h6]at e'; cases e'
    | some o6=>
     rw[h6]at e'
     refine⟨ρ1,w1,o6,g1,h6,?_⟩
     cases o6 with
     | nx ρ5=>exact nx e'
     | ct ρ5=>exact nx e'
     | bk ρ5=>
      cases e'
      exact fun σ5 H5 w5 l5 g5 go5=>k' σ5 H5 w5 (by rw[l5,hσ]) g5 (go1.trans go5)
     | rt d q=>
      cases e'
      exact fun v H5 w5 F wl5 go5 r5=>k' v H5 w5 F wl5 (go1.trans go5) r5
   | false=>
    rw[if_neg (by decide)]at e' ⊢
    cases e'
    exact k' σ' H1 w1 hσ g1 go1
@[simp] noncomputable def y2u (n:Nat) (qi:y0k) (fe:Den):x1a:=fun ρ=>match fe ρ with
 | some (d,_,ρ1)=>match qi ρ1,ρ1[n]? with
  | some i,some (some (.lst ds,1))=>match ixN ds.length i with
   | some m=>some (.nx (ρ1.set n (some (.lst (ds.set m d),1))))
   | none=>none
  | _,_=>none
 | none=>none
theorem z2z {n:Nat} {x:Str} (h:PE X (.Name x p1) (x74 n)) (ha:PQ X a qa) (he:PD X e f)
  (hasg:∀ v,assign (.Subscript (.Name x p1) a p) X.env v=(do
    let ov <- holding [v] (eval (.Name x p1) X.env)
    let iv <- holding [v,ov] (eval a X.env)
    standAt p
    holding [v,ov,iv] (setItem ov iv v)
    release [v,ov,iv] []):=by exact fun _=>rfl)
  (hs:swapsWithSole [.Subscript (.Name x p1) a p] e pos.line X.env=pure false:=by rfl) :
  PDS X (.Assign [.Subscript (.Name x p1) a p] e pos) (y2u n qa f):=by
 refine PS.imp (z3o he (z3e h ha y6f hasg) hs) fun D σ H ⟨ρ,w,o,gd,ee,k⟩=>?_
 unfold y2u at ee
 split at ee
 ·rename_i d q0 ρ1 h1
  split at ee
  ·rename_i i ds hi er
   split at ee
   ·rename_i m hm
    cases ee
    refine⟨ρ,w,0,d,q0,ρ1,gd,h1,fun v H1 w1 F1 g1 go1 r1=>?_⟩
    have rv:=r1.drop (o:=.f) (Nat.le_refl 0)
    have gg:=g1.drop (t':=0)
    obtain⟨l,vs,m1,m2,m3,mk⟩:=gg.mut er
    refine⟨_,m1,ρ1,x1n 0 w1,0,i,gg,hi,l,vs,i,m,rfl,rfl,m2,?_,?_⟩
    ·rw[<- m3.length]; exact hm
    ·obtain⟨n1,n2⟩:=mk _ _ (m3.set0 rv m)
     exact k _ _ _ rfl n1 ((go1.drop gd.wt).trans n2)
   ·cases ee
  ·cases ee
 ·cases ee
noncomputable def j13 (K:PySem.W.Frag):R2:=fun x y H Q=>∃ l b xs zs,x=.ref l/\y=.ref b/\SqL K H l xs/\SqL K H b zs/\xs.length+zs.length<=sizeLine/\∀ p,H p=none->Q (.ref p) (upd H p (.lst (xs++zs)))
theorem z5s:OpR X (binaryOp .Add) (j13 X.K):=by
 intro pins s σ H x y v u Q I rx ry h
 obtain⟨l,b,xs,zs,rfl,rfl,hH,hB,hz,q⟩:=h
 cases rx
 cases ry
 obtain⟨its,r,pl,z⟩:=I.list hH
 obtain⟨its2,r2,pl2,z2⟩:=I.list hB
 obtain⟨⟨cls,dd,data,sl⟩,n,ho,hc,_,hd⟩:=pl
 obtain⟨⟨cls2,dd2,data2,sl2⟩,n2,ho2,hc2,_,hd2⟩:=pl2
 simp only at hc hd hc2 hd2
 subst hc hd hc2 hd2
 have l1:=r.length
 have l2:=r2.length
 refine concat_meets ⟨_,ho,rfl⟩ ⟨_,ho2,rfl⟩ noFill_list_add seq_list_add PySem.F.slot_list_add PySem.F.entry_list_add (PySem.F.args_list_add_2 _ _) (list_addW l b its.toArray its2.toArray n n2 dd dd2 sl sl2 (by rw[List.size_toArray,List.size_toArray,<- l1,<- l2]; exact hz)) ⟨ho,ho2,?_⟩
 have e:its.toArray++its2.toArray=(its++its2).toArray:=by simp
 rw[e]
 exact⟨.ref _,_,I.lnew (t':=s.toks) (r.append r2) (by rw[List.length_append]; omega),rfl,q _ I.fresh⟩
@[simp] noncomputable def y9t (fa fb:Den):Den:=fun ρ=>match fa ρ with
 | some (.lst ds,_,ρ1)=>match fb ρ1 with
  | some (.lst es,_,ρ2)=>if ds.length+es.length<=1000 then some (.lst (ds++es),1,ρ2)else none
  | _=>none
 | _=>none
theorem z4n (ha:PD X a fa) (hb:PD X b fb):PD X (.BinOp a .Add b pos) (y9t fa fb):=PE.imp (y3e z5s ha hb) fun σ H Q hh0=>by
 obtain⟨ρ,w,t,r',q,ρ',gd,ee,k⟩:=hh0
 unfold y9t at ee
 split at ee
 ·rename_i ds q1 ρ1 h1
  split at ee
  ·rename_i es q2 ρ2 h2
   split at ee
   ·rename_i hl
    cases ee
    refine z44 gd h1 h2 fun u u' H2 w2 F1 F2 g2 go r1 r2=>?_
    have r10:=r1.drop (o:=.f) (Nat.le_refl t)
    have r20:=r2.drop (o:=.f) (Nat.le_succ t)
    have gg:=g2.drop (t':=t)
    have gog:=go.drop gd.wt
    obtain⟨p1,vs,rfl,q1',s1⟩:=r10.seqL0
    obtain⟨p2,us,rfl,q2',s2⟩:=r20.seqL0
    refine⟨p1,p2,vs,us,rfl,rfl,q1',q2',y09 (by rw[<- s1.length,<- s2.length]; exact hl),fun p hp=>?_⟩
    obtain⟨a1,a2,a3⟩:=y3i gg hp (s2.app s1)
    exact k _ _ _ _ a1 (gog.trans a2) a3
   ·cases ee
  ·cases ee
 ·cases ee
end
section
variable {X:Cx} {a b c e:Expr} {es:List Expr} {fa fb fc f:Den} {ga gb gc:x2j} {g:x1u} {qa qb:y0k} {s:x1a} {pos p p1 p2 p3 cpos apos:Pos}
@[simp] noncomputable def x84 (n:Nat) (c:Int):y0k:=fun ρ=>match ρ[n]? with
 | some (some (.tup es,_))=>match L2.atI es c with
  | some d=>match x79 d with
   | some m=>some (Int.ofNat m)
   | none=>none
  | none=>none
 | _=>none
theorem z1i {n j:Nat} {c:Int} {x:Str} (hm:X.mg "len" = none) (h:PE X (.Name x p1) (x74 n)) (hg:Gl X "len":=by rfl) (hs:x49 (.Constant (.int c) j p2):=by exact fun _ _=>rfl)
  (he:starEach [.Subscript (.Name x p1) (.Constant (.int c) j p2) p3] X.env=(false,eval (.Subscript (.Name x p1) (.Constant (.int c) j p2) p3) X.env)::starEach [] X.env:=by rfl) (hpl:(backTo pos (starEach [] X.env)).any (·.1)=false:=by rfl) :
  PQ X (.Call (.Name "len" p) [.Subscript (.Name x p1) (.Constant (.int c) j p2) p3] [] pos) (x84 n c):=
 PE.imp (x67 x5v hg hm PySem.boot_len (x64 (y9a y4j h z31 hs) y0s he) (by decide) (by decide) he hpl) fun σ H Q hh0=>by
 obtain⟨ρ,w,t,i,gd,ee,k⟩:=hh0
 unfold x84 at ee
 split at ee
 ·rename_i es q e0
  split at ee
  ·rename_i d hd
   split at ee
   ·rename_i m hm'
    cases ee
    obtain⟨v,F,h1,h2⟩:=gd.slot n _ _ e0
    obtain⟨p0,vs,rfl,hq,rs⟩:=h2.seqT
    obtain⟨u,hu,ru⟩:=rs.atI hd
    obtain⟨p',ys,rfl,hs',hl⟩:=ru.len hm'
    exact⟨_,h1,.inr (.inl ⟨p0,vs,c,_,rfl,rfl,hq,hu,p',ys,rfl,hs',by rw[hl]; exact k⟩)⟩
   ·cases ee
  ·cases ee
 ·cases ee
@[simp] noncomputable def y79 (k l:Str) (qa qb:y0k):Den:=fun ρ=>match qa ρ,qb ρ with
 | some i,some j=>some (.dic [k,l] [.int i,.int j],9,ρ)
 | _,_=>none
theorem z9f {K:PySem.W.Frag} {ρ:Rho} {σ:St} {t:Nat} {H1:Hp} {p:Addr} {ks:List Str} {vs:List V} {ds:List D} {w1:Wn} (g:Good K ρ σ H1 w1 t) (hp:H1 p=none) (r:Reps K H1 w1 .f 0 ds vs []) :
  Good K ρ σ (upd H1 p (.dK (kvL ks vs))) w1 (t+1)/\Go H1 w1 (upd H1 p (.dK (kvL ks vs))) w1/\Rep K (upd H1 p (.dK (kvL ks vs))) w1 (.t t) 9 (.dic ks ds) (.ref p) []:=by
 have ne:∀ a x,H1 a=some x->a≠p:=fun a x e=>x0u e hp
 have nw:∀ a o,w1 a=some o->a≠p:=fun a o e=>by obtain⟨vs,q⟩:=g.wl a o e; exact ne a _ q
 have st:x78 H1 w1 (upd H1 p (.dK (kvL ks vs))) w1:=fun a x e n=>⟨sm (by rw[x0g (ne a x e)]; exact e),n⟩
 refine⟨⟨⟨fun a o e=>?_,g.wl.tb.upd rfl (.inl hp)⟩,g.ws,fun a i e=>Nat.lt_succ_of_lt (g.wt a i e),g.len,fun i d q e=>?_⟩,⟨st,fun a o e _=>⟨x0g (nw a o e),e⟩⟩,?_⟩
 ·obtain⟨us,q⟩:=g.wl a o e
  exact⟨us,by rw[x0g (nw a o e)]; exact q⟩
 ·obtain⟨v,F,h1,h2⟩:=g.slot i d q e
  exact⟨v,F,h1,Rep.go g.wl st h2 fun a m=>⟨x0g (nw a _ (h2.owns a m)),h2.owns a m⟩⟩
 ·exact .dic x0x (Reps.go g.wl st r (fun _ z=>nomatch z))
theorem z6n {k l:Str} {j1 j2:Nat} (hkl:k≠l) (ha:PQ X a qa) (hb:PQ X b qb) :
  PD X (.Dict [some (.Constant (.str k) j1 p1),some (.Constant (.str l) j2 p2)] [a,b] pos) (y79 k l qa qb):=
 PE.imp (z5y (y6g y7s ha (y6g y7s hb z49)) rfl rfl (by simp) (by show 2<=15; decide)) fun σ H Q hh0=>by
 obtain⟨ρ,w,t,r',q,ρ',gd,ee,kk⟩:=hh0
 unfold y79 at ee
 split at ee
 ·rename_i i j hi hj
  cases ee
  intro p0 hp
  have ne:∀ a x,H a=some x->upd H p0 (.dK []) a=some x:=fun a x e=>by rw[x0g (x0u e hp)]; exact e
  obtain⟨g1,go1⟩:=gd.more ⟨ne,fun t=>t.upd rfl (.inl hp)⟩
  refine⟨ρ,w,t,i,g1,hi,ρ,w,t,j,g1,hj,x0x,[(.inr k,.int i),(.inr l,.int j)],rfl,by show 2<=15; decide,?_⟩
  have e:y0g [] [((.inr k:Key),V.int i),(.inr l,.int j)]=kvL [k,l] [.int i,.int j]:=by
   have hkl':¬ ((Sum.inr k:Key)=.inr l):=fun z=>hkl (Sum.inr.inj z)
   simp[y0g,z14,kvL,hkl']
  rw[e,z5k]
  obtain⟨a1,a2,a3⟩:=z9f (ks:=[k,l]) (ds:=[.int i,.int j]) (vs:=[.int i,.int j]) gd hp (.cons (F:=[]) (G:=[]) (.int i) (.cons (F:=[]) (G:=[]) (.int j) .nil (fun _ z=>nomatch z)) (fun _ z=>nomatch z))
  exact kk _ _ _ _ a1 a2 a3
 ·cases ee
noncomputable def y4l:List Str->List D->Str->Option D
 | x::ks,d::ds,k=>if x=k then some d else y4l ks ds k
 | _,_,_=>none
@[simp] noncomputable def z0o (fo fe ff:Den):Den:=fun ρ=>match fo ρ with
 | some (.dic ks ds,_,ρ1)=>match fe ρ1 with
  | some (.str k,_,ρ2)=>match ff ρ2 with
   | some (z,_,ρ3)=>some ((y4l ks ds k).getD z,x3t ((y4l ks ds k).getD z),ρ3)
   | none=>none
  | _=>none
 | _=>none
theorem y67 {K:PySem.W.Frag} {H:Hp} {w:Wn} {o:Ow} (k:Str):∀ {ks:List Str} {ds:List D} {vs:List V},Reps K H w o 0 ds vs []->
  (∀ d,y4l ks ds k=some d->∃ v,y6o (kvL ks vs) (.inr k)=some v/\Rep K H w o 0 d v [])/\(y4l ks ds k=none->y6o (kvL ks vs) (.inr k)=none)
 | [],ds,vs,r=>by
  refine⟨fun d h=>?_,fun _=>rfl⟩
  unfold y4l at h
  cases h
 | x::ks,ds,vs,r=>by
  generalize hF:([]:List Addr)=F at r
  cases r with
  | nil=>exact⟨(fun d h=>by unfold y4l at h; cases h),fun _=>rfl⟩
  | @cons _ d' v' ds' vs' F' G' r s _=>
   have h1:F'=[]:=r.zero
   have h2:G'=[]:=s.zero
   subst h1 h2
   have ih:=y67 k (ks:=ks) s
   by_cases hx:x=k
   ·subst hx
    refine⟨fun d h=>?_,fun h=>?_⟩
    ·unfold y4l at h
     rw[if_pos rfl]at h
     cases h
     exact⟨v',y2l rfl,r⟩
    ·unfold y4l at h
     rw[if_pos rfl]at h
     cases h
   ·have hk:¬ ((Sum.inr x:Key)=.inr k):=fun z=>hx (Sum.inr.inj z)
    have e:y6o (kvL (x::ks) (v'::vs')) (.inr k)=y6o (kvL ks vs') (.inr k):=y2n hk
    rw[e]
    unfold y4l
    rw[if_neg hx]
    exact ih
theorem z5z {k:Nat} (hr:Room k X.A) (ho:PD X a fa) (he:PD X b fb) (hf:PD X c fc)
  (hbase:attributeBase a "get" X.env (eval a X.env)=eval a X.env:=by rfl)
  (hfew:((backTo cpos (starEach [b,c] X.env)).all (fun x=>!x.1) && (backToKw cpos (keywordEach [] X.env)).all (fun x=>x.1.isSome)
    && decide (([b,c]:List Expr).length+([]:List Keyword).length+(if([]:List Keyword).isEmpty then 0 else 1)<30))=true:=by rfl)
  (hline:(apos.endLine == cpos.line)=true:=by rfl) (htr:backTo cpos (starEach [b,c] X.env)=[(false,eval b X.env),(false,eval c X.env)]:=by rfl) :
  PD X (.Call (.Attribute a "get" apos) [b,c] [] cpos) (z0o fa fb fc):=
 PE.imp (z0x (j1i hr) ho he hf ⟨hbase,hfew,hline,htr⟩) fun σ H Q hh0=>by
 obtain⟨ρ,w,t,r',q,ρ',gd,ee,kk⟩:=hh0
 unfold z0o at ee
 split at ee
 ·rename_i ks ds q1 ρ1 h1
  split at ee
  ·rename_i k0 q2 ρ2 h2
   split at ee
   ·rename_i z q3 ρ3 h3
    cases ee
    refine⟨ρ,w,t,_,_,_,gd,h1,fun x H1 w1 F1 g1 go1 r1=>?_⟩
    have r1':=r1
    cases r1' with
    | @dic _ a0 _ vs0 _ hH0 _=>
     refine⟨a0,rfl,.inl ⟨_,.inl hH0⟩,ρ1,w1,t+1,_,_,_,g1,h2,fun y H2 w2 F2 g2 go2 r2=>⟨ρ2,w2,t+2,_,_,_,g2,h3,fun zv H3 w3 F3 g3 go3 r3=>?_⟩⟩
     have hy:y=kV (.inr k0):=by cases r2; rfl
     subst hy
     have r13:=(r1.gone g1.wl (go2.trans go3)).drop (o:=.t t) (Nat.le_refl t)
     have rz:=r3.drop (o:=.t t) (t':=t) (by omega)
     have go:=(go1.trans go2).trans go3
     cases r13 with
     | @dic _ _ _ vs _ hH rs=>
      obtain⟨v1,v2⟩:=y67 (ks:=ks) k0 rs
      refine⟨_,z7j.k hH,?_⟩
      cases hg:y4l ks ds k0 with
      | none=>
       rw[v2 hg]
       rw[hg]at kk
       exact z4z kk gd g3 go rz.dep
      | some d=>
       obtain⟨v,ev,rv⟩:=v1 d hg
       rw[ev]
       rw[hg]at kk
       exact z4z kk gd g3 go rv.dep
   ·cases ee
  ·cases ee
 ·cases ee
theorem z5l {x2i:List Expr} {env:Env} {ks:List (Option Expr)} {vs:List Expr}:starEach (.Dict ks vs pos::x2i) env=(false,eval (.Dict ks vs pos) env)::starEach x2i env:=by simp only[starEach]
end
end L3
namespace L3
open PySem PySem.Spec PyProof.Rows L2
end L3
namespace L3
open PySem PySem.Spec PyProof.Rows PySem.W L2
structure Fly (P:Program) (w:World) (outer:List Env) (H:Hp) (s:Shared) (a C t:Addr) (B:Heap) (H':Hp) (s':Shared):Prop where
 os:s'.os=s.os
 bare:AllBare s'.gens
 un:Un (frs outer) [] H H' s.heap s'.heap
 hok:HOk P w H' s'.heap
 fl:Heap.FlyingW B outer a (.ref C) (.ref t) s'.heap
 old:∀ b o,s.heap.get? b=some o->H b=none->b ∉ frs outer->B.get? b=some o
 oldT:∀ b o,s.heap.get? b=some o->b ∉ frs outer->∃ o',B.get? b=some o'
 trk:∀ b u o,H' b=some u->s'.heap.get? b=some o->B.get? b=some o
 free:H' a=none
noncomputable abbrev j3k:=Rho->Option Str
end L3
namespace L3
open PySem PySem.Spec PyProof.Rows PySem.W L2
end L3
namespace L3
open PySem PySem.Spec PyProof.Rows PySem.W L2
theorem Good.grow {K:PySem.W.Frag} {ρ:Rho} {σ:St} {H H':Hp} {w:Wn} {t:Nat} (g:Good K ρ σ H w t) (h:∀ b o,H b=some o->Sm o (H' b)) (tb:TB K H'):Good K ρ σ H' w t/\Go H w H' w:=by
 have st:x78 H w H' w:=fun a x e n=>⟨h a x e,n⟩
 have kp:∀ a o,w a=some o->H' a=H a:=fun a o e=>by
  obtain⟨vs,q⟩:=g.wl a o e
  rw[q,(h a _ q).eq rfl]
 refine⟨⟨⟨fun a o e=>?_,tb⟩,g.ws,g.wt,g.len,fun i d q e=>?_⟩,st,fun a o e _=>⟨kp a o e,e⟩⟩
 ·obtain⟨vs,q⟩:=g.wl a o e
  exact⟨vs,(h a _ q).eq rfl⟩
 ·obtain⟨v,F,h1,h2⟩:=g.slot i d q e
  exact⟨v,F,h1,Rep.go g.wl st h2 fun a m=>⟨kp a _ (h2.owns a m),h2.owns a m⟩⟩
end L3
namespace L3
open PySem PySem.Spec PyProof.Rows PySem.W L2 PySem.SeqAt
end L3
namespace L3
open PySem PySem.Spec PyProof.Rows L2
end L3
namespace L3
open PySem PySem.Spec PyProof.Rows PySem.W L2
end L3
namespace L3
open PySem PySem.Spec PyProof.Rows PySem.W L2
noncomputable abbrev j3m:=Rho->Option (Str × Rho)
noncomputable def CE (Y:Cx) (pins:List (Addr × Obj)) (σ:St) (H:Hp) (w:Wn) (nm:Str) (ρ1:Rho) (ev:Value) (s':Shared):Prop:=
 ∃ s1 H1 w1 a C t B H',ev=.ref a/\Inv Y.nox pins σ H1 s1/\Good Y.K ρ1 σ H1 w1 0/\Go H w H1 w1/\Fly Y.prog Y.w Y.stack H1 s1 a C t B H' s'/\nsIn Y.K mainGlobals nm=some (some (.ref C))/\(∀ b o,H1 b=some o->Sm o (H' b))/\TB Y.K H'
end L3
namespace L3
open PySem PySem.Spec PyProof.Rows PySem.W L2
noncomputable def spO (K:PySem.W.Frag) (n:Nat) (ob:D) (G:List D->Option (D × Nat)):Sp:=fun vs H Q _=>vs.length=n/\∃ ds w r q,(∀ a o,w a=some o->o=.f)/\WL K w H/\Reps K H w .f 0 ds vs []/\(∃ v,Rep K H w .f 0 ob v [])/\G ds=some (r,q) /\
 ∀ v H' w' Fo,Go H w H' w'->WL K w' H'->Rep K H' w' (.t 0) q r v Fo->Q v H'
noncomputable def z5v (P:Program) (w:World) (K:PySem.W.Frag) (mg:Str->Option Value) (base:Heap) (k:Nat) (ob:D) (n:Nat) (G:List D->Option (D × Nat)):Prop:=
 ∃ f fo vs ds fd ps,ob=.ob f fo vs ds/\fo.data=.func fd/\FnOk P w K mg base CX0 k f fd ps (spO K n ob G)/\∀ us:List Value,us.length=ps.length->bindArgs fd ⟨us,[]⟩=pure (ps.zip us)
open Classical in
noncomputable def y0p (ob:D) (G:List D->Option (D × Nat)) (i n:Nat) (g:x1u):Den:=fun ρ=>if ρ[i]? = some (some (ob,9))then x0k G n g ρ else none
section
variable {X:Cx} {e:Expr} {es:List Expr} {g:x1u} {pos p:Pos}
theorem z0z {i j k n:Nat} {x:Str} {ob:D} {G:List D->Option (D × Nat)} (h:PE X (.Name x p) (x74 i)) (C:z5v X.prog X.w X.K X.mg X.base k ob n G) (hr:Room j X.A) (hk:k<=j) (ha:PDA X (e::es) g)
  (he:starEach (e::es) X.env=(false,eval e X.env)::starEach es X.env:=by rfl) (hpl:(backTo pos (starEach es X.env)).any (·.1)=false:=by rfl):PD X (.Call (.Name x p) (e::es) [] pos) (y0p ob G i n g):=by
 intro pins s σ H Q I hh0
 obtain⟨ρ,w,t,r',q,ρ',gd,ee,k'⟩:=hh0
 unfold y0p at ee
 split at ee
 ·rename_i hs
  unfold x0k at ee
  split at ee
  ·rename_i ds ρ1 h1
   split at ee
   ·rename_i hn
    split at ee
    ·rename_i r0 q0 h2
     cases ee
     obtain⟨f,fo,cvs,cds,fd,ps,rfl,hfd,F,hb⟩:=C
     obtain⟨v,F0,s1,s2⟩:=gd.slot i _ _ hs
     have hrep:=s2.nolist rfl
     obtain rfl:=hrep.1
     cases s2 with
     | ob a1 a2 a3 a4=>
     have fnAt:∀ {H1:Hp} {s1:Shared} {σ1:St} {u:HO},Inv X pins σ1 H1 s1->H1 f=some (.frz fo u)->FnAt f s1.heap:=fun {H1 s1 σ1 u} I1 e1=>by
      obtain⟨e2,_⟩:=(show x27 X.prog X.w H1 s1.heap _ (.frz _ _)from I1.hok _ _ e1)
      obtain⟨oc,od,da,sl⟩:=fo
      cases hfd
      exact⟨_,_,_,_,e2⟩
     refine wpAny_Call_Name_kw (thn (h pins s σ H (fun v' H'=>v'=.ref f/\H'=H) I ⟨_,s1,rfl,rfl⟩) fun u s1 hh1=>?_)
     obtain⟨v',H',I1,rv,e1,e2⟩:=hh1
     subst e1
     obtain rfl:H=H':=e2.symm
     cases rv
     refine callWith_F (fnAt I1 a1) (thn (ha pos pins s1 σ H (fun vs H1=>∃ w1,Good X.K ρ' σ H1 w1 t/\Go H w H1 w1/\Reps X.K H1 w1 .f 0 ds vs []) I1 ⟨ρ,w,t,ds,ρ',gd,h1,fun vs H1 w1 g1 go1 r1=>⟨w1,g1,go1,r1⟩⟩) fun us s2 hh2=>?_) he hpl
     obtain⟨vs,H1,I2,rv2,w1,g1,go1,r1⟩:=hh2
     have rob:Rep X.K H1 w1 .f 0 (.ob f fo cvs cds) (.ref f) []:=Rep.go gd.wl go1.stab (hrep.2 0) (fun _ z=>nomatch z)
     obtain⟨u1,b1⟩:∃ u,H1 f=some (.frz fo u):=by
      cases rob with
      | ob b1 _ _ _=>exact⟨_,b1⟩
     refine⟨fnAt I2 b1,?_⟩
     have hsp:spO X.K n (.ob f fo cvs cds) G vs H1 Q E0:=by
      refine⟨by rw[<- r1.length]; exact hn,ds,fun a=>(w1 a).map fun _=>Ow.f,r',q,fun a o e=>?_,⟨fun a o e=>?_,g1.wl.tb⟩,?_,⟨.ref f,?_⟩,h2,fun v H2 w2 Fo go2 wl2 rr=>?_⟩
      ·try dsimp only at e
       cases ew:w1 a with
       | none=>rw[ew]at e; cases e
       | some o'=>rw[ew]at e; cases e; rfl
      ·try dsimp only at e
       cases ew:w1 a with
       | none=>rw[ew]at e; cases e
       | some o'=>exact g1.wl a o' ew
      ·exact Reps.freeze (fun a n=>by show(w1 a).map _=_; rw[n]; rfl) r1 (fun _ z=>nomatch z)
      ·exact Rep.freeze (fun a n=>by show(w1 a).map _=_; rw[n]; rfl) rob (fun _ z=>nomatch z)
      ·obtain⟨b1,b2,b3⟩:=j1s g1 go2 wl2 rr
       exact k' _ _ _ _ b1 (go1.trans b2) b3
     have hl:us.length=ps.length:=by rw[<- rv2.length]; exact F.len _ _ _ _ hsp
     refine wpAny_call (codeAny_mono (F.run X.A X.stack s2 H1 ⟨us,[]⟩ us vs Q E0 (hr.mono hk) I2.env0 (.of_eq (hb us hl)) rv2 hsp) fun r s' hq=>?_)
     cases r with
     | error e=>exact False.elim hq
     | ok fl=>
      cases fl with
      | ret u=>exact I2.after hq
      | next=>exact False.elim hq
      | brk=>exact False.elim hq
      | cont=>exact False.elim hq
    ·cases ee
   ·cases ee
  ·cases ee
 ·cases ee
end
end L3
namespace L3
open PySem PySem.Spec PyProof.Rows PySem.W L2
theorem y9f {x:Str} {u:Value}:∀ {ps:List Str} {us:List Value} {i:Nat},ps.Nodup->ps[i]? = some x->us[i]? = some u->(ps.zip us).reverse.lookup x=some u
 | [],_,_,_,h,_=>by simp at h
 | _::_,[],_,_,_,h=>by simp at h
 | p::ps,v::us,0,nd,h1,h2=>by
  simp at h1 h2
  subst h1
  subst h2
  rw[List.zip_cons_cons,List.reverse_cons,List.lookup_append]
  have:(ps.zip us).reverse.lookup p=none:=List.lookup_eq_none_iff.mpr fun q hq=>by
   have:=(List.of_mem_zip (List.mem_reverse.mp hq)).1
   exact bne_iff_ne.mpr fun z=>(List.nodup_cons.mp nd).1 (z ▸ this)
  rw[this]
  simp
 | p::ps,v::us,i+1,nd,h1,h2=>by
  rw[List.zip_cons_cons,List.reverse_cons,List.lookup_append,y9f (i:=i) (List.nodup_cons.mp nd).2 (by simpa using h1) (by simpa using h2)]
  rfl
theorem j1e {prog:Program} {w:World} {A:Around} {R:Result->Shared->Prop} {s:Shared} {a c:Addr} {args:Args} {o oc:Obj} {fd:FuncData} {body:Expr} {fs:Array Value} {q:Str} {t:Tok} (hroom:A.depth<recursionLimit) (ho:s.heap.get? a=some o)
  (hd':o.data=.func fd) (hco:fd.scope.isCoroutine=false) (hgen:fd.scope.isGenerator=false) (hbody:fd.body=.expr body) (hc:fd.code=.ref c) (hoc:s.heap.get? c=some oc) (hdc:oc.data=.fields fs) (hq:fs[1]? = some (.str q t))
  (h:wpAny (model prog w) A.in1 (bindArgs fd args) (fun binds s₁=>
    wpAny (model prog w) A.in1 (newFunctionEnv fd.scope fd.globals fd.closure binds (q ++ ".<locals>.") (some a) fd.code none fd.builtins)
     (fun env s₂=>s₂.heap.NoLimit/\codeAny (model prog w) A (.expr body env) R s₂) (fun e s'=>R (.error e) s') s₁) (fun e s'=>R (.error e) s') s) :
  codeAny (model prog w) A (.call (.ref a) args) R s:=by
 refine codeAny_of_tree ?_
 show wpAny _ A.in1 (callAny (.ref a) args) _ _ s
 simp only[callAny]
 refine wpAny_bind (wpAny_load ho ?_)
 simp only[hd',callFunction,hco,hgen,hbody,hc]
 rw[hc]at h
 refine wpAny_bind (m:=field (.ref c) 1) (wpAny_field hoc hdc hq (wpAny_bind (wpAny_pure ?_)))
 exact wpAny_bind (wpAny_mono h (fun binds s₁ h₁=>wpAny_bind (wpAny_mono h₁ (fun env s₂ h₂=>wpAny_bind (wpAny_enterFrame h₂.1 hroom
  (wpAny_pure (And.intro rfl h₂.2)))) fun _ _ h'=>h')) fun _ _ h'=>h')
noncomputable def cxL (P:Program) (w:World) (K:PySem.W.Frag) (mg:Str->Option Value) (base:Heap) (N:List Str) (qual:Str) (scope:Scope) (f:Addr) (cd:Value) (cl:List (Str × Addr)) (A:Around) (outer:List Env) (s:Shared) (H:Hp):Cx where
 prog:=P
 w:=w
 K:=K
 mg:=mg
 base:=base
 A:=A.deeper (envX qual scope s.heap.objs.size f cd cl)
 N:=N
 s₀:=s
 H₀:=H
 env:=envX qual scope s.heap.objs.size f cd cl
 outer:=outer
 stack:=envX qual scope s.heap.objs.size f cd cl::outer
 ex:=[]
 calm:=true
 fn:=fun _=>false
 pn:=[]
 xe:=fun _ _=>False
structure LamScope (ps cs:List Str) (sc:Scope):Prop where
 kind:sc.kind=.function
 co:sc.isCoroutine=false
 gen:sc.isGenerator=false
 nd:(ps++cs).Nodup
 par:∀ x∈ps,sc.names.lookup x=some .local
 cap:∀ x∈cs,sc.names.lookup x=some .free
 nocell:∀ y∈sc.names,y.2 ≠ .cell
 free:∀ x,sc.names.lookup x=some .free->x∈cs
structure CellsOk (base:Heap) (cl:List (Str × Addr)) (cs:List Str) (cvs:List V):Prop where
 len:cvs.length=cs.length
 at':∀ (i:Nat) (x:Str) (v:V),cs[i]? = some x->cvs[i]? = some v->∃ c u,cl.lookup x=some c/\x3g v u/\base.IsCell c (some u)
 inj:∀ x y c,cl.lookup x=some c->cl.lookup y=some c->x=y
 all:∀ x c,cl.lookup x=some c->∃ v,base.IsCell c v
theorem y9w {P:Program} {w:World} {K:PySem.W.Frag} {mg:Str->Option Value} {base:Heap} {ps cs:List Str} {qual:Str} {scope:Scope} {f:Addr} {cd:Value} {cl:List (Str × Addr)} {A:Around} {outer:List Env} {s:Shared} {h1:Heap} {tk:Nat} {H:Hp} {us:List Value} {vs cvs:List V}
  (S:LamScope ps cs scope) (C:CellsOk base cl cs cvs) (hd:A.handled=none) (e0:Env0 P w K mg base A outer s H) (hl:vs.length=ps.length) (r:x2h vs us)
  (hns:h1.Ns s.heap.objs.size (fun x=>(ps.zip us).reverse.lookup x)) (hk:∀ b o,s.heap.get? b=some o->h1.get? b=some o) :
  Inv (cxL P w K mg base (ps++cs) qual scope f cd cl A outer s H) [] (L2.y0w (ps++cs) (vs++cvs)) H { s with heap:=h1,toks:=tk }:=by
 have noA:∀ b:Addr,b ∉ (cxL P w K mg base (ps++cs) qual scope f cd cl A outer s H).ex:=fun b z=>absurd (show b∈([]:List Addr)from z) (by simp)
 refine⟨⟨e0.mod,S.kind,rfl,rfl,Nat.le_refl _,C.inj,fun y hy=>?_,(fun y c z=>by cases z),fun _=>hd,Around.frames_deeper e0.frames,.inr ⟨rfl,rfl⟩,fun b z=>absurd z (noA b),e0.bs,e0.bsz,fun b _ _=>noA b,fun b z=>absurd z (noA b),e0.funs,e0.frf⟩,
  rfl,e0.bare,Un.kept hk,⟨_,hns,fun i y v h1 h2 h3=>?_⟩,fun y c h=>?_,e0.hok.fresh (Nat.le_refl _),fun y c h=>?_,fun p hp=>absurd (show p∈([]:List (Addr × Obj))from hp) (by simp),e0.hok.kept hk,?_⟩
 ·have hy:scope.names.lookup y=some .cell\/scope.names.lookup y=some .free:=hy
  rcases hy with hy | hy
  ·exact absurd rfl (S.nocell _ (PySem.mem_of_lookup hy))
  ·obtain⟨i,hi⟩:=List.mem_iff_getElem?.mp (S.free y hy)
   have:i<cvs.length:=by rw[C.len]; exact(List.getElem?_eq_some_iff.mp hi).1
   obtain⟨c,u,e,_⟩:=C.at' i y _ hi (List.getElem?_eq_getElem this)
   exact⟨c,e⟩
 ·have hN:(ps++cs)[i]? = some y:=h1
  have h2':(vs++cvs)[i]? = some v:=by
   unfold L2.y0w at h2
   have hl2:(vs++cvs).length=(ps++cs).length:=by rw[List.length_append,List.length_append,hl,C.len]
   rw[hl2,Nat.sub_self,List.replicate_zero,List.append_nil,List.getElem?_map]at h2
   cases e:(vs++cvs)[i]? with
   | none=>rw[e]at h2; cases h2
   | some a=>rw[e]at h2; cases h2; rfl
  by_cases hi:i<ps.length
  ·rw[List.getElem?_append_left hi]at hN
   rw[List.getElem?_append_left (by rw[hl]; exact hi)]at h2'
   obtain⟨u,hu,rv⟩:=r.get h2'
   exact⟨u,rv,.inl ⟨S.par y (List.mem_of_getElem? hN),y9f (List.nodup_append.mp S.nd).1 hN hu⟩⟩
  ·rw[List.getElem?_append_right (Nat.le_of_not_lt hi)]at hN
   rw[List.getElem?_append_right (by rw[hl]; exact Nat.le_of_not_lt hi),hl]at h2'
   obtain⟨c,u,e,rv,hc⟩:=C.at' _ y v hN h2'
   exact⟨u,rv,.inr ⟨.inr (S.cap y (List.mem_of_getElem? hN)),c,e,(hc.keeps fun b o e=>(e0.bs b o e).1).keeps hk⟩⟩
 ·obtain⟨v,hv⟩:=C.all y c h
  exact⟨v,(hv.keeps fun b o e=>(e0.bs b o e).1).keeps hk⟩
 ·obtain⟨v,o,ho,_⟩:=C.all y c h
  exact(e0.bs c o ho).2
 ·unfold L2.y0w
  show _=(ps++cs).length
  rw[List.length_append,List.length_map,List.length_replicate,List.length_append,List.length_append,hl,C.len]
  omega
noncomputable def z04 (fb:Den) (cds:List D):List D->Option (D × Nat):=fun ds=>match fb (x3f (ds++cds).length (ds++cds))with
 | some (d,q,_)=>some (d,q)
 | none=>none
theorem j0c {P:Program} {w:World} {K:PySem.W.Frag} {mg:Str->Option Value} {base:Heap} {ps cs:List Str} {nm qual:Str} {params:Arguments} {body:Expr} {scope:Scope} {cl:List (Str × Addr)} {pm ctv:Value} {f c:Addr} {k:Nat} {cvs:List V} {cds:List D} {fb:Den}
  (S:LamScope ps cs scope) (C:CellsOk base cl cs cvs)
  (hbody:∀ (q:Str) (A:Around) (outer:List Env) (s:Shared) (H:Hp),Room k (A.deeper (envX q scope s.heap.objs.size f (.ref c) cl))->PD (cxL P w K mg base (ps++cs) q scope f (.ref c) cl A outer s H) body fb) :
  FnOk P w K mg base CX0 (k+1) f (kla_fn nm qual params body scope cl pm (.ref c) ctv) ps (spO K ps.length (.ob f (kla_obj nm qual params body scope cl pm c ctv) cvs cds) (z04 fb cds)):=by
 refine⟨fun vs H Q E h=>h.1,fun A outer s H args us vs Q E hr e0 hb r hsp=>?_⟩
 obtain⟨hn,ds,wn,r',q',hw,wl,rs,⟨vo,ro⟩,ee,k'⟩:=hsp
 cases ro with
 | ob a1 a2 a3 a4=>
 obtain⟨x1,⟨fd',x2,x3⟩,fs,q,t,x4,x5⟩:=a3
 cases x2
 cases x3
 obtain⟨o1,_⟩:=(show x27 P w H s.heap _ (.frz _ _)from e0.hok _ _ a1)
 obtain⟨o2,_⟩:=(show x27 P w H s.heap _ (.frz _ _)from e0.hok _ _ a2)
 have lim:s.heap.NoLimit:=e0.mod.nolimit.keeps fun b o e=>(e0.bs b o e).1
 refine j1e hr.depth o1 rfl S.co S.gen rfl rfl o2 x4 x5 (hb _ _ _ _ ?_)
 refine wpAny_newFunctionEnv S.nocell (fun y hy=>S.par y.1 (List.of_mem_zip hy).1) (fun h1 hns hsb=>⟨lim.fresh _ hsb,?_⟩) S.kind
 have hk:∀ b o,s.heap.get? b=some o->h1.get? b=some o:=fun b o e=>hsb.extBut b o (Nat.ne_of_lt (Heap.lt_size e)) (Heap.get?_push_of_some _ e)
 show codeAny _ _ (.expr body (envX q scope s.heap.objs.size f (.ref c) cl)) _ _
 have I:=y9w (cd:=.ref c) (f:=f) (qual:=q) (tk:=s.toks+(ps.zip us).length) S C hr.hd e0 hn r hns hk
 unfold z04 at ee
 split at ee
 ·rename_i d q0 ρ' h1
  cases ee
  have gd:Good K (x3f (ds++cds).length (ds++cds)) (L2.y0w (ps++cs) (vs++cvs)) H wn 0:=by
   have e1:(ds++cds).length=(ps++cs).length:=by rw[List.length_append,List.length_append,rs.length,a4.length,hn,C.len]
   rw[e1]
   refine x8g hw wl ?_
   have app:∀ {ds:List D} {vs:List V},Reps K H wn .f 0 ds vs []->Reps K H wn .f 0 (ds++cds) (vs++cvs) []:=by
    intro ds
    induction ds with
    | nil=>intro vs r; cases r; exact a4
    | cons d ds ih=>
     intro vs r
     generalize hF:([]:List Addr)=F at r
     cases r with
     | cons r1 r2 ne=>
      obtain rfl:=r1.zero
      obtain rfl:=r2.zero
      exact .cons (F:=[]) (G:=[]) r1 (ih r2) (fun _ z=>nomatch z)
   exact app rs
  refine kla_codeExpr (wpAny_mono (hbody q A outer s H (hr.deeper _) [] _ _ H Q I ⟨_,wn,0,_,_,_,gd,h1,fun v H' w' F g1 go1 r1=>k' v H' w' F go1 g1.wl r1⟩) (fun v s' hh=>?_) fun e s' z=>False.elim z)
  obtain⟨v',H',J,rv,qq⟩:=hh
  exact⟨v',H',J.os,J.bare,J.base,J.hok,rv,qq⟩
 ·cases ee
structure Lm (K:PySem.W.Frag) (mg:Str->Option Value) (base:Heap):Prop where
 bm:∃ bm o,mg "__builtins__" = some (.ref bm)/\bm≠builtinsNs/\base.get? bm=some o/\o.cls=.type "module" /\ o.dict=some builtinsNs/\o.data=.plain
 cd:∀ x∈x6v,∀ c P,tabIn K x=some (c,P)->CodeHd base c P
theorem y7e {pos:Pos} {a b:Int} {c cv:Value}:∀ (l:List Value),TriplesOk l->codeAmong pos (l++[rawInt a,rawInt b,c])=some cv->codeAmong pos l=some cv\/cv=c:=by
 intro l h
 fun_induction TriplesOk l with
 | case1=>
  intro e
  simp only[List.nil_append,rawInt,codeAmong]at e
  split at e
  ·cases e; exact .inr rfl
  ·cases e
 | case2 a1 t1 a2 t2 v x2i ih=>
  intro e
  simp only[List.cons_append,codeAmong]at e ⊢
  split at e
  ·rename_i hc
   rw[if_pos hc]
   exact .inl e
  ·rename_i hc
   rw[if_neg hc]
   exact ih h e
 | case3=>exact h.elim
theorem TB.grow {K:PySem.W.Frag} {H:Hp} (t:TB K H) {P c:Addr} {ps:Array Value} {a b:Int} {oc:Obj} {u:HO} {fs:Array Value} {q:Str} {tk:Tok} (hP:H P=some (.tbl ps)) (hc:H c=none) (hu:∀ xs,u ≠ .lst xs) (h1:oc.data=.fields fs) (h2:fs[1]? = some (.str q tk)) :
  TB K (L2.upd (L2.upd H P (.tbl (ps ++ #[rawInt a,rawInt b,.ref c]))) c (.frz oc u)):=by
 have hcP:P≠c:=fun z=>by rw[z,hc]at hP; cases hP
 have frz:∀ d o v,H d=some (.frz o v)->L2.upd (L2.upd H P (.tbl (ps ++ #[rawInt a,rawInt b,.ref c]))) c (.frz oc u) d=some (.frz o v):=fun d o v e=>by
  rw[x0g (fun z=>by rw[z,hc]at e; cases e),x0g (fun z=>by rw[z,hP]at e; cases e)]
  exact e
 have get:∀ Q qs,L2.upd (L2.upd H P (.tbl (ps ++ #[rawInt a,rawInt b,.ref c]))) c (.frz oc u) Q=some (.tbl qs)->(Q=P/\qs=ps ++ #[rawInt a,rawInt b,.ref c])\/H Q=some (.tbl qs):=fun Q qs e=>by
  by_cases h1:Q=c
  ·subst h1; rw[x0x]at e; cases e
  ·rw[x0g h1]at e
   by_cases h2:Q=P
   ·subst h2; rw[x0x]at e; cases e; exact .inl ⟨rfl,rfl⟩
   ·rw[x0g h2]at e; exact .inr e
 refine⟨fun Q qs e=>?_,fun Q qs e pos cv hcv=>?_,fun x hx c' P' e=>?_⟩
 ·rcases get Q qs e with⟨_,rfl⟩ | e
  ·have:=TriplesOk_snoc a b (.ref c) ps.toList (t.tr P ps hP)
   simpa using this
  ·exact t.tr Q qs e
 ·have old:∀ Q qs,H Q=some (.tbl qs)->codeAmong pos qs.toList=some cv->∃ c' oc' u' vs q t,cv=.ref c'/\L2.upd (L2.upd H P (.tbl (ps ++ #[rawInt a,rawInt b,.ref c]))) c (.frz oc u) c'=some (.frz oc' u')/\oc'.data=.fields vs/\vs[1]? = some (.str q t)/\∀ xs,u' ≠ .lst xs:=fun Q qs e hcv=>by
   obtain⟨c',oc',u',vs,q',t',g1,g2,g3,g4,g5⟩:=t.cd Q qs e pos cv hcv
   exact⟨c',oc',u',vs,q',t',g1,frz _ _ _ g2,g3,g4,g5⟩
  rcases get Q qs e with⟨_,rfl⟩ | e
  ·rcases y7e (pos:=pos) (cv:=cv) (c:=.ref c) (a:=a) (b:=b) ps.toList (t.tr P ps hP) (by simpa using hcv)with z | z
   ·exact old P ps hP z
   ·exact⟨c,oc,u,fs,q,tk,z,x0x,h1,h2,hu⟩
  ·exact old Q qs e hcv
 ·obtain⟨qs,e'⟩:=t.is x hx c' P' e
  have n1:P'≠c:=fun z=>by rw[z,hc]at e'; cases e'
  by_cases n2:P'=P
  ·subst n2; exact⟨_,by rw[x0g n1,x0x]⟩
  ·exact⟨qs,by rw[x0g n1,x0g n2]; exact e'⟩
noncomputable def kn (a:Addr) (o:Obj):HO:=.frz o (.ext fun h=>h.get? a=some o)
theorem z5q {P:Program} {w:World} {H:Hp} {h:Heap} {a:Addr} {o:Obj} (e:h.get? a=some o):x27 P w H h a (kn a o):=⟨e,e,⟨o,e⟩,fun _ _ p k=>k _ p⟩
section
variable {X:Cx} {pins:List (Addr × Obj)} {σ:St} {H:Hp} {s:Shared} {E:Value->Shared->Prop} {Q:Value->Shared->Prop}
theorem Inv.table {P c f:Addr} {ps ps':Array Value} {oc fo:Obj} {h':Heap} {tk:Nat} (I:Inv X pins σ H s) (hP:H P=some (.tbl ps)) (hx:Heap.ExtBut P s.heap h') (hc:s.heap.objs.size<=c) (hf:c<f) (e1:h'.get? c=some oc) (e2:h'.get? P=some (tabObj (ps++ps'))) (e3:h'.get? f=some fo) :
  Inv X pins σ (L2.upd (L2.upd (L2.upd H P (.tbl (ps++ps'))) c (kn c oc)) f (kn f fo)) { s with heap:=h',toks:=tk }:=by
 have nc:H c=none:=I.hok.fresh hc
 have nf:H f=none:=I.hok.fresh (Nat.le_trans hc (Nat.le_of_lt hf))
 have keep:∀ b u,H b=some u->b≠P->L2.upd (L2.upd (L2.upd H P (.tbl (ps++ps'))) c (kn c oc)) f (kn f fo) b=some u:=fun b u e n=>by
  rw[x0g (x0u e nf),x0g (x0u e nc),x0g n]; exact e
 have PP:L2.upd (L2.upd (L2.upd H P (.tbl (ps++ps'))) c (kn c oc)) f (kn f fo) P=some (.tbl (ps++ps')):=by
  rw[x0g (x0u hP nf),x0g (x0u hP nc),x0x]
 have kp:∀ b o,s.heap.get? b=some o->H b=none->h'.get? b=some o:=fun b o e n=>hx b o (fun z=>by rw[z,hP]at n; cases n) e
 refine I.un ⟨fun b o e n _ _=>kp b o e n,fun b o e n _ _=>⟨o.slots,kp b o e n⟩,fun b o e n _=>?_,fun b o e _=>?_,fun b xs e=>keep b _ e (fun z=>by rw[z,hP]at e; cases e),fun b o u e=>keep b _ e (fun z=>by rw[z,hP]at e; cases e),fun b qs e=>?_⟩ fun a o e=>?_
 ·have lt:=Heap.lt_size e
  rw[x0g (Nat.ne_of_lt (Nat.lt_trans (Nat.lt_of_lt_of_le lt hc) hf)),x0g (Nat.ne_of_lt (Nat.lt_of_lt_of_le lt hc)),x0g (fun z=>by rw[z,hP]at n; cases n)]
  exact n
 ·by_cases hb:b=P
  ·rw[hb]; exact⟨_,e2⟩
  ·exact⟨o,hx b o hb e⟩
 ·by_cases hb:b=P
  ·subst hb
   rw[hP]at e; cases e
   exact⟨ps',PP⟩
  ·exact⟨#[],by rw[Array.append_empty]; exact keep b _ e hb⟩
 ·by_cases h1:a=f
  ·subst h1; rw[x0x]at e; cases e; exact z5q e3
  ·rw[x0g h1]at e
   by_cases h2:a=c
   ·subst h2; rw[x0x]at e; cases e; exact z5q e1
   ·rw[x0g h2]at e
    by_cases h3:a=P
    ·subst h3; rw[x0x]at e; cases e; exact e2
    ·rw[x0g h3]at e
     refine(I.hok a o e).stay (fun b u hb q=>hx b u (fun z=>?_) q) (fun b q=>keep b _ q (fun z=>by rw[z,hP]at q; cases q)) fun b xs q=>keep b _ q (fun z=>by rw[z,hP]at q; cases q)
     subst z
     rcases hb with hb | hb
     ·exact h3 hb.symm
     ·rw[hP]at hb; cases hb
theorem z2t {params:Arguments} {body:Expr} {scope:Scope} {pos:Pos} {A:Around} {M:Model} {x:Str} {c P:Addr} {clos:List (Str × Addr)} (I:Inv X pins σ H s) (L:Lm X.K X.mg X.base) (tb:TB X.K H) (hx:x∈x6v) (ht:tabIn X.K x=some (c,P)) (hcode:X.env.code=.ref c)
  (hcl:closureFor scope X.env=pure clos) (hdf:defaultsOf params X.env=([],[]))
  (h:∀ (f c':Addr) (pm ctv:Value) (oc:Obj) (h':Heap) (tk:Nat) (H':Hp) (u u':HO),Inv X pins σ H' { s with heap:=h',toks:=tk }->H' f=some (.frz (kla_obj "<lambda>" (X.env.qual ++ "<lambda>") params body scope clos pm c' ctv) u)->H' c'=some (.frz oc u')->
    Clo (kla_obj "<lambda>" (X.env.qual ++ "<lambda>") params body scope clos pm c' ctv) c' oc->(∀ b o,H b=some o->Sm o (H' b))->TB X.K H'->Q (.ref f) { s with heap:=h',toks:=tk }) :
  wpAny M A (eval (.Lambda params body scope pos) X.env) Q E s:=by
 obtain⟨ps,hP⟩:=tb.is x hx c P ht
 have oP:s.heap.get? P=some (tabObj ps):=I.hok P _ hP
 have C:=(L.cd x hx c P ht).keeps I.bk
 have hg:=I.mod.glob.keeps I.bk
 have hgP:mainGlobals≠P:=fun q=>by
  obtain⟨o,es,ep,e,hd,_⟩:=hg
  rw[q,oP]at e; cases e; cases hd
 have hB:s.heap.BuiltinsAt X.mg P:=by
  obtain⟨bm,ob,b1,b2,b3,b4,b5,b6⟩:=L.bm
  have b3':=I.bk _ _ b3
  refine⟨bm,ob,b1,b2,fun q=>?_,fun q=>?_,b3',b4,b5,b6⟩
  ·obtain⟨o,es,ep,e,hd,_⟩:=hg
   rw[q,e]at b3'; cases b3'; rw[hd]at b6; cases b6
  ·rw[q,oP]at b3'; cases b3'; cases b4
 refine kla_eval hdf ?_
 cases hf:codeAmong pos ps.toList with
 | none=>
  refine kla_makeFunction (mg:=X.mg) hcl I.ok.glob hg hcode C oP (tb.tr P ps hP) hf hgP hB fun c' ctv h' tk hxb hge hlt hrec htb=>?_
  obtain⟨c2,oc,vs,t,e2,hoc,hd,hv⟩:=hrec
  cases e2
  have nc:H c'=none:=I.hok.fresh hge
  have nf:H h'.objs.size=none:=I.hok.fresh (Nat.le_trans hge (Nat.le_of_lt hlt))
  refine h h'.objs.size c' _ ctv oc _ tk _ _ _ (Inv.table (ps':=#[rawInt pos.line,rawInt pos.col,.ref c']) (oc:=oc) I hP (fun b o n e=>Heap.get?_push_of_some _ (hxb b o n e)) hge hlt (Heap.get?_push_of_some _ hoc) (Heap.get?_push_of_some _ htb) (Heap.get?_push_size _ rfl)) x0x
   (by rw[x0g (Nat.ne_of_lt hlt),x0x]; rfl) ⟨rfl,⟨_,rfl,rfl⟩,vs,_,t,hd,hv⟩ (fun b o e=>?_) ((tb.grow (u:=.ext fun h=>h.get? c'=some oc) hP nc (fun _ z=>nomatch z) hd hv).upd rfl (.inl ?_))
  ·by_cases hb:b=P
   ·subst hb
    rw[hP]at e; cases e
    exact⟨_,by rw[x0g (x0u hP nf),x0g (x0u hP nc),x0x]⟩
   ·exact sm (by rw[x0g (x0u e nf),x0g (x0u e nc),x0g hb]; exact e)
  ·rw[x0g (Nat.ne_of_gt hlt),x0g (x0u hP nf).symm]; exact nf
 | some cv=>
  obtain⟨c',oc,u',vs,q,t,rfl,hc',hd,hv,_⟩:=tb.cd P ps hP pos cv hf
  refine kla_makeFunctionHit (mg:=X.mg) hcl I.ok.glob hg hcode C oP (tb.tr P ps hP) hf hB fun ctv h' tk hk hsz=>?_
  have nf:H h'.objs.size=none:=I.hok.fresh hsz
  refine h h'.objs.size c' _ ctv oc _ tk _ _ _ (I.laid (o:=kn _ _) (fun b o e=>Heap.get?_push_of_some _ (hk b o e)) hsz (z5q (Heap.get?_push_size _ rfl))) x0x (by rw[x0g (x0u hc' nf)]; exact hc') ⟨rfl,⟨_,rfl,rfl⟩,vs,_,t,hd,hv⟩ (fun b o e=>sm (by rw[x0g (x0u e nf)]; exact e)) (tb.upd rfl (.inl nf))
end
end L3
namespace L3
open PySem PySem.Spec PyProof.Rows PySem.W L2
noncomputable def y8w (base h:Heap) (ex:List Addr):Heap:=hideAll h ((List.range h.objs.size).filter fun b=>(base.get? b).isNone && !ex.contains b)
theorem y8j {base h:Heap} {ex:List Addr} {b:Addr} {o:Obj} (e:(y8w base h ex).get? b=some o):h.get? b=some o/\((base.get? b).isSome=true\/b∈ex):=by
 have e1:=of_hideAll _ e
 refine⟨e1,?_⟩
 by_cases hb:b∈((List.range h.objs.size).filter fun b=>(base.get? b).isNone && !ex.contains b)
 ·have:=hideAll_none (h:=h) _ hb
  unfold y8w at e
  rw[this]at e; cases e
 ·rw[List.mem_filter]at hb
  have:¬ (((base.get? b).isNone && !ex.contains b)=true):=fun z=>hb ⟨List.mem_range.mpr (Heap.lt_size e1),z⟩
  cases h1:base.get? b with
  | some o'=>exact .inl rfl
  | none=>
   rw[h1]at this
   simp at this
   exact .inr this
theorem y2q {base h:Heap} {ex:List Addr} {b:Addr} {o:Obj} (e:h.get? b=some o) (hb:(base.get? b).isSome=true\/b∈ex):(y8w base h ex).get? b=some o:=
 hideAll_get _ e fun z=>by
  have:=(List.mem_filter.mp z).2
  rw[Bool.and_eq_true_iff]at this
  rcases hb with hb | hb
  ·have t1:=this.1
   cases q:base.get? b with
   | none=>rw[q]at hb; cases hb
   | some o=>rw[q]at t1; cases t1
  ·have t2:=this.2
   simp at t2
   exact t2 hb
noncomputable def x89:List Str->List (Str × Addr)->List (Str × Addr)
 | [],_=>[]
 | x::xs,cells=>match cells.lookup x with
  | some c=>(x,c)::x89 xs cells
  | none=>x89 xs cells
theorem y0o {cells:List (Str × Addr)} {x:Str} {c:Addr}:∀ {xs:List Str},(x89 xs cells).lookup x=some c->cells.lookup x=some c
 | [],h=>by cases h
 | y::xs,h=>by
  unfold x89 at h
  split at h
  ·rename_i c' e
   rw[List.lookup_cons]at h
   split at h
   ·rename_i hb
    cases h
    rw[eq_of_beq hb]; exact e
   ·exact y0o h
  ·exact y0o h
theorem y55 {cells:List (Str × Addr)} {x:Str} {c:Addr} (e:cells.lookup x=some c):∀ {xs:List Str},x∈xs->(x89 xs cells).lookup x=some c
 | [],h=>by cases h
 | y::xs,h=>by
  unfold x89
  by_cases hy:x=y
  ·subst hy
   rw[e]
   simp
  ·have hm:x∈xs:=by rcases List.mem_cons.mp h with z | z; exact absurd z hy; exact z
   split
   ·rw[List.lookup_cons,beq_eq_false_iff_ne.mpr hy]
    exact y55 e hm
   ·exact y55 e hm
noncomputable def z8n:List Nat->Rho->Option (List D)
 | [],_=>some []
 | i::is,ρ=>match ρ[i]? with
  | some (some (d,_))=>if d.isL=false then match z8n is ρ with
   | some ds=>some (d::ds)
   | none=>none
   else none
  | _=>none
theorem y7o {K:PySem.W.Frag} {ρ:Rho} {σ:St} {H:Hp} {w:Wn} {t:Nat} (g:Good K ρ σ H w t):∀ {is:List Nat} {ds:List D},z8n is ρ=some ds->∃ vs,Reps K H w .f 0 ds vs []/\vs.length=is.length/\∀ (j i:Nat),is[j]? = some i->∃ v,vs[j]? = some v/\σ[i]? = some (some v)
 | [],ds,e=>by
  cases e
  exact⟨[],.nil,rfl,fun j i h=>by simp at h⟩
 | i::is,ds,e=>by
  unfold z8n at e
  split at e
  ·rename_i d q h1
   split at e
   ·rename_i hl
    split at e
    ·rename_i ds' h2
     cases e
     obtain⟨vs,r,l,k⟩:=y7o g h2
     obtain⟨v,F,s1,s2⟩:=g.slot i d q h1
     obtain⟨hF,hr⟩:=s2.nolist hl
     refine⟨v::vs,.cons (F:=[]) (G:=[]) ((hr 0).any g.wl) r (fun _ z=>nomatch z),by simp[l],fun j i' hj=>?_⟩
     cases j with
     | zero=>simp at hj; subst hj; exact⟨v,rfl,s1⟩
     | succ j=>exact k j i' (by simpa using hj)
    ·cases e
   ·cases e
  ·cases e
noncomputable def ob0 (cds:List D):D:=.ob 0 ⟨.none,none,.plain,#[]⟩ [] cds
open Classical in
noncomputable def z6r (F:D->(List D->Option (D × Nat))->List D->Option (D × Nat)) (fb:Den) (is:List Nat) (fN:Den):Den:=fun ρ=>match fN ρ with
 | some (.int m,_,ρ1)=>match z8n is ρ1 with
  | some cds=>if ∀ f fo vs,F (.ob f fo vs cds) (z04 fb cds) [.int m,.ob f fo vs cds]=F (ob0 cds) (z04 fb cds) [.int m,ob0 cds]then match F (ob0 cds) (z04 fb cds) [.int m,ob0 cds]with
   | some (r,q)=>some (r,q,ρ1)
   | none=>none
   else none
  | none=>none
 | _=>none
theorem z93 {X:Cx} {x y:Str} {c P fn:Addr} {j k kb:Nat} {ps caps:List Str} {is:List Nat} {params:Arguments} {body eN:Expr} {scope:Scope} {fN fb:Den} {F:D->(List D->Option (D × Nat))->List D->Option (D × Nat)} {p lp pos:Pos}
  (hfn:X.fn=fun _=>true) (L:Lm X.K X.mg X.base) (hx:x∈x6v) (ht:tabIn X.K x=some (c,P)) (hcode:X.env.code=.ref c) (S:LamScope ps caps scope)
  (hm:X.mg y=some (.ref fn)) (hkp:keepIn X.K (.ref fn)=true) (hr:Room j X.A) (hk:k<=j)
  (hF:∀ base' ob G,z5v X.prog X.w X.K X.mg base' (kb+1) ob ps.length G->Cal X.prog X.w X.K X.mg base' k y 2 (F ob G))
  (hbody:∀ (base':Heap) (f c':Addr) (cl:List (Str × Addr)) (q:Str) (A:Around) (outer:List Env) (s:Shared) (H:Hp),Room kb (A.deeper (envX q scope s.heap.objs.size f (.ref c') cl))->PD (cxL X.prog X.w X.K X.mg base' (ps++caps) q scope f (.ref c') cl A outer s H) body fb)
  (hbind:∀ (cl:List (Str × Addr)) (pm cdv ctv:Value) (us:List Value),us.length=ps.length->bindArgs (kla_fn "<lambda>" (X.env.qual ++ "<lambda>") params body scope cl pm cdv ctv) ⟨us,[]⟩=pure (ps.zip us))
  (hN:∀ (j:Nat) (z:Str),caps[j]? = some z->∃ i,is[j]? = some i/\X.N[i]? = some z/\X.env.scope.names.lookup z=some .cell) (hl:is.length=caps.length) (ha:PD X eN fN)
  (hcl:closureFor scope X.env=pure (x89 caps X.env.cells):=by rfl) (hdf:defaultsOf params X.env=([],[]):=by rfl) (hg:Gl X y:=by rfl) (hdb:(y == ("__debug__":Str))=false:=by decide)
  (he:starEach [eN,.Lambda params body scope lp] X.env=(false,eval eN X.env)::starEach [.Lambda params body scope lp] X.env:=by rfl) (hpl:(backTo pos (starEach [.Lambda params body scope lp] X.env)).any (·.1)=false:=by rfl) :
  PD X (.Call (.Name y p) [eN,.Lambda params body scope lp] [] pos) (z6r F fb is fN):=by
 intro pins s σ H Q I hh0
 obtain⟨ρ,w,t,r',q,ρ',gd,ee,k'⟩:=hh0
 unfold z6r at ee
 split at ee
 ·rename_i m q1 ρ1 h1
  split at ee
  ·rename_i cds hc
   split at ee
   ·rename_i hall
    split at ee
    ·rename_i r0 q0 hres
     cases ee
     refine wpAny_Call_Name_kw (y9c I hg hm ?_ hdb)
     refine PySem.W.callWith_K (h₀:=X.base) I.ok.mod.kin hkp ?_ he hpl
     rw[he]
     show wpAny _ _ (spliced ((false,eval eN X.env)::backTo pos (starEach [.Lambda params body scope lp] X.env))) _ _ s
     refine Calls.spliced_cons (thn (ha pins s σ H (fun v H1=>∃ w1 F1,Good X.K ρ' σ H1 w1 (t+1)/\Go H w H1 w1/\Rep X.K H1 w1 (.t t) q1 (.int m) v F1) I ⟨ρ,w,t,_,_,_,gd,h1,fun v H1 w1 F1 g1 go1 r1=>⟨w1,F1,g1,go1,r1⟩⟩) fun u s1 hh1=>?_)
     obtain⟨v,H1,I1,rv,w1,F1,g1,go1,r1⟩:=hh1
     cases r1
     rw[y4a]
     show wpAny _ _ (spliced ((false,eval (.Lambda params body scope lp) X.env)::backTo pos (starEach [] X.env))) _ _ s1
     refine Calls.spliced_cons (z2t I1 L g1.wl.tb hx ht hcode hcl hdf fun f c' pm ctv oc h' tk H2 u1 u2 I2 hf hc' clo sm2 tb2=>Calls.spliced_nil ⟨I2.kIn,?_⟩)
     obtain⟨g2,go2⟩:=g1.drop.grow sm2 tb2
     have go02:=(go1.drop gd.wt).trans go2
     obtain⟨cvs,rc,lc,kc⟩:=y7o g2 hc
     have cl_at:∀ z c,(x89 caps X.env.cells).lookup z=some c->∃ v,h'.IsCell c v:=fun z c e=>I2.cell z c (y0o e)
     have exs:∀ z c,(x89 caps X.env.cells).lookup z=some c->c∈(x89 caps X.env.cells).map (·.2):=fun z c e=>List.mem_map.mpr ⟨(z,c),PySem.mem_of_lookup e,rfl⟩
     have exc:∀ b∈(x89 caps X.env.cells).map (·.2),∃ z,X.env.cells.lookup z=some b:=fun b hb=>by
      have gen:∀ (l:List Str) b,b∈(x89 l X.env.cells).map (·.2)->∃ z,X.env.cells.lookup z=some b:=by
       intro l
       induction l with
       | nil=>intro b hb; cases hb
       | cons z l ih=>
        intro b hb
        unfold x89 at hb
        split at hb
        ·rename_i c0 e0
         rcases List.mem_cons.mp hb with z1 | z1
         ·exact⟨z,by rw[z1]; exact e0⟩
         ·exact ih b z1
        ·exact ih b hb
      exact gen caps b hb
     have C:CellsOk (y8w X.base h' ((x89 caps X.env.cells).map (·.2))) (x89 caps X.env.cells) caps cvs:=by
      refine⟨lc.trans hl,fun i z v h1 h2=>?_,fun a b c h1 h2=>I2.ok.inj a b c (y0o h1) (y0o h2),fun z c e=>?_⟩
      ·obtain⟨ix,e1,e2,e3⟩:=hN i z h1
       obtain⟨v',e4,e5⟩:=kc i ix e1
       rw[h2]at e4; cases e4
       obtain⟨mm,_,lk⟩:=I2.loc
       obtain⟨u,ru,lk⟩:=lk ix z v e2 e5 (.inr (.inl e3))
       rcases lk with⟨z1,_⟩ | ⟨_,c,e6,o,e7,e8⟩
       ·have z2:X.env.scope.names.lookup z=some .local:=z1
        rw[e3]at z2; cases z2
       ·have e9:=y55 e6 (List.mem_of_getElem? h1)
        exact⟨c,u,e9,ru,o,y2q e7 (.inr (exs z c e9)),e8⟩
      ·obtain⟨v,o,e1,e2⟩:=cl_at z c e
       exact⟨v,o,y2q e1 (.inr (exs z c e)),e2⟩
     have kb':∀ b o,X.base.get? b=some o->(y8w X.base h' ((x89 caps X.env.cells).map (·.2))).get? b=some o:=fun b o e=>y2q (I2.bk b o e) (.inl (by rw[e]; rfl))
     have hM:Mod X.K X.mg (y8w X.base h' ((x89 caps X.env.cells).map (·.2))):=by
      obtain⟨m1,m2,⟨mb,m3,m4⟩,m5⟩:=I.mod
      exact⟨m1.keeps kb',m2.keeps kb',⟨mb,m3.keeps kb',m4⟩,m5.keeps kb'⟩
     have frs':∀ L o,X.base.get? L=none->h'.get? L=some o->(L∈X.fs\/L=X.env.locals)->(y8w X.base h' ((x89 caps X.env.cells).map (·.2))).get? L=none:=fun L o n e hL=>by
      cases q:(y8w X.base h' ((x89 caps X.env.cells).map (·.2))).get? L with
      | none=>rfl
      | some o'=>
       rcases(y8j q).2 with z | z
       ·rw[n]at z; cases z
       ·obtain⟨y,ey⟩:=exc L z
        rcases hL with hL | hL
        ·obtain⟨_,o2,e2,_⟩:=I2.ok.funs.mem hL
         have:=I2.ok.cab y L (by rw[hfn]) ey
         exact absurd (Heap.lt_size e2) (Nat.not_lt.mpr this)
        ·exact absurd hL (I2.cne y L ey)
     have e0:Env0 X.prog X.w X.K X.mg (y8w X.base h' ((x89 caps X.env.cells).map (·.2))) X.A X.stack { s1 with heap:=h',toks:=tk } H2:=by
      refine⟨I2.ok.frames,hM,fun b o e=>?_,Nat.le_of_eq (hideAll_size _ _),?_,I2.stkFree,I2.hok,I2.bare⟩
      ·obtain⟨e1,e2⟩:=y8j e
       refine⟨e1,?_⟩
       rcases e2 with z | z
       ·obtain⟨o',z'⟩:=Option.isSome_iff_exists.mp z
        exact(I2.bs b o' z').2
       ·obtain⟨y,ey⟩:=exc b z
        exact I2.freeC y b ey
      ·have all:∀ l:List Env,(∀ b∈frs l,b∈X.env.locals::X.fs)->h'.FunFrames X.base l->h'.FunFrames (y8w X.base h' ((x89 caps X.env.cells).map (·.2))) l:=by
        intro l
        induction l with
        | nil=>intro _ _; trivial
        | cons env r ih=>
         intro hs hl
         obtain⟨hk,⟨L,o,hf,hn,ho,hd⟩,hr⟩:=hl
         have hL:L∈X.env.locals::X.fs:=hs L (by unfold frs; rw[List.filterMap_cons,hf]; exact List.mem_cons_self)
         refine⟨hk,⟨L,o,hf,frs' L o hn ho ?_,ho,hd⟩,ih (fun b hb=>hs b (by unfold frs; rw[List.filterMap_cons,hf]; exact List.mem_cons_of_mem _ hb)) hr⟩
         rcases List.mem_cons.mp hL with z | z
         ·exact .inr z
         ·exact .inl z
       exact all X.stack I2.stkSub I2.stack
     have hcal:=hF (y8w X.base h' ((x89 caps X.env.cells).map (·.2))) (.ob f (kla_obj "<lambda>" (X.env.qual ++ "<lambda>") params body scope (x89 caps X.env.cells) pm c' ctv) cvs cds) (z04 fb cds)
      ⟨f,_,cvs,cds,kla_fn "<lambda>" (X.env.qual ++ "<lambda>") params body scope (x89 caps X.env.cells) pm (.ref c') ctv,ps,rfl,rfl,j0c S C (fun q A outer s H hr=>hbody _ f c' _ q A outer s H hr),hbind _ _ _ _⟩
     obtain⟨fn',fd,ps',G,hm',hkp',hb⟩:=hcal
     obtain rfl:fn=fn':=by rw[hm]at hm'; cases hm'; rfl
     have rob:Rep X.K H2 (x1n t w1) .f 0 (.ob f (kla_obj "<lambda>" (X.env.qual ++ "<lambda>") params body scope (x89 caps X.env.cells) pm c' ctv) cvs cds) (.ref f) []:=.ob hf hc' clo rc
     have hsp:spD X.K 2 (F (.ob f (kla_obj "<lambda>" (X.env.qual ++ "<lambda>") params body scope (x89 caps X.env.cells) pm c' ctv) cvs cds) (z04 fb cds)) [.int m,.ref f] H2 Q E0:=by
      refine⟨rfl,[.int m,.ob f (kla_obj "<lambda>" (X.env.qual ++ "<lambda>") params body scope (x89 caps X.env.cells) pm c' ctv) cvs cds],fun a=>((x1n t w1) a).map fun _=>Ow.f,r',q,fun a o e=>?_,⟨fun a o e=>?_,tb2⟩,?_,(hall _ _ _).trans hres,fun v H3 w3 Fo go3 wl3 rr=>?_⟩
      ·try dsimp only at e
       cases ew:(x1n t w1) a with
       | none=>rw[ew]at e; cases e
       | some o'=>rw[ew]at e; cases e; rfl
      ·try dsimp only at e
       cases ew:(x1n t w1) a with
       | none=>rw[ew]at e; cases e
       | some o'=>exact g2.wl a o' ew
      ·exact .cons (F:=[]) (G:=[]) (.int m) (.cons (F:=[]) (G:=[]) (Rep.freeze (fun a n=>by show((x1n t w1) a).map _=_; rw[n]; rfl) rob (fun _ z=>nomatch z)) .nil (fun _ z=>nomatch z)) (fun _ z=>nomatch z)
      ·obtain⟨b1,b2,b3⟩:=j1s g2 go3 wl3 rr
       exact k' _ _ _ _ b1 (go02.trans b2) b3
     have vals:x2h [.int m,.ref f] [u,.ref f]:=.cons rv (.cons rfl .nil)
     have hl2:([u,Value.ref f]++[]).length=ps'.length:=by
      rw[List.append_nil,<- vals.length]
      exact G.len _ _ _ _ hsp
     refine wpAny_call (codeAny_mono (G.run X.A X.stack _ H2 ⟨[u,.ref f],[]⟩ [u,.ref f] [.int m,.ref f] Q E0 (hr.mono hk) e0 ?_ vals hsp) fun r s' hq=>?_)
     ·have:=hb { s1 with heap:=h',toks:=tk } [u,.ref f] I2.kIn hl2
      rw[List.append_nil]at this
      exact this
     ·cases r with
      | error e=>exact False.elim hq
      | ok fl=>
       cases fl with
       | ret u=>exact I2.after hq
       | next=>exact False.elim hq
       | brk=>exact False.elim hq
       | cont=>exact False.elim hq
    ·cases ee
   ·cases ee
  ·cases ee
 ·cases ee
end L3
namespace L3
open PySem PySem.Spec PyProof.Rows L2
@[simp] noncomputable def y1b (i:Nat):Den:=fun ρ=>match ρ[i]? with
 | some (some (.lst ds,q))=>if q<=1 then some (.lst ds,1,ρ)else none
 | some (some (.tup ds,_))=>some (.lst ds,1,ρ)
 | _=>none
@[simp] noncomputable def z9k (i j:Nat):Den:=fun ρ=>match ρ[i]? with
 | some (some (d,_))=>match ρ[j]? with
  | some (some (e,_))=>match dNe d e with
   | some r=>some (r,9,ρ)
   | none=>none
  | _=>none
 | _=>none
theorem Rep.seqV {K:PySem.W.Frag} {H:Hp} {w:Wn} {o:Ow} {q:Nat} {ds:List D} {v:V} {F:List Addr} (r:Rep K H w o q (.lst ds) v F) (hq:q<=1):∃ a vs,v=.ref a/\SqL K H a vs/\Reps K H w o 0 ds vs []:=by
 cases r with
 | kl h r=>exact⟨_,_,rfl,h.sq,r⟩
 | shr h n r=>exact⟨_,_,rfl,.inl h,r⟩
 | own h n r ne=>
  rename_i q' _ _ _
  obtain rfl:q'=0:=by omega
  have e:=r.zero
  subst e
  exact⟨_,_,rfl,SqL.of h,r⟩
section
variable {X:Cx} {pos p p1 p2:Pos}
theorem z2d {i:Nat} {x:Str} (hm:X.mg "list" = none) (hb:bootBuiltins "list" = some (.type "list")) (h:PE X (.Name x p1) (x74 i)) (hg:Gl X "list":=by rfl) (he:starEach [.Name x p1] X.env=(false,eval (.Name x p1) X.env)::starEach [] X.env:=by rfl) (hpl:(backTo pos (starEach [] X.env)).any (·.1)=false:=by rfl):PD X (.Call (.Name "list" p) [.Name x p1] [] pos) (y1b i):=
 PE.imp (x61 x95 hg hm hb (x64 h y0s he) (by decide) (by decide) he hpl) fun σ H Q hh0=>by
 obtain⟨ρ,w,t,r',q,ρ',gd,ee,k⟩:=hh0
 unfold y1b at ee
 split at ee
 ·rename_i ds q0 e0
  split at ee
  ·rename_i hq
   cases ee
   obtain⟨v,F,h1,h2⟩:=gd.slot i _ q0 e0
   obtain⟨p,ys,rfl,hs,rs⟩:=h2.seqV hq
   refine⟨_,h1,p,ys,rfl,.inl hs,fun l hl=>?_⟩
   obtain⟨a1,a2,a3⟩:=y3i gd hl (rs.any gd.wl)
   exact k _ _ _ _ a1 a2 a3
  ·cases ee
 ·rename_i ds q0 e0
  cases ee
  obtain⟨v,F,h1,h2⟩:=gd.slot i _ q0 e0
  obtain⟨p,ys,rfl,hs,rs⟩:=h2.seqT
  refine⟨_,h1,p,ys,rfl,.inr hs,fun l hl=>?_⟩
  obtain⟨a1,a2,a3⟩:=y3i gd hl (rs.any gd.wl)
  exact k _ _ _ _ a1 a2 a3
 ·cases ee
theorem j0o {k i j:Nat} {x y:Str} (hr:Room k X.A) (ha:PE X (.Name x p1) (x74 i)) (hb:PE X (.Name y p2) (x74 j)):PD X (.Compare (.Name x p1) [.NotEq] [.Name y p2] pos) (z9k i j):=
 PE.imp (y8v (z3k hr.units) ha hb (y0c _)) fun σ H Q hh0=>by
 obtain⟨ρ,w,t,r',q,ρ',gd,ee,k⟩:=hh0
 unfold z9k at ee
 split at ee
 ·rename_i d q0 e0
  split at ee
  ·rename_i e q1 e1
   split at ee
   ·rename_i r hd
    cases ee
    unfold dNe at hd
    split at hd
    ·rename_i hk
     cases hd
     obtain⟨v,F,h1,h2⟩:=gd.slot i _ q0 e0
     obtain⟨u,F',h3,h4⟩:=gd.slot j _ q1 e1
     exact⟨_,h1,_,h3,d,e,⟨_,_,_,_,h2⟩,⟨_,_,_,_,h4⟩,hk.1,hk.2,k _ H w [] gd.up Go.refl (.bl _)⟩
    ·cases hd
   ·cases ee
  ·cases ee
 ·cases ee
end
structure QE (X:Cx) (e:Expr) (t:TE):Prop where mk::o:PE X e t
structure QD (X:Cx) (e:Expr) (f:Den):Prop where mk::o:PD X e f
structure QDA (X:Cx) (e:List Expr) (f:x1u):Prop where mk::o:PDA X e f
structure QDT (X:Cx) (e:Expr) (f:x2j):Prop where mk::o:PDT X e f
structure QDW (X:Cx) (e:Expr) (f:x2j):Prop where mk::o:PDW X e f
structure QDS (X:Cx) (e:Stmt) (f:x1a):Prop where mk::o:PDS X e f
structure QDSs (X:Cx) (e:List Stmt) (f:x1a):Prop where mk::o:y7l X e f
structure QDI (X:Cx) (tg e:Expr) (f:y28):Prop where mk::o:PDI X tg e f
structure QDG (X:Cx) (b:Nat) (e:Expr) (f:x5p):Prop where mk::o:PDG X b e f
structure QDGs (X:Cx) (b:Nat) (e:List Expr) (f:x9c):Prop where mk::o:z8t X b e f
structure QDO (X:Cx) (e:Option Expr) (f:z3l):Prop where mk::o:PDO X e f
structure QDTs (X:Cx) (e:List Expr) (f:x2j):Prop where mk::o:z8a X e f
structure QQ (X:Cx) (e:Expr) (f:y0k):Prop where mk::o:PQ X e f
theorem qv {X:Cx} (i:Nat) {x:Str} {pos:Pos} (hN:X.N[i]? = some x:=by rfl) (hv:Vis X.env.scope x:=by first | exact Or.inl rfl | exact Or.inr (Or.inl rfl) | exact Or.inr (Or.inr rfl)) (hd:(x == ("__debug__":Str))=false:=by decide) (hcd:(x == ("__classdict__":Str))=false:=by decide):QE X (.Name x pos) (x74 i):=⟨pv i hN hv hd hcd⟩
theorem z26 {X:Cx} {e:Expr} {f:x2j} (h:QDW X e f):QDT X e f:=⟨PW.pt h.o⟩
section
variable {X:Cx} {a b c e:Expr} {fa fb fc f:Den} {pos:Pos}
theorem x0b {i j}:QD X (.Constant (.int i) j pos) (eC (.int i)):=⟨z7z ⟩
end
section
variable {X:Cx} {a b c e:Expr} {fa fb fc f:Den} {pos:Pos}
theorem x4b {i j}:QD X (.Constant (.bool i) j pos) (eC (.bl i)):=⟨j22 ⟩
end
section
variable {X:Cx} {a b c e:Expr} {fa fb fc f:Den} {pos:Pos}
theorem z36 {j}:QD X (.Constant .none j pos) (eC .non):=⟨z9b ⟩
end
section
variable {X:Cx} {a b c e:Expr} {fa fb fc f:Den} {pos:Pos}
theorem y82 {x j}:QD X (.Constant (.str x) j pos) (eC (.str x)):=⟨z8q ⟩
end
section
variable {X:Cx} {a b c e:Expr} {fa fb fc f:Den} {pos:Pos}
theorem x02 {i:Nat} {x:Str} (h:QE X (.Name x pos) (x74 i)):QD X (.Name x pos) (x06 i):=⟨j0j h.o⟩
end
section
variable {X:Cx} {a b c e:Expr} {fa fb fc f:Den} {pos:Pos}
theorem x1h (ha:QD X a fa) (hb:QD X b fb):QD X (.BinOp a .Add b pos) (e2 x39 fa fb):=⟨z98 ha.o hb.o⟩
end
section
variable {X:Cx} {a b c e:Expr} {fa fb fc f:Den} {pos:Pos}
theorem x5r (ha:QD X a fa) (hb:QD X b fb):QD X (.BinOp a .Mult b pos) (e2 y22 fa fb):=⟨z8s ha.o hb.o⟩
end
section
variable {X:Cx} {a b c e:Expr} {fa fb fc f:Den} {pos:Pos}
theorem y8i (ha:QD X a fa) (hb:QD X b fb):QD X (.BinOp a .FloorDiv b pos) (e2 j08 fa fb):=⟨j06 ha.o hb.o⟩
end
section
variable {X:Cx} {a b c e:Expr} {fa fb fc f:Den} {pos:Pos}
theorem y1v (ha:QD X a fa) (hb:QD X b fb):QD X (.BinOp a .Mod b pos) (e2 z3q fa fb):=⟨z9h ha.o hb.o⟩
end
section
variable {X:Cx} {a b c e:Expr} {fa fb fc f:Den} {pos:Pos}
theorem x47 (ha:QD X a fa) (hb:QD X b fb) (hs:x49 b:=by exact fun _ _=>rfl):QD X (.Subscript a b pos) (eIx fa fb):=⟨j2c ha.o hb.o hs⟩
end
section
variable {X:Cx} {a b c e:Expr} {fa fb fc f:Den} {pos:Pos}
theorem x03:QDA X [] x0f:=⟨z63 ⟩
end
section
variable {X:Cx} {a b c e:Expr} {fa fb fc f:Den} {pos:Pos}
theorem x00 {es:List Expr} {g:x1u} (ha:QD X e f) (hr:QDA X es g) (hs:starEach (e::es) X.env=(false,eval e X.env)::starEach es X.env:=by rfl):QDA X (e::es) (x01 f g):=⟨z2a ha.o hr.o hs⟩
end
section
variable {X:Cx} {a b c e:Expr} {fa fb fc f:Den} {pos:Pos}
theorem x2e {es:List Expr} {g:x1u} (h:QDA X es g):QD X (.List es pos) (x5h g):=⟨z7q h.o⟩
end
section
variable {X:Cx} {a b c e:Expr} {fa fb fc f:Den} {pos:Pos}
theorem x4d {es:List Expr} {g:x1u} {x1} (h:QDA X es g):QD X (.Tuple es x1 pos) (x91 g):=⟨z81 h.o⟩
end
section
variable {X:Cx} {a b c e:Expr} {fa fb fc f:Den} {ga gb gc:x2j} {pos:Pos}
theorem x3l (ha:QD X a fa) (he:∀ whole,isTrue a X.env whole=(do let v <- whole; standAt a.pos; holding [v] (truthy v)):=by exact fun _=>rfl):QDT X a (x88 fa):=⟨z45 ha.o he⟩
end
section
variable {X:Cx} {a b c e:Expr} {fa fb fc f:Den} {ga gb gc:x2j} {pos:Pos}
theorem y6i (ha:QD X a fa) (hb:QD X b fb):QDT X (.Compare a [.Lt] [b] pos) (x3n (e2 dLt fa fb)):=⟨z86 ha.o hb.o⟩
end
section
variable {X:Cx} {a b c e:Expr} {fa fb fc f:Den} {ga gb gc:x2j} {pos:Pos}
theorem x5u (ha:QDT X a ga):QDT X (.UnaryOp .Not a pos) (x4z ga):=⟨z5m ha.o⟩
end
section
variable {X:Cx} {a b c e:Expr} {fa fb fc f:Den} {ga gb gc:x2j} {pos:Pos} {x2i:List Expr}
theorem y2k (ha:QDT X a ga):QDW X (.BoolOp .Or [a] pos) ga:=⟨z4t ha.o⟩
end
section
variable {X:Cx} {a b c e:Expr} {fa fb fc f:Den} {ga gb gc:x2j} {pos:Pos} {x2i:List Expr}
theorem y4d (ha:QDT X a ga) (hb:QDW X (.BoolOp .Or (b::x2i) pos) gb):QDW X (.BoolOp .Or (a::b::x2i) pos) (y88 ga gb):=⟨z8r ha.o hb.o⟩
end
section
variable {X:Cx} {a b c e:Expr} {fa fb fc f:Den} {ga gb gc:x2j} {pos:Pos} {x2i:List Expr}
theorem z2x (hc:QDT X c gc) (ha:QD X a fa) (hb:QD X b fb):QD X (.IfExp c a b pos) (eIf gc fa fb):=⟨z1q hc.o ha.o hb.o⟩
end
section
variable {X:Cx} {a b c e:Expr} {fa fb fc f:Den} {ga gb gc:x2j} {pos:Pos} {st:Stmt} {x2i sa sb:List Stmt} {s s':x1a}
theorem x1k:QDSs X [] x5i:=⟨z60 ⟩
end
section
variable {X:Cx} {a b c e:Expr} {fa fb fc f:Den} {ga gb gc:x2j} {pos:Pos} {st:Stmt} {x2i sa sb:List Stmt} {s s':x1a}
theorem x07 (h1:QDS X st s) (h2:QDSs X x2i s'):QDSs X (st::x2i) (x18 s s'):=⟨z0k h1.o h2.o⟩
end
section
variable {X:Cx} {a b c e:Expr} {fa fb fc f:Den} {ga gb gc:x2j} {pos:Pos} {st:Stmt} {x2i sa sb:List Stmt} {s s':x1a}
theorem x0c (h1:QDS X st s):QDSs X [st] s:=⟨z4i h1.o⟩
end
section
variable {X:Cx} {a b c e:Expr} {fa fb fc f:Den} {ga gb gc:x2j} {pos:Pos} {st:Stmt} {x2i sa sb:List Stmt} {s s':x1a}
theorem x0l (h:QD X e f):QDS X (.Return (some e) pos) (x2m f):=⟨z59 h.o⟩
end
section
variable {X:Cx} {a b c e:Expr} {fa fb fc f:Den} {ga gb gc:x2j} {pos:Pos} {st:Stmt} {x2i sa sb:List Stmt} {s s':x1a}
theorem x2o (hc:QDT X c gc) (ha:QDSs X sa s) (hb:QDSs X sb s'):QDS X (.If c sa sb pos) (sIf gc s s'):=⟨z7f hc.o ha.o hb.o⟩
end
section
variable {X:Cx} {a b c e:Expr} {fa fb fc f:Den} {ga gb gc:x2j} {pos:Pos} {st:Stmt} {x2i sa sb:List Stmt} {s s':x1a}
theorem x0r {i:Nat} {x:Str} {pos':Pos} (hN:X.N.Nodup) (hi:X.N[i]? = some x) (hx:Loc X.env.scope x) (he:QD X e f) (hs:swapsWith e (some (.Name x pos')) pos.line X.env=pure false:=by rfl) (hf:X.fn x=true\/X.env.scope.names.lookup x=some .local:=by first | exact .inl rfl | exact .inr rfl):QDS X (.Assign [.Name x pos'] e pos) (x23 i f):=⟨z4l hN hi hx he.o hs hf⟩
end
section
variable {X:Cx} {a b c e:Expr} {fa fb fc f:Den} {ga gb gc:x2j} {pos:Pos} {st:Stmt} {x2i sa sb:List Stmt} {s s':x1a}
theorem x2v (he:QD X e f) (hs:swapsWith e none pos.line X.env=pure false:=by rfl):QDS X (.Expr e pos) (x3q f):=⟨z1p he.o hs⟩
end
section
variable {X:Cx} {tg a b c e:Expr} {fa fb fc f:Den} {ga gb gc:x2j} {pos p:Pos}
theorem x0t {g:x1u} (hm:X.mg "range" = none) (ha:QDA X [a] g) (hg:Gl X "range":=by rfl) (hs:starEach [a] X.env=[(false,eval a X.env)]:=by rfl):QDI X tg (.Call (.Name "range" p) [a] [] pos) (x15 g):=⟨y6t hm ha.o hg hs⟩
end
section
variable {X:Cx} {tg a b c e:Expr} {fa fb fc f:Den} {ga gb gc:x2j} {pos p:Pos}
theorem x31 (ha:QD X a fa):QDI X tg a (x6f fa):=⟨z6f ha.o⟩
end
section
theorem x0j {X:Cx} {b i:Nat} {x:Str} {pos:Pos} (hb:b<=i) (hN:X.N.Nodup) (hi:X.N[i]? = some x) (hx:Loc X.env.scope x) (hf:X.fn x=true\/X.env.scope.names.lookup x=some .local:=by first | exact .inl rfl | exact .inr rfl):QDG X b (.Name x pos) (x0i i):=⟨z1c hb hN hi hx hf⟩
end
section
theorem x1p {X:Cx} {tg iter:Expr} {body:List Stmt} {it:y28} {pt:x5p} {s:x1a} {pos:Pos} (hp:PassesOwn (model X.prog X.w) X.A X.env X.xe) (hc:X.calm=true) (hi:QDI X tg iter it) (hg:QDG X 0 tg pt) (hb:QDSs X body s) (hs:∀ x,foldedSetIterable iter X.env x=pure x:=by intro _; rfl):QDS X (.For tg iter body [] pos) (x6h it pt s):=⟨z6a hp hc hi.o hg.o hb.o hs⟩
end
section
variable {X:Cx} {k:Nat} {N':List Str} {scope:Scope} {elt tg iter:Expr} {ifs:List Expr} {pos:Pos} {it:y28} {pt:x5p} {tt:x2j} {te:Den}
theorem x2n:QDTs X [] x2l:=⟨z1b ⟩
end
section
variable {X:Cx} {k:Nat} {N':List Str} {scope:Scope} {elt tg iter:Expr} {ifs:List Expr} {pos:Pos} {it:y28} {pt:x5p} {tt:x2j} {te:Den}
theorem x7l {c:Expr} {g:x2j} (h:QDT X c g):QDTs X [c] g:=⟨z0j h.o⟩
end
section
variable {X:Cx} {k:Nat} {N':List Str} {scope:Scope} {elt tg iter:Expr} {ifs:List Expr} {pos:Pos} {it:y28} {pt:x5p} {tt:x2j} {te:Den}
theorem x2z (deep:Bool) (hc:X.calm=true) (S:CompOk X k N' scope) (hi:QDI X tg iter it) (hg:∀ C s H fp,QDG (x1r X N' scope C s H fp) X.N.length tg pt) (ht:∀ C s H fp,QDTs (x1r X N' scope C s H fp) ifs tt) (he:∀ C s H fp,QD (x1r X N' scope C s H fp) elt te) (hs:∀ x,foldedSetIterable iter X.env x=pure x:=by intro _; rfl):QD X (.ListComp elt [⟨tg,iter,ifs,0⟩] scope pos) (x2y k it pt tt te deep):=⟨z6d deep hc S hi.o (fun C s H fp=>(hg C s H fp).o) (fun C s H fp=>(ht C s H fp).o) (fun C s H fp=>(he C s H fp).o) hs⟩
end
section
variable {X:Cx} {k:Nat} {N':List Str} {scope:Scope} {elt tg iter:Expr} {ifs:List Expr} {pos:Pos} {it:y28} {pt:x5p} {tt:x2j} {te:Den}
theorem y2w {i:Nat} {y:Str} {py spos:Pos} (deep:Bool) (hN:X.N.Nodup) (hy:X.N[i]? = some y) (hx:Loc X.env.scope y) (hsw:swapsWith (.ListComp elt [⟨tg,iter,ifs,0⟩] scope pos) (some (.Name y py)) spos.line X.env=pure true) (hc:X.calm=true) (S:CompOk X k N' scope) (hi:QDI X tg iter it) (hg:∀ C s H fp,QDG (x1r X N' scope C s H fp) X.N.length tg pt) (ht:∀ C s H fp,QDTs (x1r X N' scope C s H fp) ifs tt) (he:∀ C s H fp,QD (x1r X N' scope C s H fp) elt te) (hs:∀ x,foldedSetIterable iter X.env x=pure x:=by intro _; rfl) (hf:X.fn y=true\/X.env.scope.names.lookup y=some .local:=by first | exact .inl rfl | exact .inr rfl | assumption):QDS X (.Assign [.Name y py] (.ListComp elt [⟨tg,iter,ifs,0⟩] scope pos) spos) (x23 i (x2y k it pt tt te deep)):=⟨z30 deep hN hy hx hsw hc S hi.o (fun C s H fp=>(hg C s H fp).o) (fun C s H fp=>(ht C s H fp).o) (fun C s H fp=>(he C s H fp).o) hs hf⟩
end
section
variable {X:Cx} {a b c e:Expr} {fa fb fc f:Den} {pos:Pos}
theorem z9p {k:Nat} (hr:Room k X.A) (ha:QD X a fa) (hb:QD X b fb):QD X (.Compare a [.Eq] [b] pos) (e2 dEq fa fb):=⟨j1y hr ha.o hb.o⟩
end
section
variable {X:Cx} {a b c e:Expr} {fa fb fc f:Den} {pos:Pos}
theorem y1r {k:Nat} (hr:Room k X.A) (ha:QD X a fa) (hb:QD X b fb):QDT X (.Compare a [.Eq] [b] pos) (x3n (e2 dEq fa fb)):=⟨z7p hr ha.o hb.o⟩
end
section
variable {X:Cx} {a b c e:Expr} {fa fb fc f:Den} {pos:Pos}
theorem x6q {k:Nat} (hr:Room k X.A) (ha:QD X a fa) (hb:QD X b fb):QDT X (.Compare a [.NotEq] [b] pos) (x3n (e2 dNe fa fb)):=⟨z85 hr ha.o hb.o⟩
end
section
variable {X:Cx} {a b c e:Expr} {fa fb fc f:Den} {pos:Pos}
theorem z7d {k:Nat} (hr:Room k X.A) (ha:QD X a fa) (hb:QD X b fb) (hm:behindInMarks .In b=false:=by with_unfolding_all rfl):QDT X (.Compare a [.In] [b] pos) (x3n (e2 dIn fa fb)):=⟨j0d hr ha.o hb.o hm⟩
end
section
variable {X:Cx} {a b c e:Expr} {es:List Expr} {fa fb fc f:Den} {g:x1u} {pos p p1 p2:Pos}
theorem y7v (hm:X.mg "len" = none) (ha:QDA X [a] g) (hg:Gl X "len":=by rfl) (he:starEach [a] X.env=(false,eval a X.env)::starEach [] X.env:=by rfl) (hpl:(backTo pos (starEach [] X.env)).any (·.1)=false:=by rfl):QD X (.Call (.Name "len" p) [a] [] pos) (eB z1e g):=⟨j0f hm ha.o hg he hpl⟩
end
section
variable {X:Cx} {a b c e:Expr} {es:List Expr} {fa fb fc f:Den} {g:x1u} {pos p p1 p2:Pos}
theorem x16 {i:Nat} {x:Str} (hm:X.mg "len" = none) (h:QE X (.Name x p1) (x74 i)) (hg:Gl X "len":=by rfl) (he:starEach [.Name x p1] X.env=(false,eval (.Name x p1) X.env)::starEach [] X.env:=by rfl) (hpl:(backTo pos (starEach [] X.env)).any (·.1)=false:=by rfl):QD X (.Call (.Name "len" p) [.Name x p1] [] pos) (x1d i):=⟨z5e hm h.o hg he hpl⟩
end
section
variable {X:Cx} {a b c e:Expr} {es:List Expr} {fa fb fc f:Den} {g:x1u} {pos p p1 p2:Pos}
theorem y8b (hc:X.calm=true) (hm:X.mg "max" = none) (hb:bootBuiltins "max" = some (.builtin "max")) (ha:QDA X (a::es) g) (hg:Gl X "max":=by rfl) (he:starEach (a::es) X.env=(false,eval a X.env)::starEach es X.env:=by rfl) (hpl:(backTo pos (starEach es X.env)).any (·.1)=false:=by rfl):QD X (.Call (.Name "max" p) (a::es) [] pos) (eB z9l g):=⟨z4v hc hm hb ha.o hg he hpl⟩
end
section
variable {X:Cx} {a b c e:Expr} {es:List Expr} {fa fb fc f:Den} {g:x1u} {pos p p1 p2:Pos}
theorem y4e (hm:X.mg "list" = none) (hb:bootBuiltins "list" = some (.type "list")) (ha:QDA X [a] g) (hg:Gl X "list":=by rfl) (he:starEach [a] X.env=(false,eval a X.env)::starEach [] X.env:=by rfl) (hpl:(backTo pos (starEach [] X.env)).any (·.1)=false:=by rfl):QD X (.Call (.Name "list" p) [a] [] pos) (x5b g):=⟨y9u hm hb ha.o hg he hpl⟩
end
section
variable {X:Cx} {a b c e:Expr} {es:List Expr} {fa fb fc f:Den} {g:x1u} {pos p p1 p2:Pos}
theorem x2w (hm:X.mg "tuple" = none) (hb:bootBuiltins "tuple" = some (.type "tuple")) (ha:QDA X [a] g) (hg:Gl X "tuple":=by rfl) (he:starEach [a] X.env=(false,eval a X.env)::starEach [] X.env:=by rfl) (hpl:(backTo pos (starEach [] X.env)).any (·.1)=false:=by rfl):QD X (.Call (.Name "tuple" p) [a] [] pos) (x2r g):=⟨z27 hm hb ha.o hg he hpl⟩
end
section
variable {X:Cx} {a:Expr} {g:x1u} {pos p p1 pos1:Pos}
theorem x9k (hc:X.calm=true) (hm:X.mg "list" = none) (hb:bootBuiltins "list" = some (.type "list")) (hmr:X.mg "range" = none) (ha:QDA X [a] g) (hg:Gl X "list":=by rfl) (hgr:Gl X "range":=by rfl) (hs:starEach [a] X.env=[(false,eval a X.env)]:=by rfl) (he:starEach [.Call (.Name "range" p1) [a] [] pos1] X.env=(false,eval (.Call (.Name "range" p1) [a] [] pos1) X.env)::starEach [] X.env:=by rfl) (hpl:(backTo pos (starEach [] X.env)).any (·.1)=false:=by rfl):QD X (.Call (.Name "list" p) [.Call (.Name "range" p1) [a] [] pos1] [] pos) (x5z g):=⟨z2r hc hm hb hmr ha.o hg hgr hs he hpl⟩
end
section
variable {X:Cx} {a:Expr} {g:x1u} {pos p p1 pos1:Pos}
theorem z5a (hc:X.calm=true) (hm:X.mg "tuple" = none) (hb:bootBuiltins "tuple" = some (.type "tuple")) (hmr:X.mg "range" = none) (ha:QDA X [a] g) (hg:Gl X "tuple":=by rfl) (hgr:Gl X "range":=by rfl) (hs:starEach [a] X.env=[(false,eval a X.env)]:=by rfl) (he:starEach [.Call (.Name "range" p1) [a] [] pos1] X.env=(false,eval (.Call (.Name "range" p1) [a] [] pos1) X.env)::starEach [] X.env:=by rfl) (hpl:(backTo pos (starEach [] X.env)).any (·.1)=false:=by rfl):QD X (.Call (.Name "tuple" p) [.Call (.Name "range" p1) [a] [] pos1] [] pos) (z4e g):=⟨z4u hc hm hb hmr ha.o hg hgr hs he hpl⟩
end
section
variable {X:Cx} {a b c e:Expr} {es:List Expr} {fa fb fc f:Den} {g:x1u} {pos p p1 p2 cpos apos:Pos}
theorem z1k {k:Nat} (hr:Room k X.A) (ho:QD X a fa) (ha:QDA X [e] g) (hbase:attributeBase a "index" X.env (eval a X.env)=eval a X.env:=by rfl) (hfew:((backTo cpos (starEach [e] X.env)).all (fun x=>!x.1) && (backToKw cpos (keywordEach [] X.env)).all (fun x=>x.1.isSome)
   && decide ([e].length+([]:List Keyword).length+(if([]:List Keyword).isEmpty then 0 else 1)<30))=true:=by rfl) (hline:(apos.endLine == cpos.line)=true:=by rfl) (hs:starEach [e] X.env=(false,eval e X.env)::starEach [] X.env:=by rfl) (hplain:(backTo cpos (starEach [] X.env)).any (·.1)=false:=by rfl):QD X (.Call (.Attribute a "index" apos) [e] [] cpos) (y5y fa g):=⟨z0c hr ho.o ha.o hbase hfew hline hs hplain⟩
end
section
variable {X:Cx} {a b c e:Expr} {es:List Expr} {fa fb fc f:Den} {g:x1u} {pos p p1 p2 cpos apos:Pos}
theorem x2f {i:Nat} {x:Str} (h:QE X (.Name x p1) (x74 i)) (ha:QDA X [e] g) (hbase:attributeBase (.Name x p1) "append" X.env (eval (.Name x p1) X.env)=eval (.Name x p1) X.env:=by rfl) (hfew:((backTo cpos (starEach [e] X.env)).all (fun x=>!x.1) && (backToKw cpos (keywordEach [] X.env)).all (fun x=>x.1.isSome)
   && decide ([e].length+([]:List Keyword).length+(if([]:List Keyword).isEmpty then 0 else 1)<30))=true:=by rfl) (hline:(apos.endLine == cpos.line)=true:=by rfl) (hs:starEach [e] X.env=(false,eval e X.env)::starEach [] X.env:=by rfl) (hplain:(backTo cpos (starEach [] X.env)).any (·.1)=false:=by rfl):QD X (.Call (.Attribute (.Name x p1) "append" apos) [e] [] cpos) (x9g i g):=⟨y9m h.o ha.o hbase hfew hline hs hplain⟩
end
section
variable {X:Cx} {a b c e:Expr} {es:List Expr} {fa fb fc f:Den} {g:x1u} {pos p p1 p2 cpos apos:Pos}
theorem z6w {i:Nat} {x:Str} (h:QE X (.Name x p1) (x74 i)) (ha:QDA X [e] g) (hbase:attributeBase (.Name x p1) "pop" X.env (eval (.Name x p1) X.env)=eval (.Name x p1) X.env:=by rfl) (hfew:((backTo cpos (starEach [e] X.env)).all (fun x=>!x.1) && (backToKw cpos (keywordEach [] X.env)).all (fun x=>x.1.isSome)
   && decide ([e].length+([]:List Keyword).length+(if([]:List Keyword).isEmpty then 0 else 1)<30))=true:=by rfl) (hline:(apos.endLine == cpos.line)=true:=by rfl) (hs:starEach [e] X.env=(false,eval e X.env)::starEach [] X.env:=by rfl) (hplain:(backTo cpos (starEach [] X.env)).any (·.1)=false:=by rfl):QD X (.Call (.Attribute (.Name x p1) "pop" apos) [e] [] cpos) (z6s i g):=⟨z9u h.o ha.o hbase hfew hline hs hplain⟩
end
section
variable {X:Cx} {a b c e:Expr} {es:List Expr} {fa fb fc f:Den} {g:x1u} {pos p p1 p2 cpos apos:Pos}
theorem x0p {n:Nat} {x:Str} (h:QE X (.Name x p1) (x74 n)) (hb:QD X b fb) (hs:x49 b:=by exact fun _ _=>rfl):QD X (.Subscript (.Name x p1) b pos) (x10 n fb):=⟨z7s h.o hb.o hs⟩
end
section
variable {X:Cx} {a b c e:Expr} {es:List Expr} {fa fb fc f:Den} {g:x1u} {pos p p1 p2 cpos apos:Pos}
theorem y7m (ha:QD X a fa) (hb:QD X b fb):QD X (.BinOp a .Mult b pos) (y50 fa fb):=⟨z4g ha.o hb.o⟩
end
section
variable {X:Cx} {a b c e:Expr} {es:List Expr} {fa fb fc f:Den} {qa qb:y0k} {g:x1u} {pos p p1 p2 cpos apos:Pos}
theorem y6p {n:Nat} {x:Str} (h:QE X (.Name x p1) (x74 n)):QQ X (.Name x p1) (y69 n):=⟨z6z h.o⟩
end
section
variable {X:Cx} {a b c e:Expr} {es:List Expr} {fa fb fc f:Den} {qa qb:y0k} {g:x1u} {pos p p1 p2 cpos apos:Pos}
theorem z7g {n:Nat} {x:Str} (h:QE X (.Name x p1) (x74 n)) (hb:QQ X b qb) (hs:x49 b:=by exact fun _ _=>rfl):QQ X (.Subscript (.Name x p1) b pos) (qIx n qb):=⟨j1t h.o hb.o hs⟩
end
section
variable {X:Cx} {a b c e:Expr} {es:List Expr} {fa fb fc f:Den} {qa qb:y0k} {g:x1u} {pos p p1 p2 cpos apos:Pos}
theorem z20 {n:Nat} {x:Str} (h:QE X (.Name x p1) (x74 n)) (ha:QQ X a qa) (hb:QQ X b qb) (he:QD X e f) (hi:x49 a:=by exact fun _ _=>rfl) (hasg:∀ v,assign (.Subscript (.Subscript (.Name x p1) a p2) b p) X.env v=(do
   let ov <- holding [v] (eval (.Subscript (.Name x p1) a p2) X.env)
   let iv <- holding [v,ov] (eval b X.env)
   standAt p
   holding [v,ov,iv] (setItem ov iv v)
   release [v,ov,iv] []):=by exact fun _=>rfl) (hs:swapsWithSole [.Subscript (.Subscript (.Name x p1) a p2) b p] e pos.line X.env=pure false:=by rfl):QDS X (.Assign [.Subscript (.Subscript (.Name x p1) a p2) b p] e pos) (y7g n qa qb f):=⟨z0l h.o ha.o hb.o he.o hi hasg hs⟩
end
section
variable {X:Cx} {a b c e:Expr} {es x2i:List Expr} {fa fb fc f:Den} {g:x1u} {pos p p1 p2 cpos apos:Pos}
theorem y9k {op} (h:QD X a fa):QD X (.BoolOp op [a] pos) fa:=⟨z9o h.o⟩
end
section
variable {X:Cx} {a b c e:Expr} {es x2i:List Expr} {fa fb fc f:Den} {g:x1u} {pos p p1 p2 cpos apos:Pos}
theorem y7y (ha:QD X a fa) (hb:QD X (.BoolOp .And (b::x2i) pos) fb):QD X (.BoolOp .And (a::b::x2i) pos) (z3c fa fb):=⟨z9q ha.o hb.o⟩
end
section
variable {X:Cx} {a b c e:Expr} {es x2i:List Expr} {fa fb fc f:Den} {g:x1u} {pos p p1 p2 cpos apos:Pos}
theorem z71 (ha:QD X a fa):QD X (.UnaryOp .Not a pos) (j0w fa):=⟨z7n ha.o⟩
end
section
variable {X:Cx} {a b c e:Expr} {es x2i:List Expr} {fa fb fc f:Den} {g:x1u} {pos p p1 p2 cpos apos:Pos}
theorem x09 {j k n:Nat} {x:Str} {F:List D->Option (D × Nat)} (C:Cal X.prog X.w X.K X.mg X.base k x n F) (hr:Room j X.A) (hk:k<=j) (ha:QDA X (e::es) g) (hg:Gl X x:=by rfl) (hdb:(x == ("__debug__":Str))=false:=by decide) (he:starEach (e::es) X.env=(false,eval e X.env)::starEach es X.env:=by rfl) (hpl:(backTo pos (starEach es X.env)).any (·.1)=false:=by rfl):QD X (.Call (.Name x p) (e::es) [] pos) (x0k F n g):=⟨z2u C hr hk ha.o hg hdb he hpl⟩
end
section
variable {X:Cx} {a b c e:Expr} {es elts:List Expr} {fa fb fc f:Den} {g:x1u} {pos p p1 p2 tp:Pos} {kt:Nat}
theorem z5c (hm:X.mg "zip" = none) (ha:QDA X [a,b] g) (hg:Gl X "zip":=by rfl) (hs:starEach [a,b] X.env=[(false,eval a X.env),(false,eval b X.env)]:=by rfl) (hs2:starEach [b] X.env=[(false,eval b X.env)]:=by rfl):QDI X (.Tuple elts kt tp) (.Call (.Name "zip" p) [a,b] [] pos) (y5n g):=⟨z6i hm ha.o hg hs hs2⟩
end
section
variable {X:Cx} {k b:Nat} {e:Expr} {es:List Expr} {pt:x5p} {ps:x9c} {pos:Pos}
theorem x51:QDGs X b [] x3p:=⟨z0i ⟩
end
section
variable {X:Cx} {k b:Nat} {e:Expr} {es:List Expr} {pt:x5p} {ps:x9c} {pos:Pos}
theorem x1g (h1:QDG X b e pt) (h2:QDGs X b es ps) (hs:(assignEach (e::es) X.env).map (·.2)=assign e X.env::(assignEach es X.env).map (·.2):=by rfl):QDGs X b (e::es) (x0s pt ps):=⟨y7z h1.o h2.o hs⟩
end
section
variable {X:Cx} {k b:Nat} {e:Expr} {es:List Expr} {pt:x5p} {ps:x9c} {pos:Pos}
theorem x6z {n:Nat} (hc:X.calm=true) (h:QDGs X b es ps) (hl:∀ ds ρ ρ',ps ds ρ=some ρ'->ds.length=n) (hn:(assignEach es X.env).length=n:=by rfl) (hst:(assignEach es X.env).findIdx? (·.1)=none:=by rfl):QDG X b (.Tuple es k pos) (x9m ps):=⟨z57 hc h.o hl hn hst⟩
end
section
variable {X:Cx} {a b c e:Expr} {es:List Expr} {fa fb fc f:Den} {g:x1u} {pos p p1 p2:Pos}
theorem z3g (hc:X.calm=true) (hm:X.mg "all" = none) (ha:QDA X [a] g) (hg:Gl X "all":=by rfl) (he:starEach [a] X.env=(false,eval a X.env)::starEach [] X.env:=by rfl) (hpl:(backTo pos (starEach [] X.env)).any (·.1)=false:=by rfl):QD X (.Call (.Name "all" p) [a] [] pos) (eB z0r g):=⟨z9w hc hm ha.o hg he hpl⟩
end
section
variable {X:Cx} {a b c e:Expr} {es:List Expr} {fa fb fc f:Den} {ga gb:x2j} {g:x1u} {pos p p1 p2 pT:Pos}
theorem y46 (T:IT) {t:Str} (hm:X.mg "isinstance" = none) (hmT:X.mg t=none) (hbT:bootBuiltins t=some (.type T.nm)) (ha:QD X a fa) (hg:Gl X "isinstance":=by rfl) (hgT:Gl X t:=by rfl) (hnT:t ≠ "__name__":=by decide) (hdT:(t == ("__debug__":Str))=false:=by decide) (hs:starEach [a,.Name t pT] X.env=(false,eval a X.env)::starEach [.Name t pT] X.env:=by rfl) (hpl:(backTo pos (starEach [.Name t pT] X.env)).any (·.1)=false:=by rfl):QD X (.Call (.Name "isinstance" p) [a,.Name t pT] [] pos) (z3f T fa):=⟨z82 T hm hmT hbT ha.o hg hgT hnT hdT hs hpl⟩
end
section
variable {X:Cx} {a b c e:Expr} {es:List Expr} {fa fb fc f:Den} {ga gb:x2j} {g:x1u} {pos p p1 p2 pT:Pos}
theorem y58 (ha:QD X a fa) (hb:QD X b fb) (hc:QD X c fc) (hm:lastMarks [.LtE,.Lt] [b,c]=false:=by with_unfolding_all rfl):QD X (.Compare a [.LtE,.Lt] [b,c] pos) (eCh dLe dLt fa fb fc):=⟨y5e ha.o hb.o hc.o hm⟩
end
section
variable {X:Cx} {a b c e:Expr} {es:List Expr} {fa fb fc f:Den} {ga gb:x2j} {g:x1u} {pos p p1 p2 pT:Pos}
theorem j1c (ha:QD X a fa) (hb:QD X b fb):QD X (.Compare a [.Is] [b] pos) (e2 dIs fa fb):=⟨j1a ha.o hb.o⟩
end
section
variable {X:Cx} {a b c e:Expr} {es:List Expr} {fa fb fc f:Den} {ga gb:x2j} {g:x1u} {pos p p1 p2 pT:Pos}
theorem x9s (ha:QD X a fa) (hb:QD X b fb):QDT X (.Compare a [.IsNot] [b] pos) (x3n (e2 x7h fa fb)):=⟨y81 ha.o hb.o⟩
end
section
variable {X:Cx} {a b c e:Expr} {es:List Expr} {fa fb fc f:Den} {ga gb:x2j} {g:x1u} {pos p p1 p2 pT:Pos}
theorem y8k (ha:QD X a fa):QD X (.UnaryOp .USub a pos) (y6l fa):=⟨j0l ha.o⟩
end
section
variable {X:Cx} {a b c e:Expr} {es:List Expr} {fa fb fc f:Den} {ga gb:x2j} {g:x1u} {pos p p1 p2 pT:Pos}
theorem y9p (ha:QD X a fa) (hb:QD X b fb):QD X (.BinOp a .Add b pos) (z3a fa fb):=⟨z91 ha.o hb.o⟩
end
section
variable {X:Cx} {a b c e:Expr} {es:List Expr} {fa fb fc f:Den} {ga gb:x2j} {g:x1u} {pos p p1 p2 pT:Pos}
theorem x7q:QDO X none x8k:=⟨z1j ⟩
end
section
variable {X:Cx} {a b c e:Expr} {es:List Expr} {fa fb fc f:Den} {ga gb:x2j} {g:x1u} {pos p p1 p2 pT:Pos}
theorem x7c (h:QD X e f):QDO X (some e) (x7u f):=⟨z29 h.o⟩
end
section
variable {X:Cx} {a b c e:Expr} {es:List Expr} {fa fb fc f:Den} {ga gb:x2j} {g:x1u} {pos p p1 p2 pT:Pos}
theorem y83 {lo hi:Option Expr} {fl fh:z3l} (ha:QD X a fa) (hl:QDO X lo fl) (hh:QDO X hi fh):QD X (.Subscript a (.Slice lo hi none p2) pos) (eSl fa fl fh):=⟨j10 ha.o hl.o hh.o⟩
end
section
variable {X:Cx} {a b c e:Expr} {fa fb fc f:Den} {pos:Pos}
theorem y97 (ha:QD X a fa) (hb:QD X b fb):QD X (.BinOp a .Mult b pos) (y5q fa fb):=⟨z68 ha.o hb.o⟩
end
section
variable {X:Cx} {a b c e:Expr} {es:List Expr} {fa fb fc f:Den} {ga gb gc:x2j} {g:x1u} {qa qb:y0k} {s:x1a} {pos p p1 p2 cpos apos:Pos}
theorem y9n {st:Stmt}:QDS X st y6d:=⟨y7w ⟩
end
section
variable {X:Cx} {a b c e:Expr} {es:List Expr} {fa fb fc f:Den} {ga gb gc:x2j} {g:x1u} {qa qb:y0k} {s:x1a} {pos p p1 p2 cpos apos:Pos}
theorem y31 {body:List Stmt} (hp:PassesOwn (model X.prog X.w) X.A X.env X.xe) (hc:QDT X c gc) (hb:QDSs X body s):QDS X (.While c body [] pos) (y4f gc s):=⟨y8o hp hc.o hb.o⟩
end
section
variable {X:Cx} {a b c e:Expr} {es:List Expr} {fa fb fc f:Den} {ga gb gc:x2j} {g:x1u} {qa qb:y0k} {s:x1a} {pos p p1 p2 cpos apos:Pos}
theorem y63 {n:Nat} {x:Str} (h:QE X (.Name x p1) (x74 n)) (ha:QQ X a qa) (he:QD X e f) (hasg:∀ v,assign (.Subscript (.Name x p1) a p) X.env v=(do
   let ov <- holding [v] (eval (.Name x p1) X.env)
   let iv <- holding [v,ov] (eval a X.env)
   standAt p
   holding [v,ov,iv] (setItem ov iv v)
   release [v,ov,iv] []):=by exact fun _=>rfl) (hs:swapsWithSole [.Subscript (.Name x p1) a p] e pos.line X.env=pure false:=by rfl):QDS X (.Assign [.Subscript (.Name x p1) a p] e pos) (y2u n qa f):=⟨z2z h.o ha.o he.o hasg hs⟩
end
section
variable {X:Cx} {a b c e:Expr} {es:List Expr} {fa fb fc f:Den} {ga gb gc:x2j} {g:x1u} {qa qb:y0k} {s:x1a} {pos p p1 p2 cpos apos:Pos}
theorem z5n (ha:QD X a fa) (hb:QD X b fb):QD X (.BinOp a .Add b pos) (y9t fa fb):=⟨z4n ha.o hb.o⟩
end
section
variable {X:Cx} {a b c e:Expr} {es:List Expr} {fa fb fc f:Den} {ga gb gc:x2j} {g:x1u} {qa qb:y0k} {s:x1a} {pos p p1 p2 p3 cpos apos:Pos}
theorem y6c {n j:Nat} {c:Int} {x:Str} (hm:X.mg "len" = none) (h:QE X (.Name x p1) (x74 n)) (hg:Gl X "len":=by rfl) (hs:x49 (.Constant (.int c) j p2):=by exact fun _ _=>rfl) (he:starEach [.Subscript (.Name x p1) (.Constant (.int c) j p2) p3] X.env=(false,eval (.Subscript (.Name x p1) (.Constant (.int c) j p2) p3) X.env)::starEach [] X.env:=by rfl) (hpl:(backTo pos (starEach [] X.env)).any (·.1)=false:=by rfl):QQ X (.Call (.Name "len" p) [.Subscript (.Name x p1) (.Constant (.int c) j p2) p3] [] pos) (x84 n c):=⟨z1i hm h.o hg hs he hpl⟩
end
section
variable {X:Cx} {a b c e:Expr} {es:List Expr} {fa fb fc f:Den} {ga gb gc:x2j} {g:x1u} {qa qb:y0k} {s:x1a} {pos p p1 p2 p3 cpos apos:Pos}
theorem z46 {k l:Str} {j1 j2:Nat} (hkl:k≠l) (ha:QQ X a qa) (hb:QQ X b qb):QD X (.Dict [some (.Constant (.str k) j1 p1),some (.Constant (.str l) j2 p2)] [a,b] pos) (y79 k l qa qb):=⟨z6n hkl ha.o hb.o⟩
end
section
variable {X:Cx} {a b c e:Expr} {es:List Expr} {fa fb fc f:Den} {ga gb gc:x2j} {g:x1u} {qa qb:y0k} {s:x1a} {pos p p1 p2 p3 cpos apos:Pos}
theorem z4j {k:Nat} (hr:Room k X.A) (ho:QD X a fa) (he:QD X b fb) (hf:QD X c fc) (hbase:attributeBase a "get" X.env (eval a X.env)=eval a X.env:=by rfl) (hfew:((backTo cpos (starEach [b,c] X.env)).all (fun x=>!x.1) && (backToKw cpos (keywordEach [] X.env)).all (fun x=>x.1.isSome)
   && decide (([b,c]:List Expr).length+([]:List Keyword).length+(if([]:List Keyword).isEmpty then 0 else 1)<30))=true:=by rfl) (hline:(apos.endLine == cpos.line)=true:=by rfl) (htr:backTo cpos (starEach [b,c] X.env)=[(false,eval b X.env),(false,eval c X.env)]:=by rfl):QD X (.Call (.Attribute a "get" apos) [b,c] [] cpos) (z0o fa fb fc):=⟨z5z hr ho.o he.o hf.o hbase hfew hline htr⟩
end
section
variable {X:Cx} {e:Expr} {es:List Expr} {g:x1u} {pos p:Pos}
theorem z1v {i j k n:Nat} {x:Str} {ob:D} {G:List D->Option (D × Nat)} (h:QE X (.Name x p) (x74 i)) (C:z5v X.prog X.w X.K X.mg X.base k ob n G) (hr:Room j X.A) (hk:k<=j) (ha:QDA X (e::es) g) (he:starEach (e::es) X.env=(false,eval e X.env)::starEach es X.env:=by rfl) (hpl:(backTo pos (starEach es X.env)).any (·.1)=false:=by rfl):QD X (.Call (.Name x p) (e::es) [] pos) (y0p ob G i n g):=⟨z0z h.o C hr hk ha.o he hpl⟩
end
section
variable {X:Cx} {pos p p1 p2:Pos}
theorem y6q {i:Nat} {x:Str} (hm:X.mg "list" = none) (hb:bootBuiltins "list" = some (.type "list")) (h:QE X (.Name x p1) (x74 i)) (hg:Gl X "list":=by rfl) (he:starEach [.Name x p1] X.env=(false,eval (.Name x p1) X.env)::starEach [] X.env:=by rfl) (hpl:(backTo pos (starEach [] X.env)).any (·.1)=false:=by rfl):QD X (.Call (.Name "list" p) [.Name x p1] [] pos) (y1b i):=⟨z2d hm hb h.o hg he hpl⟩
end
section
variable {X:Cx} {pos p p1 p2:Pos}
theorem z9e {k i j:Nat} {x y:Str} (hr:Room k X.A) (ha:QE X (.Name x p1) (x74 i)) (hb:QE X (.Name y p2) (x74 j)):QD X (.Compare (.Name x p1) [.NotEq] [.Name y p2] pos) (z9k i j):=⟨j0o hr ha.o hb.o⟩
end
theorem Cal.mkQ {P:Program} {w:World} {K:PySem.W.Frag} {mg:Str->Option Value} {base:Heap} {k:Nat} {x:Str} {st:Stmt} {N ps:List Str} {body:x1a} (a:At K mg x st ps) (S:FnScope N ps (x0e st))
  (h:∀ (f:Addr) (cdv:Value) (A:Around) (outer:List Env) (s:Shared) (H:Hp) (E:XK),Room k (A.deeper (envOfC x (x0e st) s.heap.objs.size f cdv))->QDSs (y2o CX0 P w K mg base N x (x0e st) f cdv A outer s H E).nox (x32 st) body) :
  Cal P w K mg base (k+1) x ps.length (fnD N.length body):=Cal.mk a S fun f cdv A outer s H E hr=>(h f cdv A outer s H E hr).o
theorem z6b {P:Program} {w:World} {K:PySem.W.Frag} {mg:Str->Option Value} {base:Heap} {k:Nat} {x:Str} {st:Stmt} {N ps:List Str} {body:x1a} {f:Addr} {fd:FuncData} (F:Fun K x x st f fd) (S:FnScope N ps (x0e st))
  (h:∀ (f:Addr) (cdv:Value) (A:Around) (outer:List Env) (s:Shared) (H:Hp) (E:XK),Room k (A.deeper (envOfC x (x0e st) s.heap.objs.size f cdv))->QDSs (y2o CX0 P w K mg base N x (x0e st) f cdv A outer s H E).nox (x32 st) body) :
  FnOk P w K mg base CX0 (k+1) f fd ps (spD K ps.length (fnD N.length body)):=z8m F S fun f cdv A outer s H E hr=>(h f cdv A outer s H E hr).o
end L3
namespace L3
open PySem PySem.Spec PyProof.Rows PySem.W L2
end L3
namespace L3
open PySem PySem.Spec PyProof.Rows PySem.W L2
noncomputable def y6x (X:Cx):List Str->List Nat->Prop
 | [],[]=>True
 | z::zs,i::is=>X.N[i]? = some z/\X.env.scope.names.lookup z=some .cell/\y6x X zs is
 | _,_=>False
theorem y6x.len {X:Cx}:∀ {zs:List Str} {is:List Nat},y6x X zs is->is.length=zs.length
 | [],[],_=>rfl
 | _::_,_::_,h=>by simp[h.2.2.len]
theorem y6x.at {X:Cx}:∀ {zs:List Str} {is:List Nat},y6x X zs is->∀ (j:Nat) (z:Str),zs[j]? = some z->∃ i,is[j]? = some i/\X.N[i]? = some z/\X.env.scope.names.lookup z=some .cell
 | [],[],_,_,_,e=>by simp at e
 | z::zs,i::is,h,0,_,e=>by simp at e; subst e; exact⟨i,rfl,h.1,h.2.1⟩
 | z::zs,i::is,h,j+1,y,e=>by
  obtain⟨i',a,b⟩:=h.2.2.at j y (by simpa using e)
  exact⟨i',by simpa using a,b⟩
section
variable {P:Program} {w:World} {K:PySem.W.Frag} {mg:Str->Option Value} {base:Heap} {N:List Str} {x:Str} {sc:Scope} {f c:Addr} {A:Around} {outer:List Env} {s₀:Shared} {H₀:Hp} {E:XK}
theorem z97 {y:Str} {Pt:Addr} {j k kb:Nat} {ps caps:List Str} {is:List Nat} {params:Arguments} {body eN:Expr} {scope:Scope} {fN fb:Den} {F:D->(List D->Option (D × Nat))->List D->Option (D × Nat)} {p lp pos:Pos}
  (L:Lm K mg base) (hx:x∈x6v) (ht:tabIn K x=some (c,Pt)) (S:LamScope ps caps scope) (hy:∃ fn,mg y=some (.ref fn)/\keepIn K (.ref fn)=true) (hr:Room j (A.deeper (envOfC x sc s₀.heap.objs.size f (.ref c)))) (hk:k<=j)
  (hF:∀ base' ob G,z5v P w K mg base' (kb+1) ob ps.length G->Cal P w K mg base' k y 2 (F ob G))
  (hbody:∀ (base':Heap) (f c':Addr) (cl:List (Str × Addr)) (q:Str) (A:Around) (outer:List Env) (s:Shared) (H:Hp),Room kb (A.deeper (envX q scope s.heap.objs.size f (.ref c') cl))->QD (cxL P w K mg base' (ps++caps) q scope f (.ref c') cl A outer s H) body fb)
  (hbind:∀ (q:Str) (cl:List (Str × Addr)) (pm cdv ctv:Value) (us:List Value),us.length=ps.length->bindArgs (kla_fn "<lambda>" q params body scope cl pm cdv ctv) ⟨us,[]⟩=pure (ps.zip us))
  (hN:y6x (y2o CX0 P w K mg base N x sc f (.ref c) A outer s₀ H₀ E).nox caps is) (ha:QD (y2o CX0 P w K mg base N x sc f (.ref c) A outer s₀ H₀ E).nox eN fN)
  (hse:∀ env:Env,starEach [eN,.Lambda params body scope lp] env=(false,eval eN env)::starEach [.Lambda params body scope lp] env)
  (hcl:closureFor scope (y2o CX0 P w K mg base N x sc f (.ref c) A outer s₀ H₀ E).nox.env=pure (x89 caps (y2o CX0 P w K mg base N x sc f (.ref c) A outer s₀ H₀ E).nox.env.cells):=by rfl) (hdf:∀ env,defaultsOf params env=([],[]):=by exact fun _=>rfl) (hg:Gl (y2o CX0 P w K mg base N x sc f (.ref c) A outer s₀ H₀ E).nox y:=by rfl) (hdb:(y == ("__debug__":Str))=false:=by decide) :
  QD (y2o CX0 P w K mg base N x sc f (.ref c) A outer s₀ H₀ E).nox (.Call (.Name y p) [eN,.Lambda params body scope lp] [] pos) (z6r F fb is fN):=by
 obtain⟨fn,h1,h2⟩:=hy
 exact⟨z93 (X:=(y2o CX0 P w K mg base N x sc f (.ref c) A outer s₀ H₀ E).nox) (c:=c) (P:=Pt) rfl L hx ht rfl S h1 h2 hr hk hF (fun base' f c' cl q A outer s H hr=>(hbody base' f c' cl q A outer s H hr).o) (hbind _) hN.at hN.len ha.o hcl (hdf _) hg hdb (hse _) (by rw[y4a]; rfl)⟩
end
theorem j2a {K:PySem.W.Frag} {mg:Str->Option Value} {h:Heap} {x:Str} {c P f:Addr} {oc:Value} {od:Option Addr} {fd:FuncData} {sl:Array (Option Value)} (X:K.In h) (G:h.Ns mainGlobals mg) (ht:tabIn K x=some (c,P)) (hm:mg x=some (.ref f)) (lk:K.lookup f=some ⟨oc,od,.func fd,sl⟩):fd.code=.ref c:=
 law_code X G ht hm (X _ _ lk) rfl
theorem Cal.mkL {P:Program} {w:World} {K:PySem.W.Frag} {mg:Str->Option Value} {base:Heap} {k:Nat} {x:Str} {st:Stmt} {N ps:List Str} {body:x1a} (KX:K.In base) (G:base.Ns mainGlobals mg) (ht:∃ c Pt,tabIn K x=some (c,Pt)) (a:At K mg x st ps) (S:FnScope N ps (x0e st))
  (h:∀ (f c Pt:Addr) (A:Around) (outer:List Env) (s:Shared) (H:Hp) (E:XK),tabIn K x=some (c,Pt)->Room k (A.deeper (envOfC x (x0e st) s.heap.objs.size f (.ref c)))->QDSs (y2o CX0 P w K mg base N x (x0e st) f (.ref c) A outer s H E).nox (x32 st) body) :
  Cal P w K mg base (k+1) x ps.length (fnD N.length body):=by
 obtain⟨f,fd,F,m,b⟩:=a
 obtain⟨c,Pt,ht⟩:=ht
 obtain⟨oc,od,kV,doc,pm,an,cdv,ct,osl,rfl,lk,hcd⟩:=F.ex
 have e:cdv=.ref c:=j2a KX G ht m lk
 subst e
 exact⟨f,_,ps,z70 lk hcd S (fun vs H Q E h=>h.1) fun A outer s H vs Q E hr hsp=>⟨_,(h f c Pt A outer s H E ht hr).o.nox,y5z hsp⟩,m,F.kp,b⟩
theorem j2d {α:Type}:∀ {l:List α},l.length=2->∃ a b,l=[a,b]
 | [a,b],_=>⟨a,b,rfl⟩
theorem LamScope.of {ps cs:List Str} {sc:Scope} (kind:sc.kind=.function) (co:sc.isCoroutine=false) (gen:sc.isGenerator=false) (nd:(ps++cs).Nodup) (par:∀ x∈ps,sc.names.lookup x=some .local) (cap:∀ x∈cs,sc.names.lookup x=some .free)
  (nocell:∀ y∈sc.names,y.2 ≠ .cell) (free:∀ y∈sc.names,y.2=.free->y.1∈cs):LamScope ps cs sc:=⟨kind,co,gen,nd,par,cap,nocell,fun x e=>free _ (PySem.mem_of_lookup e) rfl⟩
theorem j2e {K:PySem.W.Frag} {x:Str} {f c Pt:Addr} {oc o2:Value} {od od2:Option Addr} {fd:FuncData} {sl sl2:Array (Option Value)} {vs:Array Value} (a:nsIn K mainGlobals x=some (some (.ref f))) (l:K.lookup f=some ⟨oc,od,.func fd,sl⟩) (hc:fd.code=.ref c) (m:K.lookup c=some ⟨o2,od2,.fields vs,sl2⟩) (v:vs[11]? = some (.ref Pt)) :
  ∃ c Pt,tabIn K x=some (c,Pt):=⟨c,Pt,by unfold tabIn; rw[a]; simp only[l,hc,m,v]⟩
theorem j0x {K:PySem.W.Frag} {x:Str} (a:nsIn K mainGlobals x=some none):tabIn K x=none:=by unfold tabIn; rw[a]
noncomputable def x5n (K:PySem.W.Frag) (b:Addr):Bool:=x6v.any fun x=>match tabIn K x with
 | some (_,P)=>P == b
 | none=>false
theorem z1n {K:PySem.W.Frag} {b:Addr} (h:x5n K b=true):∃ x∈x6v,∃ c,tabIn K x=some (c,b):=by
 obtain⟨x,hx,e⟩:=List.any_eq_true.mp h
 split at e
 ·rename_i c P hP
  rw[eq_of_beq e]at hP
  exact⟨x,hx,c,hP⟩
 ·cases e
theorem z2l {K:PySem.W.Frag} {x:Str} {c P:Addr} (hx:x∈x6v) (e:tabIn K x=some (c,P)):x5n K P=true:=
 List.any_eq_true.mpr ⟨x,hx,by rw[e]; exact beq_self_eq_true P⟩
theorem y9x {P:Program} {w:World} {K:PySem.W.Frag} {mg mb:Str->Option Value} {CX:CXT} {k:Nat} {fa a:Addr} {fd:FuncData} {x:Str} {sp:Sp} {s₁:Shared} {vs:List Value} {ns:List Int}
  (KX:K.In s₁.heap) (hns:s₁.heap.Ns mainGlobals mg) (hb:s₁.heap.Ns builtinsNs mb) (hbb:∀ x:Str,x ≠ "__name__"->mb x=bootBuiltins x) (hlim:s₁.heap.NoLimit) (hg:s₁.gens = #[])
  (hbm:∃ bm o,mg "__builtins__" = some (.ref bm)/\bm≠builtinsNs/\s₁.heap.get? bm=some o/\o.cls=.type "module" /\ o.dict=some builtinsNs/\o.data=.plain)
  (hT:∀ x∈x6v,∀ c Pt,tabIn K x=some (c,Pt)->CodeHd s₁.heap c Pt/\s₁.heap.get? Pt=some (tabObj #[])) (hnt:noTabs K=true)
  (ha:s₁.heap.get? a=some { cls:=.type "list",data:=.seq vs.toArray }) (hi:IntsAre vs ns) (hl:ns.length<=sizeLine) (hr:Room k callerA)
  (F:∀ base:Heap,K.In base->base.Ns mainGlobals mg->Lm K mg base->FnOk P w K mg base CX k fa fd [x] sp) (hbind:∀ (s:Shared) (u:Value),BindsTo s fd ⟨[u],[]⟩ [(x,u)])
  (hsp:∀ H:Hp,TB K H->SqL K H a (ns.map V.int)->sp [.ref a] H (fun v _=>v=.bl true) fun _ _ _=>False)
  (hCX:∀ H e s',CX [] H s₁ (fun _ _ _=>False) e s'->False) :
  codeAny (model P w) callerA (.call (.ref fa) ⟨[.ref a],[]⟩) (fun r s'=>r=.ok (.ret (.bool true))/\OldK s₁.heap s'.heap/\s'.os=s₁.os/\AllBare s'.gens) s₁:=by
 have rv:=y3a hi
 have lenV:=hi.length
 have tabO:∀ b,x5n K b=true->(∃ c,CodeHd s₁.heap c b)/\s₁.heap.get? b=some (tabObj #[]):=fun b h=>by
  obtain⟨x,hx,c,e⟩:=z1n h
  obtain⟨h1,h2⟩:=hT x hx c b e
  exact⟨⟨c,h1⟩,h2⟩
 have core:∀ H:Hp,(∀ b,H b=none\/(b=a/\∃ o xs,H b=some (.frz o (.lst xs)))\/(x5n K b=true/\H b=some (.tbl #[])))->(∀ b,x5n K b=true->H b=some (.tbl #[]))->SqL K H a (ns.map V.int)->HOk P w H s₁.heap->(∀ o xs,H a=some (.frz o (.lst xs))->K.lookup a=none)->
   codeAny (model P w) callerA (.call (.ref fa) ⟨[.ref a],[]⟩) (fun r s'=>r=.ok (.ret (.bool true))/\OldK s₁.heap s'.heap/\s'.os=s₁.os/\AllBare s'.gens) s₁:=by
  intro H hO hO2 hS hok hK
  have base_of:∀ {b:Addr} {o:Obj},s₁.heap.get? b=some o->H b=none->(z05 s₁.heap H).get? b=some o:=fun e n=>z21 e n
  have noA:∀ {b:Addr} {o:Obj},s₁.heap.get? b=some o->o.cls ≠ .type "list"->o.cls ≠ .none->H b=none:=fun {b o} e d1 d2=>by
   rcases hO b with z | ⟨z,_⟩ | ⟨z,_⟩
   ·exact z
   ·subst z; rw[ha]at e; cases e; exact absurd rfl d1
   ·rw[(tabO b z).2]at e; cases e; exact absurd rfl d2
  have noD:∀ {b:Addr} {o:Obj} {es:Array DictEntry} {ep:Nat},s₁.heap.get? b=some o->o.data=.dict es ep->H b=none:=fun {b o es ep} e d=>by
   rcases hO b with z | ⟨z,_⟩ | ⟨z,_⟩
   ·exact z
   ·subst z; rw[ha]at e; cases e; exact nomatch (show Data.seq vs.toArray _=Data.dict es ep from d)
   ·rw[(tabO b z).2]at e; cases e; exact nomatch (show Data.fields _=Data.dict es ep from d)
  have nsK:∀ {b:Addr} {m:Str->Option Value},s₁.heap.Ns b m->(z05 s₁.heap H).Ns b m:=fun {b m} hh=>by
   obtain⟨o,es,ep,e,d,r⟩:=hh
   exact⟨o,es,ep,base_of e (noD e d),d,r⟩
  have hKb:K.In (z05 s₁.heap H):=fun b o e=>base_of (KX b o e) (by
   rcases hO b with z | ⟨z,o',xs,z2⟩ | ⟨z,_⟩
   ·exact z
   ·subst z; rw[hK _ _ z2]at e; cases e
   ·have e2:=KX b o e
    rw[(tabO b z).2]at e2
    cases e2
    have h2:=List.all_eq_true.mp hnt (b,tabObj #[]) (mem_of_lookupK e)
    exact absurd (show false=true from h2) Bool.false_ne_true)
  have hM:Mod K mg (z05 s₁.heap H):=by
   obtain⟨mc,h1,h2⟩:=hlim
   exact⟨hKb,nsK hns,⟨mb,nsK hb,hbb⟩,⟨mc,nsK h1,h2⟩⟩
  have hL:Lm K mg (z05 s₁.heap H):=by
   refine⟨?_,fun x hx c Pt e=>?_⟩
   ·obtain⟨bm,o,h1,h2,h3,h4,h5⟩:=hbm
    exact⟨bm,o,h1,h2,base_of h3 (noA h3 (by rw[h4]; decide) (by rw[h4]; nofun)),h4,h5⟩
   ·obtain⟨o,v1,v2,v3,v4,v5,v6,v7,v8,e1,e2,r⟩:=(hT x hx c Pt e).1
    exact⟨o,v1,v2,v3,v4,v5,v6,v7,v8,base_of e1 (noA e1 (by rw[e2]; decide) (by rw[e2]; nofun)),e2,r⟩
  have tb:TB K H:=by
   refine⟨fun Q ps e=>?_,fun Q ps e pos cv hc=>?_,fun x hx c Pt e=>⟨_,hO2 Pt (z2l hx e)⟩⟩ <;> rcases hO Q with z | ⟨_,o',xs,z⟩ | ⟨_,z⟩ <;> rw[e]at z <;> cases z
   ·exact True.intro
   ·cases hc
  have e0:Env0 P w K mg (z05 s₁.heap H) callerA [] s₁ H:=⟨rfl,hM,fun b o e=>z6l e,Nat.le_of_eq (y7u _ _),trivial,fun b hb=>absurd (show b∈([]:List Addr)from hb) (by simp),hok,.of_eq hg⟩
  refine codeAny_mono ((F _ hKb (nsK hns) hL).run callerA [] s₁ H ⟨[.ref a],[]⟩ [.ref a] [.ref a] _ _ hr e0 (hbind s₁ (.ref a)) (.cons rfl .nil) (hsp H tb hS)) fun r s' h=>?_
  cases r with
  | error e=>exact(hCX H e s' h).elim
  | ok fl=>
   cases fl with
   | next=>exact False.elim h
   | brk=>exact False.elim h
   | cont=>exact False.elim h
   | ret u=>
    obtain⟨v,H',os,bare,un,hok',r',q⟩:=h
    have q':v=.bl true:=q
    subst q'
    obtain rfl:u=Value.bool true:=r'
    have kp:∀ b o,s₁.heap.get? b=some o->x5n K b=false->s'.heap.get? b=some o:=fun b o e nt=>by
     rcases hO b with z | ⟨_,ob,xs,z⟩ | ⟨z,_⟩
     ·exact un.keep b o e z (by intro z; exact absurd (show b∈([]:List Addr)from z) (by simp)) (by simp)
     ·have z2:=un.frzs b ob _ z
      obtain⟨e1,_⟩:=hok b _ z
      obtain⟨e2,_⟩:=hok' b _ z2
      rw[e]at e1; cases e1
      exact e2
     ·rw[z]at nt; cases nt
    have gr:∀ b,x5n K b=true->∃ ps,s'.heap.get? b=some (tabObj ps):=fun b t=>by
     obtain⟨more,z⟩:=un.tbls b _ (hO2 b t)
     exact⟨_,hok' b _ z⟩
    refine⟨rfl,⟨fun b o e=>?_,fun b o e=>?_⟩,os,bare⟩
    ·cases t:x5n K b with
     | false=>exact .inl (kp b o e t)
     | true=>
      obtain⟨⟨c,C⟩,e1⟩:=tabO b t
      obtain⟨ps,e2⟩:=gr b t
      rw[e]at e1; cases e1
      exact .inr (.inl ⟨(C.tab e).isCodeTable,rfl,#[],ps,rfl,by rw[Array.empty_append]; exact e2⟩)
    ·cases t:x5n K b with
     | false=>exact⟨o,kp b o e t⟩
     | true=>obtain⟨ps,e2⟩:=gr b t; exact⟨_,e2⟩
 have aT:x5n K a=false:=by
  cases t:x5n K a with
  | false=>rfl
  | true=>
   have:=(tabO a t).2
   rw[ha]at this; cases this
 cases hk:K.lookup a with
 | some o=>
  have e:=KX a o hk
  rw[ha]at e
  cases e
  refine core (fun b=>if x5n K b=true then some (.tbl #[])else none) (fun b=>?_) (fun b h=>if_pos h) (.inr ⟨_,vs.toArray,_,hk,rfl,rfl,rfl,by rw[List.size_toArray,lenV]; exact hl,by simpa using rv⟩) (fun b u z=>?_) fun o xs z=>?_
  ·by_cases hb:x5n K b=true
   ·exact .inr (.inr ⟨hb,if_pos hb⟩)
   ·exact .inl (if_neg hb)
  ·by_cases hb:x5n K b=true
   ·have z':=(if_pos hb).symm.trans z
    cases z'
    exact(tabO b hb).2
   ·have z':=(if_neg hb).symm.trans z
    cases z'
  ·have z':=(if_neg (by rw[aT]; decide)).symm.trans z
   cases z'
 | none=>
  refine core (fun b=>if b=a then some (.frz { cls:=.type "list",data:=.seq vs.toArray } (.lst (ns.map V.int)))else if x5n K b=true then some (.tbl #[])else none) (fun b=>?_) (fun b h=>?_) (.inl (.inr ⟨{ cls:=.type "list",data:=.seq vs.toArray },if_pos rfl⟩)) (fun b u z=>?_) fun _ _ _=>hk
  ·by_cases hb:b=a
   ·exact .inr (.inl ⟨hb,_,_,if_pos hb⟩)
   ·by_cases ht:x5n K b=true
    ·exact .inr (.inr ⟨ht,(if_neg hb).trans (if_pos ht)⟩)
    ·exact .inl ((if_neg hb).trans (if_neg ht))
  ·have hb:b≠a:=fun z=>by rw[z,aT]at h; cases h
   exact(if_neg hb).trans (if_pos h)
  ·by_cases hb:b=a
   ·have z':=(if_pos hb).symm.trans z
    cases z'
    subst hb
    exact⟨ha,by rw[List.length_map]; exact hl,vs,_,rv,ha⟩
   ·by_cases ht:x5n K b=true
    ·have z':=((if_neg hb).trans (if_pos ht)).symm.trans z
     cases z'
     exact(tabO b ht).2
    ·have z':=((if_neg hb).trans (if_neg ht)).symm.trans z
     cases z'
noncomputable def j0u (q:Program) (K:PySem.W.Frag):Prop:=∀ x∈x6v,(∃ d,(recsOf q).find? (fun e=>e.name == x)=some d)\/tabIn K x=none
theorem j0u.of {q:Program} {K:PySem.W.Frag} (h1:(∃ d,(recsOf q).find? (fun e=>e.name == ("turned":Str))=some d)\/tabIn K "turned" = none) (h2:(∃ d,(recsOf q).find? (fun e=>e.name == ("chain_ladder":Str))=some d)\/tabIn K "chain_ladder" = none)
  (h3:(∃ d,(recsOf q).find? (fun e=>e.name == ("flat_ladder":Str))=some d)\/tabIn K "flat_ladder" = none) (h4:(∃ d,(recsOf q).find? (fun e=>e.name == ("paired":Str))=some d)\/tabIn K "paired" = none):j0u q K:=fun x hx=>by
 rcases List.mem_cons.mp hx with rfl | hx
 ·exact h1
 rcases List.mem_cons.mp hx with rfl | hx
 ·exact h2
 rcases List.mem_cons.mp hx with rfl | hx
 ·exact h3
 rcases List.mem_cons.mp hx with rfl | hx
 ·exact h4
 cases hx
theorem z19 {l:PySem.W.OpenLaw} {n k:Nat} {q:Program} {loose:List Str} {XP:(Str->Option Value)->Heap->Prop} {YP:World->Heap->Prop} {d:DefRec} {K:Params->PySem.W.Frag} {CX:World->CXT} {sp:World->Sp} {x:Str}
  (hn:l.most=some n) (hn2:n<=sizeLine) (hdf:d.params.defaults=[]) (hr:Room k callerA)
  (hY:∀ (w:World) (h:Heap),YP w h->(K w.params).In h)
  (F:∀ (w:World) (mg:Str->Option Value) (fa:Addr) (h:Heap),(K w.params).In h->h.Ns mainGlobals mg->mg d.name=some (.ref fa)->j0u q (K w.params)/\noTabs (K w.params)=true /\
    ∃ fd:FuncData,(∀ (s:Shared) (u:Value),BindsTo s fd ⟨[u],[]⟩ [(x,u)]) /\
     ∀ base:Heap,(K w.params).In base->base.Ns mainGlobals mg->Lm (K w.params) mg base->FnOk l.prog w (K w.params) mg base (CX w) k fa fd [x] (sp w))
  (hsp:∀ (w:World) (H:Hp) (a:Addr) (ns:List Int),ns.length<=n->TB (K w.params) H->SqL (K w.params) H a (ns.map V.int)->sp w [.ref a] H (fun v _=>v=.bl true) fun _ _ _=>False)
  (hCX:∀ (w:World) (H:Hp) (s:Shared) (e:Value) (s':Shared),CX w [] H s (fun _ _ _=>False) e s'->False) :
  PySem.W.WalkO q loose XP YP l.row.toRowW d [] (fun f vs=>PySem.call f vs):=by
 refine Att.z4k hn hdf fun w s₀ s₁ mg mb fa o pm cd doc a vs ns G Y ho hd hcd hmg hobj hints hlen hg=>?_
 have KX:=hY w _ Y
 obtain⟨hrec,hnt,fd,hb,hF⟩:=F w mg fa _ KX G.T.g hmg
 have hbm:=G.T.bmain
 refine y9x KX G.T.g G.T.b G.T.builtins G.T.nolimit hg ?_ (fun x hx c Pt e=>?_) hnt hobj hints (Nat.le_trans hlen hn2) hr hF hb (fun H hO hS=>hsp w H a ns hlen hO hS) fun H e s'=>hCX w H s₁ e s'
 ·obtain⟨bm,ob,b1,b2,b3,b4,b5,b6⟩:=hbm
  exact⟨bm,ob,b1,b2,b3,b4,b5,b6⟩
 ·rcases hrec x hx with⟨dd,hd⟩ | z
  ·exact tab_of G.T KX hd e
  ·rw[z]at e; cases e
end L3
namespace L3
open PySem PySem.Spec PyProof.Rows L2
theorem x3m {k:Nat} {pt:x5p} {tt:x2j} {te:Den} {deep:Bool}:∀ (ds:List D) (S:Nat->Rho) (b:Nat->Bool) (v:Nat->D),
  (∀ i (h:i<ds.length),∃ ρ1 ρ2,pt ds[i] (S i++List.replicate k none)=some ρ1/\tt ρ1=some (b i,ρ2) /\
    (if b i=true then ∃ q ρ3,te ρ2=some (v i,q,ρ3)/\¬ (deep=true/\(v i).isL=true/\q≠1)/\ρ3.take (S i).length=S (i+1)else ρ2.take (S i).length=S (i+1)))->
  x6l k pt tt te deep ds (S 0)=some (((List.range ds.length).filter b).map v,S ds.length)
 | [],S,b,v,_=>rfl
 | d::ds,S,b,v,h=>by
  obtain⟨ρ1,ρ2,h1,h2,h3⟩:=h 0 (by simp)
  have ih:=x3m ds (fun i=>S (i+1)) (fun i=>b (i+1)) (fun i=>v (i+1)) (fun i hi=>h (i+1) (by simpa using hi))
  have er:((List.range (d::ds).length).filter b).map v=(if b 0=true then [v 0]else [])++((List.range ds.length).filter fun i=>b (i+1)).map fun i=>v (i+1):=by
   rw[List.length_cons,List.range_succ_eq_map,List.filter_cons,List.filter_map]
   split <;> simp[Function.comp_def]
  rw[er]
  unfold x6l
  rw[show pt d (S 0++List.replicate k none)=some ρ1 from h1]
  simp only[h2]
  split at h3
  ·rename_i hb
   obtain⟨q,ρ3,h4,h5,h6⟩:=h3
   simp only[hb,if_true,h4,if_neg h5,h6,ih]
   rfl
  ·rename_i hb
   simp only[hb,h3,ih]
   rfl
theorem x3w {pt:x5p} {body:x1a}:∀ (ds:List D) (I:Nat->Rho->Prop) (ρ:Rho),(∀ i (h:i<ds.length) ρ,I i ρ->∃ ρ1 ρ2,pt ds[i] ρ=some ρ1/\(body ρ1=some (.nx ρ2)\/body ρ1=some (.ct ρ2))/\I (i+1) ρ2)->I 0 ρ->∃ ρ',x75 pt body ds ρ=some (.nx ρ')/\I ds.length ρ'
 | [],I,ρ,_,h0=>⟨ρ,rfl,h0⟩
 | d::ds,I,ρ,h,h0=>by
  obtain⟨ρ1,ρ2,h1,h2,h3⟩:=h 0 (by simp) ρ h0
  obtain⟨ρ',e,h4⟩:=x3w ds (fun i=>I (i+1)) ρ2 (fun i hi=>h (i+1) (by simpa using hi)) h3
  refine⟨ρ',?_,h4⟩
  unfold x75
  rw[show pt d ρ=some ρ1 from h1]
  rcases h2 with h2 | h2 <;> (simp only[h2]; exact e)
theorem x0h {f g:x1a} {ρ ρ1:Rho} (h:f ρ=some (.nx ρ1)):x18 f g ρ=g ρ1:=by unfold x18; rw[h]
theorem x72 {f g:x1a} {ρ:Rho} {d:D} {q:Nat} (h:f ρ=some (.rt d q)):x18 f g ρ=some (.rt d q):=by unfold x18; rw[h]
theorem x21 {n:Nat} {body:x1a} {ds:List D} {d:D} {q:Nat} (h:body (x3f n ds)=some (.rt d q)):fnD n body ds=some (d,q):=by unfold fnD; rw[h]
theorem x1w {k:Nat} {it:y28} {pt:x5p} {tt:x2j} {te:Den} {deep:Bool} {ρ ρ1 ρ2:Rho} {ds vs:List D} (hi:it ρ=some (ds,ρ1)) (hc:x6l k pt tt te deep ds ρ1=some (vs,ρ2)):x2y k it pt tt te deep ρ=some (.lst vs,if deep=true then 2 else 1,ρ2):=by unfold x2y; rw[hi]; simp only[hc]
theorem z64 {i:Nat} {f:Den} {ρ ρ1:Rho} {d:D} {q:Nat} (h:f ρ=some (d,q,ρ1)):x23 i f ρ=some (.nx (ρ1.set i (some (d,q)))):=by unfold x23; rw[h]
theorem x2t {f:Den} {ρ ρ1:Rho} {d:D} {q:Nat} (h:f ρ=some (d,q,ρ1)):x2m f ρ=some (.rt d q):=by unfold x2m; rw[h]
theorem x1z {it:y28} {pt:x5p} {body:x1a} {ρ ρ1:Rho} {ds:List D} (h:it ρ=some (ds,ρ1)):x6h it pt body ρ=x75 pt body ds ρ1:=by unfold x6h; rw[h]
theorem z7h {g:x2j} {s s':x1a} {ρ ρ1:Rho} (h:g ρ=some (true,ρ1)):sIf g s s' ρ=s ρ1:=by unfold sIf; rw[h]; rfl
theorem y4k {g:x2j} {s s':x1a} {ρ ρ1:Rho} (h:g ρ=some (false,ρ1)):sIf g s s' ρ=s' ρ1:=by unfold sIf; rw[h]; rfl
theorem x3i {i:Nat} {f:Den} {ρ ρ1 ρ2:Rho} {d:D} {q:Nat} (h:f ρ=some (d,q,ρ1)) (e:ρ1.set i (some (d,q))=ρ2):x23 i f ρ=some (.nx ρ2):=by rw[z64 h,e]
theorem x19 {f:Den} {ρ ρ1:Rho} {d:D} {q:Nat} (h:f ρ=some (d,q,ρ1)):x01 f x0f ρ=some ([d],ρ1):=by unfold x01; rw[h]; rfl
theorem x0w {f:Den} {g:x1u} {ρ ρ1 ρ2:Rho} {d:D} {q:Nat} {ds:List D} (h:f ρ=some (d,q,ρ1)) (h':g ρ1=some (ds,ρ2)):x01 f g ρ=some (d::ds,ρ2):=by unfold x01; rw[h]; simp only[h']
theorem x3x {g:x1u} {ρ ρ1:Rho} {ds:List D} (h:g ρ=some ([.lst ds],ρ1)):x2r g ρ=some (.tup ds,9,ρ1):=by unfold x2r; rw[h]
theorem y0q {g:x1u} {ρ ρ1:Rho} {ds:List D} (h:x15 g ρ=some (ds,ρ1)):x5z g ρ=some (.lst ds,1,ρ1):=by unfold x5z; rw[h]
theorem x0y {F:List D->Option (D × Nat)} {n:Nat} {g:x1u} {ρ ρ1:Rho} {ds:List D} {d:D} {q:Nat} (h:g ρ=some (ds,ρ1)) (hl:ds.length=n) (hF:F ds=some (d,q)):x0k F n g ρ=some (d,q,ρ1):=by unfold x0k; rw[h]; simp only[hl,if_true,hF]
noncomputable def x05 (l:List Nat):List D:=l.map fun i=>.int (Int.ofNat i)
noncomputable def y2i (n:Nat) (f:Nat->Nat->Nat) (i:Nat):D:=.tup (x05 ((List.range n).map fun j=>f i j))
noncomputable def x0q (n:Nat) (f:Nat->Nat->Nat):D:=.tup ((List.range n).map fun i=>y2i n f i)
noncomputable def x7j (n:Nat) (f:Nat->Nat->Nat) (i:Nat):D:=.lst (x05 ((List.range n).map fun j=>f i j))
noncomputable def x3h (n:Nat) (f:Nat->Nat->Nat):D:=.lst ((List.range n).map fun i=>x7j n f i)
@[simp] theorem j0y {n:Nat} {f:Nat->Nat->Nat}:(x0q n f).isL=false:=rfl
@[simp] theorem j0v {n:Nat} {f:Nat->Nat->Nat} {i:Nat}:(y2i n f i).isL=false:=rfl
@[simp] theorem j0q {n:Nat} {f:Nat->Nat->Nat}:(x3h n f).isL=true:=rfl
@[simp] theorem j0z {n:Nat} {f:Nat->Nat->Nat} {i:Nat}:(x7j n f i).isL=true:=rfl
theorem x11 (l:List Nat):(x05 l).length=l.length:=by simp[x05]
theorem y6r (l:List Nat) (i:Nat):(x05 l)[i]? = (l[i]?).map fun x=>.int (Int.ofNat x):=by simp[x05]
theorem x8m {n i:Nat} (h:i<n):ixN n (Int.ofNat i)=some i:=by
 unfold ixN
 rw[if_pos (by exact Int.natCast_nonneg i),if_pos (by show(i:Int)<n; omega)]
 rfl
theorem y48 {α:Type} {xs:List α} {i:Nat} {x:α} (h:xs[i]? = some x):L2.atI xs (Int.ofNat i)=some x:=by
 unfold L2.atI
 rw[x8m (List.getElem?_eq_some_iff.mp h).1]
 exact h
theorem y4u {l:List Nat} {i x:Nat} (h:l[i]? = some x):L2.atI (x05 l) (Int.ofNat i)=some (.int (Int.ofNat x)):=y48 (by rw[y6r,h]; rfl)
theorem z38 {g:Nat->D} {n i:Nat} (h:i<n):L2.atI ((List.range n).map g) (Int.ofNat i)=some (g i):=y48 (by rw[List.getElem?_map,List.getElem?_range h]; rfl)
theorem x28 {g:Nat->Nat} {n i:Nat} (h:i<n):L2.atI (x05 ((List.range n).map g)) (Int.ofNat i)=some (.int (Int.ofNat (g i))):=y4u (by rw[List.getElem?_map,List.getElem?_range h]; rfl)
theorem x4m {n:Nat} {f:Nat->Nat->Nat} {i:Nat} (h:i<n):atD (x0q n f) (Int.ofNat i)=some (y2i n f i):=z38 h
theorem x5c {n:Nat} {f:Nat->Nat->Nat} {i j:Nat} (h:j<n):atD (y2i n f i) (Int.ofNat j)=some (.int (Int.ofNat (f i j))):=x28 h
theorem z53 {n:Nat} {f:Nat->Nat->Nat} {i:Nat} (h:i<n):atD (x3h n f) (Int.ofNat i)=some (x7j n f i):=z38 h
theorem z42 {n:Nat} {f:Nat->Nat->Nat} {i j:Nat} (h:j<n):atD (x7j n f i) (Int.ofNat j)=some (.int (Int.ofNat (f i j))):=x28 h
theorem x1v {n:Nat} {f:Nat->Nat->Nat}:x79 (x0q n f)=some n:=by simp[x0q,x79]
theorem x87 {n:Nat} {f:Nat->Nat->Nat}:x79 (x3h n f)=some n:=by simp[x3h,x79]
theorem x68 {n:Nat} {f g:Nat->Nat->Nat} (h:∀ a b,a<n->b<n->f a b=g a b):x3h n f=x3h n g:=by
 unfold x3h x7j
 refine congrArg D.lst (List.map_congr_left fun a ha=>?_)
 refine congrArg (fun l=>D.lst (x05 l)) (List.map_congr_left fun b hb=>?_)
 exact h a b (List.mem_range.mp ha) (List.mem_range.mp hb)
theorem x7f {α:Type} {g:Nat->α} {n m:Nat} {x:α}:((List.range n).map g).set m x=(List.range n).map fun a=>if a=m then x else g a:=by
 apply List.ext_getElem?
 intro i
 by_cases hi:i<n
 ·by_cases h:m=i
  ·subst h
   rw[List.getElem?_set_self (by simpa using hi),List.getElem?_map,List.getElem?_range hi]
   simp
  ·rw[List.getElem?_set_ne h,List.getElem?_map,List.getElem?_map,List.getElem?_range hi]
   simp
   exact fun z=>absurd z.symm h
 ·rw[List.getElem?_eq_none (by simp; omega),List.getElem?_eq_none (by simp; omega)]
theorem x6d {g:Nat->Nat} {n:Nat}:x05 ((List.range n).map g)=(List.range n).map fun i=>.int (Int.ofNat (g i)):=by simp[x05]
theorem z2q {n:Nat} {f:Nat->Nat->Nat} {a b v:Nat}:D.lst (((List.range n).map fun i=>x7j n f i).set a (.lst ((x05 ((List.range n).map fun j=>f a j)).set b (.int (Int.ofNat v)))))=x3h n fun i j=>if i=a/\j=b then v else f i j:=by
 unfold x3h
 rw[x7f]
 refine congrArg D.lst (List.map_congr_left fun i hi=>?_)
 by_cases h:i=a
 ·subst h
  rw[if_pos rfl,x6d,x7f]
  unfold x7j
  rw[x6d]
  refine congrArg D.lst (List.map_congr_left fun j hj=>?_)
  by_cases hj:j=b <;> simp[hj]
 ·rw[if_neg h]
  unfold x7j
  simp[h]
theorem j1u (n:Nat):D.lst (List.replicate n [D.int 0]).flatten=x7j n (fun _ _=>0) 0:=by
 unfold x7j x05
 congr 1
 simp[List.flatten_replicate_singleton,List.map_const']
theorem y5v:∀ ds:List D,x9n ds=ds.map toP
 | []=>rfl
 | d::ds=>by rw[x9n,y5v ds]; rfl
noncomputable def lay (d:D):Bool:=x7r d && (toP d).canLay0
theorem z8h {d:D} (h:lay d=true):x7r d=true:=(Bool.and_eq_true_iff.mp h).1
theorem z7m {d:D} (h:lay d=true):(toP d).canLay0=true:=(Bool.and_eq_true_iff.mp h).2
theorem x8r:∀ {ds:List D},(∀ d∈ds,lay d=true)->y07 ds=true
 | [],_=>rfl
 | d::ds,h=>by
  show(x7r d && y07 ds)=true
  rw[z8h (h d List.mem_cons_self),x8r fun x m=>h x (List.mem_cons_of_mem _ m)]
  rfl
noncomputable def dep (d:D):Nat:=(toP d).depth
theorem y87:∀ {ds:List D},(∀ d∈ds,lay d=true)->PyData.canLayAll0 (x9n ds)=true
 | [],_=>rfl
 | d::ds,h=>by
  rw[x9n,PyData.canLayAll0,y87 fun x m=>h x (List.mem_cons_of_mem _ m),Bool.and_true]
  exact z7m (h d List.mem_cons_self)
theorem y7t {k:Nat}:∀ {ds:List D},(∀ d∈ds,dep d<=k)->PyData.depthAll (x9n ds)<=k
 | [],_=>Nat.zero_le _
 | d::ds,h=>by
  rw[x9n,PyData.depthAll]
  exact Nat.max_le.mpr ⟨h d List.mem_cons_self,y7t fun x m=>h x (List.mem_cons_of_mem _ m)⟩
noncomputable def Sh (k:Nat) (d:D):Prop:=lay d=true/\dep d<=k
theorem Sh.int {k:Nat} (i:Int):Sh k (.int i):=⟨rfl,Nat.zero_le _⟩
theorem Sh.bl {k:Nat} (i:Bool):Sh k (.bl i):=⟨rfl,Nat.zero_le _⟩
theorem Sh.non {k:Nat}:Sh k .non:=⟨rfl,Nat.zero_le _⟩
theorem Sh.tup {k:Nat} {ds:List D} (h:∀ d∈ds,Sh k d):Sh (k+1) (.tup ds):=⟨Bool.and_eq_true_iff.mpr ⟨x8r fun d m=>(h d m).1,y87 fun d m=>(h d m).1⟩,Nat.succ_le_succ (y7t fun d m=>(h d m).2)⟩
theorem Sh.lst {k:Nat} {ds:List D} (h:∀ d∈ds,Sh k d):Sh (k+1) (.lst ds):=⟨Bool.and_eq_true_iff.mpr ⟨x8r fun d m=>(h d m).1,y87 fun d m=>(h d m).1⟩,Nat.succ_le_succ (y7t fun d m=>(h d m).2)⟩
theorem Sh.ok {k:Nat} {d:D} (h:Sh k d) (hk:k<=64:=by decide):okD d=true:=by
 show(x7r d && ((toP d).canLay0 && decide ((toP d).depth<=64)))=true
 rw[z8h h.1,z7m h.1,Bool.true_and,Bool.true_and]
 exact decide_eq_true (Nat.le_trans h.2 hk)
theorem y8p {l:List Nat} {d:D} (m:d∈x05 l):Sh 0 d:=by
 obtain⟨x,_,rfl⟩:=List.mem_map.mp m
 exact .int _
theorem z7u (l:List Nat):Sh 1 (.lst (x05 l)):=.lst fun _ m=>y8p m
theorem z7a (l:List Nat):Sh 1 (.tup (x05 l)):=.tup fun _ m=>y8p m
theorem z6o (n:Nat) (f:Nat->Nat->Nat):Sh 2 (x0q n f):=.tup fun d m=>by
 obtain⟨x,_,rfl⟩:=List.mem_map.mp m
 exact z7a _
theorem x70:∀ l l':List Nat,PyData.eqvAll (x9n (x05 l)) (x9n (x05 l'))=decide (l=l')
 | [],[]=>rfl
 | [],_::_=>rfl
 | _::_,[]=>rfl
 | x::l,y::l'=>by
  show(((x:Int) == (y:Int)) && PyData.eqvAll (x9n (x05 l)) (x9n (x05 l')))=_
  rw[x70 l l']
  by_cases h:x=y
  ·subst h; simp
  ·have:((x:Int) == (y:Int))=false:=by simp; omega
   rw[this]
   simp[h]
theorem z8v (l l':List Nat):eqD (.lst (x05 l)) (.lst (x05 l'))=decide (l=l'):=x70 l l'
theorem z9v (l l':List Nat):eqD (.tup (x05 l)) (.tup (x05 l'))=decide (l=l'):=x70 l l'
theorem y5l (i j:Int):eqD (.int i) (.int j)=decide (i=j):=by
 show(i == j)=_
 rw[Bool.beq_eq_decide_eq]
theorem y9s (i j:Nat):eqD (.int (Int.ofNat i)) (.int (Int.ofNat j))=decide (i=j):=by
 rw[y5l]
 exact decide_eq_decide.mpr ⟨fun h=>Int.ofNat.inj h,fun h=>by rw[h]⟩
theorem z7c (i j:Bool):eqD (.bl i) (.bl j)=decide (i=j):=by
 show(i == j)=_
 rw[Bool.beq_eq_decide_eq]
theorem z83 (l l':List Nat):dEq (.lst (x05 l)) (.lst (x05 l'))=some (.bl (decide (l=l'))):=by unfold dEq; rw[if_pos ⟨(z7u l).ok,(z7u l').ok⟩,z8v]
theorem j16 (l l':List Nat):dNe (.lst (x05 l)) (.lst (x05 l'))=some (.bl (!decide (l=l'))):=by unfold dNe; rw[if_pos ⟨(z7u l).ok,(z7u l').ok⟩,z8v]
theorem y7n (i j:Int):dEq (.int i) (.int j)=some (.bl (decide (i=j))):=by unfold dEq; rw[if_pos ⟨(Sh.int (k:=0) i).ok,(Sh.int (k:=0) j).ok⟩,y5l]
theorem z4b (i j:Int):dNe (.int i) (.int j)=some (.bl (!decide (i=j))):=by unfold dNe; rw[if_pos ⟨(Sh.int (k:=0) i).ok,(Sh.int (k:=0) j).ok⟩,y5l]
theorem y8c (i j:Nat):dEq (.int (Int.ofNat i)) (.int (Int.ofNat j))=some (.bl (decide (i=j))):=by unfold dEq; rw[if_pos ⟨(Sh.int (k:=0) _).ok,(Sh.int (k:=0) _).ok⟩,y9s]
theorem x8o (i j:Nat):dNe (.int (Int.ofNat i)) (.int (Int.ofNat j))=some (.bl (!decide (i=j))):=by unfold dNe; rw[if_pos ⟨(Sh.int (k:=0) _).ok,(Sh.int (k:=0) _).ok⟩,y9s]
theorem j05 (i j:Bool):dNe (.bl i) (.bl j)=some (.bl (!decide (i=j))):=by unfold dNe; rw[if_pos ⟨(Sh.bl (k:=0) i).ok,(Sh.bl (k:=0) j).ok⟩,z7c]
theorem x7m {α:Type} {p:α->Bool}:∀ {l:List α} {j:Nat} {x:α},l[j]? = some x->p x=true->(∀ i y,i<j->l[i]? = some y->p y=false)->l.findIdx? p=some j
 | [],j,x,h,_,_=>by simp at h
 | a::l,0,x,h,hp,_=>by
  simp at h; subst h
  simp[List.findIdx?_cons,hp]
 | a::l,j+1,x,h,hp,hn=>by
  have h0:p a=false:=hn 0 a (Nat.succ_pos _) rfl
  have ih:=x7m (l:=l) (j:=j) (x:=x) (by simpa using h) hp fun i y hi hy=>hn (i+1) y (Nat.succ_lt_succ hi) (by simpa using hy)
  simp[List.findIdx?_cons,h0,ih]
structure Lad (n:Nat) (f:Nat->Nat->Nat):Prop where
 lo:0<n
 hi:n<=16
 cl:∀ i j,i<n->j<n->f i j<n
 idem:∀ i,i<n->f i i=i
 comm:∀ i j,i<n->j<n->f i j=f j i
 assoc:∀ i j k,i<n->j<n->k<n->f (f i j) k=f i (f j k)
 bot:∃ z,z<n/\∀ j,j<n->f z j=j
noncomputable def j1v (n:Nat) (f:Nat->Nat->Nat):Bool:=
 decide (0<n) && decide (n<=16) && ((List.range n).all fun i=>(List.range n).all fun j=>decide (f i j<n)) && ((List.range n).all fun i=>decide (f i i=i)) && ((List.range n).all fun i=>(List.range n).all fun j=>decide (f i j=f j i)) &&
 ((List.range n).all fun i=>(List.range n).all fun j=>(List.range n).all fun k=>decide (f (f i j) k=f i (f j k))) && ((List.range n).any fun z=>(List.range n).all fun j=>decide (f z j=j))
theorem z41 {n:Nat} {f:Nat->Nat->Nat} (h:j1v n f=true):Lad n f:=by
 unfold j1v at h
 simp only[Bool.and_eq_true,decide_eq_true_eq,List.all_eq_true,List.any_eq_true,List.mem_range]at h
 obtain⟨⟨⟨⟨⟨⟨h1,h2⟩,h3⟩,h4⟩,h5⟩,h6⟩,z,hz,h7⟩:=h
 exact⟨h1,h2,fun i j hi hj=>h3 i hi j hj,h4,fun i j hi hj=>h5 i hi j hj,fun i j k hi hj hk=>h6 i hi j hj k hk,z,hz,h7⟩
theorem Lad.ren {n:Nat} {f:Nat->Nat->Nat} (L:Lad n f) {π ι:Nat->Nat} (h1:∀ i,i<n->π i<n) (h2:∀ i,i<n->ι i<n) (h3:∀ i,i<n->ι (π i)=i) (h4:∀ i,i<n->π (ι i)=i):Lad n fun a b=>π (f (ι a) (ι b)):=by
 obtain⟨l1,l2,cl,idem,comm,assoc,z,hz,bot⟩:=L
 refine⟨l1,l2,fun i j hi hj=>h1 _ (cl _ _ (h2 i hi) (h2 j hj)),fun i hi=>?_,fun i j hi hj=>?_,fun i j k hi hj hk=>?_,π z,h1 z hz,fun j hj=>?_⟩
 ·show π (f (ι i) (ι i))=i
  rw[idem _ (h2 i hi),h4 i hi]
 ·show π (f (ι i) (ι j))=π (f (ι j) (ι i))
  rw[comm _ _ (h2 i hi) (h2 j hj)]
 ·show π (f (ι (π (f (ι i) (ι j)))) (ι k))=π (f (ι i) (ι (π (f (ι j) (ι k)))))
  rw[h3 _ (cl _ _ (h2 i hi) (h2 j hj)),h3 _ (cl _ _ (h2 j hj) (h2 k hk)),assoc _ _ _ (h2 i hi) (h2 j hj) (h2 k hk)]
 ·show π (f (ι (π z)) (ι j))=j
  rw[h3 z hz,bot _ (h2 j hj),h4 j hj]
noncomputable def x5f (p:Nat->Nat->Nat) (n:Nat):Nat->List Nat
 | 0=>List.range n
 | k+1=>(x5f p n k).eraseIdx (p k (x5f p n k).length)
noncomputable def drawn (p:Nat->Nat->Nat) (n k:Nat):Nat:=(x5f p n k).getD (p k (x5f p n k).length) 0
theorem y1f:∀ (l:List Nat) (j:Nat),(x05 l).eraseIdx j=x05 (l.eraseIdx j)
 | [],_=>rfl
 | _::_,0=>rfl
 | a::l,j+1=>congrArg (D.int (Int.ofNat a) :: ·) (y1f l j)
theorem x81 {p:Nat->Nat->Nat} {n:Nat} (hp:∀ k m,0<m->p k m<m):∀ k,k<=n->(x5f p n k).length=n-k
 | 0,_=>by simp[x5f]
 | k+1,h=>by
  have ih:=x81 hp k (Nat.le_of_succ_le h)
  have:=hp k (n-k) (by omega)
  rw[x5f,List.length_eraseIdx,ih,if_pos this]
  omega
theorem y1a:∀ {l:List Nat} {j:Nat} (h:j<l.length),(l[j]::l.eraseIdx j).Perm l
 | a::l,0,_=>List.Perm.refl _
 | a::l,j+1,h=>(List.Perm.swap a (l[j]'(by simpa using h)) (l.eraseIdx j)).trans (List.Perm.cons a (y1a (by simpa using h)))
theorem y3n {p:Nat->Nat->Nat} {n:Nat} (hp:∀ k m,0<m->p k m<m):∀ k,k<=n->(((List.range k).map (drawn p n))++x5f p n k).Perm (List.range n)
 | 0,_=>by simp[x5f]
 | k+1,h=>by
  have ih:=y3n hp k (Nat.le_of_succ_le h)
  have hl:=x81 hp k (by omega:k<=n)
  have hj:p k (x5f p n k).length<(x5f p n k).length:=by rw[hl]; exact hp k _ (by omega)
  refine List.Perm.trans ?_ ih
  rw[List.range_succ,List.map_append,List.append_assoc]
  refine List.Perm.append_left _ ?_
  have e:drawn p n k=(x5f p n k)[p k (x5f p n k).length]:=by unfold drawn; rw[List.getD_eq_getElem?_getD,List.getElem?_eq_getElem hj]; rfl
  show(drawn p n k::(x5f p n (k+1))).Perm _
  rw[e,x5f]
  exact y1a hj
theorem x66 {p:Nat->Nat->Nat} {n:Nat} (hp:∀ k m,0<m->p k m<m):((List.range n).map (drawn p n)).Perm (List.range n):=by
 have h:=y3n hp n (Nat.le_refl n)
 have hl:=x81 hp n (Nat.le_refl n)
 rw[Nat.sub_self]at hl
 rw[List.length_eq_zero_iff.mp hl,List.append_nil]at h
 exact h
theorem y6b {p:Nat->Nat->Nat} {n:Nat} (hp:∀ k m,0<m->p k m<m) {i:Nat} (h:i<n):drawn p n i<n:=by
 have m:drawn p n i∈(List.range n).map (drawn p n):=List.mem_map.mpr ⟨i,List.mem_range.mpr h,rfl⟩
 exact List.mem_range.mp ((x66 hp).mem_iff.mp m)
noncomputable def x3e (p:Nat->Nat->Nat) (n a:Nat):Nat:=((List.range n).map (drawn p n)).idxOf a
theorem y20 {p:Nat->Nat->Nat} {n:Nat} (hp:∀ k m,0<m->p k m<m) {a:Nat} (h:a<n):x3e p n a<n:=by
 have m:a∈(List.range n).map (drawn p n):=(x66 hp).mem_iff.mpr (List.mem_range.mpr h)
 have:=List.idxOf_lt_length_of_mem m
 rw[List.length_map,List.length_range]at this
 exact this
theorem x7i {p:Nat->Nat->Nat} {n:Nat} (hp:∀ k m,0<m->p k m<m) {a:Nat} (h:a<n):drawn p n (x3e p n a)=a:=by
 have m:a∈(List.range n).map (drawn p n):=(x66 hp).mem_iff.mpr (List.mem_range.mpr h)
 have:=List.getElem_idxOf (List.idxOf_lt_length_of_mem m)
 rw[List.getElem_map,List.getElem_range]at this
 exact this
theorem x7x {p:Nat->Nat->Nat} {n:Nat} (hp:∀ k m,0<m->p k m<m) {i:Nat} (h:i<n):x3e p n (drawn p n i)=i:=by
 have nd:((List.range n).map (drawn p n)).Nodup:=(x66 hp).nodup_iff.mpr List.nodup_range
 have hi:i<((List.range n).map (drawn p n)).length:=by simpa using h
 have:=nd.idxOf_getElem i hi
 rw[List.getElem_map,List.getElem_range]at this
 exact this
end L3
namespace L3
open PySem PySem.Spec PyProof.Rows L2
theorem y3m {i n:Nat} {tt:x2j} {te:Den} {ρ:Rho} {deep:Bool} (hi:ρ.length=i) (b:Nat->Bool) (v:Nat->D) (q:Nat->Nat) (ht:∀ j,j<n->tt (ρ++[some (.int (Int.ofNat j),9)])=some (b j,ρ++[some (.int (Int.ofNat j),9)]))
  (he:∀ j,j<n->b j=true->te (ρ++[some (.int (Int.ofNat j),9)])=some (v j,q j,ρ++[some (.int (Int.ofNat j),9)])) (hd:deep=true->∀ j,(v j).isL=true->q j=1:=by intro h; cases h) :
  x6l 1 (x0i i) tt te deep (x17 n) ρ=some (((List.range n).filter b).map v,ρ):=by
 have h:=x3m (k:=1) (pt:=x0i i) (tt:=tt) (te:=te) (deep:=deep) (x17 n) (fun _=>ρ) b v (fun j hj=>?_)
 ·rw[x0z]at h
  exact h
 ·rw[x0z]at hj
  refine⟨ρ++[some (.int (Int.ofNat j),9)],_,?_,ht j hj,?_⟩
  ·have:(x17 n)[j]'(by rw[x0z]; exact hj)=.int (Int.ofNat j):=by simp[x17]
   rw[this]
   unfold x0i
   rw[if_pos (by simp[hi])]
   subst hi
   simp[List.set_append]
  ·by_cases hb:b j=true
   ·rw[if_pos hb]
    exact⟨q j,_,he j hj hb,fun⟨h1,h2,h3⟩=>h3 (hd h1 j h2),by simp⟩
   ·rw[if_neg hb]
    simp
theorem y1n {z:Nat}:∀ n:Nat,(List.range n).filter (fun w=>decide (w=z))=if z<n then [z]else []
 | 0=>by simp
 | n+1=>by
  rw[List.range_succ,List.filter_append,y1n n]
  by_cases h:n=z
  ·subst h; simp
  ·have:¬ (n=z):=h
   by_cases h2:z<n
   ·rw[if_pos h2,if_pos (by omega)]; simp[h]
   ·rw[if_neg h2,if_neg (by omega)]; simp[h]
theorem y3y {n:Nat} {g:Nat->Nat}:(List.range n).map g=List.range n ↔ ∀ j,j<n->g j=j:=by
 constructor
 ·intro h j hj
  have:=congrArg (fun l=>l[j]?) h
  simpa [hj]using this
 ·intro h
  have e:=List.map_congr_left (l:=List.range n) (f:=g) (g:=id) fun a ha=>h a (List.mem_range.mp ha)
  rw[e,List.map_id]
namespace Lad
variable {n:Nat} {f:Nat->Nat->Nat} (L:Lad n f)
include L
theorem bot_uniq {z x:Nat} (hz:z<n) (bz:∀ j,j<n->f z j=j) (hx:x<n) (bx:∀ j,j<n->f x j=j):x=z:=by
 have h1:=bx z hz
 have h2:=bz x hx
 rw[L.comm x z hx hz]at h1
 omega
theorem fold_lt:∀ {l:List Nat} {a:Nat},a<n->(∀ x∈l,x<n)->l.foldl f a<n
 | [],a,ha,_=>ha
 | y::l,a,ha,h=>fold_lt (l:=l) (L.cl a y ha (h y List.mem_cons_self)) fun x m=>h x (List.mem_cons_of_mem _ m)
theorem y91:∀ {l:List Nat} {a x:Nat},a<n->x<n->(∀ x∈l,x<n)->f x a=a->f x (l.foldl f a)=l.foldl f a
 | [],a,x,_,_,_,e=>e
 | y::l,a,x,ha,hx,h,e=>by
  have hy:=h y List.mem_cons_self
  refine y91 (l:=l) (L.cl a y ha hy) hx (fun x m=>h x (List.mem_cons_of_mem _ m)) ?_
  rw[<- L.assoc x a y hx ha hy,e]
theorem fold_mem:∀ {l:List Nat} {a x:Nat},a<n->(∀ x∈l,x<n)->x∈l->f x (l.foldl f a)=l.foldl f a
 | y::l,a,x,ha,h,m=>by
  have hy:=h y List.mem_cons_self
  have hl:∀ x∈l,x<n:=fun x m=>h x (List.mem_cons_of_mem _ m)
  rcases List.mem_cons.mp m with rfl | m
  ·refine y91 L (l:=l) (L.cl a x ha hy) hy hl ?_
   rw[L.comm a x ha hy,<- L.assoc x x a hy hy ha,L.idem x hy]
  ·exact fold_mem (l:=l) (L.cl a y ha hy) hl m
theorem fold_out {z:Nat} (hz:z<n) (bz:∀ j,j<n->f z j=j):∀ {l:List Nat} {a:Nat},a<n->(∀ x∈l,x<n)->l.foldl f a=f a (l.foldl f z)
 | [],a,ha,_=>by show a=f a z; rw[L.comm a z ha hz,bz a ha]
 | y::l,a,ha,h=>by
  have hy:=h y List.mem_cons_self
  have hl:∀ x∈l,x<n:=fun x m=>h x (List.mem_cons_of_mem _ m)
  show l.foldl f (f a y)=f a (l.foldl f (f z y))
  rw[bz y hy,fold_out hz bz (L.cl a y ha hy) hl,fold_out hz bz hy hl,L.assoc a y _ ha hy (L.fold_lt hz hl)]
theorem top_uniq {z:Nat} (hz:z<n) (w:Nat) (hw:w<n):(∀ x,x<n->f x w=w) ↔ w=(List.range n).foldl f z:=by
 have hr:∀ x∈List.range n,x<n:=fun x m=>List.mem_range.mp m
 have ht:=L.fold_lt hz hr
 have up:∀ x,x<n->f x ((List.range n).foldl f z)=(List.range n).foldl f z:=fun x hx=>L.fold_mem hz hr (List.mem_range.mpr hx)
 constructor
 ·intro h
  have h1:=h _ ht
  have h2:=up w hw
  rw[L.comm _ _ ht hw]at h1
  omega
 ·intro h x hx
  rw[h]; exact up x hx
end Lad
end L3
namespace L3
open PySem PySem.Spec PyProof.Rows L2
theorem range_all {n:Nat} {p:Nat->Bool}:(List.range n).all p=true ↔ ∀ i,i<n->p i=true:=by
 rw[List.all_eq_true]
 exact⟨fun h i hi=>h i (List.mem_range.mpr hi),fun h i hi=>h i (List.mem_range.mp hi)⟩
theorem y3x {l:List Nat} {i:Nat} (h:i<(x05 l).length):(x05 l)[i]=.int (Int.ofNat (l.getD i 0)):=by
 have h':i<l.length:=by rw[x11]at h; exact h
 simp[x05,h']
theorem x9l {l:List Nat} {i:Nat} (h:i<l.length):l.getD i 0∈l:=by
 rw[List.getD_eq_getElem?_getD,List.getElem?_eq_getElem h]
 exact List.getElem_mem h
theorem j2b {i:Nat} {te:Den} {ρ:Rho} {deep:Bool} (l:List Nat) (hi:ρ.length=i) (v:Nat->D) (q:Nat->Nat)
  (he:∀ x,x∈l->te (ρ++[some (.int (Int.ofNat x),9)])=some (v x,q x,ρ++[some (.int (Int.ofNat x),9)])) (hd:deep=true->∀ j,(v j).isL=true->q j=1:=by intro h; cases h) :
  x6l 1 (x0i i) x2l te deep (x05 l) ρ=some (l.map v,ρ):=by
 have h:=x3m (k:=1) (pt:=x0i i) (tt:=x2l) (te:=te) (deep:=deep) (x05 l) (fun _=>ρ) (fun _=>true) (fun j=>v (l.getD j 0)) (fun j hj=>?_)
 ·rw[x11,show(List.range l.length).filter (fun _=>true)=List.range l.length by simp]at h
  rw[h]
  have e:(List.range l.length).map (fun j=>v (l.getD j 0))=l.map v:=by
   apply List.ext_getElem?
   intro k
   by_cases hk:k<l.length
   ·simp[hk]
   ·rw[List.getElem?_eq_none (by simp; omega),List.getElem?_eq_none (by simp; omega)]
  rw[e]
 ·have hj':j<l.length:=by rw[x11]at hj; exact hj
  refine⟨ρ++[some (.int (Int.ofNat (l.getD j 0)),9)],_,?_,rfl,?_⟩
  ·rw[y3x hj]
   unfold x0i
   rw[if_pos (by simp[hi])]
   subst hi
   simp[List.set_append]
  ·rw[if_pos rfl]
   exact⟨q _,_,he _ (x9l hj'),fun⟨h1,h2,h3⟩=>h3 (hd h1 _ h2),by simp⟩
theorem z89 {i:Nat} {tt:x2j} {te:Den} {ρ:Rho} {deep:Bool} (l:List Nat) (hi:ρ.length=i) (b:Nat->Bool) (v:Nat->D) (q:Nat->Nat)
  (ht:∀ x,x∈l->tt (ρ++[some (.int (Int.ofNat x),9)])=some (b x,ρ++[some (.int (Int.ofNat x),9)]))
  (he:∀ x,x∈l->b x=true->te (ρ++[some (.int (Int.ofNat x),9)])=some (v x,q x,ρ++[some (.int (Int.ofNat x),9)])) (hd:deep=true->∀ j,(v j).isL=true->q j=1:=by intro h; cases h) :
  x6l 1 (x0i i) tt te deep (x05 l) ρ=some ((l.filter b).map v,ρ):=by
 have h:=x3m (k:=1) (pt:=x0i i) (tt:=tt) (te:=te) (deep:=deep) (x05 l) (fun _=>ρ) (fun j=>b (l.getD j 0)) (fun j=>v (l.getD j 0)) (fun j hj=>?_)
 ·rw[x11]at h
  rw[h]
  have e:((List.range l.length).filter fun j=>b (l.getD j 0)).map (fun j=>v (l.getD j 0))=(l.filter b).map v:=by
   have e1:(List.range l.length).map (fun j=>l.getD j 0)=l:=by
    apply List.ext_getElem?
    intro k
    by_cases hk:k<l.length
    ·simp[hk]
    ·rw[List.getElem?_eq_none (by simp; omega),List.getElem?_eq_none (by omega)]
   have e2:=congrArg (fun m=>(List.filter b m).map v) e1
   simp only[List.filter_map,List.map_map]at e2
   exact e2
  rw[e]
 ·have hj':j<l.length:=by rw[x11]at hj; exact hj
  refine⟨ρ++[some (.int (Int.ofNat (l.getD j 0)),9)],_,?_,ht _ (x9l hj'),?_⟩
  ·rw[y3x hj]
   unfold x0i
   rw[if_pos (by simp[hi])]
   subst hi
   simp[List.set_append]
  ·by_cases hb:b (l.getD j 0)=true
   ·rw[if_pos hb]
    exact⟨q _,_,he _ (x9l hj') hb,fun⟨h1,h2,h3⟩=>h3 (hd h1 _ h2),by simp⟩
   ·rw[if_neg hb]
    simp
theorem y6z {l:List Nat} {b:Nat->Bool}:decide (l.filter (fun x=>!b x)=[])=l.all b:=by
 rw[Bool.eq_iff_iff,decide_eq_true_eq,List.filter_eq_nil_iff,List.all_eq_true]
 exact⟨fun h x m=>by simpa using h x m,fun h x m=>by simpa using h x m⟩
theorem x9q {g:D->D->Option D} {fa fb:Den} {ρ ρ1 ρ2:Rho} {x y d:D} {q q':Nat} (ha:fa ρ=some (x,q,ρ1)) (hb:fb ρ1=some (y,q',ρ2)) (hg:g x y=some d):e2 g fa fb ρ=some (d,9,ρ2):=by unfold e2; rw[ha]; simp only[hb,hg]
theorem x6w {f:Den} {ρ ρ1:Rho} {b:Bool} {q:Nat} (h:f ρ=some (.bl b,q,ρ1)):x3n f ρ=some (b,ρ1):=by unfold x3n; rw[h]
theorem y2h {i:Nat} {g:x1u} {ρ ρ1 ρ2:Rho} {ds:List D} {d:D} (hl:y8f ρ[i]? = true) (hg:g ρ=some ([d],ρ1)) (h1:ρ1[i]? = some (some (.lst ds,1))) (hn:ds.length<=1000) (e:ρ1.set i (some (.lst (ds++[d]),1))=ρ2):x3q (x9g i g) ρ=some (.nx ρ2):=by
 unfold x3q x9g
 rw[if_pos hl,hg]
 simp only[h1,if_pos hn,e]
theorem z8d {b:List D->Option D} {g:x1u} {ρ ρ1:Rho} {ds:List D} {d:D} (h:g ρ=some (ds,ρ1)) (hd:b ds=some d):eB b g ρ=some (d,9,ρ1):=by unfold eB; rw[h]; simp only[hd]
noncomputable def x43 (n:Nat) (r:Nat->Nat):D:=.tup (x05 ((List.range n).map r))
@[simp] theorem z7r {n:Nat} {r:Nat->Nat}:(x43 n r).isL=false:=rfl
theorem x9j {n i:Nat} {r:Nat->Nat} (h:i<n):atD (x43 n r) (Int.ofNat i)=some (.int (Int.ofNat (r i))):=x28 h
theorem y94 (l l':List Nat):dNe (.tup (x05 l)) (.tup (x05 l'))=some (.bl (!decide (l=l'))):=by unfold dNe; rw[if_pos ⟨(z7a l).ok,(z7a l').ok⟩,z9v]
theorem y99 (n:Nat) (a b:Nat->Nat):((x05 ((List.range n).map a)).zip (x05 ((List.range n).map b))).map (fun x=>D.tup [x.1,x.2])=(List.range n).map fun j=>.tup [.int (Int.ofNat (a j)),.int (Int.ofNat (b j))]:=by
 rw[x6d,x6d,List.zip_map',List.map_map]
 rfl
theorem j28 {i n:Nat} {tt:x2j} {te:Den} {ρ:Rho} {deep:Bool} (hi:ρ.length=i) (a b:Nat->Nat) (ok:Nat->Bool) (v:Nat->D) (q:Nat->Nat)
  (ht:∀ j,j<n->tt (ρ++[some (.int (Int.ofNat (a j)),9),some (.int (Int.ofNat (b j)),9)])=some (ok j,ρ++[some (.int (Int.ofNat (a j)),9),some (.int (Int.ofNat (b j)),9)]))
  (he:∀ j,j<n->ok j=true->te (ρ++[some (.int (Int.ofNat (a j)),9),some (.int (Int.ofNat (b j)),9)])=some (v j,q j,ρ++[some (.int (Int.ofNat (a j)),9),some (.int (Int.ofNat (b j)),9)]))
  (hd:deep=true->∀ j,(v j).isL=true->q j=1:=by intro h; cases h) :
  x6l 2 (x9m (x0s (x0i i) (x0s (x0i (i+1)) x3p))) tt te deep ((List.range n).map fun j=>.tup [.int (Int.ofNat (a j)),.int (Int.ofNat (b j))]) ρ=some (((List.range n).filter ok).map v,ρ):=by
 have h:=x3m (k:=2) (pt:=x9m (x0s (x0i i) (x0s (x0i (i+1)) x3p))) (tt:=tt) (te:=te) (deep:=deep) ((List.range n).map fun j=>.tup [.int (Int.ofNat (a j)),.int (Int.ofNat (b j))]) (fun _=>ρ) ok v (fun j hj=>?_)
 ·rw[List.length_map,List.length_range]at h
  exact h
 ·rw[List.length_map,List.length_range]at hj
  refine⟨ρ++[some (.int (Int.ofNat (a j)),9),some (.int (Int.ofNat (b j)),9)],_,?_,ht j hj,?_⟩
  ·subst hi
   simp[-Int.ofNat_eq_natCast,List.set_append]
  ·by_cases hb:ok j=true
   ·rw[if_pos hb]
    exact⟨q j,_,he j hj hb,fun⟨h1,h2,h3⟩=>h3 (hd h1 j h2),by simp⟩
   ·rw[if_neg hb]
    simp
namespace Lad
variable {n:Nat} {f:Nat->Nat->Nat} (L:Lad n f)
include L
theorem le_trans {x y z:Nat} (hx:x<n) (hy:y<n) (hz:z<n) (h1:f x y=y) (h2:f y z=z):f x z=z:=by
 rw[<- h2,<- L.assoc x y z hx hy hz,h1]
theorem le_anti {x y:Nat} (hx:x<n) (hy:y<n) (h1:f x y=y) (h2:f y x=x):x=y:=by
 rw[L.comm y x hy hx,h1]at h2; exact h2.symm
theorem le_l {x y:Nat} (hx:x<n) (hy:y<n):f x (f x y)=f x y:=by rw[<- L.assoc x x y hx hx hy,L.idem x hx]
theorem le_r {x y:Nat} (hx:x<n) (hy:y<n):f y (f x y)=f x y:=by rw[L.comm x y hx hy]; exact L.le_l hy hx
theorem lub {x y z:Nat} (hx:x<n) (hy:y<n) (hz:z<n) (h1:f x z=z) (h2:f y z=z):f (f x y) z=z:=by rw[L.assoc x y z hx hy hz,h2,h1]
theorem sup_least {z:Nat} (hz:z<n) (bz:∀ j,j<n->f z j=j) {b:Nat} (hb:b<n):∀ {l:List Nat},(∀ x∈l,x<n)->(∀ x∈l,f x b=b)->f (l.foldl f z) b=b
 | [],_,_=>bz b hb
 | y::l,h,k=>by
  have hy:=h y List.mem_cons_self
  have hl:∀ x∈l,x<n:=fun x m=>h x (List.mem_cons_of_mem _ m)
  have e:(y::l).foldl f z=f y (l.foldl f z):=by
   show l.foldl f (f z y)=_
   rw[bz y hy,L.fold_out hz bz hy hl]
  rw[e]
  exact L.lub hy (L.fold_lt hz hl) hb (k y List.mem_cons_self) (sup_least hz bz hb hl fun x m=>k x (List.mem_cons_of_mem _ m))
omit L
noncomputable def low (n:Nat) (f:Nat->Nat->Nat) (x:Nat):List Nat:=(List.range n).filter fun y=>decide (f y x=x)
theorem mem_low {x y:Nat}:y∈low n f x ↔ y<n/\f y x=x:=by simp[low]
noncomputable def lr (n:Nat) (f:Nat->Nat->Nat) (z:Nat) (r:Nat->Nat) (x:Nat):Nat:=((low n f x).map r).foldl f z
include L
variable {z:Nat} (hz:z<n) (bz:∀ j,j<n->f z j=j) {r s:Nat->Nat} (hr:∀ i,i<n->r i<n)
include hz bz hr
theorem lr_mem {x:Nat}:∀ y∈(low n f x).map r,y<n:=fun y m=>by
 obtain⟨k,hk,rfl⟩:=List.mem_map.mp m
 exact hr k (mem_low.mp hk).1
theorem lr_lt (x:Nat):lr n f z r x<n:=L.fold_lt hz (lr_mem L hz bz hr)
theorem lr_ub {x y:Nat} (hy:y<n) (h:f y x=x):f (r y) (lr n f z r x)=lr n f z r x:=L.fold_mem hz (lr_mem L hz bz hr) (List.mem_map.mpr ⟨y,mem_low.mpr ⟨hy,h⟩,rfl⟩)
theorem lr_least {x b:Nat} (hb:b<n) (h:∀ y,y<n->f y x=x->f (r y) b=b):f (lr n f z r x) b=b:=L.sup_least hz bz hb (lr_mem L hz bz hr) fun y m=>by
 obtain⟨k,hk,rfl⟩:=List.mem_map.mp m
 exact h k (mem_low.mp hk).1 (mem_low.mp hk).2
theorem lr_rises {x y:Nat} (hx:x<n) (hy:y<n) (h:f x y=y):f (lr n f z r x) (lr n f z r y)=lr n f z r y:=
 L.lr_least hz bz hr (L.lr_lt hz bz hr y) fun k hk e=>L.lr_ub hz bz hr hk (L.le_trans hk hx hy e h)
end Lad
end L3
namespace L3
open PySem PySem.Spec PyProof.Rows L2
theorem j3d {α:Type} {us:List α} (h:us.length=1):∃ a,us=[a]:=match us,h with | [a],_=>⟨a,rfl⟩
theorem j2y {α:Type} {us:List α} (h:us.length=2):∃ a b,us=[a,b]:=by
 cases us with
 | nil=>cases h
 | cons a us=>
  obtain⟨b,hh⟩:=j3d (Nat.succ.inj h)
  exact⟨a,b,by rw[hh]⟩
theorem j2p {α:Type} {us:List α} (h:us.length=3):∃ a b c,us=[a,b,c]:=by
 cases us with
 | nil=>cases h
 | cons a us=>
  obtain⟨b,c,hh⟩:=j2y (Nat.succ.inj h)
  exact⟨a,b,c,by rw[hh]⟩
theorem j3l {α:Type} {us:List α} (h:us.length=4):∃ a b c d,us=[a,b,c,d]:=by
 cases us with
 | nil=>cases h
 | cons a us=>
  obtain⟨b,c,d,hh⟩:=j2p (Nat.succ.inj h)
  exact⟨a,b,c,d,by rw[hh]⟩
theorem y2m {pt:x5p} {body:x1a} {d:D} {ds:List D} {ρ ρ1 ρ2:Rho} (h1:pt d ρ=some ρ1) (h2:body ρ1=some (.nx ρ2)):x75 pt body (d::ds) ρ=x75 pt body ds ρ2:=by
 show(match pt d ρ with | none=>none | some ρ1=>_)=_
 simp only[h1,h2]
theorem z3x {pt:x5p} {body:x1a} {d d':D} {q:Nat} {ds:List D} {ρ ρ1:Rho} (h1:pt d ρ=some ρ1) (h2:body ρ1=some (.rt d' q)):x75 pt body (d::ds) ρ=some (.rt d' q):=by
 unfold x75
 simp only[h1,h2]
theorem x7w {α J σ:Type} {pt:x5p} {body:x1a} (enc:α->D) (S:σ->J->Rho) (g:σ->α->σ) (I:σ->Prop):∀ (l:List α) (s:σ) (j:J),I s->
  (∀ x∈l,∀ s j,I s->I (g s x)/\∃ ρ1 j',pt (enc x) (S s j)=some ρ1/\body ρ1=some (.nx (S (g s x) j')))->∃ j',x75 pt body (l.map enc) (S s j)=some (.nx (S (l.foldl g s) j'))/\I (l.foldl g s)
 | [],s,j,i,_=>⟨j,rfl,i⟩
 | x::l,s,j,i,h=>by
  obtain⟨i1,ρ1,j1,h1,h2⟩:=h x List.mem_cons_self s j i
  obtain⟨j2,e,i2⟩:=x7w enc S g I l (g s x) j1 i1 fun y m=>h y (List.mem_cons_of_mem _ m)
  exact⟨j2,(y2m h1 h2).trans e,i2⟩
theorem x7d {α J:Type} {pt:x5p} {body:x1a} {d:D} {q:Nat} (enc:α->D) (ok:α->Bool) (S:J->Rho):∀ (l:List α) (j:J),
  (∀ x∈l,∀ j,∃ ρ1,pt (enc x) (S j)=some ρ1/\(ok x=true->∃ j',body ρ1=some (.nx (S j')))/\(ok x=false->body ρ1=some (.rt d q)))->
  (l.all ok=true->∃ j',x75 pt body (l.map enc) (S j)=some (.nx (S j')))/\(l.all ok=false->x75 pt body (l.map enc) (S j)=some (.rt d q))
 | [],j,_=>⟨fun _=>⟨j,rfl⟩,fun h=>by simp at h⟩
 | x::l,j,h=>by
  obtain⟨ρ1,h1,h2,h3⟩:=h x List.mem_cons_self j
  rw[List.all_cons]
  cases hk:ok x with
  | false=>exact⟨fun z=>by simp at z,fun _=>z3x h1 (h3 hk)⟩
  | true=>
   obtain⟨j1,h4⟩:=h2 hk
   obtain⟨i1,i2⟩:=x7d enc ok S l j1 fun y m=>h y (List.mem_cons_of_mem _ m)
   rw[Bool.true_and,List.map_cons,y2m h1 h4]
   exact⟨i1,i2⟩
theorem y1y {c:x2j} {b:x1a} {Q:Rho->Prop} (I:Nat->Rho->Prop)
  (h:∀ k ρ,I k ρ->(∃ ρ1,c ρ=some (false,ρ1)/\Q ρ1)\/(∃ ρ1 ρ2 k',c ρ=some (true,ρ1)/\b ρ1=some (.nx ρ2)/\k'<k/\I k' ρ2)):∀ m k ρ,k<m->I k ρ->∃ ρ',x5l c b m ρ=some (.nx ρ')/\Q ρ'
 | 0,k,_,hk,_=>absurd hk (Nat.not_lt_zero k)
 | m+1,k,ρ,hk,i=>by
  rcases h k ρ i with⟨ρ1,h1,h2⟩ | ⟨ρ1,ρ2,k',h1,h2,h3,h4⟩
  ·exact⟨ρ1,by unfold x5l; simp[h1],h2⟩
  ·obtain⟨ρ',e,q⟩:=y1y I h m k' ρ2 (by omega) h4
   refine⟨ρ',?_,q⟩
   unfold x5l
   simp[h1,h2,e]
theorem y1h {c:x2j} {b:x1a} {Q:Rho->Prop} (I:Nat->Rho->Prop) {k:Nat} {ρ:Rho} (hk:k<1000) (i:I k ρ)
  (h:∀ k ρ,I k ρ->(∃ ρ1,c ρ=some (false,ρ1)/\Q ρ1)\/(∃ ρ1 ρ2 k',c ρ=some (true,ρ1)/\b ρ1=some (.nx ρ2)/\k'<k/\I k' ρ2)):∃ ρ',y4f c b ρ=some (.nx ρ')/\Q ρ':=y1y I h 1000 k ρ hk i
noncomputable def gv (v:List Nat) (i:Nat):Nat:=v.getD i 0
theorem y40 {v:List Nat} {i:Nat} (h:i<v.length):v[i]? = some (gv v i):=by unfold gv; simp[h]
theorem z84 {v:List Nat} {i:Nat} (h:i<v.length):gv v i∈v:=x9l h
theorem j15 {v:List Nat} {i:Nat} (h:i<v.length):atD (.lst (x05 v)) (Int.ofNat i)=some (.int (Int.ofNat (gv v i))):=y4u (y40 h)
theorem z06 {v:List Nat} {i:Nat} (h:i<v.length):atD (.tup (x05 v)) (Int.ofNat i)=some (.int (Int.ofNat (gv v i))):=y4u (y40 h)
theorem y6m (v:List Nat) (i x:Nat):(x05 v).set i (.int (Int.ofNat x))=x05 (v.set i x):=by simp[x05,List.map_set]
theorem z95 {v:List Nat} {i:Nat} (h:i<v.length) (x j:Nat):gv (v.set i x) j=if j=i then x else gv v j:=by
 unfold gv
 rw[List.getD_eq_getElem?_getD,List.getD_eq_getElem?_getD]
 by_cases e:j=i
 ·subst e; rw[if_pos rfl,List.getElem?_set_self h]; rfl
 ·rw[if_neg e,List.getElem?_set_ne (fun z=>e z.symm)]
theorem z35 {u v:List Nat} (h:u.length=v.length) (k:∀ i,i<u.length->gv u i=gv v i):u=v:=by
 apply List.ext_getElem?
 intro i
 by_cases hi:i<u.length
 ·rw[y40 hi,y40 (by omega),k i hi]
 ·rw[List.getElem?_eq_none (by omega),List.getElem?_eq_none (by omega)]
structure Vn (n p:Nat) (v:List Nat):Prop where
 len:v.length=p
 lt:∀ x∈v,x<n
theorem Vn.gv {n p:Nat} {v:List Nat} (h:Vn n p v) {i:Nat} (hi:i<p):gv v i<n:=h.lt _ (z84 (by rw[h.len]; exact hi))
theorem Vn.set {n p:Nat} {v:List Nat} (h:Vn n p v) {i x:Nat} (hx:x<n):Vn n p (v.set i x):=⟨by rw[List.length_set]; exact h.len,fun y hy=>by
 rcases List.mem_or_eq_of_mem_set hy with h' | h'
 ·exact h.lt y h'
 ·rw[h']; exact hx⟩
theorem Vn.map {n p:Nat} {g:Nat->Nat} (h:∀ i,i<p->g i<n):Vn n p ((List.range p).map g):=⟨by simp,fun x hx=>by
 obtain⟨i,hi,rfl⟩:=List.mem_map.mp hx
 exact h i (List.mem_range.mp hi)⟩
noncomputable def leV (f:Nat->Nat->Nat) (p:Nat) (u v:List Nat):Prop:=∀ i,i<p->f (gv u i) (gv v i)=gv v i
noncomputable abbrev ChS:=Nat × (List Nat->Nat)
noncomputable def doS (f:Nat->Nat->Nat) (v:List Nat) (s:ChS):List Nat:=v.set s.1 (f (gv v s.1) (s.2 v))
structure OkS (n p:Nat) (f:Nat->Nat->Nat) (s:ChS):Prop where
 pl:s.1<p
 lt:∀ v,Vn n p v->s.2 v<n
 mono:∀ u v,Vn n p u->Vn n p v->leV f p u v->f (s.2 u) (s.2 v)=s.2 v
noncomputable def ClS (f:Nat->Nat->Nat) (l:List ChS) (v:List Nat):Prop:=∀ s∈l,f (s.2 v) (gv v s.1)=gv v s.1
namespace Lad
variable {n:Nat} {f:Nat->Nat->Nat} (L:Lad n f) {p:Nat}
include L
theorem leV_refl {v:List Nat} (h:Vn n p v):leV f p v v:=fun i hi=>L.idem _ (h.gv hi)
theorem leV_trans {u v w:List Nat} (hu:Vn n p u) (hv:Vn n p v) (hw:Vn n p w) (a:leV f p u v) (b:leV f p v w):leV f p u w:=fun i hi=>L.le_trans (hu.gv hi) (hv.gv hi) (hw.gv hi) (a i hi) (b i hi)
theorem leV_anti {u v:List Nat} (hu:Vn n p u) (hv:Vn n p v) (a:leV f p u v) (b:leV f p v u):u=v:=
 z35 (hu.len.trans hv.len.symm) fun i hi=>by
  rw[hu.len]at hi
  exact L.le_anti (hu.gv hi) (hv.gv hi) (a i hi) (b i hi)
theorem doS_V {v:List Nat} {s:ChS} (hs:OkS n p f s) (h:Vn n p v):Vn n p (doS f v s):=h.set (L.cl _ _ (h.gv hs.pl) (hs.lt v h))
theorem doS_gv {v:List Nat} {s:ChS} (hs:OkS n p f s) (h:Vn n p v) (i:Nat):gv (doS f v s) i=if i=s.1 then f (gv v s.1) (s.2 v)else gv v i:=z95 (by rw[h.len]; exact hs.pl) _ _
theorem doS_up {v:List Nat} {s:ChS} (hs:OkS n p f s) (h:Vn n p v):leV f p v (doS f v s):=fun i hi=>by
 rw[L.doS_gv hs h]
 by_cases e:i=s.1
 ·subst e; rw[if_pos rfl]; exact L.le_l (h.gv hi) (hs.lt v h)
 ·rw[if_neg e]; exact L.idem _ (h.gv hi)
theorem doS_mono {u v:List Nat} {s:ChS} (hs:OkS n p f s) (hu:Vn n p u) (hv:Vn n p v) (a:leV f p u v):leV f p (doS f u s) (doS f v s):=fun i hi=>by
 rw[L.doS_gv hs hu,L.doS_gv hs hv]
 by_cases e:i=s.1
 ·subst e
  rw[if_pos rfl,if_pos rfl]
  have h1:=hu.gv hs.pl
  have h2:=hs.lt u hu
  have h3:=hv.gv hs.pl
  have h4:=hs.lt v hv
  exact L.lub h1 h2 (L.cl _ _ h3 h4) (L.le_trans h1 h3 (L.cl _ _ h3 h4) (a _ hs.pl) (L.le_l h3 h4)) (L.le_trans h2 h4 (L.cl _ _ h3 h4) (hs.mono u v hu hv a) (L.le_r h3 h4))
 ·rw[if_neg e,if_neg e]; exact a i hi
theorem doS_fix {v:List Nat} {s:ChS} (hs:OkS n p f s) (h:Vn n p v):doS f v s=v ↔ f (s.2 v) (gv v s.1)=gv v s.1:=by
 constructor
 ·intro e
  have:=congrArg (fun u=>gv u s.1) e
  rw[L.doS_gv hs h,if_pos rfl]at this
  rw[L.comm _ _ (hs.lt v h) (h.gv hs.pl)]
  exact this
 ·intro e
  refine z35 (by unfold doS; rw[List.length_set]) fun i hi=>?_
  rw[L.doS_gv hs h]
  by_cases e':i=s.1
  ·subst e'; rw[if_pos rfl,L.comm _ _ (h.gv hs.pl) (hs.lt v h)]; exact e
  ·rw[if_neg e']
theorem foldS_V:∀ {l:List ChS} {v:List Nat},(∀ s∈l,OkS n p f s)->Vn n p v->Vn n p (l.foldl (doS f) v)
 | [],v,_,h=>h
 | s::l,v,hs,h=>foldS_V (l:=l) (fun t m=>hs t (List.mem_cons_of_mem _ m)) (L.doS_V (hs s List.mem_cons_self) h)
theorem foldS_up:∀ {l:List ChS} {v:List Nat},(∀ s∈l,OkS n p f s)->Vn n p v->leV f p v (l.foldl (doS f) v)
 | [],v,_,h=>L.leV_refl h
 | s::l,v,hs,h=>by
  have h1:=L.doS_V (hs s List.mem_cons_self) h
  have hl:∀ t∈l,OkS n p f t:=fun t m=>hs t (List.mem_cons_of_mem _ m)
  exact L.leV_trans h h1 (L.foldS_V (l:=l) hl h1) (L.doS_up (hs s List.mem_cons_self) h) (foldS_up (l:=l) hl h1)
theorem foldS_below {a:List Nat} (ha:Vn n p a):∀ {l:List ChS} {v:List Nat},(∀ s∈l,OkS n p f s)->Vn n p v->ClS f l a->leV f p v a->leV f p (l.foldl (doS f) v) a
 | [],v,_,h,_,e=>e
 | s::l,v,hs,h,c,e=>by
  have s0:=hs s List.mem_cons_self
  have h1:=L.doS_V s0 h
  have hl:∀ t∈l,OkS n p f t:=fun t m=>hs t (List.mem_cons_of_mem _ m)
  refine foldS_below ha (l:=l) hl h1 (fun t m=>c t (List.mem_cons_of_mem _ m)) ?_
  have:=L.doS_mono s0 h ha e
  rw[(L.doS_fix s0 ha).mpr (c s List.mem_cons_self)]at this
  exact this
theorem foldS_fix:∀ {l:List ChS} {v:List Nat},(∀ s∈l,OkS n p f s)->Vn n p v->(l.foldl (doS f) v=v ↔ ClS f l v)
 | [],v,_,h=>⟨fun _ _ m=>(List.not_mem_nil m).elim,fun _=>rfl⟩
 | s::l,v,hs,h=>by
  have s0:=hs s List.mem_cons_self
  have h1:=L.doS_V s0 h
  have hl:∀ t∈l,OkS n p f t:=fun t m=>hs t (List.mem_cons_of_mem _ m)
  constructor
  ·intro e
   have e0:l.foldl (doS f) (doS f v s)=v:=e
   have up:=L.foldS_up hl h1
   rw[e0]at up
   have e1:doS f v s=v:=L.leV_anti h1 h up (L.doS_up s0 h)
   rw[e1]at e0
   have c:=(foldS_fix (l:=l) hl h).mp e0
   intro t m
   rcases List.mem_cons.mp m with rfl | m
   ·exact(L.doS_fix s0 h).mp e1
   ·exact c t m
  ·intro c
   show l.foldl (doS f) (doS f v s)=v
   rw[(L.doS_fix s0 h).mpr (c s List.mem_cons_self)]
   exact(foldS_fix (l:=l) hl h).mpr fun t m=>c t (List.mem_cons_of_mem _ m)
noncomputable def cnt (n:Nat) (f:Nat->Nat->Nat) (x:Nat):Nat:=((List.range n).filter fun y=>decide (f x y=y)).length
noncomputable def mu (n:Nat) (f:Nat->Nat->Nat) (v:List Nat):Nat:=(v.map (cnt n f)).sum
omit L in
theorem z94 (x:Nat):cnt n f x<=n:=by
 have:=List.length_filter_le (fun y=>decide (f x y=y)) (List.range n)
 rw[List.length_range]at this
 exact this
omit L in
theorem mu_le {v:List Nat} (h:Vn n p v):mu n f v<=p*n:=by
 have key:∀ l:List Nat,(l.map (cnt n f)).sum<=l.length*n:=by
  intro l
  induction l with
  | nil=>simp
  | cons x l ih=>
   have:=z94 (n:=n) (f:=f) x
   simp only[List.map_cons,List.sum_cons,List.length_cons,Nat.succ_mul]
   omega
 have:=key v
 rw[h.len]at this
 exact this
omit L in
theorem x7t {q r:Nat->Bool} {a:Nat}:∀ {l:List Nat},(∀ x∈l,r x=true->q x=true)->a∈l->q a=true->r a=false->(l.filter r).length<(l.filter q).length
 | y::l,h,ha,hq,hr=>by
  have hl:∀ x∈l,r x=true->q x=true:=fun x m=>h x (List.mem_cons_of_mem _ m)
  have le:∀ l:List Nat,(∀ x∈l,r x=true->q x=true)->(l.filter r).length<=(l.filter q).length:=by
   intro l
   induction l with
   | nil=>intro _; simp
   | cons z l ih=>
    intro h
    have i:=ih fun x m=>h x (List.mem_cons_of_mem _ m)
    by_cases hz:r z=true
    ·rw[List.filter_cons_of_pos hz,List.filter_cons_of_pos (h z List.mem_cons_self hz)]
     simp only[List.length_cons]; omega
    ·rw[List.filter_cons_of_neg hz]
     by_cases hz':q z=true
     ·rw[List.filter_cons_of_pos hz']; simp only[List.length_cons]; omega
     ·rw[List.filter_cons_of_neg hz']; exact i
  by_cases e:y=a
  ·subst e
   rw[List.filter_cons_of_neg (by rw[hr]; simp),List.filter_cons_of_pos hq]
   have:=le l hl
   simp only[List.length_cons]; omega
  ·have ha':a∈l:=by
    rcases List.mem_cons.mp ha with h' | h'
    ·exact absurd h'.symm e
    ·exact h'
   have i:=x7t (l:=l) hl ha' hq hr
   by_cases hz:r y=true
   ·rw[List.filter_cons_of_pos hz,List.filter_cons_of_pos (h y List.mem_cons_self hz)]
    simp only[List.length_cons]; omega
   ·rw[List.filter_cons_of_neg hz]
    by_cases hz':q y=true
    ·rw[List.filter_cons_of_pos hz']; simp only[List.length_cons]; omega
    ·rw[List.filter_cons_of_neg hz']; exact i
theorem cnt_lt {x y:Nat} (hx:x<n) (hy:y<n) (h:f x y=y) (ne:x≠y):cnt n f y<cnt n f x:=by
 refine x7t (a:=x) (fun k m hk=>?_) (List.mem_range.mpr hx) (decide_eq_true (L.idem x hx)) (decide_eq_false fun e=>ne (L.le_anti hx hy h e))
 exact decide_eq_true (L.le_trans hx hy (List.mem_range.mp m) h (of_decide_eq_true hk))
theorem mu_lt {u v:List Nat} (hu:Vn n p u) (hv:Vn n p v) (a:leV f p u v) (ne:u≠v):mu n f v<mu n f u:=by
 have key:∀ (u v:List Nat),u.length=v.length->(∀ x∈u,x<n)->(∀ x∈v,x<n)->(∀ i,i<u.length->f (gv u i) (gv v i)=gv v i)->((v.map (cnt n f)).sum<=(u.map (cnt n f)).sum)/\(u≠v->(v.map (cnt n f)).sum<(u.map (cnt n f)).sum):=by
  intro u
  induction u with
  | nil=>
   intro v hl _ _ _
   have:v=[]:=List.length_eq_zero_iff.mp hl.symm
   subst this
   exact⟨Nat.le_refl _,fun h=>absurd rfl h⟩
  | cons x u ih=>
   intro v hl h1 h2 h3
   cases v with
   | nil=>cases hl
   | cons y v=>
    have hl':u.length=v.length:=by simpa using hl
    obtain⟨i1,i2⟩:=ih v hl' (fun z m=>h1 z (List.mem_cons_of_mem _ m)) (fun z m=>h2 z (List.mem_cons_of_mem _ m)) (fun i hi=>h3 (i+1) (by simpa using hi))
    have e0:f x y=y:=h3 0 (by simp)
    have hx:=h1 x List.mem_cons_self
    have hy:=h2 y List.mem_cons_self
    simp only[List.map_cons,List.sum_cons]
    by_cases e:x=y
    ·subst e
     exact⟨by omega,fun h=>by have:=i2 (fun z=>h (by rw[z])); omega⟩
    ·have:=L.cnt_lt hx hy e0 e
     exact⟨by omega,fun _=>by omega⟩
 exact(key u v (hu.len.trans hv.len.symm) hu.lt hv.lt (fun i hi=>a i (by rw[<- hu.len]; exact hi))).2 ne
end Lad
end L3
namespace My
open PySem PySem.Spec PyProof.Rows L2 L3
noncomputable def top (i:Nat):Stmt:=PySem.Challenge.pw_ladderhall_k50_whole_greatest.main.body.getD i (.Pass ⟨0,0,0,0⟩)
structure Bt (mg:Str->Option Value):Prop where
 m_all:mg "all" = none
 m_bool:mg "bool" = none
 m_int:mg "int" = none
 m_isinstance:mg "isinstance" = none
 m_len:mg "len" = none
 m_list:mg "list" = none
 m_max:mg "max" = none
 m_range:mg "range" = none
 m_str:mg "str" = none
 m_tuple:mg "tuple" = none
 m_zip:mg "zip" = none
noncomputable section
variable {P:Program} {w:World} {K:PySem.W.Frag} {mg:Str->Option Value} {base:Heap}
noncomputable def x6p:x1a:=x2m (z4e (x01 (x06 0) (x0f)))
noncomputable def x2k:List D->Option (D × Nat):=fnD 1 (x6p)
theorem x9u:FnScope ["many"] ["many"] (x0e (top 9)):=⟨rfl,rfl,rfl,by decide +kernel,rfl,by decide +kernel,by decide +kernel⟩
theorem x6u (B:Bt mg) (a:At K mg "row_of_least" (top 9) ["many"]):Cal P w K mg base 1 "row_of_least" 1 (x2k):=
 Cal.mkQ (k:=0) a x9u fun f cdv A outer s H E hr=>
  x0c (x0l (z5a rfl B.m_tuple PyProof.Rows.boot_tuple B.m_range (x00 (x02 (qv 0 rfl (Or.inl rfl))) (x03) x04)))
noncomputable def y1c:x1a:=x2m (y5y (x06 0) (x01 (x0k x2k 1 (x01 (x1d 0) (x0f))) (x0f)))
noncomputable def x36:List D->Option (D × Nat):=fnD 1 (y1c)
theorem y4v:FnScope ["ladder"] ["ladder"] (x0e (top 10)):=⟨rfl,rfl,rfl,by decide +kernel,rfl,by decide +kernel,by decide +kernel⟩
theorem y1z (B:Bt mg) (c_row_of_least:Cal P w K mg base 1 "row_of_least" 1 x2k) (a:At K mg "least_of" (top 10) ["ladder"]):Cal P w K mg base 2 "least_of" 1 (x36):=
 Cal.mkQ (k:=1) a y4v fun f cdv A outer s H E hr=>
  x0c (x0l (z1k hr (x02 (qv 0 rfl (Or.inl rfl))) (x00 (x09 c_row_of_least hr (by decide) (x00 (x16 B.m_len (qv 0 rfl (Or.inl rfl))) (x03) x0o)) (x03) x0o)))
noncomputable def x92:x1a:=x18 (x23 2 (x0k x36 1 (x01 (x06 0) (x0f))))
 (x18 (x6h (x6f (x06 1)) (x0i 3) (x23 2 (eIx (x10 0 (x06 2)) (x06 3))))
 (x2m (x06 2)))
noncomputable def x37:List D->Option (D × Nat):=fnD 4 (x92)
theorem x3v:FnScope ["ladder","worths","joined","worth"] ["ladder","worths"] (x0e (top 13)):=⟨rfl,rfl,rfl,by decide +kernel,rfl,by decide +kernel,by decide +kernel⟩
theorem x90 (B:Bt mg) (c_least_of:Cal P w K mg base 2 "least_of" 1 x36) (a:At K mg "joined_all" (top 13) ["ladder","worths"]):Cal P w K mg base 3 "joined_all" 2 (x37):=
 Cal.mkQ (k:=2) a x3v fun f cdv A outer s H E hr=>
  x07 (x0r (i:=2) x3v.nd rfl (Or.inl rfl) (x09 c_least_of hr (by decide) (x00 (x02 (qv 0 rfl (Or.inl rfl))) (x03) x04)))
  (x07 (x1p PassesOwn.never rfl (x31 (x02 (qv 1 rfl (Or.inl rfl)))) (x0j (i:=3) (show 0<=3 by decide) x3v.nd rfl (Or.inl rfl)) (x0c (x0r (i:=2) x3v.nd rfl (Or.inl rfl) (x47 (x0p (qv 0 rfl (Or.inl rfl)) (x02 (qv 2 rfl (Or.inl rfl)))) (x02 (qv 3 rfl (Or.inl rfl)))))))
  (x0c (x0l (x02 (qv 2 rfl (Or.inl rfl))))))
noncomputable def y1k:x1a:=x2m (e2 dEq (eIx (x10 0 (x06 1)) (x06 2)) (x06 2))
noncomputable def x1m:List D->Option (D × Nat):=fnD 3 (y1k)
theorem y57:FnScope ["ladder","one","other"] ["ladder","one","other"] (x0e (top 11)):=⟨rfl,rfl,rfl,by decide +kernel,rfl,by decide +kernel,by decide +kernel⟩
theorem y1j (B:Bt mg) (a:At K mg "is_below" (top 11) ["ladder","one","other"]):Cal P w K mg base 1 "is_below" 3 (x1m):=
 Cal.mkQ (k:=0) a y57 fun f cdv A outer s H E hr=>
  x0c (x0l (z9p hr (x47 (x0p (qv 0 rfl (Or.inl rfl)) (x02 (qv 1 rfl (Or.inl rfl)))) (x02 (qv 2 rfl (Or.inl rfl)))) (x02 (qv 2 rfl (Or.inl rfl)))))
noncomputable def y8z:x1a:=x2m (x2y 1 (x15 (x01 (x1d 0) (x0f))) (x0i 2) (x88 (x0k x1m 3 (x01 (x06 0) (x01 (x06 2) (x01 (x06 1) (x0f)))))) (x06 2) false)
noncomputable def x8l:List D->Option (D × Nat):=fnD 2 (y8z)
theorem z1z:FnScope ["ladder","worth"] ["ladder","worth"] (x0e (top 12)):=⟨rfl,rfl,rfl,by decide +kernel,rfl,by decide +kernel,by decide +kernel⟩
noncomputable abbrev y6h:List Str:=["ladder","worth","x"]
theorem y9h:(y6h).Nodup:=by decide +kernel
theorem y96 (B:Bt mg) (c_is_below:Cal P w K mg base 1 "is_below" 3 x1m) (a:At K mg "below" (top 12) ["ladder","worth"]):Cal P w K mg base 2 "below" 2 (x8l):=
 Cal.mkQ (k:=1) a z1z fun f cdv A outer s H E hr=>
  x0c (x0l (x2z (k:=1) (N':=y6h) false rfl ⟨rfl,by decide +kernel,rfl,rfl,rfl⟩ (x0t B.m_range (x00 (x16 B.m_len (qv 0 rfl (Or.inr (Or.inl rfl)))) (x03) x0o)) (fun _ _ _ _=>x0j (i:=2) (show 2<=2 by decide) y9h rfl (Or.inl rfl) (Or.inr rfl)) (fun _ _ _ _=>x7l (x3l (x09 c_is_below hr (by decide) (x00 (x02 (qv 0)) (x00 (x02 (qv 2)) (x00 (x02 (qv 1)) (x03) x04) x04) x04)))) (fun _ _ _ _=>x02 (qv 2))))
noncomputable def z88:x1a:=x2m (x0k x37 2 (x01 (x06 0) (x01 (x2y 1 (x6f (x0k x8l 2 (x01 (x06 0) (x01 (x06 1) (x0f))))) (x0i 3) (x88 (x0k x1m 3 (x01 (x06 0) (x01 (x06 3) (x01 (x06 2) (x0f)))))) (x06 3) false) (x0f))))
noncomputable def x8i:List D->Option (D × Nat):=fnD 3 (z88)
theorem j0p:FnScope ["ladder","one","other"] ["ladder","one","other"] (x0e (top 14)):=⟨rfl,rfl,rfl,by decide +kernel,rfl,by decide +kernel,by decide +kernel⟩
noncomputable abbrev z3p:List Str:=["ladder","one","other","x"]
theorem z5b:(z3p).Nodup:=by decide +kernel
theorem z9s (B:Bt mg) (c_joined_all:Cal P w K mg base 3 "joined_all" 2 x37) (c_below:Cal P w K mg base 2 "below" 2 x8l) (c_is_below:Cal P w K mg base 1 "is_below" 3 x1m) (a:At K mg "met" (top 14) ["ladder","one","other"]):Cal P w K mg base 4 "met" 3 (x8i):=
 Cal.mkQ (k:=3) a j0p fun f cdv A outer s H E hr=>
  x0c (x0l (x09 c_joined_all hr (by decide) (x00 (x02 (qv 0 rfl (Or.inr (Or.inl rfl)))) (x00 (x2z (k:=1) (N':=z3p) false rfl ⟨rfl,by decide +kernel,rfl,rfl,rfl⟩ (x31 (x09 c_below hr (by decide) (x00 (x02 (qv 0 rfl (Or.inr (Or.inl rfl)))) (x00 (x02 (qv 1 rfl (Or.inl rfl))) (x03) x04) x04))) (fun _ _ _ _=>x0j (i:=3) (show 3<=3 by decide) z5b rfl (Or.inl rfl) (Or.inr rfl)) (fun _ _ _ _=>x7l (x3l (x09 c_is_below hr (by decide) (x00 (x02 (qv 0)) (x00 (x02 (qv 3)) (x00 (x02 (qv 2)) (x03) x04) x04) x04)))) (fun _ _ _ _=>x02 (qv 3))) (x03) x2c) x04)))
noncomputable def y0j:x1a:=x18 (sIf (x3n (e2 dLt (x06 1) (x1d 0))) (x2m (x10 0 (x06 1))) (x5i))
 (x18 (sIf (x3n (e2 dEq (x06 0) (x5h (x0f)))) (x2m (eC (.int 0))) (x5i))
 (x2m (e2 x39 (e2 y22 (x10 0 (e2 z3q (x06 1) (x1d 0))) (eC (.int 31))) (x06 1))))
noncomputable def x41:List D->Option (D × Nat):=fnD 2 (y0j)
theorem y4h:FnScope ["_law_script","_law_k"] ["_law_script","_law_k"] (x0e (top 33)):=⟨rfl,rfl,rfl,by decide +kernel,rfl,by decide +kernel,by decide +kernel⟩
theorem y5d (B:Bt mg) (a:At K mg "_law_cell" (top 33) ["_law_script","_law_k"]):Cal P w K mg base 1 "_law_cell" 2 (x41):=
 Cal.mkQ (k:=0) a y4h fun f cdv A outer s H E hr=>
  x07 (x2o (y6i (x02 (qv 1 rfl (Or.inl rfl))) (x16 B.m_len (qv 0 rfl (Or.inl rfl)))) (x0c (x0l (x0p (qv 0 rfl (Or.inl rfl)) (x02 (qv 1 rfl (Or.inl rfl)))))) (x1k))
  (x07 (x2o (y1r hr (x02 (qv 0 rfl (Or.inl rfl))) (x2e (x03))) (x0c (x0l (x0b))) (x1k))
  (x0c (x0l (x1h (x5r (x0p (qv 0 rfl (Or.inl rfl)) (y1v (x02 (qv 1 rfl (Or.inl rfl))) (x16 B.m_len (qv 0 rfl (Or.inl rfl))))) (x0b)) (x02 (qv 1 rfl (Or.inl rfl)))))))
noncomputable def y0m:x1a:=x18 (x23 3 (e2 z3q (e2 y22 (e2 x39 (x0k x41 2 (x01 (x06 0) (x01 (x06 1) (x0f)))) (e2 y22 (eC (.int 6151)) (e2 x39 (x06 1) (eC (.int 1))))) (eC (.int 40692))) (eC (.int 2147483399))))
 (x2m (e2 z3q (e2 z3q (e2 x39 (e2 y22 (x06 3) (x06 3)) (e2 j08 (x06 3) (eC (.int 31)))) (eC (.int 2147483629))) (x06 2)))
noncomputable def x0d:List D->Option (D × Nat):=fnD 4 (y0m)
theorem x98:FnScope ["_law_script","_law_k","_law_many","_law_drawn"] ["_law_script","_law_k","_law_many"] (x0e (top 34)):=⟨rfl,rfl,rfl,by decide +kernel,rfl,by decide +kernel,by decide +kernel⟩
theorem y4p (B:Bt mg) (c__law_cell:Cal P w K mg base 1 "_law_cell" 2 x41) (a:At K mg "_law_pick" (top 34) ["_law_script","_law_k","_law_many"]):Cal P w K mg base 2 "_law_pick" 3 (x0d):=
 Cal.mkQ (k:=1) a x98 fun f cdv A outer s H E hr=>
  x07 (x0r (i:=3) x98.nd rfl (Or.inl rfl) (y1v (x5r (x1h (x09 c__law_cell hr (by decide) (x00 (x02 (qv 0 rfl (Or.inl rfl))) (x00 (x02 (qv 1 rfl (Or.inl rfl))) (x03) x04) x04)) (x5r (x0b) (x1h (x02 (qv 1 rfl (Or.inl rfl))) (x0b)))) (x0b)) (x0b)))
  (x0c (x0l (y1v (y1v (x1h (x5r (x02 (qv 3 rfl (Or.inl rfl))) (x02 (qv 3 rfl (Or.inl rfl)))) (y8i (x02 (qv 3 rfl (Or.inl rfl))) (x0b))) (x0b)) (x02 (qv 2 rfl (Or.inl rfl))))))
noncomputable def y4i:x1a:=x2m (x2y 1 (x15 (x01 (x06 0) (x0f))) (x0i 1) (x2l) (x2y 1 (x15 (x01 (x06 0) (x0f))) (x0i 2) (x2l) (eB z9l (x01 (x06 1) (x01 (x06 2) (x0f)))) false) false)
noncomputable def x12:List D->Option (D × Nat):=fnD 1 (y4i)
theorem y2y:FnScope ["_law_many"] ["_law_many"] (x0e (top 35)):=⟨rfl,rfl,rfl,by decide +kernel,rfl,by decide +kernel,by decide +kernel⟩
noncomputable abbrev x7n:List Str:=["_law_many","_law_one","_law_other"]
theorem y0z:(x7n).Nodup:=by decide +kernel
noncomputable abbrev x86:List Str:=["_law_many","_law_one"]
theorem y11:(x86).Nodup:=by decide +kernel
theorem y3u (B:Bt mg) (a:At K mg "_law_chain" (top 35) ["_law_many"]):Cal P w K mg base 1 "_law_chain" 1 (x12):=
 Cal.mkQ (k:=0) a y2y fun f cdv A outer s H E hr=>
  x0c (x0l (x2z (k:=1) (N':=x86) false rfl ⟨rfl,by decide +kernel,rfl,rfl,rfl⟩ (x0t B.m_range (x00 (x02 (qv 0 rfl (Or.inr (Or.inl rfl)))) (x03) x04)) (fun _ _ _ _=>x0j (i:=1) (show 1<=1 by decide) y11 rfl (Or.inr rfl) (Or.inl rfl)) (fun _ _ _ _=>x2n) (fun _ _ _ _=>x2z (k:=1) (N':=x7n) false rfl ⟨rfl,by decide +kernel,rfl,rfl,rfl⟩ (x0t B.m_range (x00 (x02 (qv 0)) (x03) x04)) (fun _ _ _ _=>x0j (i:=2) (show 2<=2 by decide) y0z rfl (Or.inl rfl) (Or.inr rfl)) (fun _ _ _ _=>x2n) (fun _ _ _ _=>y8b rfl B.m_max PyProof.Rows.boot_max (x00 (x02 (qv 1)) (x00 (x02 (qv 2)) (x03) x04) x04)))))
noncomputable def y0x:x1a:=x18 (x23 2 (x1d 1))
 (x18 (x23 3 (x5h (x0f)))
 (x18 (x6h (x15 (x01 (e2 y22 (x1d 0) (x06 2)) (x0f))) (x0i 4) (x18 (x23 5 (x5h (x0f)))
 (x18 (x6h (x15 (x01 (e2 y22 (x1d 0) (x06 2)) (x0f))) (x0i 6) (x18 (x23 7 (eIx (x10 0 (e2 j08 (x06 4) (x06 2))) (e2 j08 (x06 6) (x06 2))))
 (x3q (x9g 5 (x01 (e2 x39 (e2 y22 (x06 7) (x06 2)) (eIx (x10 1 (e2 z3q (x06 4) (x06 2))) (e2 z3q (x06 6) (x06 2)))) (x0f))))))
 (x3q (x9g 3 (x01 (x06 5) (x0f)))))))
 (x2m (x06 3))))
noncomputable def x1c:List D->Option (D × Nat):=fnD 8 (y0x)
theorem x1o:FnScope ["_law_one","_law_other","_law_many","_law_made","_law_here","_law_row","_law_there","_law_first"] ["_law_one","_law_other"] (x0e (top 36)):=⟨rfl,rfl,rfl,by decide +kernel,rfl,by decide +kernel,by decide +kernel⟩
theorem y12 (B:Bt mg) (a:At K mg "_law_couples" (top 36) ["_law_one","_law_other"]):Cal P w K mg base 1 "_law_couples" 2 (x1c):=
 Cal.mkQ (k:=0) a x1o fun f cdv A outer s H E hr=>
  x07 (x0r (i:=2) x1o.nd rfl (Or.inl rfl) (x16 B.m_len (qv 1 rfl (Or.inl rfl))))
  (x07 (x0r (i:=3) x1o.nd rfl (Or.inl rfl) (x2e (x03)))
  (x07 (x1p PassesOwn.never rfl (x0t B.m_range (x00 (x5r (x16 B.m_len (qv 0 rfl (Or.inl rfl))) (x02 (qv 2 rfl (Or.inl rfl)))) (x03) x13)) (x0j (i:=4) (show 0<=4 by decide) x1o.nd rfl (Or.inl rfl)) (x07 (x0r (i:=5) x1o.nd rfl (Or.inl rfl) (x2e (x03)))
  (x07 (x1p PassesOwn.never rfl (x0t B.m_range (x00 (x5r (x16 B.m_len (qv 0 rfl (Or.inl rfl))) (x02 (qv 2 rfl (Or.inl rfl)))) (x03) x13)) (x0j (i:=6) (show 0<=6 by decide) x1o.nd rfl (Or.inl rfl)) (x07 (x0r (i:=7) x1o.nd rfl (Or.inl rfl) (x47 (x0p (qv 0 rfl (Or.inl rfl)) (y8i (x02 (qv 4 rfl (Or.inl rfl))) (x02 (qv 2 rfl (Or.inl rfl))))) (y8i (x02 (qv 6 rfl (Or.inl rfl))) (x02 (qv 2 rfl (Or.inl rfl))))))
  (x0c (x2v (x2f (qv 5 rfl (Or.inl rfl)) (x00 (x1h (x5r (x02 (qv 7 rfl (Or.inl rfl))) (x02 (qv 2 rfl (Or.inl rfl)))) (x47 (x0p (qv 1 rfl (Or.inl rfl)) (y1v (x02 (qv 4 rfl (Or.inl rfl))) (x02 (qv 2 rfl (Or.inl rfl))))) (y1v (x02 (qv 6 rfl (Or.inl rfl))) (x02 (qv 2 rfl (Or.inl rfl)))))) (x03) x13))))))
  (x0c (x2v (x2f (qv 3 rfl (Or.inl rfl)) (x00 (x02 (qv 5 rfl (Or.inl rfl))) (x03) x04)))))))
  (x0c (x0l (x02 (qv 3 rfl (Or.inl rfl)))))))
noncomputable def x6x:x1a:=x18 (x23 1 (x5h (x0f)))
 (x18 (x6h (x15 (x01 (e2 x39 (x06 0) (eC (.int 2))) (x0f))) (x0i 2) (x18 (x23 3 (x5h (x0f)))
 (x18 (x6h (x15 (x01 (e2 x39 (x06 0) (eC (.int 2))) (x0f))) (x0i 4) (x3q (x9g 3 (x01 (eIf (y88 (x3n (e2 dIn (eC (.int 0)) (x91 (x01 (x06 2) (x01 (x06 4) (x0f)))))) (x3n (e2 dEq (x06 2) (x06 4)))) (eB z9l (x01 (x06 2) (x01 (x06 4) (x0f)))) (e2 x39 (x06 0) (eC (.int 1)))) (x0f)))))
 (x3q (x9g 1 (x01 (x06 3) (x0f)))))))
 (x2m (x06 1)))
noncomputable def x0v:List D->Option (D × Nat):=fnD 5 (x6x)
theorem x1j:FnScope ["_law_many","_law_made","_law_one","_law_row","_law_other"] ["_law_many"] (x0e (top 37)):=⟨rfl,rfl,rfl,by decide +kernel,rfl,by decide +kernel,by decide +kernel⟩
theorem x77 (B:Bt mg) (a:At K mg "_law_side_by_side" (top 37) ["_law_many"]):Cal P w K mg base 1 "_law_side_by_side" 1 (x0v):=
 Cal.mkQ (k:=0) a x1j fun f cdv A outer s H E hr=>
  x07 (x0r (i:=1) x1j.nd rfl (Or.inl rfl) (x2e (x03)))
  (x07 (x1p PassesOwn.never rfl (x0t B.m_range (x00 (x1h (x02 (qv 0 rfl (Or.inl rfl))) (x0b)) (x03) x13)) (x0j (i:=2) (show 0<=2 by decide) x1j.nd rfl (Or.inl rfl)) (x07 (x0r (i:=3) x1j.nd rfl (Or.inl rfl) (x2e (x03)))
  (x07 (x1p PassesOwn.never rfl (x0t B.m_range (x00 (x1h (x02 (qv 0 rfl (Or.inl rfl))) (x0b)) (x03) x13)) (x0j (i:=4) (show 0<=4 by decide) x1j.nd rfl (Or.inl rfl)) (x0c (x2v (x2f (qv 3 rfl (Or.inl rfl)) (x00 (z2x (z26 (y4d (z7d hr (x0b) (x4d (x00 (x02 (qv 2 rfl (Or.inl rfl))) (x00 (x02 (qv 4 rfl (Or.inl rfl))) (x03) x04) x04))) (y2k (y1r hr (x02 (qv 2 rfl (Or.inl rfl))) (x02 (qv 4 rfl (Or.inl rfl))))))) (y8b rfl B.m_max PyProof.Rows.boot_max (x00 (x02 (qv 2 rfl (Or.inl rfl))) (x00 (x02 (qv 4 rfl (Or.inl rfl))) (x03) x04) x04)) (x1h (x02 (qv 0 rfl (Or.inl rfl))) (x0b))) (x03) z0s)))))
  (x0c (x2v (x2f (qv 1 rfl (Or.inl rfl)) (x00 (x02 (qv 3 rfl (Or.inl rfl))) (x03) x04)))))))
  (x0c (x0l (x02 (qv 1 rfl (Or.inl rfl))))))
noncomputable def y0d:x1a:=x18 (x23 2 (x0k x0d 3 (x01 (x06 0) (x01 (x06 1) (x01 (eC (.int 9)) (x0f))))))
 (x18 (sIf (x3n (e2 dLt (x06 2) (eC (.int 3)))) (x2m (x0k x12 1 (x01 (e2 x39 (eC (.int 1)) (x0k x0d 3 (x01 (x06 0) (x01 (e2 x39 (x06 1) (eC (.int 1))) (x01 (eC (.int 5)) (x0f)))))) (x0f)))) (x5i))
 (x18 (sIf (x3n (e2 dLt (x06 2) (eC (.int 5)))) (x2m (x0k x1c 2 (x01 (x0k x12 1 (x01 (eC (.int 2)) (x0f))) (x01 (x0k x12 1 (x01 (eIx (x5h (x01 (eC (.int 2)) (x01 (eC (.int 3)) (x01 (eC (.int 4)) (x0f))))) (x0k x0d 3 (x01 (x06 0) (x01 (e2 x39 (x06 1) (eC (.int 1))) (x01 (eC (.int 3)) (x0f)))))) (x0f))) (x0f))))) (x5i))
 (x18 (sIf (x3n (e2 dLt (x06 2) (eC (.int 7)))) (x2m (x0k x0v 1 (x01 (x0k x0d 3 (x01 (x06 0) (x01 (e2 x39 (x06 1) (eC (.int 1))) (x01 (eC (.int 5)) (x0f))))) (x0f)))) (x5i))
 (x18 (sIf (x3n (e2 dEq (x06 2) (eC (.int 7)))) (x2m (x0k x1c 2 (x01 (x0k x12 1 (x01 (eC (.int 2)) (x0f))) (x01 (x0k x1c 2 (x01 (x0k x12 1 (x01 (eC (.int 2)) (x0f))) (x01 (x0k x12 1 (x01 (eC (.int 2)) (x0f))) (x0f)))) (x0f))))) (x5i))
 (x18 (x23 3 (x5h (x01 (x5h (x01 (eC (.int 0)) (x01 (eC (.int 1)) (x01 (eC (.int 2)) (x01 (eC (.int 3)) (x01 (eC (.int 4)) (x0f))))))) (x01 (x5h (x01 (eC (.int 1)) (x01 (eC (.int 1)) (x01 (eC (.int 2)) (x01 (eC (.int 4)) (x01 (eC (.int 4)) (x0f))))))) (x01 (x5h (x01 (eC (.int 2)) (x01 (eC (.int 2)) (x01 (eC (.int 2)) (x01 (eC (.int 4)) (x01 (eC (.int 4)) (x0f))))))) (x01 (x5h (x01 (eC (.int 3)) (x01 (eC (.int 4)) (x01 (eC (.int 4)) (x01 (eC (.int 3)) (x01 (eC (.int 4)) (x0f))))))) (x01 (x5h (x01 (eC (.int 4)) (x01 (eC (.int 4)) (x01 (eC (.int 4)) (x01 (eC (.int 4)) (x01 (eC (.int 4)) (x0f))))))) (x0f))))))))
 (x2m (x06 3)))))))
noncomputable def x46:List D->Option (D × Nat):=fnD 4 (y0d)
theorem x5m:FnScope ["_law_script","_law_at","_law_kind","_law_rows"] ["_law_script","_law_at"] (x0e (top 38)):=⟨rfl,rfl,rfl,by decide +kernel,rfl,by decide +kernel,by decide +kernel⟩
theorem y5h (B:Bt mg) (c__law_pick:Cal P w K mg base 2 "_law_pick" 3 x0d) (c__law_chain:Cal P w K mg base 1 "_law_chain" 1 x12) (c__law_couples:Cal P w K mg base 1 "_law_couples" 2 x1c) (c__law_side_by_side:Cal P w K mg base 1 "_law_side_by_side" 1 x0v) (a:At K mg "_law_base" (top 38) ["_law_script","_law_at"]):Cal P w K mg base 3 "_law_base" 2 (x46):=
 Cal.mkQ (k:=2) a x5m fun f cdv A outer s H E hr=>
  x07 (x0r (i:=2) x5m.nd rfl (Or.inl rfl) (x09 c__law_pick hr (by decide) (x00 (x02 (qv 0 rfl (Or.inl rfl))) (x00 (x02 (qv 1 rfl (Or.inl rfl))) (x00 (x0b) (x03) x08) x04) x04)))
  (x07 (x2o (y6i (x02 (qv 2 rfl (Or.inl rfl))) (x0b)) (x0c (x0l (x09 c__law_chain hr (by decide) (x00 (x1h (x0b) (x09 c__law_pick hr (by decide) (x00 (x02 (qv 0 rfl (Or.inl rfl))) (x00 (x1h (x02 (qv 1 rfl (Or.inl rfl))) (x0b)) (x00 (x0b) (x03) x08) x13) x04))) (x03) x13)))) (x1k))
  (x07 (x2o (y6i (x02 (qv 2 rfl (Or.inl rfl))) (x0b)) (x0c (x0l (x09 c__law_couples hr (by decide) (x00 (x09 c__law_chain hr (by decide) (x00 (x0b) (x03) x08)) (x00 (x09 c__law_chain hr (by decide) (x00 (x47 (x2e (x00 (x0b) (x00 (x0b) (x00 (x0b) (x03) x08) x08) x08)) (x09 c__law_pick hr (by decide) (x00 (x02 (qv 0 rfl (Or.inl rfl))) (x00 (x1h (x02 (qv 1 rfl (Or.inl rfl))) (x0b)) (x00 (x0b) (x03) x08) x13) x04))) (x03) x0m)) (x03) x0o) x0o)))) (x1k))
  (x07 (x2o (y6i (x02 (qv 2 rfl (Or.inl rfl))) (x0b)) (x0c (x0l (x09 c__law_side_by_side hr (by decide) (x00 (x09 c__law_pick hr (by decide) (x00 (x02 (qv 0 rfl (Or.inl rfl))) (x00 (x1h (x02 (qv 1 rfl (Or.inl rfl))) (x0b)) (x00 (x0b) (x03) x08) x13) x04)) (x03) x0o)))) (x1k))
  (x07 (x2o (y1r hr (x02 (qv 2 rfl (Or.inl rfl))) (x0b)) (x0c (x0l (x09 c__law_couples hr (by decide) (x00 (x09 c__law_chain hr (by decide) (x00 (x0b) (x03) x08)) (x00 (x09 c__law_couples hr (by decide) (x00 (x09 c__law_chain hr (by decide) (x00 (x0b) (x03) x08)) (x00 (x09 c__law_chain hr (by decide) (x00 (x0b) (x03) x08)) (x03) x0o) x0o)) (x03) x0o) x0o)))) (x1k))
  (x07 (x0r (i:=3) x5m.nd rfl (Or.inl rfl) (x2e (x00 (x2e (x00 (x0b) (x00 (x0b) (x00 (x0b) (x00 (x0b) (x00 (x0b) (x03) x08) x08) x08) x08) x08)) (x00 (x2e (x00 (x0b) (x00 (x0b) (x00 (x0b) (x00 (x0b) (x00 (x0b) (x03) x08) x08) x08) x08) x08)) (x00 (x2e (x00 (x0b) (x00 (x0b) (x00 (x0b) (x00 (x0b) (x00 (x0b) (x03) x08) x08) x08) x08) x08)) (x00 (x2e (x00 (x0b) (x00 (x0b) (x00 (x0b) (x00 (x0b) (x00 (x0b) (x03) x08) x08) x08) x08) x08)) (x00 (x2e (x00 (x0b) (x00 (x0b) (x00 (x0b) (x00 (x0b) (x00 (x0b) (x03) x08) x08) x08) x08) x08)) (x03) x9z) x9z) x9z) x9z) x9z)))
  (x0c (x0l (x02 (qv 3 rfl (Or.inl rfl))))))))))
noncomputable def x7y:x1a:=x18 (x23 2 (x0k x46 2 (x01 (x06 0) (x01 (x06 1) (x0f)))))
 (x18 (x23 3 (x5z (x01 (x1d 2) (x0f))))
 (x18 (x23 4 (x2y 1 (x15 (x01 (x1d 2) (x0f))) (x0i 8) (x2l) (z6s 3 (x01 (x0k x0d 3 (x01 (x06 0) (x01 (e2 x39 (e2 x39 (x06 1) (eC (.int 2))) (x06 8)) (x01 (x1d 3) (x0f))))) (x0f))) false))
 (x18 (x23 5 (x2y 1 (x6f (x06 2)) (x0i 8) (x2l) (y50 (x5h (x01 (eC (.int 0)) (x0f))) (x1d 2)) true))
 (x18 (x6h (x15 (x01 (x1d 2) (x0f))) (x0i 6) (x6h (x15 (x01 (x1d 2) (x0f))) (x0i 7) (y7g 5 (qIx 4 (y69 6)) (qIx 4 (y69 7)) (x10 4 (eIx (x10 2 (x06 6)) (x06 7))))))
 (x2m (x2r (x01 (x2y 1 (x6f (x06 5)) (x0i 8) (x2l) (x2r (x01 (x06 8) (x0f))) false) (x0f))))))))
noncomputable def x3b:List D->Option (D × Nat):=fnD 8 (x7y)
theorem x1t:FnScope ["_law_script","_law_at","_law_base_here","_law_left","_law_name","_law_made","_law_one","_law_other"] ["_law_script","_law_at"] (x0e (top 39)):=⟨rfl,rfl,rfl,by decide +kernel,rfl,by decide +kernel,by decide +kernel⟩
noncomputable abbrev x6t:List Str:=["_law_script","_law_at","_law_base_here","_law_left","_law_name","_law_made","_law_one","_law_other","_law_k"]
theorem y0t:(x6t).Nodup:=by decide +kernel
noncomputable abbrev x4i:List Str:=["_law_script","_law_at","_law_base_here","_law_left","_law_name","_law_made","_law_one","_law_other","_law_row"]
theorem x63:(x4i).Nodup:=by decide +kernel
theorem y23 (B:Bt mg) (c__law_base:Cal P w K mg base 3 "_law_base" 2 x46) (c__law_pick:Cal P w K mg base 2 "_law_pick" 3 x0d) (a:At K mg "_law_ladder" (top 39) ["_law_script","_law_at"]):Cal P w K mg base 4 "_law_ladder" 2 (x3b):=
 Cal.mkQ (k:=3) a x1t fun f cdv A outer s H E hr=>
  x07 (x0r (i:=2) x1t.nd rfl (Or.inr rfl) (x09 c__law_base hr (by decide) (x00 (x02 (qv 0 rfl (Or.inr (Or.inl rfl)))) (x00 (x02 (qv 1 rfl (Or.inr (Or.inl rfl)))) (x03) x04) x04)))
  (x07 (x0r (i:=3) x1t.nd rfl (Or.inr rfl) (x9k rfl B.m_list PyProof.Rows.boot_list B.m_range (x00 (x16 B.m_len (qv 2 rfl (Or.inr (Or.inl rfl)))) (x03) x0o)))
  (x07 (y2w (i:=4) (k:=1) (N':=x6t) false x1t.nd rfl (Or.inl rfl) rfl rfl ⟨rfl,by decide +kernel,rfl,rfl,rfl⟩ (x0t B.m_range (x00 (x16 B.m_len (qv 2 rfl (Or.inr (Or.inl rfl)))) (x03) x0o)) (fun _ _ _ _=>x0j (i:=8) (show 8<=8 by decide) y0t rfl (Or.inl rfl) (Or.inr rfl)) (fun _ _ _ _=>x2n) (fun _ _ _ _=>z6w (qv 3) (x00 (x09 c__law_pick hr (by decide) (x00 (x02 (qv 0)) (x00 (x1h (x1h (x02 (qv 1)) (x0b)) (x02 (qv 8))) (x00 (x16 B.m_len (qv 3)) (x03) x0o) x13) x04)) (x03) x0o)))
  (x07 (y2w (i:=5) (k:=1) (N':=x4i) true x1t.nd rfl (Or.inl rfl) rfl rfl ⟨rfl,by decide +kernel,rfl,rfl,rfl⟩ (x31 (x02 (qv 2 rfl (Or.inr (Or.inl rfl))))) (fun _ _ _ _=>x0j (i:=8) (show 8<=8 by decide) x63 rfl (Or.inl rfl) (Or.inr rfl)) (fun _ _ _ _=>x2n) (fun _ _ _ _=>y7m (x2e (x00 (x0b) (x03) x08)) (x16 B.m_len (qv 2))))
  (x07 (x1p PassesOwn.never rfl (x0t B.m_range (x00 (x16 B.m_len (qv 2 rfl (Or.inr (Or.inl rfl)))) (x03) x0o)) (x0j (i:=6) (show 0<=6 by decide) x1t.nd rfl (Or.inl rfl)) (x0c (x1p PassesOwn.never rfl (x0t B.m_range (x00 (x16 B.m_len (qv 2 rfl (Or.inr (Or.inl rfl)))) (x03) x0o)) (x0j (i:=7) (show 0<=7 by decide) x1t.nd rfl (Or.inl rfl)) (x0c (z20 (qv 5 rfl (Or.inl rfl)) (z7g (qv 4 rfl (Or.inl rfl)) (y6p (qv 6 rfl (Or.inl rfl)))) (z7g (qv 4 rfl (Or.inl rfl)) (y6p (qv 7 rfl (Or.inl rfl)))) (x0p (qv 4 rfl (Or.inl rfl)) (x47 (x0p (qv 2 rfl (Or.inr (Or.inl rfl))) (x02 (qv 6 rfl (Or.inl rfl)))) (x02 (qv 7 rfl (Or.inl rfl))))))))))
  (x0c (x0l (x2w B.m_tuple PyProof.Rows.boot_tuple (x00 (x2z (k:=1) (N':=x4i) false rfl ⟨rfl,by decide +kernel,rfl,rfl,rfl⟩ (x31 (x02 (qv 5 rfl (Or.inl rfl)))) (fun _ _ _ _=>x0j (i:=8) (show 8<=8 by decide) x63 rfl (Or.inl rfl) (Or.inr rfl)) (fun _ _ _ _=>x2n) (fun _ _ _ _=>x2w B.m_tuple PyProof.Rows.boot_tuple (x00 (x02 (qv 8)) (x03) x04))) (x03) x2c))))))))
noncomputable def y1m:x1a:=x2m (eIx (x2y 1 (x15 (x01 (x1d 0) (x0f))) (x0i 1) (x3n (e2 dEq (x5b (x01 (x10 0 (x06 1)) (x0f))) (x5z (x01 (x1d 0) (x0f))))) (x06 1) false) (eC (.int 0)))
noncomputable def x3k:List D->Option (D × Nat):=fnD 1 (y1m)
theorem y4r:FnScope ["_law_ladder_here"] ["_law_ladder_here"] (x0e (top 40)):=⟨rfl,rfl,rfl,by decide +kernel,rfl,by decide +kernel,by decide +kernel⟩
noncomputable abbrev y0b:List Str:=["_law_ladder_here","_law_worth"]
theorem y3p:(y0b).Nodup:=by decide +kernel
theorem y70 (B:Bt mg) (a:At K mg "_law_low" (top 40) ["_law_ladder_here"]):Cal P w K mg base 1 "_law_low" 1 (x3k):=
 Cal.mkQ (k:=0) a y4r fun f cdv A outer s H E hr=>
  x0c (x0l (x47 (x2z (k:=1) (N':=y0b) false rfl ⟨rfl,by decide +kernel,rfl,rfl,rfl⟩ (x0t B.m_range (x00 (x16 B.m_len (qv 0 rfl (Or.inr (Or.inl rfl)))) (x03) x0o)) (fun _ _ _ _=>x0j (i:=1) (show 1<=1 by decide) y3p rfl (Or.inl rfl) (Or.inr rfl)) (fun _ _ _ _=>x7l (y1r hr (y4e B.m_list PyProof.Rows.boot_list (x00 (x0p (qv 0) (x02 (qv 1))) (x03) x0m)) (x9k rfl B.m_list PyProof.Rows.boot_list B.m_range (x00 (x16 B.m_len (qv 0)) (x03) x0o)))) (fun _ _ _ _=>x02 (qv 1))) (x0b)))
noncomputable def y03:x1a:=x18 (x23 2 (x0k x3k 1 (x01 (x06 0) (x0f))))
 (x18 (x6h (x6f (x06 1)) (x0i 3) (x23 2 (eIx (x10 0 (x06 2)) (x06 3))))
 (x2m (x06 2)))
noncomputable def x2d:List D->Option (D × Nat):=fnD 4 (y03)
theorem x4g:FnScope ["_law_ladder_here","_law_worths_here","_law_here","_law_worth"] ["_law_ladder_here","_law_worths_here"] (x0e (top 41)):=⟨rfl,rfl,rfl,by decide +kernel,rfl,by decide +kernel,by decide +kernel⟩
theorem y52 (B:Bt mg) (c__law_low:Cal P w K mg base 1 "_law_low" 1 x3k) (a:At K mg "_law_join" (top 41) ["_law_ladder_here","_law_worths_here"]):Cal P w K mg base 2 "_law_join" 2 (x2d):=
 Cal.mkQ (k:=1) a x4g fun f cdv A outer s H E hr=>
  x07 (x0r (i:=2) x4g.nd rfl (Or.inl rfl) (x09 c__law_low hr (by decide) (x00 (x02 (qv 0 rfl (Or.inl rfl))) (x03) x04)))
  (x07 (x1p PassesOwn.never rfl (x31 (x02 (qv 1 rfl (Or.inl rfl)))) (x0j (i:=3) (show 0<=3 by decide) x4g.nd rfl (Or.inl rfl)) (x0c (x0r (i:=2) x4g.nd rfl (Or.inl rfl) (x47 (x0p (qv 0 rfl (Or.inl rfl)) (x02 (qv 2 rfl (Or.inl rfl)))) (x02 (qv 3 rfl (Or.inl rfl)))))))
  (x0c (x0l (x02 (qv 2 rfl (Or.inl rfl))))))
noncomputable def x97:x1a:=x2m (x2y 1 (x15 (x01 (x1d 0) (x0f))) (x0i 2) (x3n (e2 dEq (eIx (x10 0 (x06 2)) (x06 1)) (x06 1))) (x06 2) false)
noncomputable def x24:List D->Option (D × Nat):=fnD 2 (x97)
theorem y2z:FnScope ["_law_ladder_here","_law_worth"] ["_law_ladder_here","_law_worth"] (x0e (top 42)):=⟨rfl,rfl,rfl,by decide +kernel,rfl,by decide +kernel,by decide +kernel⟩
noncomputable abbrev x82:List Str:=["_law_ladder_here","_law_worth","_law_one"]
theorem y10:(x82).Nodup:=by decide +kernel
theorem y38 (B:Bt mg) (a:At K mg "_law_under" (top 42) ["_law_ladder_here","_law_worth"]):Cal P w K mg base 1 "_law_under" 2 (x24):=
 Cal.mkQ (k:=0) a y2z fun f cdv A outer s H E hr=>
  x0c (x0l (x2z (k:=1) (N':=x82) false rfl ⟨rfl,by decide +kernel,rfl,rfl,rfl⟩ (x0t B.m_range (x00 (x16 B.m_len (qv 0 rfl (Or.inr (Or.inl rfl)))) (x03) x0o)) (fun _ _ _ _=>x0j (i:=2) (show 2<=2 by decide) y10 rfl (Or.inl rfl) (Or.inr rfl)) (fun _ _ _ _=>x7l (y1r hr (x47 (x0p (qv 0) (x02 (qv 2))) (x02 (qv 1))) (x02 (qv 1)))) (fun _ _ _ _=>x02 (qv 2))))
noncomputable def y0n:x1a:=x18 (x23 3 (x0k x3k 1 (x01 (x06 2) (x0f))))
 (x18 (x23 4 (x5h (x0f)))
 (x18 (x6h (x15 (x01 (x1d 2) (x0f))) (x0i 5) (x3q (x9g 4 (x01 (eIx (x5h (x01 (x06 3) (x01 (x06 5) (x01 (x0k x0d 3 (x01 (x06 0) (x01 (e2 x39 (x06 1) (x06 5)) (x01 (x1d 2) (x0f))))) (x0f))))) (x0k x0d 3 (x01 (x06 0) (x01 (e2 x39 (e2 x39 (x06 1) (eC (.int 8))) (x06 5)) (x01 (eC (.int 3)) (x0f)))))) (x0f)))))
 (x18 (x23 6 (x5h (x0f)))
 (x18 (x6h (x15 (x01 (x1d 2) (x0f))) (x0i 5) (x3q (x9g 6 (x01 (x0k x2d 2 (x01 (x06 2) (x01 (x2y 1 (x6f (x0k x24 2 (x01 (x06 2) (x01 (x06 5) (x0f))))) (x0i 7) (x2l) (x10 4 (x06 7)) false) (x0f)))) (x0f)))))
 (x2m (x2r (x01 (x06 6) (x0f))))))))
noncomputable def x2q:List D->Option (D × Nat):=fnD 7 (y0n)
theorem x34:FnScope ["_law_script","_law_at","_law_ladder_here","_law_low_here","_law_drawn","_law_worth","_law_made"] ["_law_script","_law_at","_law_ladder_here"] (x0e (top 43)):=⟨rfl,rfl,rfl,by decide +kernel,rfl,by decide +kernel,by decide +kernel⟩
noncomputable abbrev x8v:List Str:=["_law_script","_law_at","_law_ladder_here","_law_low_here","_law_drawn","_law_worth","_law_made","_law_one"]
theorem y27:(x8v).Nodup:=by decide +kernel
theorem y4z (B:Bt mg) (c__law_low:Cal P w K mg base 1 "_law_low" 1 x3k) (c__law_pick:Cal P w K mg base 2 "_law_pick" 3 x0d) (c__law_join:Cal P w K mg base 2 "_law_join" 2 x2d) (c__law_under:Cal P w K mg base 1 "_law_under" 2 x24) (a:At K mg "_law_rule" (top 43) ["_law_script","_law_at","_law_ladder_here"]):Cal P w K mg base 3 "_law_rule" 3 (x2q):=
 Cal.mkQ (k:=2) a x34 fun f cdv A outer s H E hr=>
  x07 (x0r (i:=3) x34.nd rfl (Or.inl rfl) (x09 c__law_low hr (by decide) (x00 (x02 (qv 2 rfl (Or.inl rfl))) (x03) x04)))
  (x07 (x0r (i:=4) x34.nd rfl (Or.inr rfl) (x2e (x03)))
  (x07 (x1p PassesOwn.never rfl (x0t B.m_range (x00 (x16 B.m_len (qv 2 rfl (Or.inl rfl))) (x03) x0o)) (x0j (i:=5) (show 0<=5 by decide) x34.nd rfl (Or.inl rfl)) (x0c (x2v (x2f (qv 4 rfl (Or.inr (Or.inl rfl))) (x00 (x47 (x2e (x00 (x02 (qv 3 rfl (Or.inl rfl))) (x00 (x02 (qv 5 rfl (Or.inl rfl))) (x00 (x09 c__law_pick hr (by decide) (x00 (x02 (qv 0 rfl (Or.inl rfl))) (x00 (x1h (x02 (qv 1 rfl (Or.inl rfl))) (x02 (qv 5 rfl (Or.inl rfl)))) (x00 (x16 B.m_len (qv 2 rfl (Or.inl rfl))) (x03) x0o) x13) x04)) (x03) x0o) x04) x04)) (x09 c__law_pick hr (by decide) (x00 (x02 (qv 0 rfl (Or.inl rfl))) (x00 (x1h (x1h (x02 (qv 1 rfl (Or.inl rfl))) (x0b)) (x02 (qv 5 rfl (Or.inl rfl)))) (x00 (x0b) (x03) x08) x13) x04))) (x03) x0m)))))
  (x07 (x0r (i:=6) x34.nd rfl (Or.inl rfl) (x2e (x03)))
  (x07 (x1p PassesOwn.never rfl (x0t B.m_range (x00 (x16 B.m_len (qv 2 rfl (Or.inl rfl))) (x03) x0o)) (x0j (i:=5) (show 0<=5 by decide) x34.nd rfl (Or.inl rfl)) (x0c (x2v (x2f (qv 6 rfl (Or.inl rfl)) (x00 (x09 c__law_join hr (by decide) (x00 (x02 (qv 2 rfl (Or.inl rfl))) (x00 (x2z (k:=1) (N':=x8v) false rfl ⟨rfl,by decide +kernel,rfl,rfl,rfl⟩ (x31 (x09 c__law_under hr (by decide) (x00 (x02 (qv 2 rfl (Or.inl rfl))) (x00 (x02 (qv 5 rfl (Or.inl rfl))) (x03) x04) x04))) (fun _ _ _ _=>x0j (i:=7) (show 7<=7 by decide) y27 rfl (Or.inl rfl) (Or.inr rfl)) (fun _ _ _ _=>x2n) (fun _ _ _ _=>x0p (qv 4) (x02 (qv 7)))) (x03) x2c) x04)) (x03) x0o)))))
  (x0c (x0l (x2w B.m_tuple PyProof.Rows.boot_tuple (x00 (x02 (qv 6 rfl (Or.inl rfl))) (x03) x04))))))))
noncomputable def y16:x1a:=x18 (x6h (x15 (x01 (x1d 0) (x0f))) (x0i 2) (x6h (x15 (x01 (x06 2) (x0f))) (x0i 3) (x18 (x23 4 (eIx (x10 0 (x10 1 (x06 2))) (x10 1 (x06 3))))
 (sIf (x3n (e2 dNe (x10 1 (eIx (x10 0 (x06 2)) (x06 3))) (x06 4))) (x2m (eC (.bl false))) (x5i)))))
 (x2m (eC (.bl true)))
noncomputable def x4j:List D->Option (D × Nat):=fnD 5 (y16)
theorem x3a:FnScope ["_law_ladder_here","_law_rule_here","_law_one","_law_other","_law_due"] ["_law_ladder_here","_law_rule_here"] (x0e (top 44)):=⟨rfl,rfl,rfl,by decide +kernel,rfl,by decide +kernel,by decide +kernel⟩
theorem y14 (B:Bt mg) (a:At K mg "_law_spreads" (top 44) ["_law_ladder_here","_law_rule_here"]):Cal P w K mg base 1 "_law_spreads" 2 (x4j):=
 Cal.mkQ (k:=0) a x3a fun f cdv A outer s H E hr=>
  x07 (x1p PassesOwn.never rfl (x0t B.m_range (x00 (x16 B.m_len (qv 0 rfl (Or.inl rfl))) (x03) x0o)) (x0j (i:=2) (show 0<=2 by decide) x3a.nd rfl (Or.inl rfl)) (x0c (x1p PassesOwn.never rfl (x0t B.m_range (x00 (x02 (qv 2 rfl (Or.inl rfl))) (x03) x04)) (x0j (i:=3) (show 0<=3 by decide) x3a.nd rfl (Or.inl rfl)) (x07 (x0r (i:=4) x3a.nd rfl (Or.inl rfl) (x47 (x0p (qv 0 rfl (Or.inl rfl)) (x0p (qv 1 rfl (Or.inl rfl)) (x02 (qv 2 rfl (Or.inl rfl))))) (x0p (qv 1 rfl (Or.inl rfl)) (x02 (qv 3 rfl (Or.inl rfl))))))
  (x0c (x2o (x6q hr (x0p (qv 1 rfl (Or.inl rfl)) (x47 (x0p (qv 0 rfl (Or.inl rfl)) (x02 (qv 2 rfl (Or.inl rfl)))) (x02 (qv 3 rfl (Or.inl rfl))))) (x02 (qv 4 rfl (Or.inl rfl)))) (x0c (x0l (x4b))) (x1k)))))))
  (x0c (x0l (x4b)))
noncomputable def x7p:x1a:=x18 (x23 3 (x0k x2q 3 (x01 (x06 0) (x01 (x06 1) (x01 (x06 2) (x0f))))))
 (x18 (sIf (x88 (x0k x4j 2 (x01 (x06 2) (x01 (x06 3) (x0f))))) (x2m (x06 3)) (x5i))
 (x18 (x23 4 (x0k x0d 3 (x01 (x06 0) (x01 (e2 x39 (x06 1) (eC (.int 17))) (x01 (x1d 2) (x0f))))))
 (x18 (x23 5 (x5h (x01 (x2r (x01 (x5z (x01 (x1d 2) (x0f))) (x0f))) (x01 (y5q (x91 (x01 (x06 4) (x0f))) (x1d 2)) (x0f)))))
 (x18 (x3q (x9g 5 (x01 (x2r (x01 (x2y 1 (x15 (x01 (x1d 2) (x0f))) (x0i 6) (x2l) (eIx (x10 2 (x06 6)) (x06 4)) false) (x0f))) (x0f))))
 (x2m (x10 5 (x0k x0d 3 (x01 (x06 0) (x01 (e2 x39 (x06 1) (eC (.int 16))) (x01 (eC (.int 3)) (x0f)))))))))))
noncomputable def x2p:List D->Option (D × Nat):=fnD 6 (x7p)
theorem x2a:FnScope ["_law_script","_law_at","_law_ladder_here","_law_rule_here","_law_worth","_law_some"] ["_law_script","_law_at","_law_ladder_here"] (x0e (top 45)):=⟨rfl,rfl,rfl,by decide +kernel,rfl,by decide +kernel,by decide +kernel⟩
noncomputable abbrev x45:List Str:=["_law_script","_law_at","_law_ladder_here","_law_rule_here","_law_worth","_law_some","_law_one"]
theorem x6m:(x45).Nodup:=by decide +kernel
theorem x83 (B:Bt mg) (c__law_rule:Cal P w K mg base 3 "_law_rule" 3 x2q) (c__law_spreads:Cal P w K mg base 1 "_law_spreads" 2 x4j) (c__law_pick:Cal P w K mg base 2 "_law_pick" 3 x0d) (a:At K mg "_law_spread_rule" (top 45) ["_law_script","_law_at","_law_ladder_here"]):Cal P w K mg base 4 "_law_spread_rule" 3 (x2p):=
 Cal.mkQ (k:=3) a x2a fun f cdv A outer s H E hr=>
  x07 (x0r (i:=3) x2a.nd rfl (Or.inl rfl) (x09 c__law_rule hr (by decide) (x00 (x02 (qv 0 rfl (Or.inl rfl))) (x00 (x02 (qv 1 rfl (Or.inl rfl))) (x00 (x02 (qv 2 rfl (Or.inr (Or.inl rfl)))) (x03) x04) x04) x04)))
  (x07 (x2o (x3l (x09 c__law_spreads hr (by decide) (x00 (x02 (qv 2 rfl (Or.inr (Or.inl rfl)))) (x00 (x02 (qv 3 rfl (Or.inl rfl))) (x03) x04) x04))) (x0c (x0l (x02 (qv 3 rfl (Or.inl rfl))))) (x1k))
  (x07 (x0r (i:=4) x2a.nd rfl (Or.inr rfl) (x09 c__law_pick hr (by decide) (x00 (x02 (qv 0 rfl (Or.inl rfl))) (x00 (x1h (x02 (qv 1 rfl (Or.inl rfl))) (x0b)) (x00 (x16 B.m_len (qv 2 rfl (Or.inr (Or.inl rfl)))) (x03) x0o) x13) x04)))
  (x07 (x0r (i:=5) x2a.nd rfl (Or.inl rfl) (x2e (x00 (x2w B.m_tuple PyProof.Rows.boot_tuple (x00 (x9k rfl B.m_list PyProof.Rows.boot_list B.m_range (x00 (x16 B.m_len (qv 2 rfl (Or.inr (Or.inl rfl)))) (x03) x0o)) (x03) x0o)) (x00 (y97 (x4d (x00 (x02 (qv 4 rfl (Or.inr (Or.inl rfl)))) (x03) x04)) (x16 B.m_len (qv 2 rfl (Or.inr (Or.inl rfl))))) (x03) x13) x0o)))
  (x07 (x2v (x2f (qv 5 rfl (Or.inl rfl)) (x00 (x2w B.m_tuple PyProof.Rows.boot_tuple (x00 (x2z (k:=1) (N':=x45) false rfl ⟨rfl,by decide +kernel,rfl,rfl,rfl⟩ (x0t B.m_range (x00 (x16 B.m_len (qv 2 rfl (Or.inr (Or.inl rfl)))) (x03) x0o)) (fun _ _ _ _=>x0j (i:=6) (show 6<=6 by decide) x6m rfl (Or.inl rfl) (Or.inr rfl)) (fun _ _ _ _=>x2n) (fun _ _ _ _=>x47 (x0p (qv 2) (x02 (qv 6))) (x02 (qv 4)))) (x03) x2c)) (x03) x0o)))
  (x0c (x0l (x0p (qv 5 rfl (Or.inl rfl)) (x09 c__law_pick hr (by decide) (x00 (x02 (qv 0 rfl (Or.inl rfl))) (x00 (x1h (x02 (qv 1 rfl (Or.inl rfl))) (x0b)) (x00 (x0b) (x03) x08) x13) x04)))))))))
noncomputable abbrev x55:x1a:=x18 (x23 7 (e2 x39 (e2 x39 (x06 1) (eC (.int 10))) (e2 y22 (eC (.int 22)) (x06 6))))
 (x18 (x23 8 (x0k x2q 3 (x01 (x06 0) (x01 (e2 x39 (x06 7) (eC (.int 2))) (x01 (x06 2) (x0f))))))
 (x18 (sIf (x88 (x06 3)) (x23 8 (x0k x2p 3 (x01 (x06 0) (x01 (e2 x39 (x06 7) (eC (.int 2))) (x01 (x06 2) (x0f)))))) (x5i))
 (x3q (x9g 5 (x01 (x91 (x01 (x0k x0d 3 (x01 (x06 0) (x01 (x06 7) (x01 (x06 4) (x0f))))) (x01 (x0k x0d 3 (x01 (x06 0) (x01 (e2 x39 (x06 7) (eC (.int 1))) (x01 (x06 4) (x0f))))) (x01 (x06 8) (x0f))))) (x0f))))))
noncomputable abbrev x4y:x1a:=x18 (x23 10 (x0k x0d 3 (x01 (x06 0) (x01 (e2 x39 (e2 x39 (x06 1) (eC (.int 3))) (e2 y22 (eC (.int 2)) (x06 6))) (x01 (x1d 2) (x0f))))))
 (x3q (x9g 9 (x01 (x91 (x01 (x0k x0d 3 (x01 (x06 0) (x01 (e2 x39 (e2 x39 (x06 1) (eC (.int 4))) (e2 y22 (eC (.int 2)) (x06 6))) (x01 (x06 4) (x0f))))) (x01 (x06 10) (x0f)))) (x0f))))
noncomputable def x8t:x1a:=x18 (x23 4 (e2 x39 (eC (.int 1)) (x0k x0d 3 (x01 (x06 0) (x01 (x06 1) (x01 (eC (.int 5)) (x0f)))))))
 (x18 (x23 5 (x5h (x0f)))
 (x18 (x6h (x15 (x01 (x0k x0d 3 (x01 (x06 0) (x01 (e2 x39 (x06 1) (eC (.int 1))) (x01 (eC (.int 8)) (x0f))))) (x0f))) (x0i 6) (x18 (x23 7 (e2 x39 (e2 x39 (x06 1) (eC (.int 10))) (e2 y22 (eC (.int 22)) (x06 6))))
 (x18 (x23 8 (x0k x2q 3 (x01 (x06 0) (x01 (e2 x39 (x06 7) (eC (.int 2))) (x01 (x06 2) (x0f))))))
 (x18 (sIf (x88 (x06 3)) (x23 8 (x0k x2p 3 (x01 (x06 0) (x01 (e2 x39 (x06 7) (eC (.int 2))) (x01 (x06 2) (x0f)))))) (x5i))
 (x3q (x9g 5 (x01 (x91 (x01 (x0k x0d 3 (x01 (x06 0) (x01 (x06 7) (x01 (x06 4) (x0f))))) (x01 (x0k x0d 3 (x01 (x06 0) (x01 (e2 x39 (x06 7) (eC (.int 1))) (x01 (x06 4) (x0f))))) (x01 (x06 8) (x0f))))) (x0f))))))))
 (x18 (x23 9 (x5h (x0f)))
 (x18 (x6h (x15 (x01 (x0k x0d 3 (x01 (x06 0) (x01 (e2 x39 (x06 1) (eC (.int 2))) (x01 (eC (.int 4)) (x0f))))) (x0f))) (x0i 6) (x18 (x23 10 (x0k x0d 3 (x01 (x06 0) (x01 (e2 x39 (e2 x39 (x06 1) (eC (.int 3))) (e2 y22 (eC (.int 2)) (x06 6))) (x01 (x1d 2) (x0f))))))
 (x3q (x9g 9 (x01 (x91 (x01 (x0k x0d 3 (x01 (x06 0) (x01 (e2 x39 (e2 x39 (x06 1) (eC (.int 4))) (e2 y22 (eC (.int 2)) (x06 6))) (x01 (x06 4) (x0f))))) (x01 (x06 10) (x0f)))) (x0f))))))
 (x2m (x91 (x01 (x06 4) (x01 (x2r (x01 (x06 5) (x0f))) (x01 (x2r (x01 (x06 9) (x0f))) (x0f))))))))))
noncomputable def x3r:List D->Option (D × Nat):=fnD 11 (x8t)
theorem x1f:FnScope ["_law_script","_law_at","_law_ladder_here","_law_spread","_law_places","_law_ways","_law_k","_law_base_here","_law_rule_here","_law_begins","_law_worth"] ["_law_script","_law_at","_law_ladder_here","_law_spread"] (x0e (top 46)):=⟨rfl,rfl,rfl,by decide +kernel,rfl,by decide +kernel,by decide +kernel⟩
theorem y3t (B:Bt mg) (c__law_pick:Cal P w K mg base 2 "_law_pick" 3 x0d) (c__law_rule:Cal P w K mg base 3 "_law_rule" 3 x2q) (c__law_spread_rule:Cal P w K mg base 4 "_law_spread_rule" 3 x2p) (a:At K mg "_law_chart" (top 46) ["_law_script","_law_at","_law_ladder_here","_law_spread"]):Cal P w K mg base 5 "_law_chart" 4 (x3r):=
 Cal.mkQ (k:=4) a x1f fun f cdv A outer s H E hr=>
  x07 (x0r (i:=4) x1f.nd rfl (Or.inl rfl) (x1h (x0b) (x09 c__law_pick hr (by decide) (x00 (x02 (qv 0 rfl (Or.inl rfl))) (x00 (x02 (qv 1 rfl (Or.inl rfl))) (x00 (x0b) (x03) x08) x04) x04))))
  (x07 (x0r (i:=5) x1f.nd rfl (Or.inl rfl) (x2e (x03)))
  (x07 (x1p PassesOwn.never rfl (x0t B.m_range (x00 (x09 c__law_pick hr (by decide) (x00 (x02 (qv 0 rfl (Or.inl rfl))) (x00 (x1h (x02 (qv 1 rfl (Or.inl rfl))) (x0b)) (x00 (x0b) (x03) x08) x13) x04)) (x03) x0o)) (x0j (i:=6) (show 0<=6 by decide) x1f.nd rfl (Or.inl rfl)) (x07 (x0r (i:=7) x1f.nd rfl (Or.inl rfl) (x1h (x1h (x02 (qv 1 rfl (Or.inl rfl))) (x0b)) (x5r (x0b) (x02 (qv 6 rfl (Or.inl rfl))))))
  (x07 (x0r (i:=8) x1f.nd rfl (Or.inl rfl) (x09 c__law_rule hr (by decide) (x00 (x02 (qv 0 rfl (Or.inl rfl))) (x00 (x1h (x02 (qv 7 rfl (Or.inl rfl))) (x0b)) (x00 (x02 (qv 2 rfl (Or.inl rfl))) (x03) x04) x13) x04)))
  (x07 (x2o (x3l (x02 (qv 3 rfl (Or.inl rfl)))) (x0c (x0r (i:=8) x1f.nd rfl (Or.inl rfl) (x09 c__law_spread_rule hr (by decide) (x00 (x02 (qv 0 rfl (Or.inl rfl))) (x00 (x1h (x02 (qv 7 rfl (Or.inl rfl))) (x0b)) (x00 (x02 (qv 2 rfl (Or.inl rfl))) (x03) x04) x13) x04)))) (x1k))
  (x0c (x2v (x2f (qv 5 rfl (Or.inl rfl)) (x00 (x4d (x00 (x09 c__law_pick hr (by decide) (x00 (x02 (qv 0 rfl (Or.inl rfl))) (x00 (x02 (qv 7 rfl (Or.inl rfl))) (x00 (x02 (qv 4 rfl (Or.inl rfl))) (x03) x04) x04) x04)) (x00 (x09 c__law_pick hr (by decide) (x00 (x02 (qv 0 rfl (Or.inl rfl))) (x00 (x1h (x02 (qv 7 rfl (Or.inl rfl))) (x0b)) (x00 (x02 (qv 4 rfl (Or.inl rfl))) (x03) x04) x13) x04)) (x00 (x02 (qv 8 rfl (Or.inl rfl))) (x03) x04) x0o) x0o)) (x03) y62))))))))
  (x07 (x0r (i:=9) x1f.nd rfl (Or.inl rfl) (x2e (x03)))
  (x07 (x1p PassesOwn.never rfl (x0t B.m_range (x00 (x09 c__law_pick hr (by decide) (x00 (x02 (qv 0 rfl (Or.inl rfl))) (x00 (x1h (x02 (qv 1 rfl (Or.inl rfl))) (x0b)) (x00 (x0b) (x03) x08) x13) x04)) (x03) x0o)) (x0j (i:=6) (show 0<=6 by decide) x1f.nd rfl (Or.inl rfl)) (x07 (x0r (i:=10) x1f.nd rfl (Or.inl rfl) (x09 c__law_pick hr (by decide) (x00 (x02 (qv 0 rfl (Or.inl rfl))) (x00 (x1h (x1h (x02 (qv 1 rfl (Or.inl rfl))) (x0b)) (x5r (x0b) (x02 (qv 6 rfl (Or.inl rfl))))) (x00 (x16 B.m_len (qv 2 rfl (Or.inl rfl))) (x03) x0o) x13) x04)))
  (x0c (x2v (x2f (qv 9 rfl (Or.inl rfl)) (x00 (x4d (x00 (x09 c__law_pick hr (by decide) (x00 (x02 (qv 0 rfl (Or.inl rfl))) (x00 (x1h (x1h (x02 (qv 1 rfl (Or.inl rfl))) (x0b)) (x5r (x0b) (x02 (qv 6 rfl (Or.inl rfl))))) (x00 (x02 (qv 4 rfl (Or.inl rfl))) (x03) x04) x13) x04)) (x00 (x02 (qv 10 rfl (Or.inl rfl))) (x03) x04) x0o)) (x03) y62))))))
  (x0c (x0l (x4d (x00 (x02 (qv 4 rfl (Or.inl rfl))) (x00 (x2w B.m_tuple PyProof.Rows.boot_tuple (x00 (x02 (qv 5 rfl (Or.inl rfl))) (x03) x04)) (x00 (x2w B.m_tuple PyProof.Rows.boot_tuple (x00 (x02 (qv 9 rfl (Or.inl rfl))) (x03) x04)) (x03) x0o) x0o) x04))))))))
noncomputable def y1q:x1a:=x2m (z3c (z3f .int (x06 0)) (j0w (z3f .bool (x06 0))))
noncomputable def x4v:List D->Option (D × Nat):=fnD 1 (y1q)
theorem y5p:FnScope ["thing"] ["thing"] (x0e (top 4)):=⟨rfl,rfl,rfl,by decide +kernel,rfl,by decide +kernel,by decide +kernel⟩
theorem y7i (B:Bt mg) (a:At K mg "is_whole" (top 4) ["thing"]):Cal P w K mg base 1 "is_whole" 1 (x4v):=
 Cal.mkQ (k:=0) a y5p fun f cdv A outer s H E hr=>
  x0c (x0l (y7y (y46 .int B.m_isinstance B.m_int PyProof.Rows.boot_int (x02 (qv 0 rfl (Or.inl rfl)))) (y9k (z71 (y46 .bool B.m_isinstance B.m_bool PyProof.Rows.boot_bool (x02 (qv 0 rfl (Or.inl rfl))))))))
noncomputable def x6s:x1a:=x2m (z3c (x0k x4v 1 (x01 (x06 0) (x0f))) (eCh dLe dLt (eC (.int 0)) (x06 0) (x06 1)))
noncomputable def x1b:List D->Option (D × Nat):=fnD 2 (x6s)
theorem y0f:FnScope ["thing","many"] ["thing","many"] (x0e (top 5)):=⟨rfl,rfl,rfl,by decide +kernel,rfl,by decide +kernel,by decide +kernel⟩
theorem y15 (B:Bt mg) (c_is_whole:Cal P w K mg base 1 "is_whole" 1 x4v) (a:At K mg "is_number_of" (top 5) ["thing","many"]):Cal P w K mg base 2 "is_number_of" 2 (x1b):=
 Cal.mkQ (k:=1) a y0f fun f cdv A outer s H E hr=>
  x0c (x0l (y7y (x09 c_is_whole hr (by decide) (x00 (x02 (qv 0 rfl (Or.inl rfl))) (x03) x04)) (y9k (y58 (x0b) (x02 (qv 0 rfl (Or.inl rfl))) (x02 (qv 1 rfl (Or.inl rfl)))))))
noncomputable def x4q:x1a:=x18 (sIf (y88 (x4z (x88 (z3f .tuple (x06 0)))) (y88 (x3n (e2 dNe (x1d 0) (eC (.int 2)))) (x4z (x88 (z3f .str (x10 0 (eC (.int 0)))))))) (x2m (eC (.bl false))) (x5i))
 (x2m (x0k x1b 2 (x01 (x10 0 (eC (.int 1))) (x01 (z0o (x06 1) (x10 0 (eC (.int 0))) (eC (.int 0))) (x0f)))))
noncomputable def x20:List D->Option (D × Nat):=fnD 2 (x4q)
theorem x7z:FnScope ["thing","many_by_name"] ["thing","many_by_name"] (x0e (top 7)):=⟨rfl,rfl,rfl,by decide +kernel,rfl,by decide +kernel,by decide +kernel⟩
theorem x8q (B:Bt mg) (c_is_number_of:Cal P w K mg base 2 "is_number_of" 2 x1b) (a:At K mg "is_named_number" (top 7) ["thing","many_by_name"]):Cal P w K mg base 3 "is_named_number" 2 (x20):=
 Cal.mkQ (k:=2) a x7z fun f cdv A outer s H E hr=>
  x07 (x2o (z26 (y4d (x5u (x3l (y46 .tuple B.m_isinstance B.m_tuple PyProof.Rows.boot_tuple (x02 (qv 0 rfl (Or.inl rfl)))))) (y4d (x6q hr (x16 B.m_len (qv 0 rfl (Or.inl rfl))) (x0b)) (y2k (x5u (x3l (y46 .str B.m_isinstance B.m_str PyProof.Rows.boot_str (x0p (qv 0 rfl (Or.inl rfl)) (x0b))))))))) (x0c (x0l (x4b))) (x1k))
  (x0c (x0l (x09 c_is_number_of hr (by decide) (x00 (x0p (qv 0 rfl (Or.inl rfl)) (x0b)) (x00 (z4j hr (x02 (qv 1 rfl (Or.inl rfl))) (x0p (qv 0 rfl (Or.inl rfl)) (x0b)) (x0b)) (x03) x0o) x0m))))
noncomputable def y3h:x1a:=x2m (x0k x20 2 (x01 (x06 1) (x01 (y79 "begin" "way" (x84 0 2) (x84 0 1)) (x0f))))
noncomputable def x44:List D->Option (D × Nat):=fnD 2 (y3h)
theorem y76:FnScope ["chart","thing"] ["chart","thing"] (x0e (top 23)):=⟨rfl,rfl,rfl,by decide +kernel,rfl,by decide +kernel,by decide +kernel⟩
theorem y8n (B:Bt mg) (c_is_named_number:Cal P w K mg base 3 "is_named_number" 2 x20) (a:At K mg "is_step" (top 23) ["chart","thing"]):Cal P w K mg base 4 "is_step" 2 (x44):=
 Cal.mkQ (k:=3) a y76 fun f cdv A outer s H E hr=>
  x0c (x0l (x09 c_is_named_number hr (by decide) (x00 (x02 (qv 1 rfl (Or.inl rfl))) (x00 (z46 (by decide) (y6c B.m_len (qv 0 rfl (Or.inl rfl))) (y6c B.m_len (qv 0 rfl (Or.inl rfl)))) (x03) z5l) x04)))
noncomputable def x5d:x1a:=sIf (x4z (x88 (eB z0r (x01 (x2y 1 (x6f (x06 1)) (x0i 2) (x2l) (x0k x44 2 (x01 (x06 0) (x01 (x06 2) (x0f)))) false) (x0f))))) (y6d) (x5i)
noncomputable def x2g:List D->Option (D × Nat):=fnD 2 (x5d)
theorem x8h:FnScope ["chart","steps"] ["chart","steps"] (x0e (top 24)):=⟨rfl,rfl,rfl,by decide +kernel,rfl,by decide +kernel,by decide +kernel⟩
noncomputable abbrev x4w:List Str:=["chart","steps","step"]
theorem x7b:(x4w).Nodup:=by decide +kernel
theorem x9d (B:Bt mg) (c_is_step:Cal P w K mg base 4 "is_step" 2 x44) (a:At K mg "refuse_no_step" (top 24) ["chart","steps"]):Cal P w K mg base 5 "refuse_no_step" 2 (x2g):=
 Cal.mkQ (k:=4) a x8h fun f cdv A outer s H E hr=>
  x0c (x2o (x5u (x3l (z3g rfl B.m_all (x00 (x2z (k:=1) (N':=x4w) false rfl ⟨rfl,by decide +kernel,rfl,rfl,rfl⟩ (x31 (x02 (qv 1 rfl (Or.inl rfl)))) (fun _ _ _ _=>x0j (i:=2) (show 2<=2 by decide) x7b rfl (Or.inl rfl) (Or.inr rfl)) (fun _ _ _ _=>x2n) (fun _ _ _ _=>x09 c_is_step hr (by decide) (x00 (x02 (qv 0)) (x00 (x02 (qv 2)) (x03) x04) x04))) (x03) x2c)))) (x0c (y9n)) (x1k))
noncomputable def x4u:x1a:=x18 (sIf (x3n (e2 dEq (x10 2 (eC (.int 0))) (eC (.str "begin")))) (x2m (eIx (x10 0 (eC (.int 2))) (x10 2 (eC (.int 1))))) (x5i))
 (x18 (x23 3 (eIx (x10 0 (eC (.int 1))) (x10 2 (eC (.int 1)))))
 (x2m (x91 (x01 (x10 3 (eC (.int 1))) (x01 (eIx (x10 3 (eC (.int 2))) (x10 1 (x10 3 (eC (.int 0))))) (x0f))))))
noncomputable def x22:List D->Option (D × Nat):=fnD 4 (x4u)
theorem x4e:FnScope ["chart","worths","step","way"] ["chart","worths","step"] (x0e (top 25)):=⟨rfl,rfl,rfl,by decide +kernel,rfl,by decide +kernel,by decide +kernel⟩
theorem x8e (B:Bt mg) (a:At K mg "place_and_worth" (top 25) ["chart","worths","step"]):Cal P w K mg base 1 "place_and_worth" 3 (x22):=
 Cal.mkQ (k:=0) a x4e fun f cdv A outer s H E hr=>
  x07 (x2o (y1r hr (x0p (qv 2 rfl (Or.inl rfl)) (x0b)) (y82)) (x0c (x0l (x47 (x0p (qv 0 rfl (Or.inl rfl)) (x0b)) (x0p (qv 2 rfl (Or.inl rfl)) (x0b))))) (x1k))
  (x07 (x0r (i:=3) x4e.nd rfl (Or.inl rfl) (x47 (x0p (qv 0 rfl (Or.inl rfl)) (x0b)) (x0p (qv 2 rfl (Or.inl rfl)) (x0b))))
  (x0c (x0l (x4d (x00 (x0p (qv 3 rfl (Or.inl rfl)) (x0b)) (x00 (x47 (x0p (qv 3 rfl (Or.inl rfl)) (x0b)) (x0p (qv 1 rfl (Or.inl rfl)) (x0p (qv 3 rfl (Or.inl rfl)) (x0b)))) (x03) x0m) x0m)))))
noncomputable def x5q:x1a:=x18 (x23 4 (x0k x22 3 (x01 (x06 1) (x01 (x06 2) (x01 (x06 3) (x0f))))))
 (x18 (x23 5 (x10 4 (eC (.int 0))))
 (x18 (x23 6 (eIx (x10 0 (x10 2 (x06 5))) (x10 4 (eC (.int 1)))))
 (x2m (z3a (z3a (eSl (x06 2) (x8k) (x7u (x06 5))) (x91 (x01 (x06 6) (x0f)))) (eSl (x06 2) (x7u (e2 x39 (x06 5) (eC (.int 1)))) (x8k))))))
noncomputable def x1q:List D->Option (D × Nat):=fnD 7 (x5q)
theorem x30:FnScope ["ladder","chart","worths","step","coming","place","joined"] ["ladder","chart","worths","step"] (x0e (top 26)):=⟨rfl,rfl,rfl,by decide +kernel,rfl,by decide +kernel,by decide +kernel⟩
theorem y01 (B:Bt mg) (c_place_and_worth:Cal P w K mg base 1 "place_and_worth" 3 x22) (a:At K mg "worths_behind" (top 26) ["ladder","chart","worths","step"]):Cal P w K mg base 2 "worths_behind" 4 (x1q):=
 Cal.mkQ (k:=1) a x30 fun f cdv A outer s H E hr=>
  x07 (x0r (i:=4) x30.nd rfl (Or.inl rfl) (x09 c_place_and_worth hr (by decide) (x00 (x02 (qv 1 rfl (Or.inl rfl))) (x00 (x02 (qv 2 rfl (Or.inl rfl))) (x00 (x02 (qv 3 rfl (Or.inl rfl))) (x03) x04) x04) x04)))
  (x07 (x0r (i:=5) x30.nd rfl (Or.inl rfl) (x0p (qv 4 rfl (Or.inl rfl)) (x0b)))
  (x07 (x0r (i:=6) x30.nd rfl (Or.inl rfl) (x47 (x0p (qv 0 rfl (Or.inl rfl)) (x0p (qv 2 rfl (Or.inl rfl)) (x02 (qv 5 rfl (Or.inl rfl))))) (x0p (qv 4 rfl (Or.inl rfl)) (x0b))))
  (x0c (x0l (y9p (y9p (y83 (x02 (qv 2 rfl (Or.inl rfl))) (x7q) (x7c (x02 (qv 5 rfl (Or.inl rfl))))) (x4d (x00 (x02 (qv 6 rfl (Or.inl rfl))) (x03) x04))) (y83 (x02 (qv 2 rfl (Or.inl rfl))) (x7c (x1h (x02 (qv 5 rfl (Or.inl rfl))) (x0b))) (x7q)))))))
noncomputable abbrev y2g:x1a:=x18 (x23 5 (x06 3))
 (x6h (x6f (x06 2)) (x0i 6) (x18 (x23 7 (x0k x1q 4 (x01 (x06 0) (x01 (x06 1) (x01 (x06 3) (x01 (x06 6) (x0f)))))))
 (x18 (sIf (x3n (e2 dNe (x06 7) (x06 3))) (x3q (x9g 4 (x01 (x06 6) (x0f)))) (x5i))
 (x23 3 (x06 7)))))
noncomputable abbrev x9i:x1a:=x18 (x23 7 (x0k x1q 4 (x01 (x06 0) (x01 (x06 1) (x01 (x06 3) (x01 (x06 6) (x0f)))))))
 (x18 (sIf (x3n (e2 dNe (x06 7) (x06 3))) (x3q (x9g 4 (x01 (x06 6) (x0f)))) (x5i))
 (x23 3 (x06 7)))
noncomputable def y86:x1a:=x18 (x23 4 (x5h (x0f)))
 (x18 (x23 5 (eC .non))
 (x18 (y4f (x3n (e2 dNe (x06 3) (x06 5))) (x18 (x23 5 (x06 3))
 (x6h (x6f (x06 2)) (x0i 6) (x18 (x23 7 (x0k x1q 4 (x01 (x06 0) (x01 (x06 1) (x01 (x06 3) (x01 (x06 6) (x0f)))))))
 (x18 (sIf (x3n (e2 dNe (x06 7) (x06 3))) (x3q (x9g 4 (x01 (x06 6) (x0f)))) (x5i))
 (x23 3 (x06 7)))))))
 (x2m (x91 (x01 (x06 3) (x01 (x06 4) (x0f)))))))
noncomputable def y00:List D->Option (D × Nat):=fnD 8 (y86)
theorem x4x:FnScope ["ladder","chart","order","worths","raising","ahead","step","behind"] ["ladder","chart","order","worths"] (x0e (top 27)):=⟨rfl,rfl,rfl,by decide +kernel,rfl,by decide +kernel,by decide +kernel⟩
theorem z54 (B:Bt mg) (c_worths_behind:Cal P w K mg base 2 "worths_behind" 4 x1q) (a:At K mg "risen" (top 27) ["ladder","chart","order","worths"]):Cal P w K mg base 3 "risen" 4 (y00):=
 Cal.mkQ (k:=2) a x4x fun f cdv A outer s H E hr=>
  x07 (x0r (i:=4) x4x.nd rfl (Or.inl rfl) (x2e (x03)))
  (x07 (x0r (i:=5) x4x.nd rfl (Or.inl rfl) (z36))
  (x07 (y31 PassesOwn.never (x6q hr (x02 (qv 3 rfl (Or.inl rfl))) (x02 (qv 5 rfl (Or.inl rfl)))) (x07 (x0r (i:=5) x4x.nd rfl (Or.inl rfl) (x02 (qv 3 rfl (Or.inl rfl))))
  (x0c (x1p PassesOwn.never rfl (x31 (x02 (qv 2 rfl (Or.inl rfl)))) (x0j (i:=6) (show 0<=6 by decide) x4x.nd rfl (Or.inl rfl)) (x07 (x0r (i:=7) x4x.nd rfl (Or.inl rfl) (x09 c_worths_behind hr (by decide) (x00 (x02 (qv 0 rfl (Or.inl rfl))) (x00 (x02 (qv 1 rfl (Or.inl rfl))) (x00 (x02 (qv 3 rfl (Or.inl rfl))) (x00 (x02 (qv 6 rfl (Or.inl rfl))) (x03) x04) x04) x04) x04)))
  (x07 (x2o (x6q hr (x02 (qv 7 rfl (Or.inl rfl))) (x02 (qv 3 rfl (Or.inl rfl)))) (x0c (x2v (x2f (qv 4 rfl (Or.inl rfl)) (x00 (x02 (qv 6 rfl (Or.inl rfl))) (x03) x04)))) (x1k))
  (x0c (x0r (i:=3) x4x.nd rfl (Or.inl rfl) (x02 (qv 7 rfl (Or.inl rfl)))))))))))
  (x0c (x0l (x4d (x00 (x02 (qv 3 rfl (Or.inl rfl))) (x00 (x02 (qv 4 rfl (Or.inl rfl))) (x03) x04) x04))))))
noncomputable def y66:x1a:=x2m (x2r (x01 (y50 (x5h (x01 (x0k x36 1 (x01 (x06 0) (x0f))) (x0f))) (x10 1 (eC (.int 0)))) (x0f)))
noncomputable def x7e:List D->Option (D × Nat):=fnD 2 (y66)
theorem y8u:FnScope ["ladder","chart"] ["ladder","chart"] (x0e (top 20)):=⟨rfl,rfl,rfl,by decide +kernel,rfl,by decide +kernel,by decide +kernel⟩
theorem z1d (B:Bt mg) (c_least_of:Cal P w K mg base 2 "least_of" 1 x36) (a:At K mg "lowest" (top 20) ["ladder","chart"]):Cal P w K mg base 3 "lowest" 2 (x7e):=
 Cal.mkQ (k:=2) a y8u fun f cdv A outer s H E hr=>
  x0c (x0l (x2w B.m_tuple PyProof.Rows.boot_tuple (x00 (y7m (x2e (x00 (x09 c_least_of hr (by decide) (x00 (x02 (qv 0 rfl (Or.inl rfl))) (x03) x04)) (x03) x0o)) (x0p (qv 1 rfl (Or.inl rfl)) (x0b))) (x03) x13)))
noncomputable def y18:x1a:=x18 (x3q (x0k x2g 2 (x01 (x06 1) (x01 (x06 2) (x0f)))))
 (x18 (x23 3 (x0k y00 4 (x01 (x06 0) (x01 (x06 1) (x01 (x06 2) (x01 (x0k x7e 2 (x01 (x06 0) (x01 (x06 1) (x0f)))) (x0f)))))))
 (x2m (x91 (x01 (x10 3 (eC (.int 0))) (x01 (eB z1e (x01 (x10 3 (eC (.int 1))) (x0f))) (x0f))))))
noncomputable def x4p:List D->Option (D × Nat):=fnD 4 (y18)
theorem x9r:FnScope ["ladder","chart","order","ended"] ["ladder","chart","order"] (x0e (top 28)):=⟨rfl,rfl,rfl,by decide +kernel,rfl,by decide +kernel,by decide +kernel⟩
theorem y7c (B:Bt mg) (c_refuse_no_step:Cal P w K mg base 5 "refuse_no_step" 2 x2g) (c_risen:Cal P w K mg base 3 "risen" 4 y00) (c_lowest:Cal P w K mg base 3 "lowest" 2 x7e) (a:At K mg "least_by" (top 28) ["ladder","chart","order"]):Cal P w K mg base 6 "least_by" 3 (x4p):=
 Cal.mkQ (k:=5) a x9r fun f cdv A outer s H E hr=>
  x07 (x2v (x09 c_refuse_no_step hr (by decide) (x00 (x02 (qv 1 rfl (Or.inl rfl))) (x00 (x02 (qv 2 rfl (Or.inl rfl))) (x03) x04) x04)))
  (x07 (x0r (i:=3) x9r.nd rfl (Or.inl rfl) (x09 c_risen hr (by decide) (x00 (x02 (qv 0 rfl (Or.inl rfl))) (x00 (x02 (qv 1 rfl (Or.inl rfl))) (x00 (x02 (qv 2 rfl (Or.inl rfl))) (x00 (x09 c_lowest hr (by decide) (x00 (x02 (qv 0 rfl (Or.inl rfl))) (x00 (x02 (qv 1 rfl (Or.inl rfl))) (x03) x04) x04)) (x03) x0o) x04) x04) x04)))
  (x0c (x0l (x4d (x00 (x0p (qv 3 rfl (Or.inl rfl)) (x0b)) (x00 (y7v B.m_len (x00 (x0p (qv 3 rfl (Or.inl rfl)) (x0b)) (x03) x0m)) (x03) x0o) x0m)))))
noncomputable def y0r:x1a:=x18 (x23 1 (x2y 1 (x15 (x01 (eB z1e (x01 (x10 0 (eC (.int 2))) (x0f))) (x0f))) (x0i 2) (x2l) (x91 (x01 (eC (.str "begin")) (x01 (x06 2) (x0f)))) false))
 (x2m (y9t (x06 1) (x2y 1 (x15 (x01 (eB z1e (x01 (x10 0 (eC (.int 1))) (x0f))) (x0f))) (x0i 2) (x2l) (x91 (x01 (eC (.str "way")) (x01 (x06 2) (x0f)))) false)))
noncomputable def x4a:List D->Option (D × Nat):=fnD 2 (y0r)
theorem x8y:FnScope ["chart","begins"] ["chart"] (x0e (top 22)):=⟨rfl,rfl,rfl,by decide +kernel,rfl,by decide +kernel,by decide +kernel⟩
noncomputable abbrev x5y:List Str:=["chart","begins","number"]
theorem x7g:(x5y).Nodup:=by decide +kernel
theorem y4y (B:Bt mg) (a:At K mg "all_steps" (top 22) ["chart"]):Cal P w K mg base 1 "all_steps" 1 (x4a):=
 Cal.mkQ (k:=0) a x8y fun f cdv A outer s H E hr=>
  x07 (y2w (i:=1) (k:=1) (N':=x5y) false x8y.nd rfl (Or.inl rfl) rfl rfl ⟨rfl,by decide +kernel,rfl,rfl,rfl⟩ (x0t B.m_range (x00 (y7v B.m_len (x00 (x0p (qv 0 rfl (Or.inl rfl)) (x0b)) (x03) x0m)) (x03) x0o)) (fun _ _ _ _=>x0j (i:=2) (show 2<=2 by decide) x7g rfl (Or.inl rfl) (Or.inr rfl)) (fun _ _ _ _=>x2n) (fun _ _ _ _=>x4d (x00 (y82) (x00 (x02 (qv 2)) (x03) x04) x08)))
  (x0c (x0l (z5n (x02 (qv 1 rfl (Or.inl rfl))) (x2z (k:=1) (N':=x5y) false rfl ⟨rfl,by decide +kernel,rfl,rfl,rfl⟩ (x0t B.m_range (x00 (y7v B.m_len (x00 (x0p (qv 0 rfl (Or.inl rfl)) (x0b)) (x03) x0m)) (x03) x0o)) (fun _ _ _ _=>x0j (i:=2) (show 2<=2 by decide) x7g rfl (Or.inl rfl) (Or.inr rfl)) (fun _ _ _ _=>x2n) (fun _ _ _ _=>x4d (x00 (y82) (x00 (x02 (qv 2)) (x03) x04) x08))))))
noncomputable def y7r:x1a:=x2m (eIx (x0k x4p 3 (x01 (x06 0) (x01 (x06 1) (x01 (x0k x4a 1 (x01 (x06 1) (x0f))) (x0f))))) (eC (.int 0)))
noncomputable def x8j:List D->Option (D × Nat):=fnD 2 (y7r)
theorem z2b:FnScope ["ladder","chart"] ["ladder","chart"] (x0e (top 21)):=⟨rfl,rfl,rfl,by decide +kernel,rfl,by decide +kernel,by decide +kernel⟩
theorem z3w (B:Bt mg) (c_least_by:Cal P w K mg base 6 "least_by" 3 x4p) (c_all_steps:Cal P w K mg base 1 "all_steps" 1 x4a) (a:At K mg "least" (top 21) ["ladder","chart"]):Cal P w K mg base 7 "least" 2 (x8j):=
 Cal.mkQ (k:=6) a z2b fun f cdv A outer s H E hr=>
  x0c (x0l (x47 (x09 c_least_by hr (by decide) (x00 (x02 (qv 0 rfl (Or.inl rfl))) (x00 (x02 (qv 1 rfl (Or.inl rfl))) (x00 (x09 c_all_steps hr (by decide) (x00 (x02 (qv 1 rfl (Or.inl rfl))) (x03) x04)) (x03) x0o) x04) x04)) (x0b)))
noncomputable abbrev y5a (ob:D) (G:List D->Option (D × Nat)):x1a:=x3q (x9g 2 (x01 (x2r (x01 (x2y 1 (x15 (x01 (x06 0) (x0f))) (x0i 4) (x2l) (y0p ob G 1 2 (x01 (x06 3) (x01 (x06 4) (x0f)))) false) (x0f))) (x0f)))
noncomputable def y1d (ob:D) (G:List D->Option (D × Nat)):x1a:=x18 (x23 2 (x5h (x0f)))
 (x18 (x6h (x15 (x01 (x06 0) (x0f))) (x0i 3) (x3q (x9g 2 (x01 (x2r (x01 (x2y 1 (x15 (x01 (x06 0) (x0f))) (x0i 4) (x2l) (y0p ob G 1 2 (x01 (x06 3) (x01 (x06 4) (x0f)))) false) (x0f))) (x0f)))))
 (x2m (x2r (x01 (x06 2) (x0f)))))
noncomputable def x35 (ob:D) (G:List D->Option (D × Nat)):List D->Option (D × Nat):=fnD 4 (y1d ob G)
theorem x71:FnScope ["many","entry","rows","x"] ["many","entry"] (x0e (top 15)):=⟨rfl,rfl,rfl,by decide +kernel,rfl,by decide +kernel,by decide +kernel⟩
noncomputable abbrev y0i:List Str:=["many","entry","rows","x","y"]
theorem y3c:(y0i).Nodup:=by decide +kernel
theorem y6v (B:Bt mg) {ob:D} {G:List D->Option (D × Nat)} (co:z5v P w K mg base 5 ob 2 G) (a:At K mg "table_of" (top 15) ["many","entry"]):Cal P w K mg base 6 "table_of" 2 (x35 ob G):=
 Cal.mkQ (k:=5) a x71 fun f cdv A outer s H E hr=>
  x07 (x0r (i:=2) x71.nd rfl (Or.inl rfl) (x2e (x03)))
  (x07 (x1p PassesOwn.never rfl (x0t B.m_range (x00 (x02 (qv 0 rfl (Or.inl rfl))) (x03) x04)) (x0j (i:=3) (show 0<=3 by decide) x71.nd rfl (Or.inr rfl)) (x0c (x2v (x2f (qv 2 rfl (Or.inl rfl)) (x00 (x2w B.m_tuple PyProof.Rows.boot_tuple (x00 (x2z (k:=1) (N':=y0i) false rfl ⟨rfl,by decide +kernel,rfl,rfl,rfl⟩ (x0t B.m_range (x00 (x02 (qv 0 rfl (Or.inl rfl))) (x03) x04)) (fun _ _ _ _=>x0j (i:=4) (show 4<=4 by decide) y3c rfl (Or.inl rfl) (Or.inr rfl)) (fun _ _ _ _=>x2n) (fun _ _ _ _=>z1v (qv 1) co hr (by decide) (x00 (x02 (qv 3)) (x00 (x02 (qv 4)) (x03) x04) x04))) (x03) x2c)) (x03) x0o)))))
  (x0c (x0l (x2w B.m_tuple PyProof.Rows.boot_tuple (x00 (x02 (qv 2 rfl (Or.inl rfl))) (x03) x04)))))
noncomputable def x6g:Den:=x0k x8i 3 (x01 (x06 2) (x01 (x06 0) (x01 (x06 1) (x0f))))
noncomputable def y5u:x1a:=x2m (z6r x35 x6g [0] (x1d 0))
noncomputable def x50:List D->Option (D × Nat):=fnD 1 (y5u)
theorem y98:FnScope ["ladder"] ["ladder"] (x0e (top 16)):=⟨rfl,rfl,rfl,by decide +kernel,rfl,by decide +kernel,by decide +kernel⟩
theorem z1l (B:Bt mg) (L:Lm K mg base) (KX:K.In base) (NG:base.Ns mainGlobals mg) (tb:∃ c Pt,PySem.W.tabIn K "turned" = some (c,Pt)) (hT:∀ (base:Heap) (ob:D) (G:List D->Option (D × Nat)),z5v P w K mg base 5 ob 2 G->Cal P w K mg base 6 "table_of" 2 (x35 ob G)) (hy:∃ fn,mg "table_of" = some (.ref fn)/\PySem.W.keepIn K (.ref fn)=true) (e_met:∀ base:Heap,Cal P w K mg base 4 "met" 3 x8i) (a:At K mg "turned" (top 16) ["ladder"]):Cal P w K mg base 7 "turned" 1 x50:=
 Cal.mkL (k:=6) KX NG tb a y98 fun f c Pt A outer s H E ht hr=>
  x0c (x0l (z97 (ps:=["x","y"]) (caps:=["ladder"]) (is:=[0]) (kb:=4) L (by decide) ht (by exact LamScope.of rfl rfl rfl (by decide +kernel) (by decide +kernel) (by decide +kernel) (by decide +kernel) (by decide +kernel)) hy hr (by decide) hT (fun _ _ _ _ _ _ _ _ _ hr=>x09 (e_met _) hr (by decide) (x00 (x02 (qv 2 rfl (Or.inr (Or.inr rfl)))) (x00 (x02 (qv 0 rfl (Or.inl rfl))) (x00 (x02 (qv 1 rfl (Or.inl rfl))) (x03) x04) x04) x04)) (fun _ _ _ _ _ _ h=>by obtain⟨_,_,rfl⟩:=L3.j2d h; rfl) ⟨rfl,rfl,trivial⟩ (x16 B.m_len (qv 0 rfl (Or.inr (Or.inl rfl)))) (fun _=>x0o)))
noncomputable def y1o:x1a:=x2m (x0k x8j 2 (x01 (x0k x50 1 (x01 (x06 0) (x0f))) (x01 (x06 1) (x0f))))
noncomputable def x3y:List D->Option (D × Nat):=fnD 2 (y1o)
theorem y54:FnScope ["ladder","chart"] ["ladder","chart"] (x0e (top 31)):=⟨rfl,rfl,rfl,by decide +kernel,rfl,by decide +kernel,by decide +kernel⟩
theorem y7f (B:Bt mg) (c_least:Cal P w K mg base 7 "least" 2 x8j) (c_turned:Cal P w K mg base 7 "turned" 1 x50) (a:At K mg "greatest" (top 31) ["ladder","chart"]):Cal P w K mg base 8 "greatest" 2 (x3y):=
 Cal.mkQ (k:=7) a y54 fun f cdv A outer s H E hr=>
  x0c (x0l (x09 c_least hr (by decide) (x00 (x09 c_turned hr (by decide) (x00 (x02 (qv 0 rfl (Or.inl rfl))) (x03) x04)) (x00 (x02 (qv 1 rfl (Or.inl rfl))) (x03) x04) x0o)))
noncomputable def x76:x1a:=x18 (sIf (y88 (x4z (x88 (z3f .tuple (x06 0)))) (x3n (e2 dNe (x1d 0) (x06 1)))) (x2m (eC (.bl false))) (x5i))
 (x2m (eB z0r (x01 (x2y 1 (x6f (x06 0)) (x0i 3) (x2l) (x0k x1b 2 (x01 (x06 3) (x01 (x06 2) (x0f)))) false) (x0f))))
noncomputable def x1s:List D->Option (D × Nat):=fnD 3 (x76)
theorem y43:FnScope ["thing","length","many"] ["thing","length","many"] (x0e (top 6)):=⟨rfl,rfl,rfl,by decide +kernel,rfl,by decide +kernel,by decide +kernel⟩
noncomputable abbrev x8z:List Str:=["thing","length","many","part"]
theorem y2s:(x8z).Nodup:=by decide +kernel
theorem y5m (B:Bt mg) (c_is_number_of:Cal P w K mg base 2 "is_number_of" 2 x1b) (a:At K mg "is_row_of" (top 6) ["thing","length","many"]):Cal P w K mg base 3 "is_row_of" 3 (x1s):=
 Cal.mkQ (k:=2) a y43 fun f cdv A outer s H E hr=>
  x07 (x2o (z26 (y4d (x5u (x3l (y46 .tuple B.m_isinstance B.m_tuple PyProof.Rows.boot_tuple (x02 (qv 0 rfl (Or.inl rfl)))))) (y2k (x6q hr (x16 B.m_len (qv 0 rfl (Or.inl rfl))) (x02 (qv 1 rfl (Or.inl rfl))))))) (x0c (x0l (x4b))) (x1k))
  (x0c (x0l (z3g rfl B.m_all (x00 (x2z (k:=1) (N':=x8z) false rfl ⟨rfl,by decide +kernel,rfl,rfl,rfl⟩ (x31 (x02 (qv 0 rfl (Or.inl rfl)))) (fun _ _ _ _=>x0j (i:=3) (show 3<=3 by decide) y2s rfl (Or.inl rfl) (Or.inr rfl)) (fun _ _ _ _=>x2n) (fun _ _ _ _=>x09 c_is_number_of hr (by decide) (x00 (x02 (qv 3)) (x00 (x02 (qv 2)) (x03) x04) x04))) (x03) x2c))))
noncomputable abbrev x5s:x1a:=sIf (x4z (x88 (x0k x1m 3 (x01 (x06 0) (x01 (x10 5 (x10 2 (x06 3))) (x01 (x10 2 (x06 4)) (x0f))))))) (x2m (eC (.bl false))) (x5i)
noncomputable abbrev x3s:x1a:=sIf (x4z (x88 (x0k x1m 3 (x01 (x06 0) (x01 (x06 7) (x01 (x10 2 (x06 6)) (x0f))))))) (x2m (eC (.bl false))) (x5i)
noncomputable def x6y:x1a:=x18 (sIf (x4z (x88 (x0k x1s 3 (x01 (x06 2) (x01 (x10 1 (eC (.int 0))) (x01 (x1d 0) (x0f))))))) (x2m (eC (.bl false))) (x5i))
 (x18 (x6h (x6f (x10 1 (eC (.int 1)))) (x9m (x0s (x0i 3) (x0s (x0i 4) (x0s (x0i 5) (x3p))))) (sIf (x4z (x88 (x0k x1m 3 (x01 (x06 0) (x01 (x10 5 (x10 2 (x06 3))) (x01 (x10 2 (x06 4)) (x0f))))))) (x2m (eC (.bl false))) (x5i)))
 (x18 (x6h (x6f (x10 1 (eC (.int 2)))) (x9m (x0s (x0i 6) (x0s (x0i 7) (x3p)))) (sIf (x4z (x88 (x0k x1m 3 (x01 (x06 0) (x01 (x06 7) (x01 (x10 2 (x06 6)) (x0f))))))) (x2m (eC (.bl false))) (x5i)))
 (x2m (eC (.bl true)))))
noncomputable def x2b:List D->Option (D × Nat):=fnD 8 (x6y)
theorem x33:FnScope ["ladder","chart","thing","start","goal","rule","place","worth"] ["ladder","chart","thing"] (x0e (top 18)):=⟨rfl,rfl,rfl,by decide +kernel,rfl,by decide +kernel,by decide +kernel⟩
theorem y4x (B:Bt mg) (c_is_row_of:Cal P w K mg base 3 "is_row_of" 3 x1s) (c_is_below:Cal P w K mg base 1 "is_below" 3 x1m) (a:At K mg "is_answer" (top 18) ["ladder","chart","thing"]):Cal P w K mg base 4 "is_answer" 3 (x2b):=
 Cal.mkQ (k:=3) a x33 fun f cdv A outer s H E hr=>
  x07 (x2o (x5u (x3l (x09 c_is_row_of hr (by decide) (x00 (x02 (qv 2 rfl (Or.inl rfl))) (x00 (x0p (qv 1 rfl (Or.inl rfl)) (x0b)) (x00 (x16 B.m_len (qv 0 rfl (Or.inl rfl))) (x03) x0o) x0m) x04)))) (x0c (x0l (x4b))) (x1k))
  (x07 (x1p PassesOwn.never rfl (x31 (x0p (qv 1 rfl (Or.inl rfl)) (x0b))) (x6z (n:=3) rfl (x1g (x0j (i:=3) (show 0<=3 by decide) x33.nd rfl (Or.inl rfl)) (x1g (x0j (i:=4) (show 0<=4 by decide) x33.nd rfl (Or.inl rfl)) (x1g (x0j (i:=5) (show 0<=5 by decide) x33.nd rfl (Or.inl rfl)) (x51)))) y4t) (x0c (x2o (x5u (x3l (x09 c_is_below hr (by decide) (x00 (x02 (qv 0 rfl (Or.inl rfl))) (x00 (x0p (qv 5 rfl (Or.inl rfl)) (x0p (qv 2 rfl (Or.inl rfl)) (x02 (qv 3 rfl (Or.inl rfl))))) (x00 (x0p (qv 2 rfl (Or.inl rfl)) (x02 (qv 4 rfl (Or.inl rfl)))) (x03) x0m) x0m) x04)))) (x0c (x0l (x4b))) (x1k))))
  (x07 (x1p PassesOwn.never rfl (x31 (x0p (qv 1 rfl (Or.inl rfl)) (x0b))) (x6z (n:=2) rfl (x1g (x0j (i:=6) (show 0<=6 by decide) x33.nd rfl (Or.inl rfl)) (x1g (x0j (i:=7) (show 0<=7 by decide) x33.nd rfl (Or.inl rfl)) (x51))) y2r) (x0c (x2o (x5u (x3l (x09 c_is_below hr (by decide) (x00 (x02 (qv 0 rfl (Or.inl rfl))) (x00 (x02 (qv 7 rfl (Or.inl rfl))) (x00 (x0p (qv 2 rfl (Or.inl rfl)) (x02 (qv 6 rfl (Or.inl rfl)))) (x03) x0m) x04) x04)))) (x0c (x0l (x4b))) (x1k))))
  (x0c (x0l (x4b)))))
noncomputable def x8d:x1a:=x2m (x0k x2b 3 (x01 (x0k x50 1 (x01 (x06 0) (x0f))) (x01 (x06 1) (x01 (x06 2) (x0f)))))
noncomputable def x1e:List D->Option (D × Nat):=fnD 3 (x8d)
theorem y5j:FnScope ["ladder","chart","thing"] ["ladder","chart","thing"] (x0e (top 30)):=⟨rfl,rfl,rfl,by decide +kernel,rfl,by decide +kernel,by decide +kernel⟩
theorem y78 (B:Bt mg) (c_is_answer:Cal P w K mg base 4 "is_answer" 3 x2b) (c_turned:Cal P w K mg base 7 "turned" 1 x50) (a:At K mg "is_under" (top 30) ["ladder","chart","thing"]):Cal P w K mg base 8 "is_under" 3 (x1e):=
 Cal.mkQ (k:=7) a y5j fun f cdv A outer s H E hr=>
  x0c (x0l (x09 c_is_answer hr (by decide) (x00 (x09 c_turned hr (by decide) (x00 (x02 (qv 0 rfl (Or.inl rfl))) (x03) x04)) (x00 (x02 (qv 1 rfl (Or.inl rfl))) (x00 (x02 (qv 2 rfl (Or.inl rfl))) (x03) x04) x04) x0o)))
noncomputable def x7k:x1a:=x2m (x2r (x01 (x2y 1 (x15 (x01 (x10 3 (eC (.int 0))) (x0f))) (x0i 4) (x2l) (x0k x0d 3 (x01 (x06 0) (x01 (e2 x39 (x06 1) (x06 4)) (x01 (x1d 2) (x0f))))) false) (x0f)))
noncomputable def x2x:List D->Option (D × Nat):=fnD 4 (x7k)
theorem y0v:FnScope ["_law_script","_law_at","_law_ladder_here","_law_chart_here"] ["_law_script","_law_at","_law_ladder_here","_law_chart_here"] (x0e (top 47)):=⟨rfl,rfl,rfl,by decide +kernel,rfl,by decide +kernel,by decide +kernel⟩
noncomputable abbrev x6o:List Str:=["_law_script","_law_at","_law_ladder_here","_law_chart_here","_law_k"]
theorem y08:(x6o).Nodup:=by decide +kernel
theorem y2t (B:Bt mg) (c__law_pick:Cal P w K mg base 2 "_law_pick" 3 x0d) (a:At K mg "_law_worths" (top 47) ["_law_script","_law_at","_law_ladder_here","_law_chart_here"]):Cal P w K mg base 3 "_law_worths" 4 (x2x):=
 Cal.mkQ (k:=2) a y0v fun f cdv A outer s H E hr=>
  x0c (x0l (x2w B.m_tuple PyProof.Rows.boot_tuple (x00 (x2z (k:=1) (N':=x6o) false rfl ⟨rfl,by decide +kernel,rfl,rfl,rfl⟩ (x0t B.m_range (x00 (x0p (qv 3 rfl (Or.inl rfl)) (x0b)) (x03) x0m)) (fun _ _ _ _=>x0j (i:=4) (show 4<=4 by decide) y08 rfl (Or.inl rfl) (Or.inr rfl)) (fun _ _ _ _=>x2n) (fun _ _ _ _=>x09 c__law_pick hr (by decide) (x00 (x02 (qv 0)) (x00 (x1h (x02 (qv 1)) (x02 (qv 4))) (x00 (x16 B.m_len (qv 2)) (x03) x0o) x13) x04))) (x03) x2c)))
noncomputable abbrev x8x:x1a:=x18 (x23 4 (y1b 2))
 (x18 (x6h (x6f (x10 1 (eC (.int 2)))) (x9m (x0s (x0i 5) (x0s (x0i 6) (x3p)))) (y2u 2 (y69 5) (x0k x8i 3 (x01 (x06 0) (x01 (x10 2 (x06 5)) (x01 (x06 6) (x0f)))))))
 (x18 (x6h (x6f (x10 1 (eC (.int 1)))) (x9m (x0s (x0i 7) (x0s (x0i 8) (x0s (x0i 9) (x3p))))) (y2u 2 (y69 8) (x0k x8i 3 (x01 (x06 0) (x01 (x10 2 (x06 8)) (x01 (x10 9 (x10 2 (x06 7))) (x0f)))))))
 (x23 3 (z9k 2 4))))
noncomputable abbrev x93:x1a:=y2u 2 (y69 5) (x0k x8i 3 (x01 (x06 0) (x01 (x10 2 (x06 5)) (x01 (x06 6) (x0f)))))
noncomputable abbrev x8u:x1a:=y2u 2 (y69 8) (x0k x8i 3 (x01 (x06 0) (x01 (x10 2 (x06 8)) (x01 (x10 9 (x10 2 (x06 7))) (x0f)))))
noncomputable def y05:x1a:=x18 (x23 2 (y1b 2))
 (x18 (x23 3 (eC (.bl true)))
 (x18 (y4f (x88 (x06 3)) (x18 (x23 4 (y1b 2))
 (x18 (x6h (x6f (x10 1 (eC (.int 2)))) (x9m (x0s (x0i 5) (x0s (x0i 6) (x3p)))) (y2u 2 (y69 5) (x0k x8i 3 (x01 (x06 0) (x01 (x10 2 (x06 5)) (x01 (x06 6) (x0f)))))))
 (x18 (x6h (x6f (x10 1 (eC (.int 1)))) (x9m (x0s (x0i 7) (x0s (x0i 8) (x0s (x0i 9) (x3p))))) (y2u 2 (y69 8) (x0k x8i 3 (x01 (x06 0) (x01 (x10 2 (x06 8)) (x01 (x10 9 (x10 2 (x06 7))) (x0f)))))))
 (x23 3 (z9k 2 4))))))
 (x2m (x2r (x01 (x06 2) (x0f))))))
noncomputable def x2u:List D->Option (D × Nat):=fnD 10 (y05)
theorem x1l:FnScope ["_law_ladder_here","_law_chart_here","_law_worths_here","_law_again","_law_old","_law_place","_law_worth","_law_start","_law_goal","_law_rule_here"] ["_law_ladder_here","_law_chart_here","_law_worths_here"] (x0e (top 50)):=⟨rfl,rfl,rfl,by decide +kernel,rfl,by decide +kernel,by decide +kernel⟩
theorem y4s (B:Bt mg) (c_met:Cal P w K mg base 4 "met" 3 x8i) (a:At K mg "_law_sunk" (top 50) ["_law_ladder_here","_law_chart_here","_law_worths_here"]):Cal P w K mg base 5 "_law_sunk" 3 (x2u):=
 Cal.mkQ (k:=4) a x1l fun f cdv A outer s H E hr=>
  x07 (x0r (i:=2) x1l.nd rfl (Or.inl rfl) (y6q B.m_list PyProof.Rows.boot_list (qv 2 rfl (Or.inl rfl))))
  (x07 (x0r (i:=3) x1l.nd rfl (Or.inl rfl) (x4b))
  (x07 (y31 PassesOwn.never (x3l (x02 (qv 3 rfl (Or.inl rfl)))) (x07 (x0r (i:=4) x1l.nd rfl (Or.inl rfl) (y6q B.m_list PyProof.Rows.boot_list (qv 2 rfl (Or.inl rfl))))
  (x07 (x1p PassesOwn.never rfl (x31 (x0p (qv 1 rfl (Or.inl rfl)) (x0b))) (x6z (n:=2) rfl (x1g (x0j (i:=5) (show 0<=5 by decide) x1l.nd rfl (Or.inl rfl)) (x1g (x0j (i:=6) (show 0<=6 by decide) x1l.nd rfl (Or.inl rfl)) (x51))) y2r) (x0c (y63 (qv 2 rfl (Or.inl rfl)) (y6p (qv 5 rfl (Or.inl rfl))) (x09 c_met hr (by decide) (x00 (x02 (qv 0 rfl (Or.inl rfl))) (x00 (x0p (qv 2 rfl (Or.inl rfl)) (x02 (qv 5 rfl (Or.inl rfl)))) (x00 (x02 (qv 6 rfl (Or.inl rfl))) (x03) x04) x0m) x04)))))
  (x07 (x1p PassesOwn.never rfl (x31 (x0p (qv 1 rfl (Or.inl rfl)) (x0b))) (x6z (n:=3) rfl (x1g (x0j (i:=7) (show 0<=7 by decide) x1l.nd rfl (Or.inl rfl)) (x1g (x0j (i:=8) (show 0<=8 by decide) x1l.nd rfl (Or.inl rfl)) (x1g (x0j (i:=9) (show 0<=9 by decide) x1l.nd rfl (Or.inl rfl)) (x51)))) y4t) (x0c (y63 (qv 2 rfl (Or.inl rfl)) (y6p (qv 8 rfl (Or.inl rfl))) (x09 c_met hr (by decide) (x00 (x02 (qv 0 rfl (Or.inl rfl))) (x00 (x0p (qv 2 rfl (Or.inl rfl)) (x02 (qv 8 rfl (Or.inl rfl)))) (x00 (x0p (qv 9 rfl (Or.inl rfl)) (x0p (qv 2 rfl (Or.inl rfl)) (x02 (qv 7 rfl (Or.inl rfl))))) (x03) x0m) x0m) x04)))))
  (x0c (x0r (i:=3) x1l.nd rfl (Or.inl rfl) (z9e hr (qv 2 rfl (Or.inl rfl)) (qv 4 rfl (Or.inl rfl)))))))))
  (x0c (x0l (x2w B.m_tuple PyProof.Rows.boot_tuple (x00 (x02 (qv 2 rfl (Or.inl rfl))) (x03) x04))))))
noncomputable def x4r:x1a:=x2m (e2 dEq (x2y 1 (x15 (x01 (x1d 1) (x0f))) (x0i 3) (x3n (e2 dNe (eIx (x10 0 (x10 1 (x06 3))) (x10 2 (x06 3))) (x10 2 (x06 3)))) (x06 3) false) (x5h (x0f)))
noncomputable def x14:List D->Option (D × Nat):=fnD 3 (x4r)
theorem x80:FnScope ["_law_ladder_here","_law_one","_law_other"] ["_law_ladder_here","_law_one","_law_other"] (x0e (top 48)):=⟨rfl,rfl,rfl,by decide +kernel,rfl,by decide +kernel,by decide +kernel⟩
noncomputable abbrev x4f:List Str:=["_law_ladder_here","_law_one","_law_other","_law_k"]
theorem x73:(x4f).Nodup:=by decide +kernel
theorem x8c (B:Bt mg) (a:At K mg "_law_is_no_more" (top 48) ["_law_ladder_here","_law_one","_law_other"]):Cal P w K mg base 1 "_law_is_no_more" 3 (x14):=
 Cal.mkQ (k:=0) a x80 fun f cdv A outer s H E hr=>
  x0c (x0l (z9p hr (x2z (k:=1) (N':=x4f) false rfl ⟨rfl,by decide +kernel,rfl,rfl,rfl⟩ (x0t B.m_range (x00 (x16 B.m_len (qv 1 rfl (Or.inr (Or.inl rfl)))) (x03) x0o)) (fun _ _ _ _=>x0j (i:=3) (show 3<=3 by decide) x73 rfl (Or.inl rfl) (Or.inr rfl)) (fun _ _ _ _=>x7l (x6q hr (x47 (x0p (qv 0) (x0p (qv 1) (x02 (qv 3)))) (x0p (qv 2) (x02 (qv 3)))) (x0p (qv 2) (x02 (qv 3))))) (fun _ _ _ _=>x02 (qv 3))) (x2e (x03))))
noncomputable abbrev x9b:x1a:=sIf (x3n (e2 dNe (eIx (x10 0 (x10 2 (x06 3))) (x06 4)) (x06 4))) (x2m (eC (.bl false))) (x5i)
noncomputable abbrev x5e:x1a:=x18 (x23 8 (x10 7 (x10 2 (x06 5))))
 (sIf (x3n (e2 dNe (eIx (x10 0 (x10 2 (x06 6))) (x06 8)) (x06 8))) (x2m (eC (.bl false))) (x5i))
noncomputable def x62:x1a:=x18 (x6h (x6f (x10 1 (eC (.int 2)))) (x9m (x0s (x0i 3) (x0s (x0i 4) (x3p)))) (sIf (x3n (e2 dNe (eIx (x10 0 (x10 2 (x06 3))) (x06 4)) (x06 4))) (x2m (eC (.bl false))) (x5i)))
 (x18 (x6h (x6f (x10 1 (eC (.int 1)))) (x9m (x0s (x0i 5) (x0s (x0i 6) (x0s (x0i 7) (x3p))))) (x18 (x23 8 (x10 7 (x10 2 (x06 5))))
 (sIf (x3n (e2 dNe (eIx (x10 0 (x10 2 (x06 6))) (x06 8)) (x06 8))) (x2m (eC (.bl false))) (x5i))))
 (x2m (eC (.bl true))))
noncomputable def x1y:List D->Option (D × Nat):=fnD 9 (x62)
theorem x1i:FnScope ["_law_ladder_here","_law_chart_here","_law_worths_here","_law_place","_law_worth","_law_start","_law_goal","_law_rule_here","_law_lets"] ["_law_ladder_here","_law_chart_here","_law_worths_here"] (x0e (top 49)):=⟨rfl,rfl,rfl,by decide +kernel,rfl,by decide +kernel,by decide +kernel⟩
theorem x9w (B:Bt mg) (a:At K mg "_law_is_under" (top 49) ["_law_ladder_here","_law_chart_here","_law_worths_here"]):Cal P w K mg base 1 "_law_is_under" 3 (x1y):=
 Cal.mkQ (k:=0) a x1i fun f cdv A outer s H E hr=>
  x07 (x1p PassesOwn.never rfl (x31 (x0p (qv 1 rfl (Or.inl rfl)) (x0b))) (x6z (n:=2) rfl (x1g (x0j (i:=3) (show 0<=3 by decide) x1i.nd rfl (Or.inl rfl)) (x1g (x0j (i:=4) (show 0<=4 by decide) x1i.nd rfl (Or.inl rfl)) (x51))) y2r) (x0c (x2o (x6q hr (x47 (x0p (qv 0 rfl (Or.inl rfl)) (x0p (qv 2 rfl (Or.inl rfl)) (x02 (qv 3 rfl (Or.inl rfl))))) (x02 (qv 4 rfl (Or.inl rfl)))) (x02 (qv 4 rfl (Or.inl rfl)))) (x0c (x0l (x4b))) (x1k))))
  (x07 (x1p PassesOwn.never rfl (x31 (x0p (qv 1 rfl (Or.inl rfl)) (x0b))) (x6z (n:=3) rfl (x1g (x0j (i:=5) (show 0<=5 by decide) x1i.nd rfl (Or.inl rfl)) (x1g (x0j (i:=6) (show 0<=6 by decide) x1i.nd rfl (Or.inl rfl)) (x1g (x0j (i:=7) (show 0<=7 by decide) x1i.nd rfl (Or.inl rfl)) (x51)))) y4t) (x07 (x0r (i:=8) x1i.nd rfl (Or.inl rfl) (x0p (qv 7 rfl (Or.inl rfl)) (x0p (qv 2 rfl (Or.inl rfl)) (x02 (qv 5 rfl (Or.inl rfl))))))
  (x0c (x2o (x6q hr (x47 (x0p (qv 0 rfl (Or.inl rfl)) (x0p (qv 2 rfl (Or.inl rfl)) (x02 (qv 6 rfl (Or.inl rfl))))) (x02 (qv 8 rfl (Or.inl rfl)))) (x02 (qv 8 rfl (Or.inl rfl)))) (x0c (x0l (x4b))) (x1k)))))
  (x0c (x0l (x4b))))
noncomputable abbrev z3i:x1a:=x18 (x23 6 (x0k x2x 4 (x01 (x06 0) (x01 (e2 x39 (eC (.int 200)) (e2 y22 (eC (.int 10)) (x06 5))) (x01 (x06 1) (x01 (x06 2) (x0f)))))))
 (x18 (sIf (x3n (e2 dNe (x0k x1e 3 (x01 (x06 1) (x01 (x06 2) (x01 (x06 6) (x0f))))) (x0k x1y 3 (x01 (x06 1) (x01 (x06 2) (x01 (x06 6) (x0f))))))) (x2m (eC (.bl false))) (x5i))
 (x18 (x3q (x9g 4 (x01 (x0k x2u 3 (x01 (x06 1) (x01 (x06 2) (x01 (x06 6) (x0f))))) (x0f))))
 (sIf (y88 (x3n (e2 x7h (x0k x1e 3 (x01 (x06 1) (x01 (x06 2) (x01 (x10 4 (y6l (eC (.int 1)))) (x0f))))) (eC (.bl true)))) (x4z (x88 (x0k x14 3 (x01 (x06 1) (x01 (x10 4 (y6l (eC (.int 1)))) (x01 (x06 3) (x0f)))))))) (x2m (eC (.bl false))) (x5i))))
noncomputable def z7e:x1a:=x18 (x23 1 (x0k x3b 2 (x01 (x06 0) (x01 (eC (.int 0)) (x0f)))))
 (x18 (x23 2 (x0k x3r 4 (x01 (x06 0) (x01 (eC (.int 20)) (x01 (x06 1) (x01 (eC (.bl false)) (x0f)))))))
 (x18 (x23 3 (x0k x3y 2 (x01 (x06 1) (x01 (x06 2) (x0f)))))
 (x18 (sIf (x3n (e2 x7h (x0k x1e 3 (x01 (x06 1) (x01 (x06 2) (x01 (x06 3) (x0f))))) (eC (.bl true)))) (x2m (eC (.bl false))) (x5i))
 (x18 (x23 4 (x5h (x0f)))
 (x18 (x6h (x15 (x01 (eC (.int 3)) (x0f))) (x0i 5) (x18 (x23 6 (x0k x2x 4 (x01 (x06 0) (x01 (e2 x39 (eC (.int 200)) (e2 y22 (eC (.int 10)) (x06 5))) (x01 (x06 1) (x01 (x06 2) (x0f)))))))
 (x18 (sIf (x3n (e2 dNe (x0k x1e 3 (x01 (x06 1) (x01 (x06 2) (x01 (x06 6) (x0f))))) (x0k x1y 3 (x01 (x06 1) (x01 (x06 2) (x01 (x06 6) (x0f))))))) (x2m (eC (.bl false))) (x5i))
 (x18 (x3q (x9g 4 (x01 (x0k x2u 3 (x01 (x06 1) (x01 (x06 2) (x01 (x06 6) (x0f))))) (x0f))))
 (sIf (y88 (x3n (e2 x7h (x0k x1e 3 (x01 (x06 1) (x01 (x06 2) (x01 (x10 4 (y6l (eC (.int 1)))) (x0f))))) (eC (.bl true)))) (x4z (x88 (x0k x14 3 (x01 (x06 1) (x01 (x10 4 (y6l (eC (.int 1)))) (x01 (x06 3) (x0f)))))))) (x2m (eC (.bl false))) (x5i))))))
 (x18 (x23 7 (x2r (x01 (x2y 2 (y5n (x01 (x10 4 (eC (.int 0))) (x01 (x10 4 (eC (.int 1))) (x0f)))) (x9m (x0s (x0i 11) (x0s (x0i 12) (x3p)))) (x2l) (eIx (x10 1 (x06 11)) (x06 12)) false) (x0f))))
 (x18 (sIf (x3n (e2 x7h (x0k x1e 3 (x01 (x06 1) (x01 (x06 2) (x01 (x06 7) (x0f))))) (eC (.bl true)))) (x2m (eC (.bl false))) (x5i))
 (x18 (x23 8 (x0k x2d 2 (x01 (x06 1) (x01 (x5z (x01 (x1d 1) (x0f))) (x0f)))))
 (x18 (sIf (x3n (e2 dNe (x06 3) (x0k x2u 3 (x01 (x06 1) (x01 (x06 2) (x01 (y5q (x91 (x01 (x06 8) (x0f))) (x10 2 (eC (.int 0)))) (x0f))))))) (x2m (eC (.bl false))) (x5i))
 (x18 (x23 9 (x91 (x01 (x10 2 (eC (.int 0))) (x01 (eSl (x10 2 (eC (.int 1))) (x7u (eC (.int 1))) (x8k)) (x01 (eSl (x10 2 (eC (.int 2))) (x8k) (x7u (y6l (eC (.int 1))))) (x0f))))))
 (x18 (x23 10 (eIx (x5h (x01 (x5b (x01 (x06 3) (x0f))) (x01 (z3a (x06 3) (x91 (x01 (eC (.int 0)) (x0f)))) (x01 (eC .non) (x01 (eSl (x06 3) (x7u (eC (.int 1))) (x8k)) (x0f)))))) (x0k x0d 3 (x01 (x06 0) (x01 (eC (.int 230)) (x01 (eC (.int 4)) (x0f)))))))
 (x2m (z3c (x0k x14 3 (x01 (x06 1) (x01 (x06 3) (x01 (x0k x3y 2 (x01 (x06 1) (x01 (x06 9) (x0f)))) (x0f))))) (e2 dIs (x0k x1e 3 (x01 (x06 1) (x01 (x06 2) (x01 (x06 10) (x0f))))) (eC (.bl false))))))))))))))))
noncomputable def y7k:List D->Option (D × Nat):=fnD 11 (z7e)
theorem x5t:FnScope ["_law_script","_law_ladder_here","_law_chart_here","_law_told","_law_sunk_worths","_law_k","_law_worths_here","_law_both","_law_high","_law_less","_law_bad"] ["_law_script"] (x0e (top 51)):=⟨rfl,rfl,rfl,by decide +kernel,rfl,by decide +kernel,by decide +kernel⟩
noncomputable abbrev z39:List Str:=["_law_script","_law_ladder_here","_law_chart_here","_law_told","_law_sunk_worths","_law_k","_law_worths_here","_law_both","_law_high","_law_less","_law_bad","_law_mine","_law_yours"]
theorem y80:(z39).Nodup:=by decide +kernel
theorem z50 (B:Bt mg) (c__law_ladder:Cal P w K mg base 4 "_law_ladder" 2 x3b) (c__law_chart:Cal P w K mg base 5 "_law_chart" 4 x3r) (c_greatest:Cal P w K mg base 8 "greatest" 2 x3y) (c_is_under:Cal P w K mg base 8 "is_under" 3 x1e) (c__law_worths:Cal P w K mg base 3 "_law_worths" 4 x2x) (c__law_is_under:Cal P w K mg base 1 "_law_is_under" 3 x1y) (c__law_sunk:Cal P w K mg base 5 "_law_sunk" 3 x2u) (c__law_is_no_more:Cal P w K mg base 1 "_law_is_no_more" 3 x14) (c__law_join:Cal P w K mg base 2 "_law_join" 2 x2d) (c__law_pick:Cal P w K mg base 2 "_law_pick" 3 x0d) {f:Addr} {fd:FuncData} (F:Fun K "law" "law" (top 51) f fd):FnOk P w K mg base CX0 9 f fd ["_law_script"] (spD K 1 y7k):=
 z6b (k:=8) F x5t fun f cdv A outer s H E hr=>
  x07 (x0r (i:=1) x5t.nd rfl (Or.inr rfl) (x09 c__law_ladder hr (by decide) (x00 (x02 (qv 0 rfl (Or.inl rfl))) (x00 (x0b) (x03) x08) x04)))
  (x07 (x0r (i:=2) x5t.nd rfl (Or.inl rfl) (x09 c__law_chart hr (by decide) (x00 (x02 (qv 0 rfl (Or.inl rfl))) (x00 (x0b) (x00 (x02 (qv 1 rfl (Or.inr (Or.inl rfl)))) (x00 (x4b) (x03) x08) x04) x08) x04)))
  (x07 (x0r (i:=3) x5t.nd rfl (Or.inl rfl) (x09 c_greatest hr (by decide) (x00 (x02 (qv 1 rfl (Or.inr (Or.inl rfl)))) (x00 (x02 (qv 2 rfl (Or.inl rfl))) (x03) x04) x04)))
  (x07 (x2o (x9s (x09 c_is_under hr (by decide) (x00 (x02 (qv 1 rfl (Or.inr (Or.inl rfl)))) (x00 (x02 (qv 2 rfl (Or.inl rfl))) (x00 (x02 (qv 3 rfl (Or.inl rfl))) (x03) x04) x04) x04)) (x4b)) (x0c (x0l (x4b))) (x1k))
  (x07 (x0r (i:=4) x5t.nd rfl (Or.inl rfl) (x2e (x03)))
  (x07 (x1p PassesOwn.never rfl (x0t B.m_range (x00 (x0b) (x03) x08)) (x0j (i:=5) (show 0<=5 by decide) x5t.nd rfl (Or.inl rfl)) (x07 (x0r (i:=6) x5t.nd rfl (Or.inl rfl) (x09 c__law_worths hr (by decide) (x00 (x02 (qv 0 rfl (Or.inl rfl))) (x00 (x1h (x0b) (x5r (x0b) (x02 (qv 5 rfl (Or.inl rfl))))) (x00 (x02 (qv 1 rfl (Or.inr (Or.inl rfl)))) (x00 (x02 (qv 2 rfl (Or.inl rfl))) (x03) x04) x04) x13) x04)))
  (x07 (x2o (x6q hr (x09 c_is_under hr (by decide) (x00 (x02 (qv 1 rfl (Or.inr (Or.inl rfl)))) (x00 (x02 (qv 2 rfl (Or.inl rfl))) (x00 (x02 (qv 6 rfl (Or.inl rfl))) (x03) x04) x04) x04)) (x09 c__law_is_under hr (by decide) (x00 (x02 (qv 1 rfl (Or.inr (Or.inl rfl)))) (x00 (x02 (qv 2 rfl (Or.inl rfl))) (x00 (x02 (qv 6 rfl (Or.inl rfl))) (x03) x04) x04) x04))) (x0c (x0l (x4b))) (x1k))
  (x07 (x2v (x2f (qv 4 rfl (Or.inl rfl)) (x00 (x09 c__law_sunk hr (by decide) (x00 (x02 (qv 1 rfl (Or.inr (Or.inl rfl)))) (x00 (x02 (qv 2 rfl (Or.inl rfl))) (x00 (x02 (qv 6 rfl (Or.inl rfl))) (x03) x04) x04) x04)) (x03) x0o)))
  (x0c (x2o (z26 (y4d (x9s (x09 c_is_under hr (by decide) (x00 (x02 (qv 1 rfl (Or.inr (Or.inl rfl)))) (x00 (x02 (qv 2 rfl (Or.inl rfl))) (x00 (x0p (qv 4 rfl (Or.inl rfl)) (y8k (x0b))) (x03) x0m) x04) x04)) (x4b)) (y2k (x5u (x3l (x09 c__law_is_no_more hr (by decide) (x00 (x02 (qv 1 rfl (Or.inr (Or.inl rfl)))) (x00 (x0p (qv 4 rfl (Or.inl rfl)) (y8k (x0b))) (x00 (x02 (qv 3 rfl (Or.inl rfl))) (x03) x04) x0m) x04))))))) (x0c (x0l (x4b))) (x1k)))))))
  (x07 (x0r (i:=7) x5t.nd rfl (Or.inl rfl) (x2w B.m_tuple PyProof.Rows.boot_tuple (x00 (x2z (k:=2) (N':=z39) false rfl ⟨rfl,by decide +kernel,rfl,rfl,rfl⟩ (z5c B.m_zip (x00 (x0p (qv 4 rfl (Or.inl rfl)) (x0b)) (x00 (x0p (qv 4 rfl (Or.inl rfl)) (x0b)) (x03) x0m) x0m)) (fun _ _ _ _=>x6z (n:=2) rfl (x1g (x0j (i:=11) (show 11<=11 by decide) y80 rfl (Or.inl rfl) (Or.inr rfl)) (x1g (x0j (i:=12) (show 11<=12 by decide) y80 rfl (Or.inl rfl) (Or.inr rfl)) (x51))) y2r) (fun _ _ _ _=>x2n) (fun _ _ _ _=>x47 (x0p (qv 1) (x02 (qv 11))) (x02 (qv 12)))) (x03) x2c)))
  (x07 (x2o (x9s (x09 c_is_under hr (by decide) (x00 (x02 (qv 1 rfl (Or.inr (Or.inl rfl)))) (x00 (x02 (qv 2 rfl (Or.inl rfl))) (x00 (x02 (qv 7 rfl (Or.inl rfl))) (x03) x04) x04) x04)) (x4b)) (x0c (x0l (x4b))) (x1k))
  (x07 (x0r (i:=8) x5t.nd rfl (Or.inl rfl) (x09 c__law_join hr (by decide) (x00 (x02 (qv 1 rfl (Or.inr (Or.inl rfl)))) (x00 (x9k rfl B.m_list PyProof.Rows.boot_list B.m_range (x00 (x16 B.m_len (qv 1 rfl (Or.inr (Or.inl rfl)))) (x03) x0o)) (x03) x0o) x04)))
  (x07 (x2o (x6q hr (x02 (qv 3 rfl (Or.inl rfl))) (x09 c__law_sunk hr (by decide) (x00 (x02 (qv 1 rfl (Or.inr (Or.inl rfl)))) (x00 (x02 (qv 2 rfl (Or.inl rfl))) (x00 (y97 (x4d (x00 (x02 (qv 8 rfl (Or.inl rfl))) (x03) x04)) (x0p (qv 2 rfl (Or.inl rfl)) (x0b))) (x03) x13) x04) x04))) (x0c (x0l (x4b))) (x1k))
  (x07 (x0r (i:=9) x5t.nd rfl (Or.inl rfl) (x4d (x00 (x0p (qv 2 rfl (Or.inl rfl)) (x0b)) (x00 (y83 (x0p (qv 2 rfl (Or.inl rfl)) (x0b)) (x7c (x0b)) (x7q)) (x00 (y83 (x0p (qv 2 rfl (Or.inl rfl)) (x0b)) (x7q) (x7c (y8k (x0b)))) (x03) x0m) x0m) x0m)))
  (x07 (x0r (i:=10) x5t.nd rfl (Or.inl rfl) (x47 (x2e (x00 (y4e B.m_list PyProof.Rows.boot_list (x00 (x02 (qv 3 rfl (Or.inl rfl))) (x03) x04)) (x00 (y9p (x02 (qv 3 rfl (Or.inl rfl))) (x4d (x00 (x0b) (x03) x08))) (x00 (z36) (x00 (y83 (x02 (qv 3 rfl (Or.inl rfl))) (x7c (x0b)) (x7q)) (x03) x0m) x08) x13) x0o)) (x09 c__law_pick hr (by decide) (x00 (x02 (qv 0 rfl (Or.inl rfl))) (x00 (x0b) (x00 (x0b) (x03) x08) x08) x04))))
  (x0c (x0l (y7y (x09 c__law_is_no_more hr (by decide) (x00 (x02 (qv 1 rfl (Or.inr (Or.inl rfl)))) (x00 (x02 (qv 3 rfl (Or.inl rfl))) (x00 (x09 c_greatest hr (by decide) (x00 (x02 (qv 1 rfl (Or.inr (Or.inl rfl)))) (x00 (x02 (qv 9 rfl (Or.inl rfl))) (x03) x04) x04)) (x03) x0o) x04) x04)) (y9k (j1c (x09 c_is_under hr (by decide) (x00 (x02 (qv 1 rfl (Or.inr (Or.inl rfl)))) (x00 (x02 (qv 2 rfl (Or.inl rfl))) (x00 (x02 (qv 10 rfl (Or.inl rfl))) (x03) x04) x04) x04)) (x4b)))))))))))))))))
end
noncomputable abbrev scr (ns:List Int):D:=.lst (ns.map D.int)
noncomputable def z18 (ns:List Int) (k:Int):Int:=if k<ns.length then ns.getD k.toNat 0 else if ns=[]then 0 else ns.getD (k % ns.length).toNat 0*31+k
theorem z3d {ns:List Int} {k:Int} (h0:0<=k) (h:k<ns.length):L2.atI (ns.map D.int) k=some (.int (ns.getD k.toNat 0)):=by
 obtain⟨m,rfl⟩:∃ m:Nat,k=Int.ofNat m:=⟨k.toNat,by show k=(k.toNat:Int); omega⟩
 have hk:m<ns.length:=by have:(m:Int)<ns.length:=h; omega
 apply y48
 rw[List.getElem?_map,List.getElem?_eq_getElem hk]
 simp[hk]
theorem z9i (ns:List Int):Sh 1 (scr ns):=.lst fun d m=>by
 obtain⟨x,_,rfl⟩:=List.mem_map.mp m
 exact .int _
theorem z34 (ns:List Int):dEq (scr ns) (.lst [])=some (.bl (decide (ns=[]))):=by
 unfold dEq
 rw[if_pos ⟨(z9i ns).ok,(z7u []).ok⟩]
 cases ns <;> rfl
theorem z4a (ns:List Int) (k:Int) (h0:0<=k):x41 [scr ns,.int k]=some (.int (z18 ns k),9):=by
 unfold x41 y0j z18
 by_cases h:k<ns.length
 ·simp[h,z3d h0 h,x79,atD]
 ·by_cases hn:ns=[]
  ·subst hn
   have h':¬ k<0:=by omega
   simp[h',x79,z34]
  ·have hp:(0:Int)<ns.length:=by have:=List.length_pos_iff.mpr hn; omega
   have h1:=Int.emod_nonneg k (Int.ne_of_gt hp)
   have h2:=Int.emod_lt_of_pos k hp
   have h3:=z3d h1 h2
   have hp':=List.length_pos_iff.mpr hn
   simp[h,x79,atD,z34,hn,hp',h3]
noncomputable def x94 (ns:List Int) (k:Int):Int:=(z18 ns k+6151*(k+1))*40692 % 2147483399
noncomputable def x6j (ns:List Int) (k m:Int):Int:=(x94 ns k*x94 ns k+x94 ns k / 31) % 2147483629 % m
theorem x5j (ns:List Int) (k m:Int) (h0:0<=k) (hm:0<m):x0d [scr ns,.int k,.int m]=some (.int (x6j ns k m),9):=by
 have d0:0<=x94 ns k:=Int.emod_nonneg _ (by decide)
 have d1:x94 ns k<2147483399:=Int.emod_lt_of_pos _ (by decide)
 have g1:-18446744073709551616<x94 ns k:=by omega
 have g2:x94 ns k<18446744073709551616:=by omega
 have hd:(z18 ns k+6151*(k+1))*40692 % 2147483399=x94 ns k:=rfl
 unfold x0d y0m x6j
 simp[z4a ns k h0,hm,hd,g1,g2]
theorem x58 (ns:List Int) (k:Int) {m:Int} (hm:0<m):0<=x6j ns k m:=Int.emod_nonneg _ (Int.ne_of_gt hm)
theorem x5o (ns:List Int) (k:Int) {m:Int} (hm:0<m):x6j ns k m<m:=Int.emod_lt_of_pos _ hm
noncomputable def tf (rows:List (List Nat)) (i j:Nat):Nat:=(rows.getD i []).getD j 0
noncomputable def x38 (rows:List (List Nat)):D:=x3h rows.length (tf rows)
noncomputable def ch (n:Nat):List (List Nat):=(List.range n).map fun i=>(List.range n).map fun j=>max i j
noncomputable def cp (a b:List (List Nat)):List (List Nat):=(List.range (a.length*b.length)).map fun i=>(List.range (a.length*b.length)).map fun j=>tf a (i / b.length) (j / b.length)*b.length+tf b (i % b.length) (j % b.length)
noncomputable def sb (n:Nat):List (List Nat):=(List.range (n+2)).map fun i=>(List.range (n+2)).map fun j=>if i=0\/j=0\/i=j then max i j else n+1
noncomputable def n5:List (List Nat):=[[0,1,2,3,4],[1,1,2,4,4],[2,2,2,4,4],[3,4,4,3,4],[4,4,4,4,4]]
noncomputable def y39:List (List (List Nat)):=[ch 1,ch 2,ch 3,ch 4,ch 5,cp (ch 2) (ch 2),cp (ch 2) (ch 3),cp (ch 2) (ch 4),sb 0,sb 1,sb 2,sb 3,sb 4,cp (ch 2) (cp (ch 2) (ch 2)),n5]
theorem ch1:x12 [.int 1]=some (x38 (ch 1),1):=by rfl
theorem ch2:x12 [.int 2]=some (x38 (ch 2),1):=by rfl
theorem ch3:x12 [.int 3]=some (x38 (ch 3),1):=by rfl
theorem ch4:x12 [.int 4]=some (x38 (ch 4),1):=by rfl
theorem ch5:x12 [.int 5]=some (x38 (ch 5),1):=by rfl
theorem sb0:x0v [.int 0]=some (x38 (sb 0),0):=by rfl
theorem sb1:x0v [.int 1]=some (x38 (sb 1),0):=by rfl
theorem sb2:x0v [.int 2]=some (x38 (sb 2),0):=by rfl
theorem sb3:x0v [.int 3]=some (x38 (sb 3),0):=by rfl
theorem sb4:x0v [.int 4]=some (x38 (sb 4),0):=by rfl
theorem j2q:x1c [x38 (ch 2),x38 (ch 2)]=some (x38 (cp (ch 2) (ch 2)),0):=by rfl
theorem j34:x1c [x38 (ch 2),x38 (ch 3)]=some (x38 (cp (ch 2) (ch 3)),0):=by rfl
theorem j2t:x1c [x38 (ch 2),x38 (ch 4)]=some (x38 (cp (ch 2) (ch 4)),0):=by rfl
theorem j1z:x1c [x38 (ch 2),x38 (cp (ch 2) (ch 2))]=some (x38 (cp (ch 2) (cp (ch 2) (ch 2))),0):=by rfl
theorem z5x (ns:List Int) (t:Int) (h0:0<=t):∃ rows∈y39,∃ q,x46 [scr ns,.int t]=some (x38 rows,q):=by
 have k0:=x58 ns t (m:=9) (by decide)
 have k1:=x5o ns t (m:=9) (by decide)
 have p0:=x58 ns (t+1) (m:=5) (by decide)
 have p1:=x5o ns (t+1) (m:=5) (by decide)
 have r0:=x58 ns (t+1) (m:=3) (by decide)
 have r1:=x5o ns (t+1) (m:=3) (by decide)
 have e9:=x5j ns t 9 h0 (by decide)
 have e5:=x5j ns (t+1) 5 (by omega) (by decide)
 have e3:=x5j ns (t+1) 3 (by omega) (by decide)
 have mem:∀ i:Nat,i<15->y39.getD i []∈y39:=fun i hi=>by
  rw[List.getD_eq_getElem?_getD,List.getElem?_eq_getElem (show i<y39.length from hi)]
  exact List.getElem_mem _
 have hc:∀ p:Int,0<=p->p<5->∃ rows∈y39,x12 [.int (1+p)]=some (x38 rows,1):=fun p a b=>by
  have:p=0\/p=1\/p=2\/p=3\/p=4:=by omega
  rcases this with rfl | rfl | rfl | rfl | rfl
  ·exact⟨_,mem 0 (by decide),ch1⟩
  ·exact⟨_,mem 1 (by decide),ch2⟩
  ·exact⟨_,mem 2 (by decide),ch3⟩
  ·exact⟨_,mem 3 (by decide),ch4⟩
  ·exact⟨_,mem 4 (by decide),ch5⟩
 have hs:∀ p:Int,0<=p->p<5->∃ rows∈y39,x0v [.int p]=some (x38 rows,0):=fun p a b=>by
  have:p=0\/p=1\/p=2\/p=3\/p=4:=by omega
  rcases this with rfl | rfl | rfl | rfl | rfl
  ·exact⟨_,mem 8 (by decide),sb0⟩
  ·exact⟨_,mem 9 (by decide),sb1⟩
  ·exact⟨_,mem 10 (by decide),sb2⟩
  ·exact⟨_,mem 11 (by decide),sb3⟩
  ·exact⟨_,mem 12 (by decide),sb4⟩
 have hp:∀ r:Int,0<=r->r<3->∃ x rows1 rows,atD (.lst [.int 2,.int 3,.int 4]) r=some (.int x)/\x12 [.int x]=some (x38 rows1,1)/\rows∈y39/\x1c [x38 (ch 2),x38 rows1]=some (x38 rows,0):=fun r a b=>by
  have:r=0\/r=1\/r=2:=by omega
  rcases this with rfl | rfl | rfl
  ·exact⟨2,_,_,rfl,ch2,mem 5 (by decide),j2q⟩
  ·exact⟨3,_,_,rfl,ch3,mem 6 (by decide),j34⟩
  ·exact⟨4,_,_,rfl,ch4,mem 7 (by decide),j2t⟩
 unfold x46 y0d
 generalize x6j ns t 9=k at *
 generalize x6j ns (t+1) 5=p at *
 generalize x6j ns (t+1) 3=r at *
 by_cases h3:k<3
 ·obtain⟨rows,hm,e⟩:=hc p p0 p1
  exact⟨rows,hm,1,by simp[e9,e5,h3,e]⟩
 by_cases h5:k<5
 ·obtain⟨x,rows1,rows,ea,e1,hm,e2'⟩:=hp r r0 r1
  exact⟨rows,hm,0,by simp[e9,e3,h3,h5,ch2,ea,e1,e2']⟩
 by_cases h7:k<7
 ·obtain⟨rows,hm,e⟩:=hs p p0 p1
  exact⟨rows,hm,0,by simp[e9,e5,h3,h5,h7,e]⟩
 have:k=7\/k=8:=by omega
 rcases this with rfl | rfl
 ·exact⟨_,mem 13 (by decide),0,by simp[e9,y7n,ch2,j2q]; exact j1z⟩
 ·refine⟨_,mem 14 (by decide),0,?_⟩
  simp[e9,y7n]
  rfl
theorem z1a:∀ rows∈y39,j1v rows.length (tf rows)=true:=by decide +kernel
noncomputable def pk (ns:List Int) (t:Int) (k m:Nat):Nat:=(x6j ns (t+2+Int.ofNat k) (Int.ofNat m)).toNat
theorem z6j (ns:List Int) (t:Int) (k m:Nat) (h:0<m):pk ns t k m<m:=by
 have h1:=x58 ns (t+2+Int.ofNat k) (m:=Int.ofNat m) (by show(0:Int)<m; omega)
 have h2:=x5o ns (t+2+Int.ofNat k) (m:=Int.ofNat m) (by show(0:Int)<m; omega)
 have h3:(Int.ofNat m)=(m:Int):=rfl
 unfold pk
 omega
theorem j1x (ns:List Int) (t:Int) (k m:Nat) (h:0<m):x6j ns (t+2+Int.ofNat k) (Int.ofNat m)=Int.ofNat (pk ns t k m):=by
 have h1:=x58 ns (t+2+Int.ofNat k) (m:=Int.ofNat m) (by show(0:Int)<m; omega)
 unfold pk
 show _=((x6j ns (t+2+Int.ofNat k) (Int.ofNat m)).toNat:Int)
 omega
section
variable (ns:List Int) (t:Int) (n:Nat) (B:Nat->Nat->Nat) (q:Nat)
theorem z1t (h0:0<=t) (hn:n<=16):x6l 1 (x0i 8) x2l (z6s 3 (x01 (x0k x0d 3 (x01 (x06 0) (x01 (e2 x39 (e2 x39 (x06 1) (eC (.int 2))) (x06 8)) (x01 (x1d 3) (x0f))))) (x0f))) false (x17 n)
  [some (scr ns,0),some (.int t,9),some (x3h n B,q),some (.lst (x17 n),1),none,none,none,none] =
  some (x05 ((List.range n).map (drawn (pk ns t) n)),[some (scr ns,0),some (.int t,9),some (x3h n B,q),some (.lst [],1),none,none,none,none]):=by
 have hp:=z6j ns t
 have h:=x3m (k:=1) (pt:=x0i 8) (tt:=x2l) (te:=z6s 3 (x01 (x0k x0d 3 (x01 (x06 0) (x01 (e2 x39 (e2 x39 (x06 1) (eC (.int 2))) (x06 8)) (x01 (x1d 3) (x0f))))) (x0f))) (deep:=false) (x17 n)
  (fun k=>[some (scr ns,0),some (.int t,9),some (x3h n B,q),some (.lst (x05 (x5f (pk ns t) n k)),1),none,none,none,none]) (fun _=>true) (fun k=>.int (Int.ofNat (drawn (pk ns t) n k))) (fun k hk=>?_)
 ·rw[x0z]at h
  have hl:x5f (pk ns t) n n=[]:=List.length_eq_zero_iff.mp (by rw[x81 hp n (Nat.le_refl n)]; omega)
  rw[hl]at h
  have e1:(List.range n).filter (fun _=>true)=List.range n:=by simp
  rw[e1]at h
  simp only[x05,List.map_map,Function.comp_def]
  exact h
 ·rw[x0z]at hk
  have hl:=x81 hp k (Nat.le_of_lt hk)
  have hlp:0<(x5f (pk ns t) n k).length:=by rw[hl]; omega
  have e:=j1x ns t k _ hlp
  have hj:=z6j ns t k _ hlp
  have hpk:=x5j ns (t+2+Int.ofNat k) (Int.ofNat (x5f (pk ns t) n k).length) (by show 0<=t+2+(k:Int); omega) (by show(0:Int)<((x5f (pk ns t) n k).length:Int); omega)
  have hs:seqIndex? (Int.ofNat (pk ns t k (x5f (pk ns t) n k).length)) (x05 (x5f (pk ns t) n k)).length=some (pk ns t k (x5f (pk ns t) n k).length):=(y56 (x8m (by rw[x11]; exact hj))).1
  have hg:(x05 (x5f (pk ns t) n k))[pk ns t k (x5f (pk ns t) n k).length]? = some (.int (Int.ofNat (drawn (pk ns t) n k))):=by
   rw[y6r]
   unfold drawn
   rw[List.getD_eq_getElem?_getD,List.getElem?_eq_getElem hj]
   rfl
  have hb:pk ns t k (x5f (pk ns t) n k).length<=16:=by omega
  have he:(x05 (x5f (pk ns t) n k)).eraseIdx (pk ns t k (x5f (pk ns t) n k).length)=x05 (x5f (pk ns t) n (k+1)):=by rw[x5f,y1f]
  refine⟨[some (scr ns,0),some (.int t,9),some (x3h n B,q),some (.lst (x05 (x5f (pk ns t) n k)),1),none,none,none,none,some (.int (Int.ofNat k),9)],_,by simp[x17],rfl,?_⟩
  rw[if_pos rfl]
  refine⟨9,[some (scr ns,0),some (.int t,9),some (x3h n B,q),some (.lst (x05 (x5f (pk ns t) n (k+1))),1),none,none,none,none,some (.int (Int.ofNat k),9)],?_,by simp,by simp⟩
  have b1:(-1000:Int)<=Int.ofNat (pk ns t k (x5f (pk ns t) n k).length):=by show(-1000:Int)<=(pk ns t k (x5f (pk ns t) n k).length:Int); omega
  have b2:Int.ofNat (pk ns t k (x5f (pk ns t) n k).length)<=1000:=by show(pk ns t k (x5f (pk ns t) n k).length:Int)<=1000; omega
  have hl':x79 (.lst (x05 (x5f (pk ns t) n k)))=some (x5f (pk ns t) n k).length:=by simp[x79,x11]
  rw[e]at hpk
  simp[-Int.ofNat_eq_natCast,hl',hpk,hs,hg,he,b1,b2]
theorem z3u (hn:n<=16) (x:Option (D × Nat)):x6l 1 (x0i 8) x2l (y50 (x5h (x01 (eC (.int 0)) (x0f))) (x1d 2)) true ((List.range n).map fun i=>x7j n B i)
  [some (scr ns,0),some (.int t,9),some (x3h n B,0),some (.lst [],1),x,none,none,none] =
  some ((List.range n).map fun i=>x7j n (fun _ _=>0) i,[some (scr ns,0),some (.int t,9),some (x3h n B,0),some (.lst [],1),x,none,none,none]):=by
 have h:=x3m (k:=1) (pt:=x0i 8) (tt:=x2l) (te:=y50 (x5h (x01 (eC (.int 0)) (x0f))) (x1d 2)) (deep:=true) ((List.range n).map fun i=>x7j n B i)
  (fun _=>[some (scr ns,0),some (.int t,9),some (x3h n B,0),some (.lst [],1),x,none,none,none]) (fun _=>true) (fun i=>x7j n (fun _ _=>0) i) (fun k hk=>?_)
 ·rw[List.length_map,List.length_range,show(List.range n).filter (fun _=>true)=List.range n by simp]at h
  exact h
 ·refine⟨[some (scr ns,0),some (.int t,9),some (x3h n B,0),some (.lst [],1),x,none,none,none,some (x7j n B k,0)],_,by simp[x7j],rfl,?_⟩
  rw[if_pos rfl]
  refine⟨1,[some (scr ns,0),some (.int t,9),some (x3h n B,0),some (.lst [],1),x,none,none,none,some (x7j n B k,0)],?_,by simp,by simp⟩
  have z:x7j n (fun _ _=>0) k=D.lst (List.replicate n [D.int 0]).flatten:=(j1u n).symm
  have b1:(-1000:Int)<=n:=by omega
  have b2:(n:Int)<=1000:=by omega
  have b3:n<=1000:=by omega
  rw[z]
  simp[x87,b1,b2,b3]
noncomputable def gst (π ι:Nat->Nat) (i j a b:Nat):Nat:=if ι a<i\/(ι a=i/\ι b<j)then π (B (ι a) (ι b))else 0
noncomputable abbrev y5r:x1a:=y7g 5 (qIx 4 (y69 6)) (qIx 4 (y69 7)) (x10 4 (eIx (x10 2 (x06 6)) (x06 7)))
section
variable {n B} {π ι:Nat->Nat} (cl:∀ i j,i<n->j<n->B i j<n) (h1:∀ i,i<n->π i<n) (h2:∀ i,i<n->ι i<n) (h3:∀ i,i<n->ι (π i)=i) (h4:∀ i,i<n->π (ι i)=i)
include cl h1 h2 h3 h4
theorem y9g {f:Nat->Nat->Nat} {i j:Nat} (hi:i<n) (hj:j<n) {y:Option (D × Nat)} :
  y5r [some (scr ns,0),some (.int t,9),some (x3h n B,0),some (.lst [],1),some (.lst (x05 ((List.range n).map π)),1),some (x3h n f,2),some (.int (Int.ofNat i),9),some (.int (Int.ofNat j),9)] =
  some (.nx [some (scr ns,0),some (.int t,9),some (x3h n B,0),some (.lst [],1),some (.lst (x05 ((List.range n).map π)),1),some (x3h n (fun a b=>if a=π i/\b=π j then π (B i j)else f a b),2),some (.int (Int.ofNat i),9),some (.int (Int.ofNat j),9)]):=by
 have a1:=z53 (f:=B) hi
 have a2:=z42 (f:=B) (i:=i) hj
 have a3:atD (.lst (x05 ((List.range n).map π))) (Int.ofNat (B i j))=some (.int (Int.ofNat (π (B i j)))):=x28 (cl i j hi hj)
 have a4:atD (.lst (x05 ((List.range n).map π))) (Int.ofNat i)=some (.int (Int.ofNat (π i))):=x28 hi
 have a5:atD (.lst (x05 ((List.range n).map π))) (Int.ofNat j)=some (.int (Int.ofNat (π j))):=x28 hj
 have a6:ixN ((List.range n).map fun a=>x7j n f a).length (Int.ofNat (π i))=some (π i):=x8m (by simpa using h1 i hi)
 have a7:((List.range n).map fun a=>x7j n f a)[π i]? = some (.lst (x05 ((List.range n).map fun b=>f (π i) b))):=by rw[List.getElem?_map,List.getElem?_range (h1 i hi)]; rfl
 have a8:ixN (x05 ((List.range n).map fun b=>f (π i) b)).length (Int.ofNat (π j))=some (π j):=x8m (by simpa [x11]using h1 j hj)
 have a9:=z2q (n:=n) (f:=f) (a:=π i) (b:=π j) (v:=π (B i j))
 rw[<- a9]
 show y5r [some (scr ns,0),some (.int t,9),some (x3h n B,0),some (.lst [],1),some (.lst (x05 ((List.range n).map π)),1),some (.lst ((List.range n).map fun a=>x7j n f a),2),some (.int (Int.ofNat i),9),some (.int (Int.ofNat j),9)]=_
 unfold y5r
 simp only[y7g,x10,eIx,x06,qIx,y69,List.getElem?_cons_succ,List.getElem?_cons_zero,D.isL,if_true,a1,a2,a3,a4,a5,a6,a7,a8,ne_eq,not_true_eq_false,false_and,and_false,if_false,Bool.false_eq_true,reduceCtorEq,Nat.not_lt_zero,Nat.lt_irrefl,x3t,List.set_cons_succ,List.set_cons_zero]
noncomputable abbrev y6k (f:Nat->Nat->Nat) (x y:Option (D × Nat)):Rho:=[some (scr ns,0),some (.int t,9),some (x3h n B,0),some (.lst [],1),some (.lst (x05 ((List.range n).map π)),1),some (x3h n f,2),x,y]
omit cl h1 h2 h3 h4
theorem x6e {i:Nat} (h:i<(x17 n).length):(x17 n)[i]=.int (Int.ofNat i):=by simp[x17]
include cl h1 h2 h3 h4
theorem z24 {i j:Nat} (hi:i<n) (hj:j<n):x3h n (fun a b=>if a=π i/\b=π j then π (B i j)else gst B π ι i j a b)=x3h n (gst B π ι i (j+1)):=by
 refine x68 fun a b ha hb=>?_
 unfold gst
 by_cases h:a=π i/\b=π j
 ·obtain⟨rfl,rfl⟩:=h
  rw[if_pos ⟨rfl,rfl⟩,h3 i hi,h3 j hj,if_pos (.inr ⟨rfl,Nat.lt_succ_self _⟩)]
 ·rw[if_neg h]
  have:¬ (ι a=i/\ι b=j):=fun⟨e1,e2⟩=>h ⟨by rw[<- e1,h4 a ha],by rw[<- e2,h4 b hb]⟩
  by_cases c:ι a<i\/ι a=i/\ι b<j
  ·rw[if_pos c,if_pos (by omega)]
  ·rw[if_neg c,if_neg (by omega)]
theorem z6m {i:Nat}:x3h n (gst B π ι i n)=x3h n (gst B π ι (i+1) 0):=by
 refine x68 fun a b ha hb=>?_
 have:=h2 b hb
 unfold gst
 by_cases c:ι a<i\/ι a=i/\ι b<n
 ·rw[if_pos c,if_pos (by omega)]
 ·rw[if_neg c,if_neg (by omega)]
theorem z0h (hn:n<=16) {i:Nat} (hi:i<n) (y:Option (D × Nat)):∃ y',x75 (x0i 7) y5r (x17 n) (y6k ns t (n:=n) (B:=B) (π:=π) (gst B π ι i 0) (some (.int (Int.ofNat i),9)) y) =
  some (.nx (y6k ns t (n:=n) (B:=B) (π:=π) (gst B π ι (i+1) 0) (some (.int (Int.ofNat i),9)) y')):=by
 obtain⟨ρ',e,y',rfl⟩:=x3w (pt:=x0i 7) (body:=y5r) (x17 n) (fun j ρ=>∃ y,ρ=y6k ns t (n:=n) (B:=B) (π:=π) (gst B π ι i j) (some (.int (Int.ofNat i),9)) y) (y6k ns t (n:=n) (B:=B) (π:=π) (gst B π ι i 0) (some (.int (Int.ofNat i),9)) y) (fun j hj ρ hh0=>by
  obtain⟨y,hy⟩:=hh0
  subst hy
  rw[x0z]at hj
  refine⟨y6k ns t (n:=n) (B:=B) (π:=π) (gst B π ι i j) (some (.int (Int.ofNat i),9)) (some (.int (Int.ofNat j),9)),_,by rw[x6e]; simp,.inl (y9g ns t cl h1 h2 h3 h4 hi hj (y:=none)),?_⟩
  rw[z24 cl h1 h2 h3 h4 hi hj]
  exact⟨_,rfl⟩) ⟨y,rfl⟩
 refine⟨y',?_⟩
 rw[e,x0z]
 show some (Out.nx [_,_,_,_,_,some (x3h n (gst B π ι i n),2),_,_])=_
 rw[z6m cl h1 h2 h3 h4]
theorem z13 (hn:n<=16) (x y:Option (D × Nat)):∃ x' y',x75 (x0i 6) (x6h (x15 (x01 (x1d 2) x0f)) (x0i 7) y5r) (x17 n) (y6k ns t (n:=n) (B:=B) (π:=π) (fun _ _=>0) x y) =
  some (.nx (y6k ns t (n:=n) (B:=B) (π:=π) (fun a b=>π (B (ι a) (ι b))) x' y')):=by
 have z:x3h n (fun _ _=>0)=x3h n (gst B π ι 0 0):=x68 fun a b _ _=>by unfold gst; rw[if_neg (by omega)]
 have z':x3h n (gst B π ι n 0)=x3h n (fun a b=>π (B (ι a) (ι b))):=x68 fun a b ha _=>by unfold gst; rw[if_pos (.inl (h2 a ha))]
 obtain⟨ρ',e,x',y',rfl⟩:=x3w (pt:=x0i 6) (body:=x6h (x15 (x01 (x1d 2) x0f)) (x0i 7) y5r) (x17 n) (fun i ρ=>∃ x y,ρ=y6k ns t (n:=n) (B:=B) (π:=π) (gst B π ι i 0) x y) (y6k ns t (n:=n) (B:=B) (π:=π) (gst B π ι 0 0) x y) (fun i hi ρ hh0=>by
  obtain⟨x,y,hy⟩:=hh0
  subst hy
  rw[x0z]at hi
  obtain⟨y',hy'⟩:=z0h ns t cl h1 h2 h3 h4 hn hi y
  refine⟨y6k ns t (n:=n) (B:=B) (π:=π) (gst B π ι i 0) (some (.int (Int.ofNat i),9)) y,_,by rw[x6e]; simp,.inl (show _=some (Out.nx (y6k ns t (n:=n) (B:=B) (π:=π) (gst B π ι (i+1) 0) (some (.int (Int.ofNat i),9)) y'))from ?_),⟨_,_,rfl⟩⟩
  have b1:(-1000:Int)<=Int.ofNat n:=by show(-1000:Int)<=n; omega
  have b2:Int.ofNat n<=1000:=by show(n:Int)<=1000; omega
  have e:x15 (x01 (x1d 2) x0f) (y6k ns t (n:=n) (B:=B) (π:=π) (gst B π ι i 0) (some (.int (Int.ofNat i),9)) y)=some (x17 n,y6k ns t (n:=n) (B:=B) (π:=π) (gst B π ι i 0) (some (.int (Int.ofNat i),9)) y):=by
   simp[-Int.ofNat_eq_natCast,x87,b1,b2]
   rfl
  unfold x6h
  rw[e]
  exact hy') ⟨x,y,rfl⟩
 refine⟨x',y',?_⟩
 show x75 _ _ _ [_,_,_,_,_,some (x3h n (fun _ _=>0),2),_,_]=some (.nx [_,_,_,_,_,some (x3h n (fun a b=>π (B (ι a) (ι b))),2),_,_])
 rw[z,<- z']
 rw[x0z]at e
 exact e
end
end
theorem z1s {n:Nat} {f:Nat->Nat->Nat} {a b c d e:Option (D × Nat)} {x y:Option (D × Nat)}:x6l 1 (x0i 8) x2l (x2r (x01 (x06 8) x0f)) false ((List.range n).map fun i=>x7j n f i) [a,b,c,d,e,some (x3h n f,0),x,y] =
  some ((List.range n).map fun i=>y2i n f i,[a,b,c,d,e,some (x3h n f,0),x,y]):=by
 have h:=x3m (k:=1) (pt:=x0i 8) (tt:=x2l) (te:=x2r (x01 (x06 8) x0f)) (deep:=false) ((List.range n).map fun i=>x7j n f i)
  (fun _=>[a,b,c,d,e,some (x3h n f,0),x,y]) (fun _=>true) (fun i=>y2i n f i) (fun k hk=>?_)
 ·rw[List.length_map,List.length_range,show(List.range n).filter (fun _=>true)=List.range n by simp]at h
  exact h
 ·refine⟨[a,b,c,d,e,some (x3h n f,0),x,y,some (x7j n f k,0)],_,by simp[x7j],rfl,?_⟩
  rw[if_pos rfl]
  exact⟨9,[a,b,c,d,e,some (x3h n f,0),x,y,some (x7j n f k,0)],by simp[x7j,y2i],by simp,by simp⟩
theorem x4k {n:Nat} (hn:n<=1000) {i:Nat} {ρ:Rho} {d:D} {q:Nat} (h:ρ[i]? = some (some (d,q))) (hl:x79 d=some n):x15 (x01 (x1d i) x0f) ρ=some (x17 n,ρ):=by
 have b1:(-1000:Int)<=Int.ofNat n:=by show(-1000:Int)<=n; omega
 have b2:Int.ofNat n<=1000:=by show(n:Int)<=1000; omega
 simp only[x15,x01,x1d,x0f,h,hl]
 rw[if_pos ⟨b1,b2⟩]
 rfl
theorem j04 (ns:List Int) (t:Int) (h0:0<=t):∃ n f,Lad n f/\x3b [scr ns,.int t]=some (x0q n f,9):=by
 obtain⟨rows,hm,q,hb⟩:=z5x ns t h0
 have L:=z41 (z1a rows hm)
 unfold x38 at hb
 revert hb L
 generalize rows.length=n
 generalize tf rows=B
 intro hb L
 have hp:=z6j ns t
 have hn:n<=1000:=Nat.le_trans L.hi (by decide)
 refine⟨n,fun a b=>drawn (pk ns t) n (B (x3e (pk ns t) n a) (x3e (pk ns t) n b)),L.ren (fun i hi=>y6b hp hi) (fun i hi=>y20 hp hi) (fun i hi=>x7x hp hi) (fun i hi=>x7i hp hi),?_⟩
 unfold x3b x7y
 refine x21 ?_
 have s0:x3f 8 [scr ns,.int t]=[some (scr ns,0),some (.int t,9),none,none,none,none,none,none]:=rfl
 rw[s0]
 refine(x0h (ρ1:=[some (scr ns,0),some (.int t,9),some (x3h n B,q),none,none,none,none,none]) ?_).trans ?_
 ·simp[hb]
 refine(x0h (ρ1:=[some (scr ns,0),some (.int t,9),some (x3h n B,q),some (.lst (x17 n),1),none,none,none,none]) ?_).trans ?_
 ·exact x3i (y0q (x4k hn rfl x87)) rfl
 refine(x0h (ρ1:=[some (scr ns,0),some (.int t,9),some (x3h n B,q),some (.lst [],1),some (.lst (x05 ((List.range n).map (drawn (pk ns t) n))),1),none,none,none]) ?_).trans ?_
 ·exact x3i (x1w (x4k hn rfl x87) (z1t ns t n B q h0 L.hi)) rfl
 refine(x0h (ρ1:=[some (scr ns,0),some (.int t,9),some (x3h n B,0),some (.lst [],1),some (.lst (x05 ((List.range n).map (drawn (pk ns t) n))),1),some (x3h n (fun _ _=>0),2),none,none]) ?_).trans ?_
 ·have e:x6f (x06 2) [some (scr ns,0),some (.int t,9),some (x3h n B,q),some (.lst [],1),some (.lst (x05 ((List.range n).map (drawn (pk ns t) n))),1),none,none,none]=some ((List.range n).map fun i=>x7j n B i,[some (scr ns,0),some (.int t,9),some (x3h n B,0),some (.lst [],1),some (.lst (x05 ((List.range n).map (drawn (pk ns t) n))),1),none,none,none]):=by
   by_cases hq:q=0
   ·subst hq; simp[x3h,hn]
   ·simp[x3h,hn,hq]
  exact x3i (x1w e (z3u ns t n B L.hi _)) rfl
 obtain⟨x',y',hf⟩:=z13 ns t (n:=n) (B:=B) (π:=drawn (pk ns t) n) (ι:=x3e (pk ns t) n) L.cl (fun i hi=>y6b hp hi) (fun i hi=>y20 hp hi) (fun i hi=>x7x hp hi) (fun i hi=>x7i hp hi) L.hi none none
 refine(x0h ((x1z (x4k hn rfl x87)).trans hf)).trans ?_
 refine x2t (ρ1:=[some (scr ns,0),some (.int t,9),some (x3h n B,0),some (.lst [],1),some (.lst (x05 ((List.range n).map (drawn (pk ns t) n))),1),some (x3h n (fun a b=>drawn (pk ns t) n (B (x3e (pk ns t) n a) (x3e (pk ns t) n b))),0),x',y']) ?_
 have e:x6f (x06 5) (y6k ns t (n:=n) (B:=B) (π:=drawn (pk ns t) n) (fun a b=>drawn (pk ns t) n (B (x3e (pk ns t) n a) (x3e (pk ns t) n b))) x' y')=some ((List.range n).map fun i=>x7j n (fun a b=>drawn (pk ns t) n (B (x3e (pk ns t) n a) (x3e (pk ns t) n b))) i,[some (scr ns,0),some (.int t,9),some (x3h n B,0),some (.lst [],1),some (.lst (x05 ((List.range n).map (drawn (pk ns t) n))),1),some (x3h n (fun a b=>drawn (pk ns t) n (B (x3e (pk ns t) n a) (x3e (pk ns t) n b))),0),x',y']):=by
  simp[x3h,hn]
 have e2:=x1w (k:=1) (pt:=x0i 8) (tt:=x2l) (te:=x2r (x01 (x06 8) x0f)) (deep:=false) e z1s
 exact x3x (x19 e2)
section
variable {n:Nat} {f:Nat->Nat->Nat}
theorem x59 {x w:Nat} (hx:x<n) (hw:w<n):x1m [x0q n f,.int (Int.ofNat x),.int (Int.ofNat w)]=some (.bl (decide (f x w=w)),9):=by
 unfold x1m y1k
 simp[-Int.ofNat_eq_natCast,x4m hx,x5c hw,y8c]
theorem z28 (hn:n<=1000) {w:Nat} (hw:w<n):x8l [x0q n f,.int (Int.ofNat w)]=some (.lst (x05 ((List.range n).filter fun x=>decide (f x w=w))),1):=by
 unfold x8l y8z
 refine x21 (x2t (x1w (deep:=false) (ρ2:=[some (x0q n f,9),some (.int (Int.ofNat w),9)]) (x4k hn rfl x1v) ?_))
 refine y3m (i:=2) (ρ:=[some (x0q n f,9),some (.int (Int.ofNat w),9)]) (deep:=false) rfl (fun x=>decide (f x w=w)) (fun x=>.int (Int.ofNat x)) (fun _=>9) (fun j hj=>?_) (fun j hj _=>?_)
 ·simp[-Int.ofNat_eq_natCast,x59 hj hw]
 ·simp[-Int.ofNat_eq_natCast]
end
section
variable {n:Nat} {f:Nat->Nat->Nat}
theorem z0y (hn:n<=1000) {w:Nat} (hw:w<n):x24 [x0q n f,.int (Int.ofNat w)]=some (.lst (x05 ((List.range n).filter fun x=>decide (f x w=w))),1):=by
 unfold x24 x97
 refine x21 (x2t (x1w (deep:=false) (ρ2:=[some (x0q n f,9),some (.int (Int.ofNat w),9)]) (x4k hn rfl x1v) ?_))
 refine y3m (i:=2) (ρ:=[some (x0q n f,9),some (.int (Int.ofNat w),9)]) (deep:=false) rfl (fun x=>decide (f x w=w)) (fun x=>.int (Int.ofNat x)) (fun _=>9) (fun j hj=>?_) (fun j hj _=>?_)
 ·simp[-Int.ofNat_eq_natCast,x4m hj,x5c hw,y8c]
 ·simp[-Int.ofNat_eq_natCast]
variable (L:Lad n f) {z:Nat} (hz:z<n) (bz:∀ j,j<n->f z j=j)
include L hz bz
theorem z8f {w:Nat} (hw:w<n):decide ((List.range n).map (fun j=>f w j)=List.range n)=decide (w=z):=by
 rw[decide_eq_decide,y3y]
 exact⟨fun h=>L.bot_uniq hz bz hw h,fun h=>by subst h; exact bz⟩
theorem z3r (hn:n<=1000):x3k [x0q n f]=some (.int (Int.ofNat z),9):=by
 unfold x3k y1m
 refine x21 (x2t (ρ1:=[some (x0q n f,9)]) ?_)
 have hc:x2y 1 (x15 (x01 (x1d 0) (x0f))) (x0i 1) (x3n (e2 dEq (x5b (x01 (x10 0 (x06 1)) (x0f))) (x5z (x01 (x1d 0) (x0f))))) (x06 1) false (x3f 1 [x0q n f])=some (.lst (x05 [z]),1,[some (x0q n f,9)]):=by
  refine(x1w (deep:=false) (ρ2:=[some (x0q n f,9)]) (x4k hn rfl x1v) (y3m rfl (fun x=>decide (x=z)) (fun x=>.int (Int.ofNat x)) (fun _=>9) (fun j hj=>?_) (fun j hj _=>?_))).trans ?_
  ·have e1:x5b (x01 (x10 0 (x06 1)) x0f) ([some (x0q n f,9)]++[some (.int (Int.ofNat j),9)])=some (.lst (x05 ((List.range n).map fun k=>f j k)),1,[some (x0q n f,9),some (.int (Int.ofNat j),9)]):=by
    simp[-Int.ofNat_eq_natCast,x4m hj,y2i]
   have e2':x5z (x01 (x1d 0) x0f) [some (x0q n f,9),some (.int (Int.ofNat j),9)]=some (.lst (x05 (List.range n)),1,[some (x0q n f,9),some (.int (Int.ofNat j),9)]):=y0q (x4k hn rfl x1v)
   unfold x3n e2
   rw[e1]
   simp only[e2',z83,z8f L hz bz hj]
   rfl
  ·simp[-Int.ofNat_eq_natCast]
  ·rw[y1n,if_pos hz]
   rfl
 unfold eIx
 rw[hc]
 simp[-Int.ofNat_eq_natCast,atD,x05,L2.atI,ixN]
theorem y8h (hn:n<=1000) {l:List Nat} (hl:l.length<=1000) (hm:∀ x∈l,x<n):x2d [x0q n f,.lst (x05 l)]=some (.int (Int.ofNat (l.foldl f z)),9):=by
 unfold x2d y03
 refine x21 ?_
 refine(x0h (ρ1:=[some (x0q n f,9),some (.lst (x05 l),0),some (.int (Int.ofNat z),9),none]) ?_).trans ?_
 ·simp[-Int.ofNat_eq_natCast,z3r L hz bz hn]
 obtain⟨ρ',e,y,rfl⟩:=x3w (pt:=x0i 3) (body:=x23 2 (eIx (x10 0 (x06 2)) (x06 3))) (x05 l) (fun i ρ=>∃ y,ρ=[some (x0q n f,9),some (.lst (x05 l),0),some (.int (Int.ofNat ((l.take i).foldl f z)),9),y]) [some (x0q n f,9),some (.lst (x05 l),0),some (.int (Int.ofNat z),9),none] (fun i hi ρ hh0=>by
  obtain⟨y,hy⟩:=hh0
  subst hy
  have hi':i<l.length:=by rw[x11]at hi; exact hi
  have hg:(x05 l)[i]=.int (Int.ofNat l[i]):=by simp[x05]
  have hx:l[i]<n:=hm _ (List.getElem_mem hi')
  have ha:(l.take i).foldl f z<n:=L.fold_lt hz fun x m=>hm x (List.mem_of_mem_take m)
  refine⟨[some (x0q n f,9),some (.lst (x05 l),0),some (.int (Int.ofNat ((l.take i).foldl f z)),9),some (.int (Int.ofNat l[i]),9)],[some (x0q n f,9),some (.lst (x05 l),0),some (.int (Int.ofNat ((l.take (i+1)).foldl f z)),9),some (.int (Int.ofNat l[i]),9)],?_,.inl ?_,⟨_,rfl⟩⟩
  ·rw[hg]; simp
  ·rw[List.take_succ_eq_append_getElem hi',List.foldl_append]
   simp[-Int.ofNat_eq_natCast,x4m ha,x5c hx]) ⟨none,rfl⟩
 rw[x11,List.take_length]at e
 refine(x0h ((x1z (ds:=x05 l) (ρ1:=[some (x0q n f,9),some (.lst (x05 l),0),some (.int (Int.ofNat z),9),none]) ?_).trans e)).trans ?_
 ·simp[x11,hl]
 ·simp[-Int.ofNat_eq_natCast]
end
section
variable {n:Nat} {f:Nat->Nat->Nat}
variable (L:Lad n f) {z:Nat} (hz:z<n) (bz:∀ j,j<n->f z j=j)
include L hz bz
theorem y5t (hn:n<=1000):x36 [x0q n f]=some (.int (Int.ofNat z),9):=by
 have b1:(-1000:Int)<=Int.ofNat n:=by show(-1000:Int)<=n; omega
 have b2:Int.ofNat n<=1000:=by show(n:Int)<=1000; omega
 have hr:x2k [.int (Int.ofNat n)]=some (.tup (x05 (List.range n)),9):=by
  unfold x2k x6p
  simp[-Int.ofNat_eq_natCast,b1,b2]
  rfl
 have hi:j0s (.tup (x05 (List.range n))) ((List.range n).map fun i=>y2i n f i)=some z:=by
  unfold j0s
  rw[y5v,List.map_map]
  have ev:∀ i,i<n->PyData.eqv (toP (y2i n f i)) (toP (.tup (x05 (List.range n))))=decide (i=z):=fun i hi=>(z9v _ _).trans (z8f L hz bz hi)
  refine x7m (x:=toP (y2i n f z)) ?_ ?_ ?_
  ·rw[List.getElem?_map,List.getElem?_range hz]; rfl
  ·rw[ev z hz]; simp
  ·intro i y hi hy
   have hi':i<n:=Nat.lt_trans hi hz
   rw[List.getElem?_map,List.getElem?_range hi']at hy
   cases hy
   refine(ev i hi').trans ?_
   simp; omega
 have h1:okD (.tup ((List.range n).map fun i=>y2i n f i))=true:=(z6o n f).ok
 have h2:okD (.tup (x05 (List.range n)))=true:=(z7a _).ok
 have hl:x79 (.tup ((List.range n).map fun i=>y2i n f i))=some n:=x1v (f:=f)
 unfold x36 y1c x0q
 simp[-Int.ofNat_eq_natCast,hr,hl,h1,h2,hi]
theorem y7q (hn:n<=1000) {l:List Nat} (hl:l.length<=1000) (hm:∀ x∈l,x<n):x37 [x0q n f,.lst (x05 l)]=some (.int (Int.ofNat (l.foldl f z)),9):=by
 unfold x37 x92
 refine x21 ?_
 refine(x0h (ρ1:=[some (x0q n f,9),some (.lst (x05 l),0),some (.int (Int.ofNat z),9),none]) ?_).trans ?_
 ·simp[-Int.ofNat_eq_natCast,y5t L hz bz hn]
 obtain⟨ρ',e,y,rfl⟩:=x3w (pt:=x0i 3) (body:=x23 2 (eIx (x10 0 (x06 2)) (x06 3))) (x05 l) (fun i ρ=>∃ y,ρ=[some (x0q n f,9),some (.lst (x05 l),0),some (.int (Int.ofNat ((l.take i).foldl f z)),9),y]) [some (x0q n f,9),some (.lst (x05 l),0),some (.int (Int.ofNat z),9),none] (fun i hi ρ hh0=>by
  obtain⟨y,hy⟩:=hh0
  subst hy
  have hi':i<l.length:=by rw[x11]at hi; exact hi
  have hg:(x05 l)[i]=.int (Int.ofNat l[i]):=by simp[x05]
  have hx:l[i]<n:=hm _ (List.getElem_mem hi')
  have ha:(l.take i).foldl f z<n:=L.fold_lt hz fun x m=>hm x (List.mem_of_mem_take m)
  refine⟨[some (x0q n f,9),some (.lst (x05 l),0),some (.int (Int.ofNat ((l.take i).foldl f z)),9),some (.int (Int.ofNat l[i]),9)],[some (x0q n f,9),some (.lst (x05 l),0),some (.int (Int.ofNat ((l.take (i+1)).foldl f z)),9),some (.int (Int.ofNat l[i]),9)],?_,.inl ?_,⟨_,rfl⟩⟩
  ·rw[hg]; simp
  ·rw[List.take_succ_eq_append_getElem hi',List.foldl_append]
   simp[-Int.ofNat_eq_natCast,x4m ha,x5c hx]) ⟨none,rfl⟩
 rw[x11,List.take_length]at e
 refine(x0h ((x1z (ds:=x05 l) (ρ1:=[some (x0q n f,9),some (.lst (x05 l),0),some (.int (Int.ofNat z),9),none]) ?_).trans e)).trans ?_
 ·simp[x11,hl]
 ·simp[-Int.ofNat_eq_natCast]
end
section
variable {n:Nat} {f:Nat->Nat->Nat}
variable (L:Lad n f) {z:Nat} (hz:z<n) (bz:∀ j,j<n->f z j=j)
include L hz bz
theorem y4q (ns:List Int) (t:Int) (h0:0<=t):∃ d:Nat->Nat,(∀ i,i<n->d i<n)/\x2q [scr ns,.int t,x0q n f]=some (x43 n (Lad.lr n f z d),9):=by
 have hn:n<=1000:=Nat.le_trans L.hi (by decide)
 have hnp:(0:Int)<Int.ofNat n:=by show(0:Int)<(n:Int); omega
 -- what is drawn for a worth
 have dr:∀ i,∃ v,v<n/\(i<n->∀ ρ:Rho,ρ[0]? = some (some (scr ns,0))->ρ[1]? = some (some (.int t,9))->ρ[2]? = some (some (x0q n f,9))->ρ[3]? = some (some (.int (Int.ofNat z),9))->ρ[5]? = some (some (.int (Int.ofNat i),9))->
   eIx (x5h (x01 (x06 3) (x01 (x06 5) (x01 (x0k x0d 3 (x01 (x06 0) (x01 (e2 x39 (x06 1) (x06 5)) (x01 (x1d 2) (x0f))))) (x0f))))) (x0k x0d 3 (x01 (x06 0) (x01 (e2 x39 (e2 x39 (x06 1) (eC (.int 8))) (x06 5)) (x01 (eC (.int 3)) (x0f))))) ρ=some (.int (Int.ofNat v),9,ρ)):=fun i=>by
  have e1:=x5j ns (t+Int.ofNat i) (Int.ofNat n) (by show 0<=t+(i:Int); omega) hnp
  have e2':=x5j ns (t+8+Int.ofNat i) 3 (by show 0<=t+8+(i:Int); omega) (by decide)
  have l1:=x58 ns (t+Int.ofNat i) hnp
  have l2:=x5o ns (t+Int.ofNat i) hnp
  have k1:=x58 ns (t+8+Int.ofNat i) (m:=3) (by decide)
  have k2:=x5o ns (t+8+Int.ofNat i) (m:=3) (by decide)
  generalize x6j ns (t+Int.ofNat i) (Int.ofNat n)=a at *
  generalize x6j ns (t+8+Int.ofNat i) 3=b at *
  obtain⟨a',rfl⟩:∃ a':Nat,a=Int.ofNat a':=⟨a.toNat,by show a=(a.toNat:Int); omega⟩
  have ha':a'<n:=by have:(a':Int)<(n:Int):=l2; omega
  by_cases hi:i<n
  ·have hb:b=0\/b=1\/b=2:=by omega
   rcases hb with rfl | rfl | rfl
   ·refine⟨z,hz,fun _ ρ h0 h1 h2 h3 h5=>?_⟩
    simp[-Int.ofNat_eq_natCast,h0,h1,h2,h3,h5,x1v,e1,e2',atD,L2.atI,ixN]
   ·refine⟨i,hi,fun _ ρ h0 h1 h2 h3 h5=>?_⟩
    simp[-Int.ofNat_eq_natCast,h0,h1,h2,h3,h5,x1v,e1,e2',atD,L2.atI,ixN]
   ·refine⟨a',ha',fun _ ρ h0 h1 h2 h3 h5=>?_⟩
    simp[-Int.ofNat_eq_natCast,h0,h1,h2,h3,h5,x1v,e1,e2',atD,L2.atI,ixN]
  ·exact⟨z,hz,fun h=>absurd h hi⟩
 obtain⟨d,hd⟩:∃ d:Nat->Nat,∀ i,d i<n/\(i<n->∀ ρ:Rho,ρ[0]? = some (some (scr ns,0))->ρ[1]? = some (some (.int t,9))->ρ[2]? = some (some (x0q n f,9))->ρ[3]? = some (some (.int (Int.ofNat z),9))->ρ[5]? = some (some (.int (Int.ofNat i),9))->
   eIx (x5h (x01 (x06 3) (x01 (x06 5) (x01 (x0k x0d 3 (x01 (x06 0) (x01 (e2 x39 (x06 1) (x06 5)) (x01 (x1d 2) (x0f))))) (x0f))))) (x0k x0d 3 (x01 (x06 0) (x01 (e2 x39 (e2 x39 (x06 1) (eC (.int 8))) (x06 5)) (x01 (eC (.int 3)) (x0f))))) ρ=some (.int (Int.ofNat (d i)),9,ρ)):=
  ⟨fun i=>(dr i).choose,fun i=>(dr i).choose_spec⟩
 refine⟨d,fun i _=>(hd i).1,?_⟩
 unfold x2q y0n
 refine x21 ?_
 have hs:x3f 7 [scr ns,.int t,x0q n f]=[some (scr ns,0),some (.int t,9),some (x0q n f,9),none,none,none,none]:=rfl
 rw[hs]
 refine(x0h (ρ1:=[some (scr ns,0),some (.int t,9),some (x0q n f,9),some (.int (Int.ofNat z),9),none,none,none]) ?_).trans ?_
 ·simp[-Int.ofNat_eq_natCast,z3r L hz bz hn]
 refine(x0h (ρ1:=[some (scr ns,0),some (.int t,9),some (x0q n f,9),some (.int (Int.ofNat z),9),some (.lst [],1),none,none]) ?_).trans ?_
 ·simp
 obtain⟨ρ',e,y,rfl⟩:=x3w (pt:=x0i 5) (body:=x3q (x9g 4 (x01 (eIx (x5h (x01 (x06 3) (x01 (x06 5) (x01 (x0k x0d 3 (x01 (x06 0) (x01 (e2 x39 (x06 1) (x06 5)) (x01 (x1d 2) (x0f))))) (x0f))))) (x0k x0d 3 (x01 (x06 0) (x01 (e2 x39 (e2 x39 (x06 1) (eC (.int 8))) (x06 5)) (x01 (eC (.int 3)) (x0f)))))) (x0f)))) (x17 n)
  (fun i ρ=>∃ y,ρ=[some (scr ns,0),some (.int t,9),some (x0q n f,9),some (.int (Int.ofNat z),9),some (.lst (x05 ((List.range i).map d)),1),y,none])
  [some (scr ns,0),some (.int t,9),some (x0q n f,9),some (.int (Int.ofNat z),9),some (.lst [],1),none,none] (fun i hi ρ hh0=>by
   obtain⟨y,hy⟩:=hh0
   subst hy
   have hi':i<n:=by rw[x0z]at hi; exact hi
   have hdi:=(hd i).2 hi' [some (scr ns,0),some (.int t,9),some (x0q n f,9),some (.int (Int.ofNat z),9),some (.lst (x05 ((List.range i).map d)),1),some (.int (Int.ofNat i),9),none] rfl rfl rfl rfl rfl
   refine⟨[some (scr ns,0),some (.int t,9),some (x0q n f,9),some (.int (Int.ofNat z),9),some (.lst (x05 ((List.range i).map d)),1),some (.int (Int.ofNat i),9),none],[some (scr ns,0),some (.int t,9),some (x0q n f,9),some (.int (Int.ofNat z),9),some (.lst (x05 ((List.range (i+1)).map d)),1),some (.int (Int.ofNat i),9),none],?_,.inl ?_,⟨_,rfl⟩⟩
   ·rw[show(x17 n)[i]=.int (Int.ofNat i)by simp[x17]]; simp
   ·have ex:x05 ((List.range (i+1)).map d)=x05 ((List.range i).map d)++[.int (Int.ofNat (d i))]:=by rw[List.range_succ]; simp[x05]
    have hl:(x05 ((List.range i).map d)).length<=1000:=by rw[x11,List.length_map,List.length_range]; omega
    exact y2h rfl (x19 hdi) rfl hl (by rw[ex]; rfl)) ⟨none,rfl⟩
 rw[x0z]at e
 refine(x0h ((x1z (x4k hn rfl x1v)).trans e)).trans ?_
 refine(x0h (ρ1:=[some (scr ns,0),some (.int t,9),some (x0q n f,9),some (.int (Int.ofNat z),9),some (.lst (x05 ((List.range n).map d)),1),y,some (.lst [],1)]) ?_).trans ?_
 ·simp
 have hdn:∀ i,i<n->d i<n:=fun i _=>(hd i).1
 obtain⟨ρ',e,y',rfl⟩:=x3w (pt:=x0i 5) (body:=x3q (x9g 6 (x01 (x0k x2d 2 (x01 (x06 2) (x01 (x2y 1 (x6f (x0k x24 2 (x01 (x06 2) (x01 (x06 5) (x0f))))) (x0i 7) (x2l) (x10 4 (x06 7)) false) (x0f)))) (x0f)))) (x17 n)
  (fun i ρ=>∃ y,ρ=[some (scr ns,0),some (.int t,9),some (x0q n f,9),some (.int (Int.ofNat z),9),some (.lst (x05 ((List.range n).map d)),1),y,some (.lst (x05 ((List.range i).map (Lad.lr n f z d))),1)])
  [some (scr ns,0),some (.int t,9),some (x0q n f,9),some (.int (Int.ofNat z),9),some (.lst (x05 ((List.range n).map d)),1),y,some (.lst [],1)] (fun i hi ρ hh0=>by
   obtain⟨y,hy⟩:=hh0
   subst hy
   have hi':i<n:=by rw[x0z]at hi; exact hi
   refine⟨[some (scr ns,0),some (.int t,9),some (x0q n f,9),some (.int (Int.ofNat z),9),some (.lst (x05 ((List.range n).map d)),1),some (.int (Int.ofNat i),9),some (.lst (x05 ((List.range i).map (Lad.lr n f z d))),1)],[some (scr ns,0),some (.int t,9),some (x0q n f,9),some (.int (Int.ofNat z),9),some (.lst (x05 ((List.range n).map d)),1),some (.int (Int.ofNat i),9),some (.lst (x05 ((List.range (i+1)).map (Lad.lr n f z d))),1)],?_,.inl ?_,⟨_,rfl⟩⟩
   ·rw[show(x17 n)[i]=.int (Int.ofNat i)by simp[x17]]; simp
   ·have ex:x05 ((List.range (i+1)).map (Lad.lr n f z d))=x05 ((List.range i).map (Lad.lr n f z d))++[.int (Int.ofNat (Lad.lr n f z d i))]:=by rw[List.range_succ]; simp[x05]
    have hl:(x05 ((List.range i).map (Lad.lr n f z d))).length<=1000:=by rw[x11,List.length_map,List.length_range]; omega
    have hlow:(Lad.low n f i).length<=1000:=by
     have:=List.length_filter_le (fun y=>decide (f y i=i)) (List.range n)
     rw[List.length_range]at this
     exact Nat.le_trans this hn
    have hit:x6f (x0k x24 2 (x01 (x06 2) (x01 (x06 5) (x0f)))) [some (scr ns,0),some (.int t,9),some (x0q n f,9),some (.int (Int.ofNat z),9),some (.lst (x05 ((List.range n).map d)),1),some (.int (Int.ofNat i),9),some (.lst (x05 ((List.range i).map (Lad.lr n f z d))),1)]=some (x05 (Lad.low n f i),[some (scr ns,0),some (.int t,9),some (x0q n f,9),some (.int (Int.ofNat z),9),some (.lst (x05 ((List.range n).map d)),1),some (.int (Int.ofNat i),9),some (.lst (x05 ((List.range i).map (Lad.lr n f z d))),1)]):=by
     have hb:x24 [x0q n f,.int (Int.ofNat i)]=some (.lst (x05 (Lad.low n f i)),1):=z0y hn hi'
     simp[-Int.ofNat_eq_natCast,hb,x11,hlow]
    have hc:=x1w (k:=1) (te:=x10 4 (x06 7)) (deep:=false) hit (j2b (i:=7) (Lad.low n f i) rfl (fun y=>.int (Int.ofNat (d y))) (fun _=>9) (fun y hy=>by
     have hyn:=(Lad.mem_low.mp hy).1
     have hat:atD (.lst (x05 ((List.range n).map d))) (Int.ofNat y)=some (.int (Int.ofNat (d y))):=x28 hyn
     simp[-Int.ofNat_eq_natCast,hat]))
    have hm:∀ y∈(Lad.low n f i).map d,y<n:=Lad.lr_mem L hz bz hdn
    have e':((Lad.low n f i).map fun y=>D.int (Int.ofNat (d y)))=x05 ((Lad.low n f i).map d):=by simp[x05]
    rw[e']at hc
    have hj:x2d [x0q n f,.lst (x05 ((Lad.low n f i).map d))]=some (.int (Int.ofNat (Lad.lr n f z d i)),9):=y8h L hz bz hn (by rw[List.length_map]; exact hlow) hm
    have ha:=x19 (x0y (n:=2) (x0w (f:=x06 2) (q:=9) (d:=x0q n f) (ρ:=[some (scr ns,0),some (.int t,9),some (x0q n f,9),some (.int (Int.ofNat z),9),some (.lst (x05 ((List.range n).map d)),1),some (.int (Int.ofNat i),9),some (.lst (x05 ((List.range i).map (Lad.lr n f z d))),1)]) (ρ1:=[some (scr ns,0),some (.int t,9),some (x0q n f,9),some (.int (Int.ofNat z),9),some (.lst (x05 ((List.range n).map d)),1),some (.int (Int.ofNat i),9),some (.lst (x05 ((List.range i).map (Lad.lr n f z d))),1)]) rfl (x19 hc)) rfl hj)
    exact y2h rfl ha rfl hl (by rw[ex]; rfl)) ⟨y,rfl⟩
 rw[x0z]at e
 refine(x0h ((x1z (x4k hn rfl x1v)).trans e)).trans ?_
 exact x2t (x3x (x19 (q:=0) (ρ1:=[some (scr ns,0),some (.int t,9),some (x0q n f,9),some (.int (Int.ofNat z),9),some (.lst (x05 ((List.range n).map d)),1),y',some (.lst (x05 ((List.range n).map (Lad.lr n f z d))),0)]) rfl))
end
noncomputable def x5g (n:Nat):D->Bool
 | .int i=>decide (0<=i) && decide (i<(n:Int))
 | _=>false
noncomputable def x4h (m n:Nat):D->Bool
 | .tup ds=>decide (ds.length=m) && ds.all (x5g n)
 | _=>false
theorem x26 (d:D):x4v [d]=some (.bl (match d with | .int _=>true | _=>false),9):=by
 unfold x4v y1q
 cases d <;> simp[isD]
theorem x5x (n:Nat) (d:D):x1b [d,.int (Int.ofNat n)]=some (.bl (x5g n d),9):=by
 unfold x1b x6s
 cases d with
 | int i=>
  have h:=x26 (.int i)
  by_cases h0:0<=i
  ·by_cases h1:i<(n:Int)
   ·simp[h,x5g,h0,h1]
   ·simp[h,x5g,h0,h1]
  ·simp[h,x5g,h0]
 | non=>simp[x26,x5g]
 | bl b=>simp[x26,x5g]
 | str x=>simp[x26,x5g]
 | tup ds=>simp[x26,x5g]
 | lst ds=>simp[x26,x5g]
 | dic ks ds=>simp[x26,x5g]
 | exc nm=>simp[x26,x5g]
 | ob f fo vs ds=>simp[x26,x5g]
theorem y9j (m n:Nat) (d:D) (hl:∀ ds,d=.tup ds->ds.length<=1000):x1s [d,.int (Int.ofNat m),.int (Int.ofNat n)]=some (.bl (x4h m n d),9):=by
 unfold x1s x76
 cases d with
 | tup ds=>
  have hl:=hl ds rfl
  refine x21 ?_
  have hs:x3f 3 [.tup ds,.int (Int.ofNat m),.int (Int.ofNat n)]=[some (.tup ds,9),some (.int (Int.ofNat m),9),some (.int (Int.ofNat n),9)]:=rfl
  rw[hs]
  by_cases hm:ds.length=m
  ·refine(x0h (ρ1:=[some (.tup ds,9),some (.int (Int.ofNat m),9),some (.int (Int.ofNat n),9)]) ?_).trans ?_
   ·simp[-Int.ofNat_eq_natCast,isD,x79,hm,x8o]
   ·have hi:x6f (x06 0) [some (.tup ds,9),some (.int (Int.ofNat m),9),some (.int (Int.ofNat n),9)]=some (ds,[some (.tup ds,9),some (.int (Int.ofNat m),9),some (.int (Int.ofNat n),9)]):=by simp[hl]
    have hc:=x3m (k:=1) (pt:=x0i 3) (tt:=x2l) (te:=x0k x1b 2 (x01 (x06 3) (x01 (x06 2) (x0f)))) (deep:=false) ds (fun _=>[some (.tup ds,9),some (.int (Int.ofNat m),9),some (.int (Int.ofNat n),9)]) (fun _=>true) (fun i=>.bl (x5g n (ds.getD i .non))) (fun i hi=>by
     have hg:ds.getD i .non=ds[i]:=by simp[hi]
     refine⟨[some (.tup ds,9),some (.int (Int.ofNat m),9),some (.int (Int.ofNat n),9),some (ds[i],x3t ds[i])],[some (.tup ds,9),some (.int (Int.ofNat m),9),some (.int (Int.ofNat n),9),some (ds[i],x3t ds[i])],by simp[-x3t],rfl,?_⟩
     rw[if_pos rfl]
     refine⟨9,[some (.tup ds,9),some (.int (Int.ofNat m),9),some (.int (Int.ofNat n),9),some (ds[i],x3t ds[i])],?_,by simp,by simp⟩
     have hv:∃ q,x06 3 [some (.tup ds,9),some (.int (Int.ofNat m),9),some (.int (Int.ofNat n),9),some (ds[i],x3t ds[i])]=some (ds[i],q,[some (.tup ds,9),some (.int (Int.ofNat m),9),some (.int (Int.ofNat n),9),some (ds[i],x3t ds[i])]):=by
      cases hL:(ds[i]).isL with
      | false=>exact⟨9,by simp[-x3t,hL]⟩
      | true=>exact⟨0,by simp[hL]⟩
     obtain⟨q,hv⟩:=hv
     rw[hg]
     exact x0y (x0w hv (x19 (q:=9) rfl)) rfl (x5x n _))
    rw[show(List.range ds.length).filter (fun _=>true)=List.range ds.length by simp]at hc
    have e:(List.range ds.length).map (fun i=>D.bl (x5g n (ds.getD i .non)))=ds.map fun d=>.bl (x5g n d):=by
     apply List.ext_getElem?
     intro k
     by_cases hk:k<ds.length
     ·simp[hk]
     ·rw[List.getElem?_eq_none (by simp; omega),List.getElem?_eq_none (by simp; omega)]
    rw[e]at hc
    refine x2t (z8d (x19 (x1w (deep:=false) hi hc)) ?_)
    simp only[z0r,y5x,Option.map_some,x4h,hm]
    simp[List.all_map,Function.comp_def]
  ·have e:x4h m n (.tup ds)=false:=by simp[x4h,hm]
   rw[e]
   refine x72 ?_
   simp[-Int.ofNat_eq_natCast,isD,x79,x8o,hm]
 | non=>simp[isD,x4h]
 | bl b=>simp[isD,x4h]
 | int i=>simp[isD,x4h]
 | str x=>simp[isD,x4h]
 | lst ds=>simp[isD,x4h]
 | dic ks ds=>simp[isD,x4h]
 | exc nm=>simp[isD,x4h]
 | ob f fo vs ds=>simp[isD,x4h]
theorem y1l (m n:Nat) (hm:m<=1000) (d:D):x1s [d,.int (Int.ofNat m),.int (Int.ofNat n)]=some (.bl (x4h m n d),9):=by
 by_cases h:∀ ds,d=.tup ds->ds.length<=1000
 ·exact y9j m n d h
 ·cases d with
  | tup ds=>
   have hne:ds.length≠m:=fun e=>h fun ds' e'=>by cases e'; omega
   have e:x4h m n (.tup ds)=false:=by simp[x4h,hne]
   unfold x1s x76
   refine x21 ?_
   rw[e]
   refine x72 ?_
   simp[-Int.ofNat_eq_natCast,isD,x79,x8o,hne]
  | _=>exact absurd (fun ds e=>nomatch e) h
theorem y24 {i:Nat} {ρ:Rho} {d:D} (h:ρ[i]? = some (some (d,x3t d))):x06 i ρ=some (d,x3t d,ρ):=by
 unfold x06
 rw[h]
 cases hL:d.isL with
 | false=>simp[hL]
 | true=>simp[hL]
theorem j1d {i:Nat} {te:Den} {ρ:Rho} (ds:List D) (hi:ρ.length=i) (v:D->D) (q:D->Nat)
  (he:∀ d,d∈ds->te (ρ++[some (d,x3t d)])=some (v d,q d,ρ++[some (d,x3t d)])) :
  x6l 1 (x0i i) x2l te false ds ρ=some (ds.map v,ρ):=by
 have h:=x3m (k:=1) (pt:=x0i i) (tt:=x2l) (te:=te) (deep:=false) ds (fun _=>ρ) (fun _=>true) (fun j=>v (ds.getD j .non)) (fun j hj=>?_)
 ·rw[show(List.range ds.length).filter (fun _=>true)=List.range ds.length by simp]at h
  rw[h]
  have e:(List.range ds.length).map (fun j=>v (ds.getD j .non))=ds.map v:=by
   apply List.ext_getElem?
   intro k
   by_cases hk:k<ds.length
   ·simp[hk]
   ·rw[List.getElem?_eq_none (by simp; omega),List.getElem?_eq_none (by simp; omega)]
  rw[e]
 ·have hg:ds.getD j .non=ds[j]:=by simp[hj]
  refine⟨ρ++[some (ds[j],x3t ds[j])],_,?_,rfl,?_⟩
  ·unfold x0i
   rw[if_pos (by simp[hi])]
   subst hi
   simp[-x3t,List.set_append]
  ·rw[if_pos rfl,hg]
   exact⟨q _,_,he _ (List.getElem_mem hj),by simp,by simp⟩
theorem z1f {i:Nat} {te:Den} {it:y28} {ρ:Rho} {ds:List D} (hi:ρ.length=i) (hit:it ρ=some (ds,ρ)) (b:D->Bool) (q:D->Nat)
  (he:∀ d,d∈ds->te (ρ++[some (d,x3t d)])=some (.bl (b d),q d,ρ++[some (d,x3t d)])) :
  eB z0r (x01 (x2y 1 it (x0i i) x2l te false) x0f) ρ=some (.bl (ds.all b),9,ρ):=by
 refine z8d (x19 (x1w (deep:=false) hit (j1d ds hi (fun d=>.bl (b d)) q he))) ?_
 simp only[z0r,y5x,Option.map_some]
 simp[List.all_map,Function.comp_def]
structure Cht where
 p:Nat
 W:List (Nat × Nat × (Nat->Nat))
 B:List (Nat × Nat)
noncomputable def x4o (n:Nat) (w:Nat × Nat × (Nat->Nat)):D:=.tup [.int (Int.ofNat w.1),.int (Int.ofNat w.2.1),x43 n w.2.2]
noncomputable def x6c (b:Nat × Nat):D:=.tup [.int (Int.ofNat b.1),.int (Int.ofNat b.2)]
noncomputable def x0a (n:Nat) (C:Cht):D:=.tup [.int (Int.ofNat C.p),.tup (C.W.map (x4o n)),.tup (C.B.map x6c)]
noncomputable def okW (n:Nat) (f:Nat->Nat->Nat) (p:Nat) (w:Nat × Nat × (Nat->Nat)):Prop:=w.1<p/\w.2.1<p/\(∀ i,i<n->w.2.2 i<n)/\∀ x y,x<n->y<n->f x y=y->f (w.2.2 x) (w.2.2 y)=w.2.2 y
noncomputable def okB (n:Nat) (p:Nat) (b:Nat × Nat):Prop:=b.1<p/\b.2<n
structure Cht.Ok (n:Nat) (f:Nat->Nat->Nat) (C:Cht):Prop where
 p1:1<=C.p
 p8:C.p<=8
 w60:C.W.length<=60
 b60:C.B.length<=60
 ws:∀ w∈C.W,okW n f C.p w
 bs:∀ b∈C.B,okB n C.p b
@[simp] theorem z6p {n:Nat} {C:Cht}:(x0a n C).isL=false:=rfl
@[simp] theorem j0r {n:Nat} {w:Nat × Nat × (Nat->Nat)}:(x4o n w).isL=false:=rfl
@[simp] theorem j0t {b:Nat × Nat}:(x6c b).isL=false:=rfl
theorem x4c (ns:List Int) {k:Int} (hk:0<=k) {m:Int} (hm:0<m):∃ v:Nat,(v:Int)<m/\x0d [scr ns,.int k,.int m]=some (.int (Int.ofNat v),9):=by
 have h1:=x58 ns k hm
 have h2:=x5o ns k hm
 refine⟨(x6j ns k m).toNat,by omega,?_⟩
 rw[x5j ns k m hk hm]
 have:x6j ns k m=Int.ofNat (x6j ns k m).toNat:=by show _=(((x6j ns k m).toNat:Nat):Int); omega
 rw[<- this]
theorem x6i {m:Nat} (hm:m<=1000) {fe:Den} {ρ ρ':Rho} {q:Nat} (h:fe ρ=some (.int (Int.ofNat m),q,ρ')):x15 (x01 fe x0f) ρ=some (x17 m,ρ'):=by
 have b1:(-1000:Int)<=Int.ofNat m:=by show(-1000:Int)<=m; omega
 have b2:Int.ofNat m<=1000:=by show(m:Int)<=1000; omega
 simp only[x15,x01,x0f,h]
 rw[if_pos ⟨b1,b2⟩]
 rfl
section
variable {n:Nat} {f:Nat->Nat->Nat} (L:Lad n f) {z:Nat} (hz:z<n) (bz:∀ j,j<n->f z j=j)
include L hz bz
theorem y6w (ns:List Int) (t:Int) (h0:0<=t) {p:Nat} (hp:1<=p) (m:Nat) (hm:m<=7) :
  ∃ W:List (Nat × Nat × (Nat->Nat)),W.length=m/\(∀ w∈W,okW n f p w)/\∃ a b c,x75 (x0i 6) x55 (x17 m) [some (scr ns,0),some (.int t,9),some (x0q n f,9),some (.bl false,9),some (.int (Int.ofNat p),9),some (.lst [],1),none,none,none,none,none]=some (.nx [some (scr ns,0),some (.int t,9),some (x0q n f,9),some (.bl false,9),some (.int (Int.ofNat p),9),some (.lst (W.map (x4o n)),1),a,b,c,none,none]):=by
 have hpp:(0:Int)<Int.ofNat p:=by show(0:Int)<(p:Int); omega
 obtain⟨ρ',e,W,hl,hok,a,b,c,rfl⟩:=x3w (pt:=x0i 6) (body:=x55) (x17 m) (fun i ρ=>∃ W:List (Nat × Nat × (Nat->Nat)),W.length=i/\(∀ w∈W,okW n f p w)/\∃ a b c,ρ=[some (scr ns,0),some (.int t,9),some (x0q n f,9),some (.bl false,9),some (.int (Int.ofNat p),9),some (.lst (W.map (x4o n)),1),a,b,c,none,none]) [some (scr ns,0),some (.int t,9),some (x0q n f,9),some (.bl false,9),some (.int (Int.ofNat p),9),some (.lst [],1),none,none,none,none,none] (fun i hi ρ hh0=>by
  obtain⟨W,hl,hok,a,b,c,hr⟩:=hh0
  subst hr
  have hi':i<m:=by rw[x0z]at hi; exact hi
  obtain⟨x,hx⟩:∃ x:Int,x=t+10+22*Int.ofNat i:=⟨_,rfl⟩
  have hx0:0<=x:=by have:Int.ofNat i=(i:Int):=rfl; omega
  obtain⟨d,hd,hR⟩:=y4q L hz bz ns (x+2) (by omega)
  obtain⟨s,hs,es⟩:=x4c ns hx0 hpp
  obtain⟨g,hg,eg⟩:=x4c ns (show 0<=x+1 by omega) hpp
  have hs':s<p:=by have:(s:Int)<(p:Int):=hs; omega
  have hg':g<p:=by have:(g:Int)<(p:Int):=hg; omega
  have hok':okW n f p (s,g,Lad.lr n f z d):=⟨hs',hg',fun i _=>L.lr_lt hz bz hd i,fun x y hx hy e=>L.lr_rises hz bz hd hx hy e⟩
  generalize Lad.lr n f z d=r at *
  have hW:W.length<=1000:=by omega
  refine⟨[some (scr ns,0),some (.int t,9),some (x0q n f,9),some (.bl false,9),some (.int (Int.ofNat p),9),some (.lst (W.map (x4o n)),1),some (.int (Int.ofNat i),9),b,c,none,none],[some (scr ns,0),some (.int t,9),some (x0q n f,9),some (.bl false,9),some (.int (Int.ofNat p),9),some (.lst ((W++[(s,g,r)]).map (x4o n)),1),some (.int (Int.ofNat i),9),some (.int x,9),some (x43 n r,9),none,none],by rw[x6e]; simp,.inl ?_,W++[(s,g,r)],by simp[hl],fun w hw=>?_,_,_,_,rfl⟩
  ·unfold x55
   refine(x0h (ρ1:=[some (scr ns,0),some (.int t,9),some (x0q n f,9),some (.bl false,9),some (.int (Int.ofNat p),9),some (.lst (W.map (x4o n)),1),some (.int (Int.ofNat i),9),some (.int x,9),c,none,none]) (by rw[hx]; simp[-Int.ofNat_eq_natCast])).trans ?_
   refine(x0h (ρ1:=[some (scr ns,0),some (.int t,9),some (x0q n f,9),some (.bl false,9),some (.int (Int.ofNat p),9),some (.lst (W.map (x4o n)),1),some (.int (Int.ofNat i),9),some (.int x,9),some (x43 n r,9),none,none]) (by simp[-Int.ofNat_eq_natCast,hR])).trans ?_
   refine(x0h (ρ1:=[some (scr ns,0),some (.int t,9),some (x0q n f,9),some (.bl false,9),some (.int (Int.ofNat p),9),some (.lst (W.map (x4o n)),1),some (.int (Int.ofNat i),9),some (.int x,9),some (x43 n r,9),none,none]) (by simp[-Int.ofNat_eq_natCast])).trans ?_
   simp[-Int.ofNat_eq_natCast,es,eg,hW,x4o]
  ·rcases List.mem_append.mp hw with h | h
   ·exact hok w h
   ·rw[List.mem_singleton.mp h]; exact hok') ⟨[],rfl,(fun _ z=>nomatch z),none,none,none,rfl⟩
 rw[x0z]at hl
 exact⟨W,hl,hok,a,b,c,e⟩
theorem y74 (ns:List Int) (t:Int) (h0:0<=t) {p:Nat} (hp:1<=p) (m:Nat) (hm:m<=3) (W:Option (D × Nat)) (a b c:Option (D × Nat)) :
  ∃ B:List (Nat × Nat),B.length=m/\(∀ w∈B,okB n p w)/\∃ a' h,x75 (x0i 6) x4y (x17 m) [some (scr ns,0),some (.int t,9),some (x0q n f,9),some (.bl false,9),some (.int (Int.ofNat p),9),W,a,b,c,some (.lst [],1),none]=some (.nx [some (scr ns,0),some (.int t,9),some (x0q n f,9),some (.bl false,9),some (.int (Int.ofNat p),9),W,a',b,c,some (.lst (B.map x6c),1),h]):=by
 have hpp:(0:Int)<Int.ofNat p:=by show(0:Int)<(p:Int); omega
 have hnp:(0:Int)<Int.ofNat n:=by have:=L.lo; show(0:Int)<(n:Int); omega
 obtain⟨ρ',e,B,hl,hok,a',h,rfl⟩:=x3w (pt:=x0i 6) (body:=x4y) (x17 m) (fun i ρ=>∃ B:List (Nat × Nat),B.length=i/\(∀ w∈B,okB n p w)/\∃ a h,ρ=[some (scr ns,0),some (.int t,9),some (x0q n f,9),some (.bl false,9),some (.int (Int.ofNat p),9),W,a,b,c,some (.lst (B.map x6c),1),h]) [some (scr ns,0),some (.int t,9),some (x0q n f,9),some (.bl false,9),some (.int (Int.ofNat p),9),W,a,b,c,some (.lst [],1),none] (fun i hi ρ hh0=>by
  obtain⟨B,hl,hok,a,h,hr⟩:=hh0
  subst hr
  have hi':i<m:=by rw[x0z]at hi; exact hi
  have hii:Int.ofNat i=(i:Int):=rfl
  obtain⟨v,hv,ev⟩:=x4c ns (show 0<=t+3+2*Int.ofNat i by omega) hnp
  obtain⟨g,hg,eg⟩:=x4c ns (show 0<=t+4+2*Int.ofNat i by omega) hpp
  have hv':v<n:=by have:(v:Int)<(n:Int):=hv; omega
  have hg':g<p:=by have:(g:Int)<(p:Int):=hg; omega
  have hB:B.length<=1000:=by omega
  refine⟨[some (scr ns,0),some (.int t,9),some (x0q n f,9),some (.bl false,9),some (.int (Int.ofNat p),9),W,some (.int (Int.ofNat i),9),b,c,some (.lst (B.map x6c),1),h],[some (scr ns,0),some (.int t,9),some (x0q n f,9),some (.bl false,9),some (.int (Int.ofNat p),9),W,some (.int (Int.ofNat i),9),b,c,some (.lst ((B++[(g,v)]).map x6c),1),some (.int (Int.ofNat v),9)],by rw[x6e]; simp,.inl ?_,B++[(g,v)],by simp[hl],fun w hw=>?_,_,_,rfl⟩
  ·unfold x4y
   refine(x0h (ρ1:=[some (scr ns,0),some (.int t,9),some (x0q n f,9),some (.bl false,9),some (.int (Int.ofNat p),9),W,some (.int (Int.ofNat i),9),b,c,some (.lst (B.map x6c),1),some (.int (Int.ofNat v),9)]) (by simp[-Int.ofNat_eq_natCast,x1v,ev])).trans ?_
   simp[-Int.ofNat_eq_natCast,eg,hB,x6c]
  ·rcases List.mem_append.mp hw with h | h
   ·exact hok w h
   ·rw[List.mem_singleton.mp h]; exact⟨hg',hv'⟩) ⟨[],rfl,(fun _ z=>nomatch z),a,none,rfl⟩
 rw[x0z]at hl
 exact⟨B,hl,hok,a',h,e⟩
theorem y4b (ns:List Int) (t:Int) (h0:0<=t):∃ C:Cht,C.Ok n f/\C.p<=5/\C.W.length<=7/\C.B.length<=3/\x3r [scr ns,.int t,x0q n f,.bl false]=some (x0a n C,9):=by
 obtain⟨p0,hp0,ep⟩:=x4c ns h0 (m:=5) (by decide)
 obtain⟨mw,hmw,ew⟩:=x4c ns (show 0<=t+1 by omega) (m:=8) (by decide)
 obtain⟨mb,hmb,eb⟩:=x4c ns (show 0<=t+2 by omega) (m:=4) (by decide)
 obtain⟨p,hp⟩:∃ p:Nat,p=p0+1:=⟨_,rfl⟩
 have hp':(1:Int)+Int.ofNat p0=Int.ofNat p:=by show(1:Int)+(p0:Int)=(p:Int); omega
 obtain⟨W,hWl,hWok,a,b,c,eW⟩:=y6w L hz bz ns t h0 (p:=p) (by omega) mw (by omega)
 obtain⟨B,hBl,hBok,a',h,eB⟩:=y74 L hz bz ns t h0 (p:=p) (by omega) mb (by omega) (some (.lst (W.map (x4o n)),1)) a b c
 refine⟨⟨p,W,B⟩,⟨by show 1<=p; omega,by show p<=8; omega,by show W.length<=60; omega,by show B.length<=60; omega,hWok,hBok⟩,by show p<=5; omega,by show W.length<=7; omega,by show B.length<=3; omega,?_⟩
 unfold x3r x8t
 refine x21 ?_
 show x18 _ _ [some (scr ns,0),some (.int t,9),some (x0q n f,9),some (.bl false,9),none,none,none,none,none,none,none]=_
 refine(x0h (ρ1:=[some (scr ns,0),some (.int t,9),some (x0q n f,9),some (.bl false,9),some (.int (Int.ofNat p),9),none,none,none,none,none,none]) (by simp[-Int.ofNat_eq_natCast,ep,hp'])).trans ?_
 refine(x0h (ρ1:=[some (scr ns,0),some (.int t,9),some (x0q n f,9),some (.bl false,9),some (.int (Int.ofNat p),9),some (.lst [],1),none,none,none,none,none]) (by simp)).trans ?_
 refine(x0h ((x1z (ρ1:=[some (scr ns,0),some (.int t,9),some (x0q n f,9),some (.bl false,9),some (.int (Int.ofNat p),9),some (.lst [],1),none,none,none,none,none]) (x6i (m:=mw) (by omega) (q:=9) (by simp[-Int.ofNat_eq_natCast,ew]))).trans eW)).trans ?_
 refine(x0h (ρ1:=[some (scr ns,0),some (.int t,9),some (x0q n f,9),some (.bl false,9),some (.int (Int.ofNat p),9),some (.lst (W.map (x4o n)),1),a,b,c,some (.lst [],1),none]) (by simp)).trans ?_
 refine(x0h ((x1z (ρ1:=[some (scr ns,0),some (.int t,9),some (x0q n f,9),some (.bl false,9),some (.int (Int.ofNat p),9),some (.lst (W.map (x4o n)),1),a,b,c,some (.lst [],1),none]) (x6i (m:=mb) (by omega) (q:=9) (by simp[-Int.ofNat_eq_natCast,eb]))).trans eB)).trans ?_
 simp[-Int.ofNat_eq_natCast,x0a]
end
noncomputable def x9y (b:Nat × Nat):ChS:=(b.1,fun _=>b.2)
noncomputable def y34 (w:Nat × Nat × (Nat->Nat)):ChS:=(w.2.1,fun v=>w.2.2 (gv v w.1))
noncomputable def x25 (C:Cht):List ChS:=C.B.map x9y++C.W.map y34
noncomputable def z55 (f:Nat->Nat->Nat) (C:Cht) (v:List Nat):Bool:=(C.W.all fun w=>decide (f (w.2.2 (gv v w.1)) (gv v w.2.1)=gv v w.2.1)) && (C.B.all fun b=>decide (f b.2 (gv v b.1)=gv v b.1))
theorem y2j {f:Nat->Nat->Nat} {C:Cht} {v:List Nat}:z55 f C v=true ↔ ClS f (x25 C) v:=by
 unfold z55 ClS x25
 simp only[Bool.and_eq_true,List.all_eq_true,decide_eq_true_eq,List.mem_append,List.mem_map]
 constructor
 ·rintro ⟨h1,h2⟩ s (⟨b,hb,rfl⟩ | ⟨w,hw,rfl⟩)
  ·exact h2 b hb
  ·exact h1 w hw
 ·intro h
  exact⟨fun w hw=>h _ (.inr ⟨w,hw,rfl⟩),fun b hb=>h _ (.inl ⟨b,hb,rfl⟩)⟩
section
variable {n:Nat} {f:Nat->Nat->Nat} (L:Lad n f) {C:Cht} (hC:C.Ok n f)
include L hC
theorem x7a:∀ s∈x25 C,OkS n C.p f s:=fun s hs=>by
 unfold x25 at hs
 rcases List.mem_append.mp hs with h | h
 ·obtain⟨b,hb,rfl⟩:=List.mem_map.mp h
  have k:=hC.bs b hb
  exact⟨k.1,fun _ _=>k.2,fun _ _ _ _ _=>L.idem _ k.2⟩
 ·obtain⟨w,hw,rfl⟩:=List.mem_map.mp h
  have k:=hC.ws w hw
  exact⟨k.2.1,fun v hv=>k.2.2.1 _ (hv.gv k.1),fun u v hu hv e=>k.2.2.2 _ _ (hu.gv k.1) (hv.gv k.1) (e _ k.1)⟩
theorem y3f {v:List Nat} (hv:Vn n C.p v):x2b [x0q n f,x0a n C,.tup (x05 v)]=some (.bl (z55 f C v),9):=by
 have hn:n<=1000:=Nat.le_trans L.hi (by decide)
 have hW:=hC.w60
 have hB:=hC.b60
 have hp8:=hC.p8
 obtain⟨w1,w2⟩:=x7d (J:=(Option (D × Nat) × Option (D × Nat) × Option (D × Nat) × Option (D × Nat) × Option (D × Nat))) (pt:=x9m (x0s (x0i 3) (x0s (x0i 4) (x0s (x0i 5) (x3p))))) (body:=x5s) (d:=.bl false) (q:=9) (x4o n) (fun w=>decide (f (w.2.2 (gv v w.1)) (gv v w.2.1)=gv v w.2.1)) (fun a=>[some (x0q n f,9),some (x0a n C,9),some (.tup (x05 v),9),(a).1,(a).2.1,(a).2.2.1,(a).2.2.2.1,(a).2.2.2.2]) C.W (none,none,none,none,none) (fun w hw a=>by
  have k:=hC.ws w hw
  have hl:w.2.1<v.length:=by rw[hv.len]; exact k.2.1
  have hl0:w.1<v.length:=by rw[hv.len]; exact k.1
  have a0:=z06 hl0
  have a1:=z06 hl
  have b0:=x9j (r:=w.2.2) (hv.gv k.1)
  have c0:=x59 (f:=f) (k.2.2.1 _ (hv.gv k.1)) (hv.gv k.2.1)
  refine⟨[some (x0q n f,9),some (x0a n C,9),some (.tup (x05 v),9),((some (D.int (Int.ofNat w.1),9),some (D.int (Int.ofNat w.2.1),9),some (x43 n w.2.2,9),a.2.2.2)).1,((some (D.int (Int.ofNat w.1),9),some (D.int (Int.ofNat w.2.1),9),some (x43 n w.2.2,9),a.2.2.2)).2.1,((some (D.int (Int.ofNat w.1),9),some (D.int (Int.ofNat w.2.1),9),some (x43 n w.2.2,9),a.2.2.2)).2.2.1,((some (D.int (Int.ofNat w.1),9),some (D.int (Int.ofNat w.2.1),9),some (x43 n w.2.2,9),a.2.2.2)).2.2.2.1,((some (D.int (Int.ofNat w.1),9),some (D.int (Int.ofNat w.2.1),9),some (x43 n w.2.2,9),a.2.2.2)).2.2.2.2],by simp[-Int.ofNat_eq_natCast,x4o],fun ok=>⟨(some (D.int (Int.ofNat w.1),9),some (D.int (Int.ofNat w.2.1),9),some (x43 n w.2.2,9),a.2.2.2),?_⟩,fun no=>?_⟩
  ·rw[ok]at c0
   unfold x5s
   simp[-Int.ofNat_eq_natCast,a0,b0,a1,c0]
  ·rw[no]at c0
   unfold x5s
   simp[-Int.ofNat_eq_natCast,a0,b0,a1,c0])
 have b12:∀ j:(Option (D × Nat) × Option (D × Nat) × Option (D × Nat) × Option (D × Nat) × Option (D × Nat)),(C.B.all (fun b=>decide (f b.2 (gv v b.1)=gv v b.1))=true->∃ j':(Option (D × Nat) × Option (D × Nat) × Option (D × Nat) × Option (D × Nat) × Option (D × Nat)),x75 (x9m (x0s (x0i 6) (x0s (x0i 7) (x3p)))) x3s (C.B.map x6c) [some (x0q n f,9),some (x0a n C,9),some (.tup (x05 v),9),(j).1,(j).2.1,(j).2.2.1,(j).2.2.2.1,(j).2.2.2.2]=some (.nx [some (x0q n f,9),some (x0a n C,9),some (.tup (x05 v),9),(j').1,(j').2.1,(j').2.2.1,(j').2.2.2.1,(j').2.2.2.2]))/\(C.B.all (fun b=>decide (f b.2 (gv v b.1)=gv v b.1))=false->x75 (x9m (x0s (x0i 6) (x0s (x0i 7) (x3p)))) x3s (C.B.map x6c) [some (x0q n f,9),some (x0a n C,9),some (.tup (x05 v),9),(j).1,(j).2.1,(j).2.2.1,(j).2.2.2.1,(j).2.2.2.2]=some (.rt (.bl false) 9)):=fun j=>
  x7d (J:=(Option (D × Nat) × Option (D × Nat) × Option (D × Nat) × Option (D × Nat) × Option (D × Nat))) (pt:=x9m (x0s (x0i 6) (x0s (x0i 7) (x3p)))) (body:=x3s) (d:=.bl false) (q:=9) x6c (fun b=>decide (f b.2 (gv v b.1)=gv v b.1)) (fun a=>[some (x0q n f,9),some (x0a n C,9),some (.tup (x05 v),9),(a).1,(a).2.1,(a).2.2.1,(a).2.2.2.1,(a).2.2.2.2]) C.B j (fun b hb a=>by
  have k:=hC.bs b hb
  have hl:b.1<v.length:=by rw[hv.len]; exact k.1
  have a1:=z06 hl
  have c0:=x59 (f:=f) k.2 (hv.gv k.1)
  refine⟨[some (x0q n f,9),some (x0a n C,9),some (.tup (x05 v),9),((a.1,a.2.1,a.2.2.1,some (D.int (Int.ofNat b.1),9),some (D.int (Int.ofNat b.2),9))).1,((a.1,a.2.1,a.2.2.1,some (D.int (Int.ofNat b.1),9),some (D.int (Int.ofNat b.2),9))).2.1,((a.1,a.2.1,a.2.2.1,some (D.int (Int.ofNat b.1),9),some (D.int (Int.ofNat b.2),9))).2.2.1,((a.1,a.2.1,a.2.2.1,some (D.int (Int.ofNat b.1),9),some (D.int (Int.ofNat b.2),9))).2.2.2.1,((a.1,a.2.1,a.2.2.1,some (D.int (Int.ofNat b.1),9),some (D.int (Int.ofNat b.2),9))).2.2.2.2],by simp[-Int.ofNat_eq_natCast,x6c],fun ok=>⟨(a.1,a.2.1,a.2.2.1,some (D.int (Int.ofNat b.1),9),some (D.int (Int.ofNat b.2),9)),?_⟩,fun no=>?_⟩
  ·rw[ok]at c0
   unfold x3s
   simp[-Int.ofNat_eq_natCast,a1,c0]
  ·rw[no]at c0
   unfold x3s
   simp[-Int.ofNat_eq_natCast,a1,c0])
 unfold x2b x6y
 refine x21 ?_
 show x18 _ _ [some (x0q n f,9),some (x0a n C,9),some (.tup (x05 v),9),(((none,none,none,none,none):(Option (D × Nat) × Option (D × Nat) × Option (D × Nat) × Option (D × Nat) × Option (D × Nat)))).1,(((none,none,none,none,none):(Option (D × Nat) × Option (D × Nat) × Option (D × Nat) × Option (D × Nat) × Option (D × Nat)))).2.1,(((none,none,none,none,none):(Option (D × Nat) × Option (D × Nat) × Option (D × Nat) × Option (D × Nat) × Option (D × Nat)))).2.2.1,(((none,none,none,none,none):(Option (D × Nat) × Option (D × Nat) × Option (D × Nat) × Option (D × Nat) × Option (D × Nat)))).2.2.2.1,(((none,none,none,none,none):(Option (D × Nat) × Option (D × Nat) × Option (D × Nat) × Option (D × Nat) × Option (D × Nat)))).2.2.2.2]=_
 have r1:x1s [.tup (x05 v),D.int (Int.ofNat C.p),D.int (Int.ofNat n)]=some (.bl true,9):=by
  rw[y1l C.p n (by omega)]
  have e:x4h C.p n (.tup (x05 v))=true:=by
   unfold x4h
   simp only[x11,hv.len,decide_true,Bool.true_and,List.all_eq_true]
   intro d hd
   obtain⟨x,hx,rfl⟩:=List.mem_map.mp hd
   have:=hv.lt x hx
   show(decide ((0:Int)<=(x:Int)) && decide ((x:Int)<(n:Int)))=true
   simp; omega
  rw[e]
 have c0:atD (x0a n C) 0=some (D.int (Int.ofNat C.p)):=rfl
 have c1:atD (x0a n C) 1=some (.tup (C.W.map (x4o n))):=rfl
 have c2:atD (x0a n C) 2=some (.tup (C.B.map x6c)):=rfl
 have hW':C.W.length<=1000:=by omega
 have hB':C.B.length<=1000:=by omega
 refine(x0h (ρ1:=[some (x0q n f,9),some (x0a n C,9),some (.tup (x05 v),9),(((none,none,none,none,none):(Option (D × Nat) × Option (D × Nat) × Option (D × Nat) × Option (D × Nat) × Option (D × Nat)))).1,(((none,none,none,none,none):(Option (D × Nat) × Option (D × Nat) × Option (D × Nat) × Option (D × Nat) × Option (D × Nat)))).2.1,(((none,none,none,none,none):(Option (D × Nat) × Option (D × Nat) × Option (D × Nat) × Option (D × Nat) × Option (D × Nat)))).2.2.1,(((none,none,none,none,none):(Option (D × Nat) × Option (D × Nat) × Option (D × Nat) × Option (D × Nat) × Option (D × Nat)))).2.2.2.1,(((none,none,none,none,none):(Option (D × Nat) × Option (D × Nat) × Option (D × Nat) × Option (D × Nat) × Option (D × Nat)))).2.2.2.2]) (by simp[-Int.ofNat_eq_natCast,c0,x1v,r1])).trans ?_
 have i1:x6f (x10 1 (eC (.int 1))) [some (x0q n f,9),some (x0a n C,9),some (.tup (x05 v),9),(((none,none,none,none,none):(Option (D × Nat) × Option (D × Nat) × Option (D × Nat) × Option (D × Nat) × Option (D × Nat)))).1,(((none,none,none,none,none):(Option (D × Nat) × Option (D × Nat) × Option (D × Nat) × Option (D × Nat) × Option (D × Nat)))).2.1,(((none,none,none,none,none):(Option (D × Nat) × Option (D × Nat) × Option (D × Nat) × Option (D × Nat) × Option (D × Nat)))).2.2.1,(((none,none,none,none,none):(Option (D × Nat) × Option (D × Nat) × Option (D × Nat) × Option (D × Nat) × Option (D × Nat)))).2.2.2.1,(((none,none,none,none,none):(Option (D × Nat) × Option (D × Nat) × Option (D × Nat) × Option (D × Nat) × Option (D × Nat)))).2.2.2.2]=some (C.W.map (x4o n),[some (x0q n f,9),some (x0a n C,9),some (.tup (x05 v),9),(((none,none,none,none,none):(Option (D × Nat) × Option (D × Nat) × Option (D × Nat) × Option (D × Nat) × Option (D × Nat)))).1,(((none,none,none,none,none):(Option (D × Nat) × Option (D × Nat) × Option (D × Nat) × Option (D × Nat) × Option (D × Nat)))).2.1,(((none,none,none,none,none):(Option (D × Nat) × Option (D × Nat) × Option (D × Nat) × Option (D × Nat) × Option (D × Nat)))).2.2.1,(((none,none,none,none,none):(Option (D × Nat) × Option (D × Nat) × Option (D × Nat) × Option (D × Nat) × Option (D × Nat)))).2.2.2.1,(((none,none,none,none,none):(Option (D × Nat) × Option (D × Nat) × Option (D × Nat) × Option (D × Nat) × Option (D × Nat)))).2.2.2.2]):=by simp[c1,hW']
 unfold z55
 cases h1:C.W.all fun w=>decide (f (w.2.2 (gv v w.1)) (gv v w.2.1)=gv v w.2.1)with
 | false=>exact x72 ((x1z i1).trans (w2 h1))
 | true=>
  obtain⟨j,e1⟩:=w1 h1
  refine(x0h ((x1z i1).trans e1)).trans ?_
  have i2:x6f (x10 1 (eC (.int 2))) [some (x0q n f,9),some (x0a n C,9),some (.tup (x05 v),9),(j).1,(j).2.1,(j).2.2.1,(j).2.2.2.1,(j).2.2.2.2]=some (C.B.map x6c,[some (x0q n f,9),some (x0a n C,9),some (.tup (x05 v),9),(j).1,(j).2.1,(j).2.2.1,(j).2.2.2.1,(j).2.2.2.2]):=by simp[c2,hB']
  rw[Bool.true_and]
  cases h2:C.B.all fun b=>decide (f b.2 (gv v b.1)=gv v b.1)with
  | false=>exact x72 ((x1z i2).trans ((b12 j).2 h2))
  | true=>
   obtain⟨j',e2'⟩:=(b12 j).1 h2
   exact(x0h ((x1z i2).trans e2')).trans rfl
theorem y3d {d:D} (h:x4h C.p n d=false):x2b [x0q n f,x0a n C,d]=some (.bl false,9):=by
 have hp8:=hC.p8
 have r1:x1s [d,D.int (Int.ofNat C.p),D.int (Int.ofNat n)]=some (.bl false,9):=by
  rw[y1l C.p n (by omega),h]
 have c0:atD (x0a n C) 0=some (D.int (Int.ofNat C.p)):=rfl
 unfold x2b x6y
 refine x21 ?_
 show x18 _ _ [some (x0q n f,9),some (x0a n C,9),some (d,x3t d),none,none,none,none,none]=_
 refine x72 ?_
 have hv:x06 2 [some (x0q n f,9),some (x0a n C,9),some (d,x3t d),none,none,none,none,none]=some (d,x3t d,[some (x0q n f,9),some (x0a n C,9),some (d,x3t d),none,none,none,none,none]):=y24 rfl
 have e:=x0y (F:=x1s) (n:=3) (x0w hv (x0w (f:=x10 1 (eC (.int 0))) (d:=D.int (Int.ofNat C.p)) (q:=9) (ρ1:=[some (x0q n f,9),some (x0a n C,9),some (d,x3t d),none,none,none,none,none]) (by simp[-Int.ofNat_eq_natCast,-x3t,c0]; rfl) (x19 (f:=x1d 0) (d:=D.int (Int.ofNat n)) (q:=9) (ρ1:=[some (x0q n f,9),some (x0a n C,9),some (d,x3t d),none,none,none,none,none]) (by simp[-Int.ofNat_eq_natCast,-x3t,x1v])))) rfl r1
 simp only[sIf,x4z,x88,e]
 rfl
end
section
variable {n:Nat} {f:Nat->Nat->Nat} (L:Lad n f) {C:Cht} (hC:C.Ok n f)
include L hC
theorem y25 (ns:List Int) (t:Int) (h0:0<=t):∃ v,Vn n C.p v/\x2x [scr ns,.int t,x0q n f,x0a n C]=some (.tup (x05 v),9):=by
 have hnp:(0:Int)<Int.ofNat n:=by have:=L.lo; show(0:Int)<(n:Int); omega
 have hp8:=hC.p8
 have hk:∀ k:Nat,∃ v:Nat,v<n/\x0d [scr ns,.int (t+Int.ofNat k),.int (Int.ofNat n)]=some (.int (Int.ofNat v),9):=fun k=>by
  obtain⟨v,hv,e⟩:=x4c ns (show 0<=t+Int.ofNat k by show 0<=t+(k:Int); omega) hnp
  exact⟨v,by have:(v:Int)<(n:Int):=hv; omega,e⟩
 obtain⟨g,hg⟩:=Classical.axiomOfChoice hk
 refine⟨(List.range C.p).map g,Vn.map fun i _=>(hg i).1,?_⟩
 have c0:atD (x0a n C) 0=some (.int (Int.ofNat C.p)):=rfl
 unfold x2x x7k
 refine x21 (x2t (ρ1:=[some (scr ns,0),some (.int t,9),some (x0q n f,9),some (x0a n C,9)]) ?_)
 have hcm:=x1w (k:=1) (tt:=x2l) (te:=x0k x0d 3 (x01 (x06 0) (x01 (e2 x39 (x06 1) (x06 4)) (x01 (x1d 2) (x0f))))) (deep:=false) (x6i (m:=C.p) (by omega) (ρ:=[some (scr ns,0),some (.int t,9),some (x0q n f,9),some (x0a n C,9)]) (ρ':=[some (scr ns,0),some (.int t,9),some (x0q n f,9),some (x0a n C,9)]) (fe:=x10 3 (eC (.int 0))) (q:=9) (by simp[-Int.ofNat_eq_natCast,c0])) (y3m (i:=4) rfl (fun _=>true) (fun k=>.int (Int.ofNat (g k))) (fun _=>9) (fun k hk=>rfl) (fun k hk _=>by
  simp[-Int.ofNat_eq_natCast,x1v,(hg k).2]))
 rw[show(List.range C.p).filter (fun _=>true)=List.range C.p by simp]at hcm
 refine(x3x (x19 hcm)).trans ?_
 rw[x6d]
end
end My
namespace My
open PySem PySem.Spec PyProof.Rows L2 L3
end My
namespace My
open PySem PySem.Spec PyProof.Rows L2 L3
noncomputable abbrev Sn:=Bool × Nat
noncomputable def x0n (s:Sn):D:=.tup [.str (if s.1 then "begin" else "way"),.int (Int.ofNat s.2)]
@[simp] theorem z92 {s:Sn}:(x0n s).isL=false:=rfl
noncomputable def okN (C:Cht) (s:Sn):Prop:=s.2<(if s.1 then C.B.length else C.W.length)
noncomputable def x3o (C:Cht) (s:Sn):ChS:=if s.1 then x9y (C.B.getD s.2 (0,0))else y34 (C.W.getD s.2 (0,0,id))
noncomputable def z2v (C:Cht):List Sn:=(List.range C.B.length).map (fun k=>(true,k))++(List.range C.W.length).map (fun k=>(false,k))
theorem z5r (C:Cht):∀ s∈z2v C,okN C s:=fun s hs=>by
 unfold z2v at hs
 rcases List.mem_append.mp hs with h | h
 ·obtain⟨k,hk,rfl⟩:=List.mem_map.mp h
  exact List.mem_range.mp hk
 ·obtain⟨k,hk,rfl⟩:=List.mem_map.mp h
  exact List.mem_range.mp hk
theorem y5s {α β:Type} (l:List α) (d:α) (g:α->β):(List.range l.length).map (fun k=>g (l.getD k d))=l.map g:=by
 apply List.ext_getElem?
 intro k
 by_cases hk:k<l.length
 ·simp[hk]
 ·rw[List.getElem?_eq_none (by simp; omega),List.getElem?_eq_none (by simp; omega)]
theorem z1g (C:Cht):(z2v C).map (x3o C)=x25 C:=by
 unfold z2v x25
 rw[List.map_append,List.map_map,List.map_map,<- y5s C.B (0,0) x9y,<- y5s C.W (0,0,id) y34]
 rfl
theorem y2b {C:Cht} {s:Sn} (h:okN C s):x3o C s∈x25 C:=by
 unfold okN at h
 unfold x3o x25
 cases hb:s.1 with
 | true=>
  rw[hb]at h
  have h':s.2<C.B.length:=h
  refine List.mem_append_left _ (List.mem_map.mpr ⟨C.B.getD s.2 (0,0),?_,rfl⟩)
  rw[List.getD_eq_getElem?_getD,List.getElem?_eq_getElem h']
  exact List.getElem_mem h'
 | false=>
  rw[hb]at h
  have h':s.2<C.W.length:=h
  refine List.mem_append_right _ (List.mem_map.mpr ⟨C.W.getD s.2 (0,0,id),?_,rfl⟩)
  rw[List.getD_eq_getElem?_getD,List.getElem?_eq_getElem h']
  exact List.getElem_mem h'
theorem z2w:dEq (.str "begin") (.str "begin")=some (.bl true):=by
 have h:okD (.str "begin")=true:=by decide +kernel
 unfold dEq
 rw[if_pos ⟨h,h⟩]
 rfl
theorem z9n:dEq (.str "way") (.str "begin")=some (.bl false):=by
 have h:okD (.str "begin")=true:=by decide +kernel
 have h':okD (.str "way")=true:=by decide +kernel
 have e:eqD (.str "way") (.str "begin")=false:=by decide +kernel
 unfold dEq
 rw[if_pos ⟨h',h⟩,e]
theorem j0k {v:List Nat} {p:Nat} (hp:p<v.length):L3.z8u (x05 v) none (some (Int.ofNat p))=x05 (v.take p):=by
 unfold L3.z8u
 have e1:HT.sIx (x05 v).length 0 none=0:=rfl
 have e2:HT.sIx (x05 v).length (x05 v).length (some (Int.ofNat p))=p:=by
  rw[x11]
  have:¬ ((p:Int)<0):=by omega
  simp[HT.sIx,this]
  omega
 rw[e1,e2,List.drop_zero,Nat.sub_zero]
 simp only[x05,List.map_take]
theorem z0t {v:List Nat} {p:Nat} (hp:p<v.length):L3.z8u (x05 v) (some (Int.ofNat p+1)) none=x05 (v.drop (p+1)):=by
 unfold L3.z8u
 have e1:HT.sIx (x05 v).length 0 (some (Int.ofNat p+1))=p+1:=by
  rw[x11]
  have:¬ ((p:Int)+1<0):=by omega
  simp[HT.sIx,this]
  omega
 have e2:HT.sIx (x05 v).length (x05 v).length none=(x05 v).length:=rfl
 rw[e1,e2,List.take_of_length_le (by rw[List.length_drop]; exact Nat.le_refl _)]
 simp only[x05,List.map_drop]
theorem z4q {v:List Nat} {p x:Nat} (hp:p<v.length):x05 (v.take p)++[.int (Int.ofNat x)]++x05 (v.drop (p+1))=x05 (v.set p x):=by
 rw[List.set_eq_take_append_cons_drop,if_pos hp]
 simp[x05]
section
variable {n:Nat} {f:Nat->Nat->Nat} (L:Lad n f) {C:Cht} (hC:C.Ok n f)
include L hC
theorem z2p {v:List Nat} (hv:Vn n C.p v) {s:Sn} (hs:okN C s):x22 [x0a n C,.tup (x05 v),x0n s]=some (.tup [.int (Int.ofNat (x3o C s).1),.int (Int.ofNat ((x3o C s).2 v))],9):=by
 obtain⟨b,k⟩:=s
 unfold okN at hs
 unfold x22 x4u
 have c1:atD (x0a n C) 1=some (.tup (C.W.map (x4o n))):=rfl
 have c2:atD (x0a n C) 2=some (.tup (C.B.map x6c)):=rfl
 cases b with
 | true=>
  have hk:k<C.B.length:=hs
  have s0:atD (x0n (true,k)) 0=some (.str "begin"):=rfl
  have s1:atD (x0n (true,k)) 1=some (.int (Int.ofNat k)):=rfl
  have e:atD (.tup (C.B.map x6c)) (Int.ofNat k)=some (x6c (C.B.getD k (0,0))):=y48 (by rw[List.getElem?_map,List.getElem?_eq_getElem hk]; simp[hk])
  have hst:x3o C (true,k)=x9y (C.B.getD k (0,0)):=rfl
  rw[hst]
  generalize C.B.getD k (0,0)=b at *
  generalize x0n (true,k)=sd at *
  have hb:x6c b=.tup [.int (Int.ofNat (x9y b).1),.int (Int.ofNat ((x9y b).2 v))]:=rfl
  rw[<- hb]
  simp[-Int.ofNat_eq_natCast,s0,s1,c2,e,z2w]
 | false=>
  have hk:k<C.W.length:=hs
  have s0:atD (x0n (false,k)) 0=some (.str "way"):=rfl
  have s1:atD (x0n (false,k)) 1=some (.int (Int.ofNat k)):=rfl
  have e:atD (.tup (C.W.map (x4o n))) (Int.ofNat k)=some (x4o n (C.W.getD k (0,0,id))):=y48 (by rw[List.getElem?_map,List.getElem?_eq_getElem hk]; simp[hk])
  have hst:x3o C (false,k)=y34 (C.W.getD k (0,0,id)):=rfl
  have hw:C.W.getD k (0,0,id)∈C.W:=by
   rw[List.getD_eq_getElem?_getD,List.getElem?_eq_getElem hk]
   exact List.getElem_mem hk
  have ok:=hC.ws _ hw
  rw[hst]
  generalize C.W.getD k (0,0,id)=w at *
  have w0:atD (x4o n w) 0=some (.int (Int.ofNat w.1)):=rfl
  have w1:atD (x4o n w) 1=some (.int (Int.ofNat w.2.1)):=rfl
  have w2:atD (x4o n w) 2=some (x43 n w.2.2):=rfl
  have a0:=z06 (v:=v) (i:=w.1) (by rw[hv.len]; exact ok.1)
  have a1:=x9j (r:=w.2.2) (hv.gv ok.1)
  have hst':x0n (false,k)=x0n (false,k):=rfl
  generalize hsd:x0n (false,k)=sd at *
  have hL:sd.isL=false:=by rw[<- hsd]; rfl
  show _=some (D.tup [.int (Int.ofNat w.2.1),.int (Int.ofNat (w.2.2 (gv v w.1)))],9)
  generalize hwt:x4o n w=wt at *
  have hL2:wt.isL=false:=by rw[<- hwt]; rfl
  simp[-Int.ofNat_eq_natCast,s0,s1,c1,e,z9n,w0,w1,w2,a0,a1,hL,hL2]
theorem y8e {v:List Nat} (hv:Vn n C.p v) {s:Sn} (hs:okN C s):x1q [x0q n f,x0a n C,.tup (x05 v),x0n s]=some (.tup (x05 (doS f v (x3o C s))),9):=by
 have ok:=x7a L hC _ (y2b hs)
 have hp:=z2p L hC hv hs
 have hx:=ok.lt v hv
 have hg:=hv.gv ok.pl
 have hpl:(x3o C s).1<v.length:=by rw[hv.len]; exact ok.pl
 have hp8:=hC.p8
 have hl:=hv.len
 unfold doS
 generalize (x3o C s).1=g at *
 generalize (x3o C s).2 v=x at *
 have a0:=z06 hpl
 have a1:=x4m (f:=f) hg
 have a2:=x5c (f:=f) (i:=gv v g) hx
 have s1:=j0k hpl
 have s2:=z0t hpl
 have s3:=z4q (x:=f (gv v g) x) hpl
 have l1:(x05 (v.take g)).length=g:=by rw[x11,List.length_take]; omega
 have l2:(x05 (v.drop (g+1))).length=v.length-(g+1):=by rw[x11,List.length_drop]
 unfold x1q x5q
 refine x21 ?_
 show x18 _ _ [some (x0q n f,9),some (x0a n C,9),some (.tup (x05 v),9),some (x0n s,9),none,none,none]=_
 refine(x0h (ρ1:=[some (x0q n f,9),some (x0a n C,9),some (.tup (x05 v),9),some (x0n s,9),some (.tup [.int (Int.ofNat g),.int (Int.ofNat x)],9),none,none]) (by simp[-Int.ofNat_eq_natCast,hp])).trans ?_
 have t0:atD (.tup [.int (Int.ofNat g),.int (Int.ofNat x)]) 0=some (.int (Int.ofNat g)):=rfl
 have t1:atD (.tup [.int (Int.ofNat g),.int (Int.ofNat x)]) 1=some (.int (Int.ofNat x)):=rfl
 refine(x0h (ρ1:=[some (x0q n f,9),some (x0a n C,9),some (.tup (x05 v),9),some (x0n s,9),some (.tup [.int (Int.ofNat g),.int (Int.ofNat x)],9),some (.int (Int.ofNat g),9),none]) (by simp[-Int.ofNat_eq_natCast,t0])).trans ?_
 refine(x0h (ρ1:=[some (x0q n f,9),some (x0a n C,9),some (.tup (x05 v),9),some (x0n s,9),some (.tup [.int (Int.ofNat g),.int (Int.ofNat x)],9),some (.int (Int.ofNat g),9),some (.int (Int.ofNat (f (gv v g) x)),9)]) (by simp[-Int.ofNat_eq_natCast,a0,a1,a2,t1])).trans ?_
 rw[<- s3]
 have m1:(x05 (v.take g)).length+1<=1000:=by omega
 have m2:(x05 (v.take g)).length+1+(x05 (v.drop (g+1))).length<=1000:=by omega
 generalize x05 (v.take g)=u1 at *
 generalize x05 (v.drop (g+1))=u2 at *
 have m1':u1.length<=999:=by omega
 simp[-Int.ofNat_eq_natCast,s1,s2,m1,m1',m2]
structure LowS (n:Nat) (f:Nat->Nat->Nat) (p:Nat) (l:List ChS) (v u:List Nat):Prop where
 V:Vn n p u
 cl:ClS f l u
 up:leV f p v u
 le:∀ a,Vn n p a->ClS f l a->leV f p v a->leV f p u a
theorem z0q {v:List Nat} (hv:Vn n C.p v) {l:List Sn} (hl:∀ s∈l,okN C s) (hlen:l.length<=1000) :
  ∃ (u:List Nat) (R:List Sn),LowS n f C.p (l.map (x3o C)) v u/\(∀ s∈R,s∈l)/\(R.map (x3o C)).foldl (doS f) v=u/\Lad.mu n f u+R.length<=Lad.mu n f v/\y00 [x0q n f,x0a n C,.lst (l.map x0n),.tup (x05 v)]=some (.tup [.tup (x05 u),.lst (R.map x0n)],9):=by
 have hp8:=hC.p8
 have hn8:=L.hi
 have hmu:=Lad.mu_le (f:=f) hv
 have hmu':C.p*n<=8*16:=Nat.mul_le_mul hp8 hn8
 have hS:∀ t∈l.map (x3o C),OkS n C.p f t:=fun t ht=>by
  obtain⟨s,hs,rfl⟩:=List.mem_map.mp ht
  exact x7a L hC _ (y2b (hl s hs))
 -- one round
 have round:∀ (w:List Nat) (R:List Sn) (a:Option (D × Nat)) (j:(Option (D × Nat) × Option (D × Nat))),Vn n C.p w->(∀ s∈R,s∈l)->(R.map (x3o C)).foldl (doS f) v=w->Lad.mu n f w+R.length<=Lad.mu n f v->
   ∃ (R':List Sn) (j':(Option (D × Nat) × Option (D × Nat))),(∀ s∈R',s∈l)/\(R'.map (x3o C)).foldl (doS f) v=(l.map (x3o C)).foldl (doS f) w/\Lad.mu n f ((l.map (x3o C)).foldl (doS f) w)+R'.length<=Lad.mu n f v /\
    x75 (x0i 6) x9i (l.map x0n) [some (x0q n f,9),some (x0a n C,9),some (.lst (l.map x0n),0),some (.tup (x05 w),9),some (.lst ((R).map x0n),1),a,(j).1,(j).2]=some (.nx [some (x0q n f,9),some (x0a n C,9),some (.lst (l.map x0n),0),some (.tup (x05 ((l.map (x3o C)).foldl (doS f) w)),9),some (.lst ((R').map x0n),1),a,(j').1,(j').2]):=fun w R a j hw h1 h2 h3=>by
  obtain⟨j',e,i1,i2,i3,i4⟩:=x7w (J:=(Option (D × Nat) × Option (D × Nat))) (pt:=x0i 6) (body:=x9i) x0n (fun(σ:List Nat × List Sn) j=>[some (x0q n f,9),some (x0a n C,9),some (.lst (l.map x0n),0),some (.tup (x05 σ.1),9),some (.lst ((σ.2).map x0n),1),a,(j).1,(j).2]) (fun σ s=>(doS f σ.1 (x3o C s),if doS f σ.1 (x3o C s)=σ.1 then σ.2 else σ.2++[s]))
   (fun σ=>Vn n C.p σ.1/\(∀ s∈σ.2,s∈l)/\(σ.2.map (x3o C)).foldl (doS f) v=σ.1/\Lad.mu n f σ.1+σ.2.length<=Lad.mu n f v) l (w,R) j ⟨hw,h1,h2,h3⟩ (fun s hs σ j hh0=>by
    obtain⟨k1,k2,k3,k4⟩:=hh0
    obtain⟨x,Q⟩:=σ
    dsimp only at k1 k2 k3 k4 ⊢
    have ok:=x7a L hC _ (y2b (hl s hs))
    have hb:=y8e L hC k1 (hl s hs)
    have hx':=L.doS_V ok k1
    by_cases he:doS f x (x3o C s)=x
    ·rw[if_pos he]
     refine⟨⟨hx',k2,by rw[he]; exact k3,by rw[he]; exact k4⟩,[some (x0q n f,9),some (x0a n C,9),some (.lst (l.map x0n),0),some (.tup (x05 x),9),some (.lst ((Q).map x0n),1),a,(((some (x0n s,9),j.2):(Option (D × Nat) × Option (D × Nat)))).1,(((some (x0n s,9),j.2):(Option (D × Nat) × Option (D × Nat)))).2],(some (x0n s,9),some (.tup (x05 (doS f x (x3o C s))),9)),by simp,?_⟩
     unfold x9i
     refine(x0h (ρ1:=[some (x0q n f,9),some (x0a n C,9),some (.lst (l.map x0n),0),some (.tup (x05 x),9),some (.lst ((Q).map x0n),1),a,(((some (x0n s,9),some (.tup (x05 (doS f x (x3o C s))),9)):(Option (D × Nat) × Option (D × Nat)))).1,(((some (x0n s,9),some (.tup (x05 (doS f x (x3o C s))),9)):(Option (D × Nat) × Option (D × Nat)))).2]) (by simp[hb])).trans ?_
     refine(x0h (ρ1:=[some (x0q n f,9),some (x0a n C,9),some (.lst (l.map x0n),0),some (.tup (x05 x),9),some (.lst ((Q).map x0n),1),a,(((some (x0n s,9),some (.tup (x05 (doS f x (x3o C s))),9)):(Option (D × Nat) × Option (D × Nat)))).1,(((some (x0n s,9),some (.tup (x05 (doS f x (x3o C s))),9)):(Option (D × Nat) × Option (D × Nat)))).2]) (by rw[he]; simp[y94])).trans ?_
     simp
    ·rw[if_neg he]
     have hlt:=L.mu_lt k1 hx' (L.doS_up ok k1) (fun z=>he z.symm)
     refine⟨⟨hx',fun t ht=>?_,?_,by rw[List.length_append]; show _+(Q.length+1)<=_; omega⟩,[some (x0q n f,9),some (x0a n C,9),some (.lst (l.map x0n),0),some (.tup (x05 x),9),some (.lst ((Q).map x0n),1),a,(((some (x0n s,9),j.2):(Option (D × Nat) × Option (D × Nat)))).1,(((some (x0n s,9),j.2):(Option (D × Nat) × Option (D × Nat)))).2],(some (x0n s,9),some (.tup (x05 (doS f x (x3o C s))),9)),by simp,?_⟩
     ·rcases List.mem_append.mp ht with h | h
      ·exact k2 t h
      ·rw[List.mem_singleton.mp h]; exact hs
     ·rw[List.map_append,List.foldl_append,k3]; rfl
     ·unfold x9i
      have hQ:Q.length<=1000:=by omega
      refine(x0h (ρ1:=[some (x0q n f,9),some (x0a n C,9),some (.lst (l.map x0n),0),some (.tup (x05 x),9),some (.lst ((Q).map x0n),1),a,(((some (x0n s,9),some (.tup (x05 (doS f x (x3o C s))),9)):(Option (D × Nat) × Option (D × Nat)))).1,(((some (x0n s,9),some (.tup (x05 (doS f x (x3o C s))),9)):(Option (D × Nat) × Option (D × Nat)))).2]) (by simp[hb])).trans ?_
      refine(x0h (ρ1:=[some (x0q n f,9),some (x0a n C,9),some (.lst (l.map x0n),0),some (.tup (x05 x),9),some (.lst (((Q++[s])).map x0n),1),a,(((some (x0n s,9),some (.tup (x05 (doS f x (x3o C s))),9)):(Option (D × Nat) × Option (D × Nat)))).1,(((some (x0n s,9),some (.tup (x05 (doS f x (x3o C s))),9)):(Option (D × Nat) × Option (D × Nat)))).2]) (by
       generalize doS f x (x3o C s)=y at *
       simp[y94,he,hQ])).trans ?_
      simp)
  have ef:∀ (l:List Sn) (σ:List Nat × List Sn),(l.foldl (fun(σ:List Nat × List Sn) s=>(doS f σ.1 (x3o C s),if doS f σ.1 (x3o C s)=σ.1 then σ.2 else σ.2++[s])) σ).1=(l.map (x3o C)).foldl (doS f) σ.1:=by
   intro l
   induction l with
   | nil=>intro σ; rfl
   | cons s l ih=>intro σ; exact ih _
  have ef':=ef l (w,R)
  generalize l.foldl (fun(σ:List Nat × List Sn) s=>(doS f σ.1 (x3o C s),if doS f σ.1 (x3o C s)=σ.1 then σ.2 else σ.2++[s])) (w,R)=σ at *
  obtain⟨x,Q⟩:=σ
  dsimp only at ef' i1 i2 i3 i4 e
  have ef2:x=(l.map (x3o C)).foldl (doS f) w:=ef'
  subst ef2
  exact⟨Q,j',i2,i3,i4,e⟩
 -- all rounds
 obtain⟨ρ',e,u,R,j,hu,hR1,hR2,hR3,rfl⟩:=y1h (c:=x3n (e2 dNe (x06 3) (x06 5))) (b:=y2g)
  (Q:=fun ρ=>∃ (u:List Nat) (R:List Sn),∃ j:(Option (D × Nat) × Option (D × Nat)),LowS n f C.p (l.map (x3o C)) v u/\(∀ s∈R,s∈l)/\(R.map (x3o C)).foldl (doS f) v=u/\Lad.mu n f u+R.length<=Lad.mu n f v/\ρ=[some (x0q n f,9),some (x0a n C,9),some (.lst (l.map x0n),0),some (.tup (x05 u),9),some (.lst ((R).map x0n),1),some (.tup (x05 u),9),(j).1,(j).2])
  (fun k ρ=>∃ (w:List Nat) (R:List Sn),∃ j:(Option (D × Nat) × Option (D × Nat)),∃ a:D,Vn n C.p w/\leV f C.p v w/\(∀ x,Vn n C.p x->ClS f (l.map (x3o C)) x->leV f C.p v x->leV f C.p w x)/\(∀ s∈R,s∈l)/\(R.map (x3o C)).foldl (doS f) v=w/\Lad.mu n f w+R.length<=Lad.mu n f v /\
    ((a=.non/\k=Lad.mu n f w+1)\/∃ y,a=.tup (x05 y)/\Vn n C.p y/\w=(l.map (x3o C)).foldl (doS f) y/\k=Lad.mu n f w+(if y=w then 0 else 1))/\ρ=[some (x0q n f,9),some (x0a n C,9),some (.lst (l.map x0n),0),some (.tup (x05 w),9),some (.lst ((R).map x0n),1),some (a,9),(j).1,(j).2])
  (k:=Lad.mu n f v+1) (ρ:=[some (x0q n f,9),some (x0a n C,9),some (.lst (l.map x0n),0),some (.tup (x05 v),9),some (.lst ((([]:List Sn)).map x0n),1),some (.non,9),(((none,none):(Option (D × Nat) × Option (D × Nat)))).1,(((none,none):(Option (D × Nat) × Option (D × Nat)))).2]) (by omega) ⟨v,[],(none,none),.non,hv,L.leV_refl hv,fun x _ _ h=>h,(fun _ z=>nomatch z),rfl,Nat.le_refl _,.inl ⟨rfl,rfl⟩,rfl⟩ (fun k ρ hh0=>by
   obtain⟨w,R,j,a,hw,h1,h2,h3,h4,h5,h6,hr⟩:=hh0
   subst hr
   have next:(x3n (e2 dNe (x06 3) (x06 5)) [some (x0q n f,9),some (x0a n C,9),some (.lst (l.map x0n),0),some (.tup (x05 w),9),some (.lst ((R).map x0n),1),some (a,9),(j).1,(j).2]=some (true,[some (x0q n f,9),some (x0a n C,9),some (.lst (l.map x0n),0),some (.tup (x05 w),9),some (.lst ((R).map x0n),1),some (a,9),(j).1,(j).2]))->Lad.mu n f w+1<=k->∃ ρ1 ρ2 k',x3n (e2 dNe (x06 3) (x06 5)) [some (x0q n f,9),some (x0a n C,9),some (.lst (l.map x0n),0),some (.tup (x05 w),9),some (.lst ((R).map x0n),1),some (a,9),(j).1,(j).2]=some (true,ρ1)/\y2g ρ1=some (.nx ρ2)/\k'<k/\∃ (w:List Nat) (R:List Sn),∃ j:(Option (D × Nat) × Option (D × Nat)),∃ a:D,Vn n C.p w/\leV f C.p v w/\(∀ x,Vn n C.p x->ClS f (l.map (x3o C)) x->leV f C.p v x->leV f C.p w x)/\(∀ s∈R,s∈l)/\(R.map (x3o C)).foldl (doS f) v=w/\Lad.mu n f w+R.length<=Lad.mu n f v /\
   ((a=.non/\k'=Lad.mu n f w+1)\/∃ y,a=.tup (x05 y)/\Vn n C.p y/\w=(l.map (x3o C)).foldl (doS f) y/\k'=Lad.mu n f w+(if y=w then 0 else 1))/\ρ2=[some (x0q n f,9),some (x0a n C,9),some (.lst (l.map x0n),0),some (.tup (x05 w),9),some (.lst ((R).map x0n),1),some (a,9),(j).1,(j).2]:=fun ht hk=>by
    obtain⟨R',j',r1,r2,r3,r4⟩:=round w R (some (.tup (x05 w),9)) j hw h3 h4 h5
    have hw':=L.foldS_V hS hw
    have up:=L.foldS_up hS hw
    refine⟨_,[some (x0q n f,9),some (x0a n C,9),some (.lst (l.map x0n),0),some (.tup (x05 ((l.map (x3o C)).foldl (doS f) w)),9),some (.lst ((R').map x0n),1),some (.tup (x05 w),9),(j').1,(j').2],Lad.mu n f ((l.map (x3o C)).foldl (doS f) w)+(if w=(l.map (x3o C)).foldl (doS f) w then 0 else 1),ht,?_,?_,_,R',j',.tup (x05 w),hw',L.leV_trans hv hw hw' h1 up,fun x hx cx hvx=>L.foldS_below hx hS hw cx (h2 x hx cx hvx),r1,r2,r3,.inr ⟨w,rfl,hw,rfl,rfl⟩,rfl⟩
    ·unfold y2g
     refine(x0h (ρ1:=[some (x0q n f,9),some (x0a n C,9),some (.lst (l.map x0n),0),some (.tup (x05 w),9),some (.lst ((R).map x0n),1),some (.tup (x05 w),9),(j).1,(j).2]) (by simp)).trans ?_
     exact(x1z (ds:=l.map x0n) (ρ1:=[some (x0q n f,9),some (x0a n C,9),some (.lst (l.map x0n),0),some (.tup (x05 w),9),some (.lst ((R).map x0n),1),some (.tup (x05 w),9),(j).1,(j).2]) (by simp[hlen])).trans r4
    ·by_cases he:w=(l.map (x3o C)).foldl (doS f) w
     ·rw[if_pos he,<- he]; omega
     ·rw[if_neg he]
      have:=L.mu_lt hw hw' up he
      omega
   rcases h6 with⟨rfl,hk⟩ | ⟨y,rfl,hy,hwy,hk⟩
   ·refine .inr (next ?_ (by omega))
    have hne:dNe (.tup (x05 w)) .non=some (.bl true):=by
     unfold dNe
     rw[if_pos ⟨(z7a w).ok,(Sh.non (k:=0)).ok⟩]
     rfl
    simp[hne]
   ·by_cases hyw:y=w
    ·subst hyw
     refine .inl ⟨[some (x0q n f,9),some (x0a n C,9),some (.lst (l.map x0n),0),some (.tup (x05 y),9),some (.lst ((R).map x0n),1),some (.tup (x05 y),9),(j).1,(j).2],by simp[y94],y,R,j,⟨hw,(L.foldS_fix hS hw).mp hwy.symm,h1,h2⟩,h3,h4,h5,rfl⟩
    ·rw[if_neg hyw]at hk
     refine .inr (next ?_ (by omega))
     have:¬ (w=y):=fun z=>hyw z.symm
     simp[y94,this])
 refine⟨u,R,hu,hR1,hR2,hR3,?_⟩
 unfold y00 y86
 refine x21 ?_
 show x18 _ _ [some (x0q n f,9),some (x0a n C,9),some (.lst (l.map x0n),0),some (.tup (x05 v),9),none,none,none,none]=_
 refine(x0h (ρ1:=[some (x0q n f,9),some (x0a n C,9),some (.lst (l.map x0n),0),some (.tup (x05 v),9),some (.lst [],1),none,none,none]) (by simp)).trans ?_
 refine(x0h (ρ1:=[some (x0q n f,9),some (x0a n C,9),some (.lst (l.map x0n),0),some (.tup (x05 v),9),some (.lst ((([]:List Sn)).map x0n),1),some (.non,9),(((none,none):(Option (D × Nat) × Option (D × Nat)))).1,(((none,none):(Option (D × Nat) × Option (D × Nat)))).2]) (by simp)).trans ?_
 refine(x0h e).trans ?_
 simp
end
theorem dg1 (a b:D):y4l ["begin","way"] [a,b] "begin" = some a:=by unfold y4l; rw[if_pos rfl]
theorem dg2 (a b:D):y4l ["begin","way"] [a,b] "way" = some b:=by
 unfold y4l
 rw[if_neg (by decide)]
 unfold y4l
 rw[if_pos rfl]
section
variable {n:Nat} {f:Nat->Nat->Nat} {C:Cht}
theorem z17 {s:Sn} (hs:okN C s):x20 [x0n s,.dic ["begin","way"] [.int (Int.ofNat C.B.length),.int (Int.ofNat C.W.length)]]=some (.bl true,9):=by
 obtain⟨b,k⟩:=s
 unfold okN at hs
 have l2:dNe (.int 2) (.int 2)=some (.bl false):=(z4b _ _).trans (by simp)
 unfold x20 x4q
 cases b with
 | true=>
  have hk:k<C.B.length:=hs
  have n1:x1b [.int (Int.ofNat k),.int (Int.ofNat C.B.length)]=some (.bl true,9):=by
   rw[x5x]
   have:x5g C.B.length (.int (Int.ofNat k))=true:=by
    show(decide ((0:Int)<=(k:Int)) && decide ((k:Int)<(C.B.length:Int)))=true
    simp; exact hk
   rw[this]
  have s0:atD (.tup [.str "begin",.int (Int.ofNat k)]) 0=some (.str "begin"):=rfl
  have s1:atD (.tup [.str "begin",.int (Int.ofNat k)]) 1=some (.int (Int.ofNat k)):=rfl
  have ll:x79 (.tup [.str "begin",.int (Int.ofNat k)])=some 2:=rfl
  have g1:=dg1 (.int (Int.ofNat C.B.length)) (.int (Int.ofNat C.W.length))
  show fnD _ _ [.tup [.str "begin",.int (Int.ofNat k)],_]=_
  simp[-Int.ofNat_eq_natCast,isD,ll,l2,s0,s1,g1,n1]
 | false=>
  have hk:k<C.W.length:=hs
  have n1:x1b [.int (Int.ofNat k),.int (Int.ofNat C.W.length)]=some (.bl true,9):=by
   rw[x5x]
   have:x5g C.W.length (.int (Int.ofNat k))=true:=by
    show(decide ((0:Int)<=(k:Int)) && decide ((k:Int)<(C.W.length:Int)))=true
    simp; exact hk
   rw[this]
  have s0:atD (.tup [.str "way",.int (Int.ofNat k)]) 0=some (.str "way"):=rfl
  have s1:atD (.tup [.str "way",.int (Int.ofNat k)]) 1=some (.int (Int.ofNat k)):=rfl
  have ll:x79 (.tup [.str "way",.int (Int.ofNat k)])=some 2:=rfl
  have g1:=dg2 (.int (Int.ofNat C.B.length)) (.int (Int.ofNat C.W.length))
  show fnD _ _ [.tup [.str "way",.int (Int.ofNat k)],_]=_
  simp[-Int.ofNat_eq_natCast,isD,ll,l2,s0,s1,g1,n1]
theorem y7a {s:Sn} (hs:okN C s):x44 [x0a n C,x0n s]=some (.bl true,9):=by
 have h:=z17 hs
 unfold x44 y3h
 have e1:x84 0 2 [some (x0a n C,9),some (x0n s,9)]=some (Int.ofNat C.B.length):=by
  show some (Int.ofNat (C.B.map x6c).length)=_
  rw[List.length_map]
 have e2':x84 0 1 [some (x0a n C,9),some (x0n s,9)]=some (Int.ofNat C.W.length):=by
  show some (Int.ofNat (C.W.map (x4o n)).length)=_
  rw[List.length_map]
 have ed:y79 "begin" "way" (x84 0 2) (x84 0 1) [some (x0a n C,9),some (x0n s,9)]=some (.dic ["begin","way"] [.int (Int.ofNat C.B.length),.int (Int.ofNat C.W.length)],9,[some (x0a n C,9),some (x0n s,9)]):=by
  unfold y79
  rw[e1,e2']
 exact x21 (x2t (x0y (x0w (f:=x06 1) (d:=x0n s) (q:=9) (ρ:=[some (x0a n C,9),some (x0n s,9)]) (ρ1:=[some (x0a n C,9),some (x0n s,9)]) rfl (x19 ed)) rfl h))
theorem x8a {l:List Sn} (hl:∀ s∈l,okN C s) (hlen:l.length<=1000):x2g [x0a n C,.lst (l.map x0n)]=some (.non,9):=by
 have hit:x6f (x06 1) [some (x0a n C,9),some (.lst (l.map x0n),0)]=some (l.map x0n,[some (x0a n C,9),some (.lst (l.map x0n),0)]):=by simp[hlen]
 have e:=z1f (i:=2) (te:=x0k x44 2 (x01 (x06 0) (x01 (x06 2) (x0f)))) (ρ:=[some (x0a n C,9),some (.lst (l.map x0n),0)]) rfl hit (fun _=>true) (fun _=>9) (fun d hd=>by
  obtain⟨s,hs,rfl⟩:=List.mem_map.mp hd
  simp[y7a (n:=n) (hl s hs)])
 have ea:(l.map x0n).all (fun _=>true)=true:=by simp
 rw[ea]at e
 unfold x2g x5d
 show(match sIf _ _ _ [some (x0a n C,9),some (.lst (l.map x0n),0)]with | some (.rt d q)=>some (d,q) | some (.nx _)=>some (D.non,9) | _=>none)=_
 have ei:sIf (x4z (x88 (eB z0r (x01 (x2y 1 (x6f (x06 1)) (x0i 2) (x2l) (x0k x44 2 (x01 (x06 0) (x01 (x06 2) (x0f)))) false) (x0f))))) (y6d) (x5i) [some (x0a n C,9),some (.lst (l.map x0n),0)]=some (.nx [some (x0a n C,9),some (.lst (l.map x0n),0)]):=by
  refine(y4k ?_).trans rfl
  unfold x4z x88
  rw[e]
  rfl
 rw[ei]
theorem z2g:(z2v C).length=C.B.length+C.W.length:=by simp[z2v]
theorem y3q (hB:C.B.length<=60) (hW:C.W.length<=60):x4a [x0a n C]=some (.lst ((z2v C).map x0n),1):=by
 unfold x4a y0r
 refine x21 ?_
 show x18 _ _ [some (x0a n C,9),none]=_
 have c1:atD (x0a n C) 1=some (.tup (C.W.map (x4o n))):=rfl
 have c2:atD (x0a n C) 2=some (.tup (C.B.map x6c)):=rfl
 have lB:x79 (.tup (C.B.map x6c))=some C.B.length:=by simp[x79]
 have lW:x79 (.tup (C.W.map (x4o n)))=some C.W.length:=by simp[x79]
 have h1:=x1w (k:=1) (tt:=x2l) (te:=x91 (x01 (eC (.str "begin")) (x01 (x06 2) (x0f)))) (deep:=false) (x6i (m:=C.B.length) (by omega) (fe:=eB z1e (x01 (x10 0 (eC (.int 2))) (x0f))) (ρ:=[some (x0a n C,9),none]) (ρ':=[some (x0a n C,9),none]) (q:=9) (by simp[-Int.ofNat_eq_natCast,c2,lB])) (y3m (i:=2) rfl (fun _=>true) (fun k=>x0n (true,k)) (fun _=>9) (fun k hk=>rfl) (fun k hk _=>by simp[-Int.ofNat_eq_natCast,x0n]))
 rw[show(List.range C.B.length).filter (fun _=>true)=List.range C.B.length by simp]at h1
 refine(x0h (ρ1:=[some (x0a n C,9),some (.lst ((List.range C.B.length).map fun k=>x0n (true,k)),1)]) (x3i h1 rfl)).trans ?_
 have h2:=x1w (k:=1) (tt:=x2l) (te:=x91 (x01 (eC (.str "way")) (x01 (x06 2) (x0f)))) (deep:=false) (x6i (m:=C.W.length) (by omega) (fe:=eB z1e (x01 (x10 0 (eC (.int 1))) (x0f))) (ρ:=[some (x0a n C,9),some (.lst ((List.range C.B.length).map fun k=>x0n (true,k)),0)]) (ρ':=[some (x0a n C,9),some (.lst ((List.range C.B.length).map fun k=>x0n (true,k)),0)]) (q:=9) (by simp[-Int.ofNat_eq_natCast,c1,lW])) (y3m (i:=2) rfl (fun _=>true) (fun k=>x0n (false,k)) (fun _=>9) (fun k hk=>rfl) (fun k hk _=>by simp[-Int.ofNat_eq_natCast,x0n]))
 rw[show(List.range C.W.length).filter (fun _=>true)=List.range C.W.length by simp]at h2
 have ea:(z2v C).map x0n=((List.range C.B.length).map fun k=>x0n (true,k))++((List.range C.W.length).map fun k=>x0n (false,k)):=by
  unfold z2v
  rw[List.map_append,List.map_map,List.map_map]
  rfl
 rw[ea]
 refine x2t (ρ1:=[some (x0a n C,9),some (.lst ((List.range C.B.length).map fun k=>x0n (true,k)),0)]) ?_
 have v1:x06 1 [some (x0a n C,9),some (.lst ((List.range C.B.length).map fun k=>x0n (true,k)),1)]=some (.lst ((List.range C.B.length).map fun k=>x0n (true,k)),0,[some (x0a n C,9),some (.lst ((List.range C.B.length).map fun k=>x0n (true,k)),0)]):=rfl
 unfold y9t
 rw[v1]
 have hl:((List.range C.B.length).map fun k=>x0n (true,k)).length+((List.range C.W.length).map fun k=>x0n (false,k)).length<=1000:=by
  rw[List.length_map,List.length_map,List.length_range,List.length_range]; omega
 generalize ((List.range C.B.length).map fun k=>x0n (true,k))=x at *
 generalize ((List.range C.W.length).map fun k=>x0n (false,k))=y at *
 rw[if_neg (by decide)]at h2
 simp only[h2,if_pos hl]
end
section
variable {n:Nat} {f:Nat->Nat->Nat} (L:Lad n f) {z:Nat} (hz:z<n) (bz:∀ j,j<n->f z j=j) {C:Cht} (hC:C.Ok n f)
noncomputable def y0u (p z:Nat):List Nat:=List.replicate p z
theorem z6x {p:Nat} (hz:z<n):Vn n p (y0u p z):=⟨by simp[y0u],fun x hx=>by rw[(List.mem_replicate.mp hx).2]; exact hz⟩
include L hz bz hC
theorem y8g:x7e [x0q n f,x0a n C]=some (.tup (x05 (y0u C.p z)),9):=by
 have hn:n<=1000:=Nat.le_trans L.hi (by decide)
 have hp8:=hC.p8
 have c0:atD (x0a n C) 0=some (.int (Int.ofNat C.p)):=rfl
 have hl:=y5t L hz bz hn
 unfold x7e y66
 have e:(List.replicate C.p [D.int (Int.ofNat z)]).flatten=x05 (y0u C.p z):=by
  simp[x05,y0u,List.flatten_replicate_singleton]
 have b1:(-1000:Int)<=Int.ofNat C.p:=by show(-1000:Int)<=(C.p:Int); omega
 have b2:Int.ofNat C.p<=1000:=by show(C.p:Int)<=1000; omega
 have b3:(Int.ofNat C.p).toNat=C.p:=rfl
 have b4:C.p<=1000:=by omega
 simp[-Int.ofNat_eq_natCast,-List.flatten_replicate_singleton,hl,c0,b1,b2,b3,b4,e]
theorem y5o {l:List Sn} (hl:∀ s∈l,okN C s) (hlen:l.length<=1000) :
  ∃ (u:List Nat) (R:List Sn),LowS n f C.p (l.map (x3o C)) (y0u C.p z) u/\(∀ s∈R,s∈l)/\(R.map (x3o C)).foldl (doS f) (y0u C.p z)=u/\Lad.mu n f u+R.length<=Lad.mu n f (y0u C.p z)/\x4p [x0q n f,x0a n C,.lst (l.map x0n)]=some (.tup [.tup (x05 u),.int (Int.ofNat R.length)],9):=by
 obtain⟨u,R,h1,h2,h3,h4,e⟩:=z0q L hC (z6x (p:=C.p) hz) hl hlen
 refine⟨u,R,h1,h2,h3,h4,?_⟩
 have r0:=x8a (n:=n) hl hlen
 have r1:=y8g L hz bz hC
 have a0:atD (.tup [.tup (x05 u),.lst (R.map x0n)]) 0=some (.tup (x05 u)):=rfl
 have a1:atD (.tup [.tup (x05 u),.lst (R.map x0n)]) 1=some (.lst (R.map x0n)):=rfl
 have a2:x79 (.lst (R.map x0n))=some R.length:=by simp[x79]
 unfold x4p y18
 simp[-Int.ofNat_eq_natCast,r0,r1,e,a0,a1,a2]
theorem y02:∃ u,LowS n f C.p (x25 C) (y0u C.p z) u/\x8j [x0q n f,x0a n C]=some (.tup (x05 u),9):=by
 have hB:=hC.b60
 have hW:=hC.w60
 obtain⟨u,R,h1,h2,h3,h4,e⟩:=y5o L hz bz hC (z5r C) (by rw[z2g]; omega)
 rw[z1g]at h1
 refine⟨u,h1,?_⟩
 have r0:=y3q (n:=n) hB hW
 have a0:atD (.tup [.tup (x05 u),.int (Int.ofNat R.length)]) 0=some (.tup (x05 u)):=rfl
 unfold x8j y7r
 simp[-Int.ofNat_eq_natCast,r0,e,a0]
end
noncomputable def leB (f:Nat->Nat->Nat) (p:Nat) (u v:List Nat):Bool:=(List.range p).all fun i=>decide (f (gv u i) (gv v i)=gv v i)
theorem y92 {f:Nat->Nat->Nat} {p:Nat} {u v:List Nat}:leB f p u v=true ↔ leV f p u v:=by
 unfold leB leV
 rw[L3.range_all]
 simp
section
variable {n:Nat} {f:Nat->Nat->Nat} {p:Nat} {u v:List Nat} (hp:p<=1000) (hu:Vn n p u) (hv:Vn n p v)
include hp hu hv
theorem x6r:x14 [x0q n f,.tup (x05 u),.tup (x05 v)]=some (.bl (leB f p u v),9):=by
 unfold x14 x4r
 have hl:x79 (.tup (x05 u))=some p:=by simp[x79,x11,hu.len]
 have hc:=x1w (k:=1) (tt:=x3n (e2 dNe (eIx (x10 0 (x10 1 (x06 3))) (x10 2 (x06 3))) (x10 2 (x06 3)))) (te:=x06 3) (deep:=false) (x4k hp (i:=1) (ρ:=[some (x0q n f,9),some (.tup (x05 u),9),some (.tup (x05 v),9)]) rfl hl) (y3m (i:=3) rfl (fun j=>!decide (f (gv u j) (gv v j)=gv v j)) (fun j=>.int (Int.ofNat j)) (fun _=>9) (fun j hj=>by
  have a1:=z06 (v:=u) (i:=j) (by rw[hu.len]; exact hj)
  have a2:=z06 (v:=v) (i:=j) (by rw[hv.len]; exact hj)
  simp[-Int.ofNat_eq_natCast,a1,a2,x4m (f:=f) (hu.gv hj),x5c (f:=f) (i:=gv u j) (hv.gv hj),x8o]) (fun j hj _=>by simp[-Int.ofNat_eq_natCast]))
 have e':(((List.range p).filter fun j=>!decide (f (gv u j) (gv v j)=gv v j)).map fun j=>D.int (Int.ofNat j))=x05 ((List.range p).filter fun j=>!decide (f (gv u j) (gv v j)=gv v j)):=rfl
 rw[e']at hc
 have hq:dEq (.lst (x05 ((List.range p).filter fun j=>!decide (f (gv u j) (gv v j)=gv v j)))) (.lst [])=some (.bl (leB f p u v)):=by
  unfold leB
  rw[<- y6z]
  exact z83 _ []
 exact x21 (x2t (x9q hc (rfl:x5h x0f _=some (.lst [],1,_)) hq))
end
theorem z56 {f:Den} {ρ ρ1:Rho} {b:Bool} {q:Nat} (h:f ρ=some (.bl b,q,ρ1)):x88 f ρ=some (b,ρ1):=by unfold x88; rw[h]; cases b <;> rfl
theorem z1o {i q n:Nat} {ρ:Rho} {d:D} (h:ρ[i]? = some (some (d,q))) (hl:x79 d=some n):x1d i ρ=some (.int (Int.ofNat n),9,ρ):=by unfold x1d; rw[h]; simp only[hl]
theorem z3s {i q:Nat} {ρ:Rho} {d:D} (h:ρ[i]? = some (some (d,q))) (hd:d.isL=false):x06 i ρ=some (d,9,ρ):=by unfold x06; rw[h]; simp[hd]
theorem x4n {i q:Nat} {ρ:Rho} {x d:D} {b:Den} {k:Int} {q':Nat} (hb:b ρ=some (.int k,q',ρ)) (h:ρ[i]? = some (some (x,q))) (ha:atD x k=some d) (hd:d.isL=false):x10 i b ρ=some (d,9,ρ):=by
 unfold x10
 rw[h]
 simp only[hb,h,ha,hd,x3t]
 simp
theorem y90 {ρ:Rho} {x d:D} {a b:Den} {k:Int} {q q':Nat} {ρ1 ρ2:Rho} (h:a ρ=some (x,q,ρ1)) (hb:b ρ1=some (.int k,q',ρ2)) (ha:atD x k=some d) (hx:x.isL=false) (hd:d.isL=false):eIx a b ρ=some (d,9,ρ2):=by
 unfold eIx
 rw[h]
 simp only[hb,ha,hd,hx,x3t]
 simp
theorem z5i (ns:List Int) {c:Int} (hc:0<=c) {n:Nat} (hn:0<n):∃ v,v<n/\x0d [scr ns,.int c,.int (Int.ofNat n)]=some (.int (Int.ofNat v),9):=by
 have hnp:(0:Int)<Int.ofNat n:=by show(0:Int)<(n:Int); omega
 have h1:=x58 ns c hnp
 have h2:=x5o ns c hnp
 have h3:Int.ofNat n=(n:Int):=rfl
 obtain⟨v,hv⟩:=Int.eq_ofNat_of_zero_le h1
 refine⟨v,by rw[hv,h3]at h2; omega,?_⟩
 rw[x5j ns c _ hc hnp,hv]
 rfl
theorem y64 {α J:Type} {pt:x5p} {body:x1a} (enc:α->D) (S:List D->J->Rho) (v:α->D):∀ (l:List α) (acc:List D) (j:J),acc.length+l.length<=1000->
  (∀ a∈l,∀ ds j,ds.length<=1000->∃ ρ1 j',pt (enc a) (S ds j)=some ρ1/\body ρ1=some (.nx (S (ds++[v a]) j')))->∃ j',x75 pt body (l.map enc) (S acc j)=some (.nx (S (acc++l.map v) j'))
 | [],acc,j,_,_=>⟨j,by rw[List.map_nil,List.map_nil,List.append_nil]; rfl⟩
 | a::l,acc,j,hl,h=>by
  rw[List.length_cons]at hl
  obtain⟨ρ1,j1,h1,h2⟩:=h a List.mem_cons_self acc j (by omega)
  obtain⟨j2,e⟩:=y64 enc S v l (acc++[v a]) j1 (by rw[List.length_append]; show _+1+_<=1000; omega) fun b hb=>h b (List.mem_cons_of_mem _ hb)
  refine⟨j2,?_⟩
  rw[List.map_cons,y2m h1 h2,e,List.append_assoc]
  rfl
theorem y47 {α β J:Type} {pt:x5p} {body:x1a} (enc:α->D) (S:List D->J->Rho) (dec:β->D) (good:β->Prop):∀ (l:List α) (acc:List D) (j:J),acc.length+l.length<=1000->
  (∀ a∈l,∀ ds j,ds.length<=1000->∃ ρ1 j' x,good x/\pt (enc a) (S ds j)=some ρ1/\body ρ1=some (.nx (S (ds++[dec x]) j')))->∃ (xs:List β) (j':J),xs.length=l.length/\(∀ x∈xs,good x)/\x75 pt body (l.map enc) (S acc j)=some (.nx (S (acc++xs.map dec) j'))
 | [],acc,j,_,_=>⟨[],j,rfl,(fun _ h=>nomatch h),by rw[List.map_nil,List.map_nil,List.append_nil]; rfl⟩
 | a::l,acc,j,hl,h=>by
  rw[List.length_cons]at hl
  obtain⟨ρ1,j1,x,hx,h1,h2⟩:=h a List.mem_cons_self acc j (by omega)
  obtain⟨xs,j2,l2,g2,e⟩:=y47 enc S dec good l (acc++[dec x]) j1 (by rw[List.length_append]; show _+1+_<=1000; omega) fun b hb=>h b (List.mem_cons_of_mem _ hb)
  refine⟨x::xs,j2,by rw[List.length_cons,List.length_cons,l2],fun y hy=>?_,?_⟩
  ·rcases List.mem_cons.mp hy with rfl | hy
   ·exact hx
   ·exact g2 y hy
  ·rw[List.map_cons,y2m h1 h2,e,List.append_assoc]
   rfl
noncomputable def mt (n:Nat) (f:Nat->Nat->Nat) (z a b:Nat):Nat:=(((List.range n).filter fun x=>decide (f x a=a)).filter fun x=>decide (f x b=b)).foldl f z
section
variable {n:Nat} {f:Nat->Nat->Nat}
variable (L:Lad n f) {z:Nat} (hz:z<n) (bz:∀ j,j<n->f z j=j)
theorem x8w {a b x:Nat}:x∈((List.range n).filter fun x=>decide (f x a=a)).filter (fun x=>decide (f x b=b)) ↔ x<n/\f x a=a/\f x b=b:=by
 simp only[List.mem_filter,List.mem_range,decide_eq_true_eq,and_assoc]
include L hz bz
theorem y53 (a b:Nat):mt n f z a b<n:=L.fold_lt hz fun x m=>(x8w.mp m).1
theorem z6q {a:Nat} (b:Nat) (ha:a<n):f (mt n f z a b) a=a:=L.sup_least hz bz ha (fun x m=>(x8w.mp m).1) fun x m=>(x8w.mp m).2.1
theorem z6t (a:Nat) {b:Nat} (hb:b<n):f (mt n f z a b) b=b:=L.sup_least hz bz hb (fun x m=>(x8w.mp m).1) fun x m=>(x8w.mp m).2.2
theorem y9l {a b c:Nat} (hc:c<n) (h1:f c a=a) (h2:f c b=b):f c (mt n f z a b)=mt n f z a b:=L.fold_mem hz (fun x m=>(x8w.mp m).1) (x8w.mpr ⟨hc,h1,h2⟩)
theorem z12 {a b m:Nat} (ha:a<n) (hb:b<n) (hm:m<n) (h1:f m a=a) (h2:f m b=b) (h3:∀ c,c<n->f c a=a->f c b=b->f c m=m):mt n f z a b=m:=
 L.le_anti (y53 L hz bz a b) hm (h3 _ (y53 L hz bz a b) (z6q L hz bz b ha) (z6t L hz bz a hb)) (y9l L hz bz hm h1 h2)
theorem z5w {a b:Nat} (ha:a<n) (hb:b<n):mt n f z a b=mt n f z b a:=
 z12 L hz bz ha hb (y53 L hz bz b a) (z6t L hz bz b ha) (z6q L hz bz a hb) fun c hc h1 h2=>y9l L hz bz hc h2 h1
theorem z47 {a:Nat} (ha:a<n):mt n f z a a=a:=z12 L hz bz ha ha ha (L.idem a ha) (L.idem a ha) fun c hc h1 _=>h1
theorem z2i {a b c:Nat} (ha:a<n) (hb:b<n) (hc:c<n):mt n f z (mt n f z a b) c=mt n f z a (mt n f z b c):=by
 have h1:=y53 L hz bz a b
 have h2:=y53 L hz bz b c
 have h3:=y53 L hz bz a (mt n f z b c)
 have u1:f (mt n f z a (mt n f z b c)) b=b:=L.le_trans h3 h2 hb (z6t L hz bz a h2) (z6q L hz bz c hb)
 have u2:f (mt n f z a (mt n f z b c)) c=c:=L.le_trans h3 h2 hc (z6t L hz bz a h2) (z6t L hz bz b hc)
 refine z12 L hz bz h1 hc h3 (y9l L hz bz h3 (z6q L hz bz _ ha) u1) u2 fun d hd k1 k2=>?_
 exact y9l L hz bz hd (L.le_trans hd h1 ha k1 (z6q L hz bz b ha)) (y9l L hz bz hd (L.le_trans hd h1 hb k1 (z6t L hz bz a hb)) k2)
theorem x9a {a b:Nat} (ha:a<n) (hb:b<n):mt n f z a b=b ↔ f b a=a:=
 ⟨fun e=>by have:=z6q L hz bz b ha; rw[e]at this; exact this,fun e=>z12 L hz bz ha hb hb e (L.idem b hb) fun c hc _ h=>h⟩
theorem y33:Lad n (mt n f z):=by
 refine⟨L.lo,L.hi,fun i j _ _=>y53 L hz bz i j,fun i hi=>z47 L hz bz hi,fun i j hi hj=>z5w L hz bz hi hj,fun i j k hi hj hk=>z2i L hz bz hi hj hk,(List.range n).foldl f z,L.fold_lt hz fun x m=>List.mem_range.mp m,fun j hj=>?_⟩
 have ht:(List.range n).foldl f z<n:=L.fold_lt hz fun x m=>List.mem_range.mp m
 exact(x9a L hz bz ht hj).mpr (((L.top_uniq hz _ ht).mpr rfl) j hj)
theorem y6j:(List.range n).foldl f z<n:=L.fold_lt hz fun x m=>List.mem_range.mp m
theorem y8r {j:Nat} (hj:j<n):mt n f z ((List.range n).foldl f z) j=j:=(x9a L hz bz (y6j L hz bz) hj).mpr (((L.top_uniq hz _ (y6j L hz bz)).mpr rfl) j hj)
theorem z00 (hn:n<=1000) {a b:Nat} (ha:a<n) (hb:b<n):x8i [x0q n f,.int (Int.ofNat a),.int (Int.ofNat b)]=some (.int (Int.ofNat (mt n f z a b)),9):=by
 unfold x8i z88
 refine x21 (x2t (ρ1:=[some (x0q n f,9),some (.int (Int.ofNat a),9),some (.int (Int.ofNat b),9)]) (x0y (ds:=[x0q n f,.lst (x05 (((List.range n).filter fun x=>decide (f x a=a)).filter fun x=>decide (f x b=b)))]) (x0w (q:=9) (ρ1:=[some (x0q n f,9),some (.int (Int.ofNat a),9),some (.int (Int.ofNat b),9)]) rfl (x19 (x1w (deep:=false) (ds:=x05 ((List.range n).filter fun x=>decide (f x a=a))) (ρ1:=[some (x0q n f,9),some (.int (Int.ofNat a),9),some (.int (Int.ofNat b),9)]) ?_ (z89 (i:=3) (deep:=false) ((List.range n).filter fun x=>decide (f x a=a)) rfl (fun x=>decide (f x b=b)) (fun x=>.int (Int.ofNat x)) (fun _=>9) (fun x hx=>?_) (fun x hx _=>rfl))))) rfl (y7q L hz bz hn ?_ fun x m=>(x8w.mp m).1)))
 ·have hl:((List.range n).filter fun x=>decide (f x a=a)).length<=1000:=Nat.le_trans (List.length_filter_le _ _) (by simpa using hn)
  simp[-Int.ofNat_eq_natCast,z28 hn ha,x11,hl]
 ·have hx':x<n:=by simp at hx; exact hx.1
  simp[-Int.ofNat_eq_natCast,x59 hx' hb]
 ·exact Nat.le_trans (List.length_filter_le _ _) (Nat.le_trans (List.length_filter_le _ _) (by simpa using hn))
end
theorem z01 {n:Nat} (hn:n<=1000) {i q:Nat} {ρ:Rho} (h:ρ[i]? = some (some (.int (Int.ofNat n),q))):x15 (x01 (x06 i) x0f) ρ=some (x17 n,ρ):=by
 have b1:(-1000:Int)<=Int.ofNat n:=by show(-1000:Int)<=n; omega
 have b2:Int.ofNat n<=1000:=by show(n:Int)<=1000; omega
 simp[-Int.ofNat_eq_natCast,h,b1,b2]
 rfl
theorem y7x {ob:D} {G:List D->Option (D × Nat)} {i n:Nat} {g:x1u} {ρ ρ1:Rho} {ds:List D} {d:D} {q:Nat} (ho:ρ[i]? = some (some (ob,9))) (h:g ρ=some (ds,ρ1)) (hl:ds.length=n) (hG:G ds=some (d,q)):y0p ob G i n g ρ=some (d,q,ρ1):=by
 unfold y0p
 rw[if_pos ho]
 exact x0y h hl hG
theorem z22 {n:Nat} (hn:n<=1000) {ob:D} (hb:ob.isL=false) {G:List D->Option (D × Nat)} {g:Nat->Nat->Nat} (hG:∀ x y,x<n->y<n->G [.int (Int.ofNat x),.int (Int.ofNat y)]=some (.int (Int.ofNat (g x y)),9)) :
  x35 ob G [.int (Int.ofNat n),ob]=some (x0q n g,9):=by
 unfold x35 y1d
 have s0:x3f 4 [.int (Int.ofNat n),ob]=[some (.int (Int.ofNat n),9),some (ob,9),none,none]:=by simp[hb]
 refine x21 ?_
 rw[s0]
 refine(x0h (ρ1:=[some (.int (Int.ofNat n),9),some (ob,9),some (.lst [],1),none]) rfl).trans ?_
 obtain⟨j',e⟩:=y64 (α:=Nat) (J:=Option (D × Nat)) (pt:=x0i 3) (body:=y5a ob G) (fun x=>D.int (Int.ofNat x)) (fun ds j=>[some (.int (Int.ofNat n),9),some (ob,9),some (.lst ds,1),j]) (fun x=>y2i n g x) (List.range n) [] none (by simpa using hn) (fun x hx ds j hds=>by
  have hx':x<n:=List.mem_range.mp hx
  refine⟨[some (.int (Int.ofNat n),9),some (ob,9),some (.lst ds,1),some (.int (Int.ofNat x),9)],some (.int (Int.ofNat x),9),rfl,?_⟩
  refine y2h (ρ1:=[some (.int (Int.ofNat n),9),some (ob,9),some (.lst ds,1),some (.int (Int.ofNat x),9)]) rfl (x19 (x3x (x19 (x1w (deep:=false) (ds:=x17 n) (ρ1:=[some (.int (Int.ofNat n),9),some (ob,9),some (.lst ds,1),some (.int (Int.ofNat x),9)]) (z01 hn rfl) (y3m (i:=4) (deep:=false) rfl (fun _=>true) (fun y=>.int (Int.ofNat (g x y))) (fun _=>9) (fun j hj=>rfl) (fun y hy _=>y7x rfl rfl rfl (hG x y hx' hy))))))) rfl hds ?_
  have e1:(List.range n).filter (fun _=>true)=List.range n:=by simp
  have e2:(List.range n).map (fun y=>D.int (Int.ofNat (g x y)))=x05 ((List.range n).map fun y=>g x y):=by unfold x05; rw[List.map_map]; rfl
  rw[e1,e2]
  rfl)
 refine(x0h ((x1z (ds:=x17 n) (ρ1:=[some (.int (Int.ofNat n),9),some (ob,9),some (.lst [],1),none]) (z01 hn rfl)).trans e)).trans ?_
 refine x2t (x3x (x19 (q:=0) (d:=.lst ([]++(List.range n).map fun x=>y2i n g x)) (ρ1:=[some (.int (Int.ofNat n),9),some (ob,9),some (.lst ([]++(List.range n).map fun x=>y2i n g x),0),j']) rfl))
section
variable {n:Nat} {f:Nat->Nat->Nat}
variable (L:Lad n f) {z:Nat} (hz:z<n) (bz:∀ j,j<n->f z j=j)
include L hz bz
theorem y0h (hn:n<=1000):x50 [x0q n f]=some (x0q n (mt n f z),9):=by
 have hG:∀ x y,x<n->y<n->z04 x6g [x0q n f] [.int (Int.ofNat x),.int (Int.ofNat y)]=some (.int (Int.ofNat (mt n f z x y)),9):=fun x y hx hy=>by
  have e:x6g (x3f 3 [.int (Int.ofNat x),.int (Int.ofNat y),x0q n f])=some (.int (Int.ofNat (mt n f z x y)),9,x3f 3 [.int (Int.ofNat x),.int (Int.ofNat y),x0q n f]):=x0y (ds:=[x0q n f,.int (Int.ofNat x),.int (Int.ofNat y)]) rfl rfl (z00 L hz bz hn hx hy)
  unfold z04
  show(match x6g (x3f 3 [.int (Int.ofNat x),.int (Int.ofNat y),x0q n f])with | some (d,q,_)=>some (d,q) | none=>none)=_
  rw[e]
 have hT:∀ ob:D,ob.isL=false->x35 ob (z04 x6g [x0q n f]) [.int (Int.ofNat n),ob]=some (x0q n (mt n f z),9):=fun ob hb=>z22 hn hb hG
 unfold x50 y5u
 refine x21 (x2t (ρ1:=[some (x0q n f,9)]) ?_)
 have e1:x1d 0 [some (x0q n f,9)]=some (.int (Int.ofNat n),9,[some (x0q n f,9)]):=by simp[-Int.ofNat_eq_natCast,x1v]
 have e2:z8n [0] [some (x0q n f,9)]=some [x0q n f]:=rfl
 show z6r x35 x6g [0] (x1d 0) [some (x0q n f,9)]=_
 unfold z6r
 simp only[e1,e2]
 rw[if_pos (fun fa fo vs=>(hT _ rfl).trans (hT (ob0 [x0q n f]) rfl).symm),hT (ob0 [x0q n f]) rfl]
end
section
variable {n:Nat} {f:Nat->Nat->Nat}
variable (L:Lad n f) {z:Nat} (hz:z<n) (bz:∀ j,j<n->f z j=j)
include L hz bz
theorem x6b {C:Cht} (hC:C.Ok n f):C.Ok n (mt n f z):=by
 refine⟨hC.p1,hC.p8,hC.w60,hC.b60,fun w hw=>?_,hC.bs⟩
 obtain⟨h1,h2,h3,h4⟩:=hC.ws w hw
 refine⟨h1,h2,h3,fun x y hx hy e=>?_⟩
 exact(x9a L hz bz (h3 x hx) (h3 y hy)).mpr (h4 y x hy hx ((x9a L hz bz hx hy).mp e))
theorem x9v (hn:n<=1000) {c d:D} {q:Nat} (hc:c.isL=false) (h:x8j [x0q n (mt n f z),c]=some (d,q)):x3y [x0q n f,c]=some (d,q):=by
 unfold x3y y1o
 have s0:x3f 2 [x0q n f,c]=[some (x0q n f,9),some (c,9)]:=by simp[hc]
 refine x21 ?_
 rw[s0]
 exact x2t (ρ1:=[some (x0q n f,9),some (c,9)]) (x0y (ds:=[x0q n (mt n f z),c]) (x0w (q:=9) (ρ1:=[some (x0q n f,9),some (c,9)]) (x0y (ds:=[x0q n f]) rfl rfl (y0h L hz bz hn)) (x19 (q:=9) (by simp[hc]))) rfl h)
theorem z2j (hn:n<=1000) {c v d:D} {q:Nat} (hc:c.isL=false) (hv:v.isL=false) (h:x2b [x0q n (mt n f z),c,v]=some (d,q)):x1e [x0q n f,c,v]=some (d,q):=by
 unfold x1e x8d
 have s0:x3f 3 [x0q n f,c,v]=[some (x0q n f,9),some (c,9),some (v,9)]:=by simp[hc,hv]
 refine x21 ?_
 rw[s0]
 exact x2t (ρ1:=[some (x0q n f,9),some (c,9),some (v,9)]) (x0y (ds:=[x0q n (mt n f z),c,v]) (x0w (q:=9) (ρ1:=[some (x0q n f,9),some (c,9),some (v,9)]) (x0y (ds:=[x0q n f]) rfl rfl (y0h L hz bz hn)) (x0w (q:=9) (ρ1:=[some (x0q n f,9),some (c,9),some (v,9)]) (by simp[hc]) (x19 (q:=9) (by simp[hv])))) rfl h)
end
section
variable {n:Nat} {f:Nat->Nat->Nat} (L:Lad n f) {z:Nat} (hz:z<n) (bz:∀ j,j<n->f z j=j) {C:Cht} (hC:C.Ok n f)
include L hz bz hC
noncomputable abbrev U8 (n:Nat) (f:Nat->Nat->Nat) (C:Cht) (v:List Nat) (a b c d e g:Option (D × Nat)):Rho:=[some (x0q n f,9),some (x0a n C,9),some (.tup (x05 v),9),a,b,c,d,e,g]
theorem y3v {v:List Nat} (hv:Vn n C.p v):x1y [x0q n f,x0a n C,.tup (x05 v)]=some (.bl (z55 (mt n f z) C v),9):=by
 have hW:=hC.w60
 have hB:=hC.b60
 have m1:∀ a b,a<n->b<n->decide (f b a=a)=decide (mt n f z a b=b):=fun a b ha hb=>decide_eq_decide.mpr (x9a L hz bz ha hb).symm
 obtain⟨w1,w2⟩:=x7d (J:=Option (D × Nat) × Option (D × Nat)) (pt:=x9m (x0s (x0i 3) (x0s (x0i 4) (x3p)))) (body:=x9b) (d:=.bl false) (q:=9) x6c (fun b=>decide (mt n f z b.2 (gv v b.1)=gv v b.1)) (fun a=>U8 n f C v a.1 a.2 none none none none) C.B (none,none) (fun b hb a=>by
  have k:=hC.bs b hb
  have hl:b.1<v.length:=by rw[hv.len]; exact k.1
  have hg:=hv.gv k.1
  have e:x3n (e2 dNe (eIx (x10 0 (x10 2 (x06 3))) (x06 4)) (x06 4)) (U8 n f C v (some (.int (Int.ofNat b.1),9)) (some (.int (Int.ofNat b.2),9)) none none none none)=some (!decide (mt n f z b.2 (gv v b.1)=gv v b.1),U8 n f C v (some (.int (Int.ofNat b.1),9)) (some (.int (Int.ofNat b.2),9)) none none none none):=by
   rw[<- m1 _ _ k.2 hg]
   exact x6w (x9q (q':=9) (y90 (x:=y2i n f (gv v b.1)) (q:=9) (q':=9) (x4n (x:=x0q n f) (q:=9) (q':=9) (x4n (x:=.tup (x05 v)) (q:=9) (q':=9) rfl rfl (z06 hl) rfl) rfl (x4m hg) rfl) rfl (x5c k.2) rfl rfl) rfl (x8o _ _))
  refine⟨U8 n f C v (some (.int (Int.ofNat b.1),9)) (some (.int (Int.ofNat b.2),9)) none none none none,rfl,fun ok=>⟨(some (.int (Int.ofNat b.1),9),some (.int (Int.ofNat b.2),9)),?_⟩,fun no=>?_⟩
  ·rw[ok]at e; exact(y4k e).trans rfl
  ·rw[no]at e; exact(z7h e).trans rfl)
 have step2:∀ a b,((C.W.all fun w=>decide (mt n f z (w.2.2 (gv v w.1)) (gv v w.2.1)=gv v w.2.1))=true->∃ j:Option (D × Nat) × Option (D × Nat) × Option (D × Nat) × Option (D × Nat),x75 (x9m (x0s (x0i 5) (x0s (x0i 6) (x0s (x0i 7) (x3p))))) x5e (C.W.map (x4o n)) (U8 n f C v a b none none none none)=some (.nx (U8 n f C v a b j.1 j.2.1 j.2.2.1 j.2.2.2))) /\
   ((C.W.all fun w=>decide (mt n f z (w.2.2 (gv v w.1)) (gv v w.2.1)=gv v w.2.1))=false->x75 (x9m (x0s (x0i 5) (x0s (x0i 6) (x0s (x0i 7) (x3p))))) x5e (C.W.map (x4o n)) (U8 n f C v a b none none none none)=some (.rt (.bl false) 9)):=fun a b=>by
  exact x7d (J:=Option (D × Nat) × Option (D × Nat) × Option (D × Nat) × Option (D × Nat)) (x4o n) (fun w=>decide (mt n f z (w.2.2 (gv v w.1)) (gv v w.2.1)=gv v w.2.1)) (fun j=>U8 n f C v a b j.1 j.2.1 j.2.2.1 j.2.2.2) C.W (none,none,none,none) (fun w hw j=>by
   have k:=hC.ws w hw
   have hl:w.2.1<v.length:=by rw[hv.len]; exact k.2.1
   have hl0:w.1<v.length:=by rw[hv.len]; exact k.1
   have hg:=hv.gv k.2.1
   have hr:=k.2.2.1 _ (hv.gv k.1)
   have e0:x23 8 (x10 7 (x10 2 (x06 5))) (U8 n f C v a b (some (.int (Int.ofNat w.1),9)) (some (.int (Int.ofNat w.2.1),9)) (some (x43 n w.2.2,9)) j.2.2.2)=some (.nx (U8 n f C v a b (some (.int (Int.ofNat w.1),9)) (some (.int (Int.ofNat w.2.1),9)) (some (x43 n w.2.2,9)) (some (.int (Int.ofNat (w.2.2 (gv v w.1))),9)))):=x3i (x4n (x:=x43 n w.2.2) (q:=9) (q':=9) (x4n (x:=.tup (x05 v)) (q:=9) (q':=9) rfl rfl (z06 hl0) rfl) rfl (x9j (hv.gv k.1)) rfl) rfl
   have e:x3n (e2 dNe (eIx (x10 0 (x10 2 (x06 6))) (x06 8)) (x06 8)) (U8 n f C v a b (some (.int (Int.ofNat w.1),9)) (some (.int (Int.ofNat w.2.1),9)) (some (x43 n w.2.2,9)) (some (.int (Int.ofNat (w.2.2 (gv v w.1))),9)))=some (!decide (mt n f z (w.2.2 (gv v w.1)) (gv v w.2.1)=gv v w.2.1),U8 n f C v a b (some (.int (Int.ofNat w.1),9)) (some (.int (Int.ofNat w.2.1),9)) (some (x43 n w.2.2,9)) (some (.int (Int.ofNat (w.2.2 (gv v w.1))),9))):=by
    rw[<- m1 _ _ hr hg]
    exact x6w (x9q (q':=9) (y90 (x:=y2i n f (gv v w.2.1)) (q:=9) (q':=9) (x4n (x:=x0q n f) (q:=9) (q':=9) (x4n (x:=.tup (x05 v)) (q:=9) (q':=9) rfl rfl (z06 hl) rfl) rfl (x4m hg) rfl) rfl (x5c hr) rfl rfl) rfl (x8o _ _))
   refine⟨U8 n f C v a b (some (.int (Int.ofNat w.1),9)) (some (.int (Int.ofNat w.2.1),9)) (some (x43 n w.2.2,9)) j.2.2.2,rfl,fun ok=>⟨(some (.int (Int.ofNat w.1),9),some (.int (Int.ofNat w.2.1),9),some (x43 n w.2.2,9),some (.int (Int.ofNat (w.2.2 (gv v w.1))),9)),?_⟩,fun no=>?_⟩
   ·rw[ok]at e; exact(x0h e0).trans ((y4k e).trans rfl)
   ·rw[no]at e; exact(x0h e0).trans ((z7h e).trans rfl))
 have i1:∀ a b c d e g,x6f (x10 1 (eC (.int 2))) (U8 n f C v a b c d e g)=some (C.B.map x6c,U8 n f C v a b c d e g):=fun a b c d e g=>by
  have h:atD (x0a n C) 2=some (.tup (C.B.map x6c)):=rfl
  have hB':C.B.length<=1000:=by omega
  simp[h,hB']
 have i2:∀ a b c d e g,x6f (x10 1 (eC (.int 1))) (U8 n f C v a b c d e g)=some (C.W.map (x4o n),U8 n f C v a b c d e g):=fun a b c d e g=>by
  have h:atD (x0a n C) 1=some (.tup (C.W.map (x4o n))):=rfl
  have hW':C.W.length<=1000:=by omega
  simp[h,hW']
 unfold x1y x62
 refine x21 ?_
 show x18 _ _ (U8 n f C v none none none none none none)=_
 unfold z55
 cases hb:C.B.all fun b=>decide (mt n f z b.2 (gv v b.1)=gv v b.1)with
 | false=>
  rw[Bool.and_false]
  exact x72 ((x1z (i1 _ _ _ _ _ _)).trans (w2 hb))
 | true=>
  rw[Bool.and_true]
  obtain⟨j,e⟩:=w1 hb
  refine(x0h ((x1z (i1 _ _ _ _ _ _)).trans e)).trans ?_
  obtain⟨v1,v2⟩:=step2 j.1 j.2
  cases hw:C.W.all fun w=>decide (mt n f z (w.2.2 (gv v w.1)) (gv v w.2.1)=gv v w.2.1)with
  | false=>exact x72 ((x1z (i2 _ _ _ _ _ _)).trans (v2 hw))
  | true=>
   obtain⟨j',e'⟩:=v1 hw
   exact(x0h ((x1z (i2 _ _ _ _ _ _)).trans e')).trans rfl
noncomputable abbrev V8 (n:Nat) (f:Nat->Nat->Nat) (C:Cht) (v:List Nat) (q:Nat) (g:Option (D × Nat)) (o:Option (D × Nat)) (a b c d e:Option (D × Nat)):Rho:=[some (x0q n f,9),some (x0a n C,9),some (.lst (x05 v),q),g,o,a,b,c,d,e]
theorem y89 {v0:List Nat} (hv0:Vn n C.p v0):∃ u,LowS n (mt n f z) C.p (x25 C) v0 u/\x2u [x0q n f,x0a n C,.tup (x05 v0)]=some (.tup (x05 u),9):=by
 have hn:n<=1000:=Nat.le_trans L.hi (by decide)
 have hW:=hC.w60
 have hB:=hC.b60
 have T:=y33 L hz bz
 have hD:=x6b L hz bz hC
 have oks:=x7a T hD
 have p8:=hC.p8
 have n8:=L.hi
 have i1:∀ v q g o a b c d e,x6f (x10 1 (eC (.int 2))) (V8 n f C v q g o a b c d e)=some (C.B.map x6c,V8 n f C v q g o a b c d e):=fun v q g o a b c d e=>by
  have h:atD (x0a n C) 2=some (.tup (C.B.map x6c)):=rfl
  have hB':C.B.length<=1000:=by omega
  simp[h,hB']
 have i2:∀ v q g o a b c d e,x6f (x10 1 (eC (.int 1))) (V8 n f C v q g o a b c d e)=some (C.W.map (x4o n),V8 n f C v q g o a b c d e):=fun v q g o a b c d e=>by
  have h:atD (x0a n C) 1=some (.tup (C.W.map (x4o n))):=rfl
  have hW':C.W.length<=1000:=by omega
  simp[h,hW']
 have round:∀ (v:List Nat) (g o a b c d e:Option (D × Nat)),Vn n C.p v->∃ a' b' c' d' e',x8x (V8 n f C v 1 g o a b c d e)=some (.nx (V8 n f C ((x25 C).foldl (doS (mt n f z)) v) 1 (some (.bl (!decide ((x25 C).foldl (doS (mt n f z)) v=v)),9)) (some (.lst (x05 v),1)) a' b' c' d' e')):=fun v g o a b c d e hv=>by
  obtain⟨j1,e1,hv1⟩:=x7w (J:=Option (D × Nat) × Option (D × Nat)) (pt:=x9m (x0s (x0i 5) (x0s (x0i 6) (x3p)))) (body:=x93) x6c (fun w j=>V8 n f C w 1 g (some (.lst (x05 v),1)) j.1 j.2 c d e) (fun w b=>doS (mt n f z) w (x9y b)) (Vn n C.p) C.B v (a,b) hv (fun b hb w j hw=>by
   have k:=hC.bs b hb
   have ok:=oks (x9y b) (List.mem_append_left _ (List.mem_map.mpr ⟨b,hb,rfl⟩))
   refine⟨T.doS_V ok hw,V8 n f C w 1 g (some (.lst (x05 v),1)) (some (.int (Int.ofNat b.1),9)) (some (.int (Int.ofNat b.2),9)) c d e,(some (.int (Int.ofNat b.1),9),some (.int (Int.ofNat b.2),9)),rfl,?_⟩
   have hl:b.1<w.length:=by rw[hw.len]; exact k.1
   have a1:=j15 hl
   have a4:ixN (x05 w).length (Int.ofNat b.1)=some b.1:=x8m (by rw[x11]; exact hl)
   have a5:=y6m w b.1 (mt n f z (gv w b.1) b.2)
   have m:=z00 L hz bz hn (hw.gv k.1) k.2
   unfold x93 doS x9y
   simp[-Int.ofNat_eq_natCast,a1,m,a4,a5])
  obtain⟨j2,e2',hv2⟩:=x7w (J:=Option (D × Nat) × Option (D × Nat) × Option (D × Nat)) (pt:=x9m (x0s (x0i 7) (x0s (x0i 8) (x0s (x0i 9) (x3p))))) (body:=x8u) (x4o n) (fun w j=>V8 n f C w 1 g (some (.lst (x05 v),1)) j1.1 j1.2 j.1 j.2.1 j.2.2) (fun w y=>doS (mt n f z) w (y34 y)) (Vn n C.p) C.W (C.B.foldl (fun w b=>doS (mt n f z) w (x9y b)) v) (c,d,e) hv1 (fun y hy w j hw=>by
   have k:=hC.ws y hy
   have ok:=oks (y34 y) (List.mem_append_right _ (List.mem_map.mpr ⟨y,hy,rfl⟩))
   refine⟨T.doS_V ok hw,V8 n f C w 1 g (some (.lst (x05 v),1)) j1.1 j1.2 (some (.int (Int.ofNat y.1),9)) (some (.int (Int.ofNat y.2.1),9)) (some (x43 n y.2.2,9)),(some (.int (Int.ofNat y.1),9),some (.int (Int.ofNat y.2.1),9),some (x43 n y.2.2,9)),rfl,?_⟩
   have hl:y.2.1<w.length:=by rw[hw.len]; exact k.2.1
   have hl0:y.1<w.length:=by rw[hw.len]; exact k.1
   have a0:=j15 hl0
   have a1:=j15 hl
   have b0:=x9j (r:=y.2.2) (hw.gv k.1)
   have a4:ixN (x05 w).length (Int.ofNat y.2.1)=some y.2.1:=x8m (by rw[x11]; exact hl)
   have a5:=y6m w y.2.1 (mt n f z (gv w y.2.1) (y.2.2 (gv w y.1)))
   have m:=z00 L hz bz hn (hw.gv k.2.1) (k.2.2.1 _ (hw.gv k.1))
   unfold x8u doS y34
   simp[-Int.ofNat_eq_natCast,a0,b0,a1,m,a4,a5])
  have ef:(x25 C).foldl (doS (mt n f z)) v=C.W.foldl (fun w y=>doS (mt n f z) w (y34 y)) (C.B.foldl (fun w b=>doS (mt n f z) w (x9y b)) v):=by
   unfold x25
   rw[List.foldl_append,List.foldl_map,List.foldl_map]
  rw[<- ef]at e2'
  refine⟨j1.1,j1.2,j2.1,j2.2.1,j2.2.2,?_⟩
  refine(x0h (ρ1:=V8 n f C v 1 g (some (.lst (x05 v),1)) a b c d e) (by simp)).trans ?_
  refine(x0h ((x1z (i1 _ _ _ _ _ _ _ _ _)).trans e1)).trans ?_
  refine(x0h ((x1z (i2 _ _ _ _ _ _ _ _ _)).trans e2')).trans ?_
  simp[j16]
 have hmu:=Lad.mu_le (f:=mt n f z) hv0
 have hpn:C.p*n<=8*16:=Nat.mul_le_mul p8 n8
 unfold x2u y05
 obtain⟨ρ',ew,u,o,a,b,c,d,e,hu,rfl⟩:=y1h (c:=x88 (x06 3)) (b:=x8x) (Q:=fun ρ=>∃ u o a b c d e,LowS n (mt n f z) C.p (x25 C) v0 u/\ρ=V8 n f C u 1 (some (.bl false,9)) o a b c d e)
  (fun k ρ=>∃ v fl o a b c d e,ρ=V8 n f C v 1 (some (.bl fl,9)) o a b c d e/\Vn n C.p v/\leV (mt n f z) C.p v0 v/\(∀ x,Vn n C.p x->ClS (mt n f z) (x25 C) x->leV (mt n f z) C.p v0 x->leV (mt n f z) C.p v x)/\((fl=true/\k=Lad.mu n (mt n f z) v+1)\/(fl=false/\k=0/\ClS (mt n f z) (x25 C) v)))
  (k:=Lad.mu n (mt n f z) v0+1) (ρ:=V8 n f C v0 1 (some (.bl true,9)) none none none none none none) (by omega) ⟨v0,true,none,none,none,none,none,none,rfl,hv0,T.leV_refl hv0,fun x _ _ h=>h,.inl ⟨rfl,rfl⟩⟩ (fun k ρ hh=>by
   obtain⟨v,fl,o,a,b,c,d,e,rfl,hv,up,le,h⟩:=hh
   rcases h with⟨rfl,rfl⟩ | ⟨rfl,rfl,cl⟩
   ·refine .inr ?_
    obtain⟨a',b',c',d',e',hb⟩:=round v (some (.bl true,9)) o a b c d e hv
    have hv':=T.foldS_V oks hv
    have up':=T.foldS_up oks hv
    by_cases eq:(x25 C).foldl (doS (mt n f z)) v=v
    ·rw[decide_eq_true eq,eq]at hb
     exact⟨_,_,0,rfl,hb,Nat.succ_pos _,v,false,_,_,_,_,_,_,rfl,hv,up,le,.inr ⟨rfl,rfl,(T.foldS_fix oks hv).mp eq⟩⟩
    ·rw[decide_eq_false eq]at hb
     have lt:=T.mu_lt hv hv' up' (fun q=>eq q.symm)
     exact⟨_,_,_,rfl,hb,Nat.succ_lt_succ lt,_,true,_,_,_,_,_,_,rfl,hv',T.leV_trans hv0 hv hv' up up',fun x hx cx ux=>T.foldS_below hx oks hv cx (le x hx cx ux),.inl ⟨rfl,rfl⟩⟩
   ·exact .inl ⟨_,rfl,v,o,a,b,c,d,e,⟨hv,cl,up,le⟩,rfl⟩)
 refine⟨u,hu,x21 ?_⟩
 show x18 _ _ [some (x0q n f,9),some (x0a n C,9),some (.tup (x05 v0),9),none,none,none,none,none,none,none]=_
 refine(x0h (ρ1:=V8 n f C v0 1 none none none none none none none) (by simp)).trans ?_
 refine(x0h (ρ1:=V8 n f C v0 1 (some (.bl true,9)) none none none none none none) (by simp)).trans ?_
 refine(x0h ew).trans ?_
 simp
end
section
variable {n:Nat} {f:Nat->Nat->Nat} (L:Lad n f) {z:Nat} (hz:z<n) (bz:∀ j,j<n->f z j=j)
include L hz bz
theorem y4n {p i:Nat} (h:Nat->Nat) (hi:i<p):gv ((List.range p).map h) i=h i:=by unfold gv; simp[hi]
theorem z66 {p:Nat} {l:List ChS} (ok:∀ s∈l,OkS n p (mt n f z) s) {a b:List Nat} (ha:Vn n p a) (hb:Vn n p b) (ca:ClS (mt n f z) l a) (cb:ClS (mt n f z) l b) :
  Vn n p ((List.range p).map fun i=>f (gv a i) (gv b i))/\ClS (mt n f z) l ((List.range p).map fun i=>f (gv a i) (gv b i)):=by
 have T:=y33 L hz bz
 have hv:Vn n p ((List.range p).map fun i=>f (gv a i) (gv b i)):=Vn.map fun i hi=>L.cl _ _ (ha.gv hi) (hb.gv hi)
 have up1:leV (mt n f z) p ((List.range p).map fun i=>f (gv a i) (gv b i)) a:=fun i hi=>by
  rw[y4n L hz bz _ hi]
  exact(x9a L hz bz (L.cl _ _ (ha.gv hi) (hb.gv hi)) (ha.gv hi)).mpr (L.le_l (ha.gv hi) (hb.gv hi))
 have up2:leV (mt n f z) p ((List.range p).map fun i=>f (gv a i) (gv b i)) b:=fun i hi=>by
  rw[y4n L hz bz _ hi]
  exact(x9a L hz bz (L.cl _ _ (ha.gv hi) (hb.gv hi)) (hb.gv hi)).mpr (L.le_r (ha.gv hi) (hb.gv hi))
 refine⟨hv,fun s hs=>?_⟩
 have o:=ok s hs
 have s0:=o.lt _ hv
 have sa:=o.lt _ ha
 have sb:=o.lt _ hb
 have ga:=ha.gv o.pl
 have gb:=hb.gv o.pl
 have h1:=T.le_trans s0 sa ga (o.mono _ _ hv ha up1) (ca s hs)
 have h2:=T.le_trans s0 sb gb (o.mono _ _ hv hb up2) (cb s hs)
 rw[y4n L hz bz _ o.pl]
 exact(x9a L hz bz s0 (L.cl _ _ ga gb)).mpr (L.lub ga gb s0 ((x9a L hz bz s0 ga).mp h1) ((x9a L hz bz s0 gb).mp h2))
end
theorem z3z (b:Bool):dNe (.bl b) (.bl b)=some (.bl false):=by rw[j05]; simp
theorem j24 {a b:x2j} {ρ ρ1 ρ2:Rho} (h1:a ρ=some (false,ρ1)) (h2:b ρ1=some (false,ρ2)):y88 a b ρ=some (false,ρ2):=by
 unfold y88
 rw[h1]
 simpa using h2
theorem z02 {l:List D} {x:D}:L2.atI (l++[x]) (-1)=some x:=by
 unfold L2.atI ixN
 rw[if_neg (by decide),List.length_append,List.length_singleton,if_pos (by omega)]
 have:((-1:Int)+((l.length+1:Nat):Int)).toNat=l.length:=by omega
 show(l++[x])[((-1:Int)+((l.length+1:Nat):Int)).toNat]? = some x
 rw[this]
 simp
theorem z7y {l:List D} {x:D}:atD (.lst (l++[x])) (-1)=some x:=z02
noncomputable abbrev S50 (ns:List Int) (n:Nat) (f:Nat->Nat->Nat) (C:Cht) (u:List Nat) (ds:List D) (k w:Option (D × Nat)):Rho:=[some (scr ns,0),some (x0q n f,9),some (x0a n C,9),some (.tup (x05 u),9),some (.lst ds,1),k,w,none,none,none,none]
section
variable {n:Nat} {f:Nat->Nat->Nat} (L:Lad n f) {z:Nat} (hz:z<n) (bz:∀ j,j<n->f z j=j) {C:Cht} (hC:C.Ok n f)
include L hz bz hC
theorem z4c {v:List Nat} (hv:Vn n C.p v):leV (mt n f z) C.p (y0u C.p ((List.range n).foldl f z)) v:=fun i hi=>by
 have e:gv (y0u C.p ((List.range n).foldl f z)) i=(List.range n).foldl f z:=by unfold gv y0u; simp[hi]
 rw[e]
 exact y8r L hz bz (hv.gv hi)
theorem y2v {v:List Nat} (hv:Vn n C.p v):x1e [x0q n f,x0a n C,.tup (x05 v)]=some (.bl (z55 (mt n f z) C v),9):=
 z2j L hz bz (Nat.le_trans L.hi (by decide)) rfl rfl (y3f (y33 L hz bz) (x6b L hz bz hC) hv)
theorem z90 (ns:List Int) {u:List Nat} (hu:LowS n (mt n f z) C.p (x25 C) (y0u C.p ((List.range n).foldl f z)) u) :
  ∃ (xs:List (List Nat)) (j:Option (D × Nat) × Option (D × Nat)),xs.length=3/\(∀ x∈xs,Vn n C.p x/\ClS (mt n f z) (x25 C) x)/\x75 (x0i 5) z3i (x17 3) (S50 ns n f C u [] none none)=some (.nx (S50 ns n f C u (xs.map fun x=>.tup (x05 x)) j.1 j.2)):=by
 have p8:=hC.p8
 obtain⟨xs,j,h1,h2,h3⟩:=y47 (α:=Nat) (J:=Option (D × Nat) × Option (D × Nat)) (pt:=x0i 5) (body:=z3i) (fun k=>D.int (Int.ofNat k)) (fun ds j=>S50 ns n f C u ds j.1 j.2) (fun x:List Nat=>D.tup (x05 x)) (fun x=>Vn n C.p x/\ClS (mt n f z) (x25 C) x) (List.range 3) [] (none,none) (by decide) (fun k hk ds j hds=>by
  obtain⟨w,hw,ew⟩:=y25 L hC ns (200+10*Int.ofNat k) (by show(0:Int)<=200+10*(k:Int); omega)
  obtain⟨x,hx,ex⟩:=y89 L hz bz hC hw
  have a1:=y2v L hz bz hC hw
  have a2:=y3v L hz bz hC hw
  have a3:=y2v L hz bz hC hx.V
  rw[y2j.mpr hx.cl]at a3
  have a4:=x6r (f:=f) (p:=C.p) (Nat.le_trans p8 (by decide)) hx.V hu.V
  rw[y92.mpr (fun i hi=>(x9a L hz bz (hu.V.gv hi) (hx.V.gv hi)).mp (hu.le x hx.V hx.cl (z4c L hz bz hC hx.V) i hi))]at a4
  refine⟨S50 ns n f C u ds (some (.int (Int.ofNat k),9)) j.2,(some (.int (Int.ofNat k),9),some (.tup (x05 w),9)),x,⟨hx.V,hx.cl⟩,rfl,?_⟩
  refine(x0h (ρ1:=S50 ns n f C u ds (some (.int (Int.ofNat k),9)) (some (.tup (x05 w),9))) (x3i (x0y (ds:=[scr ns,.int (200+10*Int.ofNat k),x0q n f,x0a n C]) (x0w (q:=0) rfl (x0w (q:=9) (x9q (q:=9) (q':=9) rfl (x9q (q:=9) (q':=9) rfl rfl (show y22 (.int 10) (.int (Int.ofNat k))=some (.int (10*Int.ofNat k))from by unfold y22 gI; dsimp only; rw[if_pos (.inl (by decide))])) rfl) rfl)) rfl ew) rfl)).trans ?_
  refine(x0h (ρ1:=S50 ns n f C u ds (some (.int (Int.ofNat k),9)) (some (.tup (x05 w),9))) ((y4k (x6w (x9q (x0y (ds:=[x0q n f,x0a n C,.tup (x05 w)]) rfl rfl a1) (x0y (ds:=[x0q n f,x0a n C,.tup (x05 w)]) rfl rfl a2) (z3z _)))).trans rfl)).trans ?_
  refine(x0h (ρ1:=S50 ns n f C u (ds++[.tup (x05 x)]) (some (.int (Int.ofNat k),9)) (some (.tup (x05 w),9))) (y2h (ρ1:=S50 ns n f C u ds (some (.int (Int.ofNat k),9)) (some (.tup (x05 w),9))) rfl (x19 (x0y (ds:=[x0q n f,x0a n C,.tup (x05 w)]) rfl rfl ex)) rfl hds rfl)).trans ?_
  have il:x10 4 (y6l (eC (.int 1))) (S50 ns n f C u (ds++[.tup (x05 x)]) (some (.int (Int.ofNat k),9)) (some (.tup (x05 w),9)))=some (.tup (x05 x),9,S50 ns n f C u (ds++[.tup (x05 x)]) (some (.int (Int.ofNat k),9)) (some (.tup (x05 w),9))):=x4n (x:=.lst (ds++[.tup (x05 x)])) (q:=1) (q':=9) rfl rfl z7y rfl
  have c1:x3n (e2 x7h (x0k x1e 3 (x01 (x06 1) (x01 (x06 2) (x01 (x10 4 (y6l (eC (.int 1)))) (x0f))))) (eC (.bl true))) (S50 ns n f C u (ds++[.tup (x05 x)]) (some (.int (Int.ofNat k),9)) (some (.tup (x05 w),9)))=some (false,S50 ns n f C u (ds++[.tup (x05 x)]) (some (.int (Int.ofNat k),9)) (some (.tup (x05 w),9))):=x6w (x9q (q':=9) (x0y (ds:=[x0q n f,x0a n C,.tup (x05 x)]) (x0w (q:=9) rfl (x0w (q:=9) rfl (x19 il))) rfl a3) rfl rfl)
  have c2:x88 (x0k x14 3 (x01 (x06 1) (x01 (x10 4 (y6l (eC (.int 1)))) (x01 (x06 3) (x0f))))) (S50 ns n f C u (ds++[.tup (x05 x)]) (some (.int (Int.ofNat k),9)) (some (.tup (x05 w),9)))=some (true,S50 ns n f C u (ds++[.tup (x05 x)]) (some (.int (Int.ofNat k),9)) (some (.tup (x05 w),9))):=z56 (x0y (ds:=[x0q n f,.tup (x05 x),.tup (x05 u)]) (x0w (q:=9) rfl (x0w (q:=9) il (x19 (q:=9) rfl))) rfl a4)
  have c3:x4z (x88 (x0k x14 3 (x01 (x06 1) (x01 (x10 4 (y6l (eC (.int 1)))) (x01 (x06 3) (x0f)))))) (S50 ns n f C u (ds++[.tup (x05 x)]) (some (.int (Int.ofNat k),9)) (some (.tup (x05 w),9)))=some (false,S50 ns n f C u (ds++[.tup (x05 x)]) (some (.int (Int.ofNat k),9)) (some (.tup (x05 w),9))):=by
   unfold x4z
   rw[c2]
   rfl
  exact(y4k (j24 c1 c3)).trans rfl)
 exact⟨xs,j,h1,h2,h3⟩
end
section
variable {n:Nat} {f:Nat->Nat->Nat} (L:Lad n f) {z:Nat} (hz:z<n) (bz:∀ j,j<n->f z j=j) {C:Cht} (hC:C.Ok n f)
include L hz bz hC
theorem z1m {u:List Nat} (hu:LowS n (mt n f z) C.p (x25 C) (y0u C.p ((List.range n).foldl f z)) u):x2u [x0q n f,x0a n C,.tup (x05 (y0u C.p ((List.range n).foldl f z)))]=some (.tup (x05 u),9):=by
 have tt:=y6j L hz bz
 have hv:Vn n C.p (y0u C.p ((List.range n).foldl f z)):=⟨by simp[y0u],fun x hx=>by
  have:=List.eq_of_mem_replicate hx
  rw[this]; exact tt⟩
 obtain⟨x,hx,ex⟩:=y89 L hz bz hC hv
 have e:x=u:=(y33 L hz bz).leV_anti hx.V hu.V (hx.le u hu.V hu.cl hu.up) (hu.le x hx.V hx.cl hx.up)
 rw[e]at ex
 exact ex
theorem z4p {u v:List Nat} {C':Cht} (hp:C'.p=C.p) (hW:∀ w∈C'.W,w∈C.W) (hB:∀ b∈C'.B,b∈C.B) (hu:LowS n (mt n f z) C.p (x25 C) (y0u C.p ((List.range n).foldl f z)) u) (hv:LowS n (mt n f z) C.p (x25 C') (y0u C.p ((List.range n).foldl f z)) v):leB f C.p u v=true:=by
 have cl:ClS (mt n f z) (x25 C') u:=fun s hs=>by
  refine hu.cl s ?_
  unfold x25 at hs ⊢
  rcases List.mem_append.mp hs with h | h
  ·obtain⟨b,hb,rfl⟩:=List.mem_map.mp h
   exact List.mem_append_left _ (List.mem_map.mpr ⟨b,hB b hb,rfl⟩)
  ·obtain⟨w,hw,rfl⟩:=List.mem_map.mp h
   exact List.mem_append_right _ (List.mem_map.mpr ⟨w,hW w hw,rfl⟩)
 refine y92.mpr fun i hi=>?_
 exact(x9a L hz bz (hv.V.gv hi) (hu.V.gv hi)).mp (hv.le u hu.V cl hu.up i hi)
end
theorem z3m (v:List Nat) {p:Nat} (h:v.length=p):v=(List.range p).map (gv v):=by
 apply List.ext_getElem?
 intro k
 by_cases hk:k<p
 ·rw[y40 (by omega)]; simp[hk]
 ·rw[List.getElem?_eq_none (by omega),List.getElem?_eq_none (by simp; omega)]
theorem z9y {a:D} {t:List D}:atD (.lst (a::t)) 0=some a:=by
 show L2.atI (a::t) 0=some a
 unfold L2.atI ixN
 simp
theorem z8o {a b:D} {t:List D}:atD (.lst (a::b::t)) 1=some b:=by
 show L2.atI (a::b::t) 1=some b
 unfold L2.atI ixN
 have:(1:Int)<(t.length:Int)+1+1:=by omega
 simp[this]
noncomputable abbrev R50 (ns:List Int) (n:Nat) (f:Nat->Nat->Nat) (C:Cht) (u:List Nat) (ds:List D) (k w a b c d:Option (D × Nat)):Rho:=[some (scr ns,0),some (x0q n f,9),some (x0a n C,9),some (.tup (x05 u),9),some (.lst ds,1),k,w,a,b,c,d]
section
variable {n:Nat} {f:Nat->Nat->Nat} (L:Lad n f) {z:Nat} (hz:z<n) (bz:∀ j,j<n->f z j=j) {C:Cht} (hC:C.Ok n f)
include L hC
theorem z74 (ns:List Int) {u x y:List Nat} (t:List D) (hx:Vn n C.p x) (hy:Vn n C.p y) (k w a b c d:Option (D × Nat)) :
  x2r (x01 (x2y 2 (y5n (x01 (x10 4 (eC (.int 0))) (x01 (x10 4 (eC (.int 1))) (x0f)))) (x9m (x0s (x0i 11) (x0s (x0i 12) (x3p)))) (x2l) (eIx (x10 1 (x06 11)) (x06 12)) false) (x0f)) (R50 ns n f C u (.tup (x05 x) :: .tup (x05 y)::t) k w a b c d)=some (.tup (x05 ((List.range C.p).map fun j=>f (gv x j) (gv y j))),9,R50 ns n f C u (.tup (x05 x) :: .tup (x05 y)::t) k w a b c d):=by
 have p8:=hC.p8
 have i0:x10 4 (eC (.int 0)) (R50 ns n f C u (.tup (x05 x) :: .tup (x05 y)::t) k w a b c d)=some (.tup (x05 x),9,R50 ns n f C u (.tup (x05 x) :: .tup (x05 y)::t) k w a b c d):=x4n (x:=.lst (.tup (x05 x) :: .tup (x05 y)::t)) (q:=1) (q':=9) rfl rfl z9y rfl
 have i1:x10 4 (eC (.int 1)) (R50 ns n f C u (.tup (x05 x) :: .tup (x05 y)::t) k w a b c d)=some (.tup (x05 y),9,R50 ns n f C u (.tup (x05 x) :: .tup (x05 y)::t) k w a b c d):=x4n (x:=.lst (.tup (x05 x) :: .tup (x05 y)::t)) (q:=1) (q':=9) rfl rfl z8o rfl
 have hz:y5n (x01 (x10 4 (eC (.int 0))) (x01 (x10 4 (eC (.int 1))) (x0f))) (R50 ns n f C u (.tup (x05 x) :: .tup (x05 y)::t) k w a b c d)=some ((List.range C.p).map fun j=>.tup [.int (Int.ofNat (gv x j)),.int (Int.ofNat (gv y j))],R50 ns n f C u (.tup (x05 x) :: .tup (x05 y)::t) k w a b c d):=by
  have e:=y99 C.p (gv x) (gv y)
  rw[<- z3m x hx.len,<- z3m y hy.len]at e
  have hl':(x05 x).length<=1000:=by rw[x11,hx.len]; omega
  have ea:x01 (x10 4 (eC (.int 0))) (x01 (x10 4 (eC (.int 1))) (x0f)) (R50 ns n f C u (.tup (x05 x) :: .tup (x05 y)::t) k w a b c d)=some ([.tup (x05 x),.tup (x05 y)],R50 ns n f C u (.tup (x05 x) :: .tup (x05 y)::t) k w a b c d):=x0w i0 (x19 i1)
  unfold y5n
  rw[ea]
  simp[-Int.ofNat_eq_natCast,hl',e]
 have hcm:=x1w (k:=2) (tt:=x2l) (te:=eIx (x10 1 (x06 11)) (x06 12)) (deep:=false) hz (j28 (i:=11) rfl (gv x) (gv y) (fun _=>true) (fun j=>.int (Int.ofNat (f (gv x j) (gv y j)))) (fun _=>9) (fun j hj=>rfl) (fun j hj _=>y90 (x:=y2i n f (gv x j)) (q:=9) (q':=9) (x4n (x:=x0q n f) (q:=9) (q':=9) rfl rfl (x4m (hx.gv hj)) rfl) rfl (x5c (hy.gv hj)) rfl rfl))
 rw[show(List.range C.p).filter (fun _=>true)=List.range C.p by simp]at hcm
 refine(x3x (x19 hcm)).trans ?_
 rw[x6d]
end
theorem z1r (ds:List D):L3.z8u ds none (some (-1))=ds.dropLast:=by
 unfold L3.z8u
 have e1:HT.sIx ds.length 0 none=0:=rfl
 have e2:HT.sIx ds.length ds.length (some (-1))=ds.length-1:=by
  simp[HT.sIx]
  omega
 rw[e1,e2,List.drop_zero,Nat.sub_zero,List.dropLast_eq_take]
theorem y65 (ds:List D):L3.z8u ds (some 1) none=ds.drop 1:=by
 unfold L3.z8u
 have e2:HT.sIx ds.length ds.length none=ds.length:=rfl
 by_cases h:ds=[]
 ·subst h; rfl
 ·have hl:0<ds.length:=List.length_pos_iff.mpr h
  have e1:HT.sIx ds.length 0 (some 1)=1:=by
   simp[HT.sIx]
   omega
  rw[e1,e2,List.take_of_length_le (by rw[List.length_drop]; omega)]
theorem y9v {p n:Nat} {l:List D} (h:l.length≠p):x4h p n (.tup l)=false:=by
 unfold x4h
 simp[h]
section
variable {n:Nat} {f:Nat->Nat->Nat}
variable (L:Lad n f) {z:Nat} (hz:z<n) (bz:∀ j,j<n->f z j=j)
include L hz bz
theorem y9i (hn:n<=1000) {c v d:D} {q:Nat} (hc:c.isL=false) (h:x2b [x0q n (mt n f z),c,v]=some (d,q)):x1e [x0q n f,c,v]=some (d,q):=by
 unfold x1e x8d
 have s0:x3f 3 [x0q n f,c,v]=[some (x0q n f,9),some (c,9),some (v,x3t v)]:=by
  show [some (x0q n f,x3t _),some (c,x3t c),some (v,x3t v)]=_
  simp[hc]
 refine x21 ?_
 rw[s0]
 exact x2t (ρ1:=[some (x0q n f,9),some (c,9),some (v,x3t v)]) (x0y (ds:=[x0q n (mt n f z),c,v]) (x0w (q:=9) (ρ1:=[some (x0q n f,9),some (c,9),some (v,x3t v)]) (x0y (ds:=[x0q n f]) rfl rfl (y0h L hz bz hn)) (x0w (q:=9) (ρ1:=[some (x0q n f,9),some (c,9),some (v,x3t v)]) (z3s rfl hc) (x19 (y24 rfl)))) rfl h)
end
theorem z7o {fa fb:Den} {ρ ρ1:Rho} {q:Nat} (h:fa ρ=some (.bl true,q,ρ1)):z3c fa fb ρ=fb ρ1:=by unfold z3c; rw[h]; rfl
theorem law_true (ns:List Int) (h63:ns.length<=63):∃ q,y7k [.lst (ns.map D.int)]=some (.bl true,q):=by
 obtain⟨n,f,L,hL⟩:=j04 ns 0 (Int.le_refl 0)
 obtain⟨z,hz,bz⟩:=L.bot
 have hn:n<=1000:=Nat.le_trans L.hi (by decide)
 obtain⟨C,hC,_,_,_,eCt⟩:=y4b L hz bz ns 20 (by decide)
 have p8:=hC.p8
 have p1:=hC.p1
 have T:=y33 L hz bz
 have tt:=y6j L hz bz
 have tb:∀ j,j<n->mt n f z ((List.range n).foldl f z) j=j:=fun j hj=>y8r L hz bz hj
 have hD:=x6b L hz bz hC
 obtain⟨u,hu,l2⟩:=y02 T tt tb hD
 have g1:=x9v L hz bz hn (c:=x0a n C) rfl l2
 have a1:=y2v L hz bz hC hu.V
 rw[y2j.mpr hu.cl]at a1
 obtain⟨xs,j,hl,hxs,ew⟩:=z90 L hz bz hC ns hu
 obtain⟨x,y,w,rfl⟩:=j2p hl
 have hx:=hxs x (List.mem_cons_self)
 have hy:=hxs y (List.mem_cons_of_mem _ List.mem_cons_self)
 obtain⟨vb,cb⟩:=z66 L hz bz (x7a T hD) hx.1 hy.1 hx.2 hy.2
 have a2:=y2v L hz bz hC vb
 rw[y2j.mpr cb]at a2
 have ej:=y8h L hz bz hn (l:=List.range n) (by rw[List.length_range]; exact hn) fun x m=>List.mem_range.mp m
 have a3:=z1m L hz bz hC hu
 -- less
 have hE:Cht.Ok n f ⟨C.p,C.W.drop 1,C.B.dropLast⟩:=⟨hC.p1,hC.p8,by show(C.W.drop 1).length<=60; have:=hC.w60; rw[List.length_drop]; omega,by show C.B.dropLast.length<=60; have:=hC.b60; rw[List.length_dropLast]; omega,fun x hx=>hC.ws x (List.mem_of_mem_drop hx),fun x hx=>hC.bs x (List.dropLast_subset _ hx)⟩
 obtain⟨v,hv,l3⟩:=y02 T tt tb (x6b L hz bz hE)
 have g2:=x9v L hz bz hn (c:=x0a n ⟨C.p,C.W.drop 1,C.B.dropLast⟩) rfl l3
 have b1:=z4p L hz bz hC (C':=⟨C.p,C.W.drop 1,C.B.dropLast⟩) rfl (fun w hw=>List.mem_of_mem_drop hw) (fun b hb=>List.dropLast_subset _ hb) hu hv
 have a4:=x6r (f:=f) (p:=C.p) (Nat.le_trans p8 (by decide)) hu.V hv.V
 rw[b1]at a4
 -- what is none
 obtain⟨k,hk,ek⟩:=z5i ns (c:=230) (by decide) (n:=4) (by decide)
 have hal:=hu.V.len
 have hnl:(x05 u).length=C.p:=by rw[x11,hal]
 obtain⟨d,hd,ed⟩:∃ d,x4h C.p n d=false/\L2.atI [.lst (x05 u),.tup (x05 u++[.int 0]),.non,.tup ((x05 u).drop 1)] (Int.ofNat k)=some d:=by
  match k,hk with
  | 0,_=>exact⟨_,rfl,rfl⟩
  | 1,_=>exact⟨_,y9v (by rw[List.length_append,hnl]; simp),rfl⟩
  | 2,_=>exact⟨_,rfl,rfl⟩
  | 3,_=>exact⟨_,y9v (by rw[List.length_drop,hnl]; omega),rfl⟩
 have g6:=y9i L hz bz hn (c:=x0a n C) rfl (y3d T hD hd)
 refine⟨9,?_⟩
 unfold y7k z7e
 refine x21 ?_
 have s0:x3f 11 [.lst (ns.map D.int)]=[some (scr ns,0),none,none,none,none,none,none,none,none,none,none]:=rfl
 rw[s0]
 refine(x0h (ρ1:=[some (scr ns,0),some (x0q n f,9),none,none,none,none,none,none,none,none,none]) (x3i (x0y (ds:=[scr ns,.int 0]) rfl rfl hL) rfl)).trans ?_
 refine(x0h (ρ1:=[some (scr ns,0),some (x0q n f,9),some (x0a n C,9),none,none,none,none,none,none,none,none]) (x3i (x0y (ds:=[scr ns,.int 20,x0q n f,.bl false]) rfl rfl eCt) rfl)).trans ?_
 refine(x0h (ρ1:=[some (scr ns,0),some (x0q n f,9),some (x0a n C,9),some (.tup (x05 u),9),none,none,none,none,none,none,none]) (x3i (x0y (ds:=[x0q n f,x0a n C]) rfl rfl g1) rfl)).trans ?_
 refine(x0h (ρ1:=[some (scr ns,0),some (x0q n f,9),some (x0a n C,9),some (.tup (x05 u),9),none,none,none,none,none,none,none]) ((y4k (x6w (x9q (q':=9) (x0y (ds:=[x0q n f,x0a n C,.tup (x05 u)]) rfl rfl a1) rfl rfl))).trans rfl)).trans ?_
 refine(x0h (ρ1:=S50 ns n f C u [] none none) rfl).trans ?_
 refine(x0h ((x1z (ds:=x17 3) (ρ1:=S50 ns n f C u [] none none) rfl).trans ew)).trans ?_
 refine(x0h (ρ1:=(R50 ns n f C u [.tup (x05 x),.tup (x05 y),.tup (x05 w)] j.1 j.2 (some (.tup (x05 ((List.range C.p).map fun j=>f (gv x j) (gv y j))),9)) (none) (none) (none))) (x3i (z74 L hC ns [.tup (x05 w)] hx.1 hy.1 j.1 j.2 none none none none) rfl)).trans ?_
 refine(x0h (ρ1:=(R50 ns n f C u [.tup (x05 x),.tup (x05 y),.tup (x05 w)] j.1 j.2 (some (.tup (x05 ((List.range C.p).map fun j=>f (gv x j) (gv y j))),9)) (none) (none) (none))) ((y4k (x6w (x9q (q':=9) (x0y (ds:=[x0q n f,x0a n C,.tup (x05 ((List.range C.p).map fun j=>f (gv x j) (gv y j)))]) rfl rfl a2) rfl rfl))).trans rfl)).trans ?_
 generalize x05 ((List.range C.p).map fun j=>f (gv x j) (gv y j))=bo
 have er:∀ ρ:Rho,ρ[1]? = some (some (x0q n f,9))->x5z (x01 (x1d 1) x0f) ρ=some (.lst (x05 (List.range n)),1,ρ):=fun ρ h=>y0q (x6i hn (z1o h x1v))
 refine(x0h (ρ1:=(R50 ns n f C u [.tup (x05 x),.tup (x05 y),.tup (x05 w)] j.1 j.2 (some (.tup bo,9)) (some (.int (Int.ofNat ((List.range n).foldl f z)),9)) (none) (none))) (x3i (x0y (ds:=[x0q n f,.lst (x05 (List.range n))]) (x0w (q:=9) (ρ1:=(R50 ns n f C u [.tup (x05 x),.tup (x05 y),.tup (x05 w)] j.1 j.2 (some (.tup bo,9)) (none) (none) (none))) rfl (x19 (er _ rfl))) rfl ej) rfl)).trans ?_
 refine(x0h (ρ1:=(R50 ns n f C u [.tup (x05 x),.tup (x05 y),.tup (x05 w)] j.1 j.2 (some (.tup bo,9)) (some (.int (Int.ofNat ((List.range n).foldl f z)),9)) (none) (none))) (by
  generalize (List.range n).foldl f z=t at *
  have e1:x91 (x01 (x06 8) (x0f)) (R50 ns n f C u [.tup (x05 x),.tup (x05 y),.tup (x05 w)] j.1 j.2 (some (.tup bo,9)) (some (.int (Int.ofNat t),9)) (none) (none))=some (.tup [.int (Int.ofNat t)],9,(R50 ns n f C u [.tup (x05 x),.tup (x05 y),.tup (x05 w)] j.1 j.2 (some (.tup bo,9)) (some (.int (Int.ofNat t),9)) (none) (none))):=rfl
  have e2:x10 2 (eC (.int 0)) (R50 ns n f C u [.tup (x05 x),.tup (x05 y),.tup (x05 w)] j.1 j.2 (some (.tup bo,9)) (some (.int (Int.ofNat t),9)) (none) (none))=some (.int (Int.ofNat C.p),9,(R50 ns n f C u [.tup (x05 x),.tup (x05 y),.tup (x05 w)] j.1 j.2 (some (.tup bo,9)) (some (.int (Int.ofNat t),9)) (none) (none))):=rfl
  have e3:y5q (x91 (x01 (x06 8) (x0f))) (x10 2 (eC (.int 0))) (R50 ns n f C u [.tup (x05 x),.tup (x05 y),.tup (x05 w)] j.1 j.2 (some (.tup bo,9)) (some (.int (Int.ofNat t),9)) (none) (none))=some (.tup (x05 (y0u C.p t)),9,(R50 ns n f C u [.tup (x05 x),.tup (x05 y),.tup (x05 w)] j.1 j.2 (some (.tup bo,9)) (some (.int (Int.ofNat t),9)) (none) (none))):=by
   unfold y5q
   rw[e1]
   simp only[e2]
   rw[if_pos ⟨rfl,by show(1:Int)<=(C.p:Int); omega,by show 1*C.p<=1000; omega⟩]
   show some (D.tup (List.replicate C.p [D.int (Int.ofNat t)]).flatten,9,_)=_
   rw[List.flatten_replicate_singleton]
   simp[x05,y0u]
  exact(y4k (x6w (x9q (q:=9) (x:=.tup (x05 u)) (ρ1:=(R50 ns n f C u [.tup (x05 x),.tup (x05 y),.tup (x05 w)] j.1 j.2 (some (.tup bo,9)) (some (.int (Int.ofNat t),9)) (none) (none))) rfl (x0y (ds:=[x0q n f,x0a n C,.tup (x05 (y0u C.p t))]) (x0w (q:=9) (ρ1:=(R50 ns n f C u [.tup (x05 x),.tup (x05 y),.tup (x05 w)] j.1 j.2 (some (.tup bo,9)) (some (.int (Int.ofNat t),9)) (none) (none))) rfl (x0w (q:=9) (ρ1:=(R50 ns n f C u [.tup (x05 x),.tup (x05 y),.tup (x05 w)] j.1 j.2 (some (.tup bo,9)) (some (.int (Int.ofNat t),9)) (none) (none))) rfl (x19 e3))) rfl a3) (by rw[y94]; simp)))).trans rfl)).trans ?_
 generalize some (D.int (Int.ofNat ((List.range n).foldl f z)),9)=hi at *
 refine(x0h (ρ1:=(R50 ns n f C u [.tup (x05 x),.tup (x05 y),.tup (x05 w)] j.1 j.2 (some (.tup bo,9)) (hi) (some (x0a n ⟨C.p,C.W.drop 1,C.B.dropLast⟩,9)) (none))) (by
  have c0:atD (x0a n C) 0=some (.int (Int.ofNat C.p)):=rfl
  have c1:atD (x0a n C) 1=some (.tup (C.W.map (x4o n))):=rfl
  have c2:atD (x0a n C) 2=some (.tup (C.B.map x6c)):=rfl
  have s1:=y65 (C.W.map (x4o n))
  have s2:=z1r (C.B.map x6c)
  have t1:(C.B.map x6c).dropLast=C.B.dropLast.map x6c:=by rw[List.map_dropLast]
  have t2:(C.W.map (x4o n)).drop 1=(C.W.drop 1).map (x4o n):=by rw[List.map_drop]
  rw[t2]at s1
  rw[t1]at s2
  have q1:eSl (x10 2 (eC (.int 1))) (x7u (eC (.int 1))) x8k (R50 ns n f C u [.tup (x05 x),.tup (x05 y),.tup (x05 w)] j.1 j.2 (some (.tup bo,9)) (hi) (none) (none))=some (.tup ((C.W.drop 1).map (x4o n)),9,(R50 ns n f C u [.tup (x05 x),.tup (x05 y),.tup (x05 w)] j.1 j.2 (some (.tup bo,9)) (hi) (none) (none))):=by
   show some (D.tup (L3.z8u (C.W.map (x4o n)) (some 1) none),9,_)=_
   rw[s1]
  have q2:eSl (x10 2 (eC (.int 2))) x8k (x7u (y6l (eC (.int 1)))) (R50 ns n f C u [.tup (x05 x),.tup (x05 y),.tup (x05 w)] j.1 j.2 (some (.tup bo,9)) (hi) (none) (none))=some (.tup (C.B.dropLast.map x6c),9,(R50 ns n f C u [.tup (x05 x),.tup (x05 y),.tup (x05 w)] j.1 j.2 (some (.tup bo,9)) (hi) (none) (none))):=by
   show some (D.tup (L3.z8u (C.B.map x6c) none (some (-1))),9,_)=_
   rw[s2]
  have q3:x01 (x10 2 (eC (.int 0))) (x01 (eSl (x10 2 (eC (.int 1))) (x7u (eC (.int 1))) x8k) (x01 (eSl (x10 2 (eC (.int 2))) x8k (x7u (y6l (eC (.int 1))))) x0f)) (R50 ns n f C u [.tup (x05 x),.tup (x05 y),.tup (x05 w)] j.1 j.2 (some (.tup bo,9)) (hi) (none) (none))=some ([.int (Int.ofNat C.p),.tup ((C.W.drop 1).map (x4o n)),.tup (C.B.dropLast.map x6c)],(R50 ns n f C u [.tup (x05 x),.tup (x05 y),.tup (x05 w)] j.1 j.2 (some (.tup bo,9)) (hi) (none) (none))):=x0w (q:=9) (ρ1:=(R50 ns n f C u [.tup (x05 x),.tup (x05 y),.tup (x05 w)] j.1 j.2 (some (.tup bo,9)) (hi) (none) (none))) rfl (x0w q1 (x19 q2))
  refine x3i (d:=x0a n ⟨C.p,C.W.drop 1,C.B.dropLast⟩) (q:=9) (ρ1:=(R50 ns n f C u [.tup (x05 x),.tup (x05 y),.tup (x05 w)] j.1 j.2 (some (.tup bo,9)) (hi) (none) (none))) ?_ rfl
  unfold x91
  rw[q3]
  rfl)).trans ?_
 have hless:(x0a n ⟨C.p,C.W.drop 1,C.B.dropLast⟩).isL=false:=rfl
 generalize x0a n ⟨C.p,C.W.drop 1,C.B.dropLast⟩=less at *
 refine(x0h (ρ1:=(R50 ns n f C u [.tup (x05 x),.tup (x05 y),.tup (x05 w)] j.1 j.2 (some (.tup bo,9)) (hi) (some (less,9)) (some (d,x3t d)))) (by
  have s1:=y65 (x05 u)
  have l1:(x05 u).length+1<=1000:=by omega
  have r3:x06 3 (R50 ns n f C u [.tup (x05 x),.tup (x05 y),.tup (x05 w)] j.1 j.2 (some (.tup bo,9)) (hi) (some (less,9)) (none))=some (.tup (x05 u),9,(R50 ns n f C u [.tup (x05 x),.tup (x05 y),.tup (x05 w)] j.1 j.2 (some (.tup bo,9)) (hi) (some (less,9)) (none))):=rfl
  have q0:x5b (x01 (x06 3) x0f) (R50 ns n f C u [.tup (x05 x),.tup (x05 y),.tup (x05 w)] j.1 j.2 (some (.tup bo,9)) (hi) (some (less,9)) (none))=some (.lst (x05 u),1,(R50 ns n f C u [.tup (x05 x),.tup (x05 y),.tup (x05 w)] j.1 j.2 (some (.tup bo,9)) (hi) (some (less,9)) (none))):=rfl
  have q1:z3a (x06 3) (x91 (x01 (eC (.int 0)) x0f)) (R50 ns n f C u [.tup (x05 x),.tup (x05 y),.tup (x05 w)] j.1 j.2 (some (.tup bo,9)) (hi) (some (less,9)) (none))=some (.tup (x05 u++[.int 0]),9,(R50 ns n f C u [.tup (x05 x),.tup (x05 y),.tup (x05 w)] j.1 j.2 (some (.tup bo,9)) (hi) (some (less,9)) (none))):=by
   show(if(x05 u).length+1<=1000 then some (D.tup (x05 u++[.int 0]),9,_)else none)=_
   rw[if_pos l1]
  have q2:eSl (x06 3) (x7u (eC (.int 1))) x8k (R50 ns n f C u [.tup (x05 x),.tup (x05 y),.tup (x05 w)] j.1 j.2 (some (.tup bo,9)) (hi) (some (less,9)) (none))=some (.tup ((x05 u).drop 1),9,(R50 ns n f C u [.tup (x05 x),.tup (x05 y),.tup (x05 w)] j.1 j.2 (some (.tup bo,9)) (hi) (some (less,9)) (none))):=by
   show some (D.tup (L3.z8u (x05 u) (some 1) none),9,_)=_
   rw[s1]
  have q3:x5h (x01 (x5b (x01 (x06 3) x0f)) (x01 (z3a (x06 3) (x91 (x01 (eC (.int 0)) x0f))) (x01 (eC .non) (x01 (eSl (x06 3) (x7u (eC (.int 1))) x8k) x0f)))) (R50 ns n f C u [.tup (x05 x),.tup (x05 y),.tup (x05 w)] j.1 j.2 (some (.tup bo,9)) (hi) (some (less,9)) (none))=some (.lst [.lst (x05 u),.tup (x05 u++[.int 0]),.non,.tup ((x05 u).drop 1)],1,(R50 ns n f C u [.tup (x05 x),.tup (x05 y),.tup (x05 w)] j.1 j.2 (some (.tup bo,9)) (hi) (some (less,9)) (none))):=by
   unfold x5h
   rw[x0w q0 (x0w q1 (x0w (q:=9) (d:=.non) (ρ1:=(R50 ns n f C u [.tup (x05 x),.tup (x05 y),.tup (x05 w)] j.1 j.2 (some (.tup bo,9)) (hi) (some (less,9)) (none))) rfl (x19 q2)))]
   rfl
  refine x3i (d:=d) (q:=x3t d) (ρ1:=(R50 ns n f C u [.tup (x05 x),.tup (x05 y),.tup (x05 w)] j.1 j.2 (some (.tup bo,9)) (hi) (some (less,9)) (none))) ?_ rfl
  unfold eIx
  rw[q3]
  simp only[x0y (F:=x0d) (n:=3) (g:=x01 (x06 0) (x01 (eC (.int 230)) (x01 (eC (.int 4)) x0f))) (ρ:=(R50 ns n f C u [.tup (x05 x),.tup (x05 y),.tup (x05 w)] j.1 j.2 (some (.tup bo,9)) (hi) (some (less,9)) (none))) (ρ1:=(R50 ns n f C u [.tup (x05 x),.tup (x05 y),.tup (x05 w)] j.1 j.2 (some (.tup bo,9)) (hi) (some (less,9)) (none))) (ds:=[scr ns,.int 230,.int (Int.ofNat 4)]) rfl rfl ek]
  rw[show atD (.lst [.lst (x05 u),.tup (x05 u++[.int 0]),.non,.tup ((x05 u).drop 1)]) (Int.ofNat k)=some d from ed])).trans ?_
 refine x2t (ρ1:=(R50 ns n f C u [.tup (x05 x),.tup (x05 y),.tup (x05 w)] j.1 j.2 (some (.tup bo,9)) (hi) (some (less,9)) (some (d,x3t d)))) ?_
 refine(z7o (q:=9) (ρ1:=(R50 ns n f C u [.tup (x05 x),.tup (x05 y),.tup (x05 w)] j.1 j.2 (some (.tup bo,9)) (hi) (some (less,9)) (some (d,x3t d)))) (x0y (ds:=[x0q n f,.tup (x05 u),.tup (x05 v)]) (x0w (q:=9) (ρ1:=(R50 ns n f C u [.tup (x05 x),.tup (x05 y),.tup (x05 w)] j.1 j.2 (some (.tup bo,9)) (hi) (some (less,9)) (some (d,x3t d)))) rfl (x0w (q:=9) (ρ1:=(R50 ns n f C u [.tup (x05 x),.tup (x05 y),.tup (x05 w)] j.1 j.2 (some (.tup bo,9)) (hi) (some (less,9)) (some (d,x3t d)))) rfl (x19 (x0y (ds:=[x0q n f,less]) (x0w (q:=9) (ρ1:=(R50 ns n f C u [.tup (x05 x),.tup (x05 y),.tup (x05 w)] j.1 j.2 (some (.tup bo,9)) (hi) (some (less,9)) (some (d,x3t d)))) rfl (x19 (q:=9) (z3s rfl hless))) rfl g2)))) rfl a4)).trans ?_
 exact x9q (q':=9) (x0y (ds:=[x0q n f,x0a n C,d]) (x0w (q:=9) (ρ1:=(R50 ns n f C u [.tup (x05 x),.tup (x05 y),.tup (x05 w)] j.1 j.2 (some (.tup bo,9)) (hi) (some (less,9)) (some (d,x3t d)))) rfl (x0w (q:=9) (ρ1:=(R50 ns n f C u [.tup (x05 x),.tup (x05 y),.tup (x05 w)] j.1 j.2 (some (.tup bo,9)) (hi) (some (less,9)) (some (d,x3t d)))) rfl (x19 (y24 rfl)))) rfl g6) rfl rfl
noncomputable def A0 (K:PySem.W.Frag) (mg:Str->Option Value) (x:Str) (st:Stmt):Prop:=∃ f fd,Fun K x x st f fd/\mg x=some (.ref f)
theorem A0.mk {K:PySem.W.Frag} {h:Heap} {mg:Str->Option Value} {x:Str} {st:Stmt} {f:Addr} {od an:Option Addr} {sl:Array (Option Value)} {oc kV dc pm cd ct:Value} (X:K.In h) (G:h.Ns mainGlobals mg) (a:PySem.W.nsIn K mainGlobals x=some (some (.ref f))) (l:K.lookup f=some ⟨oc,od,.func (PySem.W.fnOf x x (x5w st) (x32 st) (x0e st) .none kV dc pm an cd ct),sl⟩) (c:PySem.W.codeIn K cd x=true) (k:PySem.W.keepIn K (.ref f)=true):A0 K mg x st:=⟨_,_,z33 l c k,PySem.W.mg_of X G a⟩
theorem A0.at {K:PySem.W.Frag} {mg:Str->Option Value} {x:Str} {st:Stmt} {ps:List Str} (a:A0 K mg x st) (h:∀ (kV doc pm:Value) (an:Option Addr) (cdv ct:Value) (us:List Value),us.length=ps.length->bindArgs (PySem.W.fnOf x x (x5w st) (x32 st) (x0e st) .none kV doc pm an cdv ct) ⟨us,[]⟩=pure (ps.zip us)):At K mg x st ps:=by
 obtain⟨f,fd,F,m⟩:=a
 exact⟨f,fd,F,m,F.binds h⟩
theorem all_mk {l:PySem.W.OpenLaw} {w:World} {K:PySem.W.Frag} {h:Heap} {mg:Str->Option Value} {fa:Addr} {f43:Addr} {od43 an43:Option Addr} {sl43:Array (Option Value)} {oc43 kV43 dc43 pm43 cd43 ct43:Value} (X:K.In h) (G:h.Ns mainGlobals mg) (hfa:mg "law" = some (.ref fa))
  (A1:A0 K mg "row_of_least" (top 9))
  (A2:A0 K mg "least_of" (top 10))
  (A3:A0 K mg "joined_all" (top 13))
  (A4:A0 K mg "is_below" (top 11))
  (A5:A0 K mg "below" (top 12))
  (A6:A0 K mg "met" (top 14))
  (A7:A0 K mg "_law_cell" (top 33))
  (A8:A0 K mg "_law_pick" (top 34))
  (A9:A0 K mg "_law_chain" (top 35))
  (A10:A0 K mg "_law_couples" (top 36))
  (A11:A0 K mg "_law_side_by_side" (top 37))
  (A12:A0 K mg "_law_base" (top 38))
  (A13:A0 K mg "_law_ladder" (top 39))
  (A14:A0 K mg "_law_low" (top 40))
  (A15:A0 K mg "_law_join" (top 41))
  (A16:A0 K mg "_law_under" (top 42))
  (A17:A0 K mg "_law_rule" (top 43))
  (A18:A0 K mg "_law_spreads" (top 44))
  (A19:A0 K mg "_law_spread_rule" (top 45))
  (A20:A0 K mg "_law_chart" (top 46))
  (A21:A0 K mg "is_whole" (top 4))
  (A22:A0 K mg "is_number_of" (top 5))
  (A23:A0 K mg "is_named_number" (top 7))
  (A24:A0 K mg "is_step" (top 23))
  (A25:A0 K mg "refuse_no_step" (top 24))
  (A26:A0 K mg "place_and_worth" (top 25))
  (A27:A0 K mg "worths_behind" (top 26))
  (A28:A0 K mg "risen" (top 27))
  (A29:A0 K mg "lowest" (top 20))
  (A30:A0 K mg "least_by" (top 28))
  (A31:A0 K mg "all_steps" (top 22))
  (A32:A0 K mg "least" (top 21))
  (A33:A0 K mg "table_of" (top 15))
  (A34:A0 K mg "turned" (top 16))
  (A35:A0 K mg "greatest" (top 31))
  (A36:A0 K mg "is_row_of" (top 6))
  (A37:A0 K mg "is_answer" (top 18))
  (A38:A0 K mg "is_under" (top 30))
  (A39:A0 K mg "_law_worths" (top 47))
  (A40:A0 K mg "_law_sunk" (top 50))
  (A41:A0 K mg "_law_is_no_more" (top 48))
  (A42:A0 K mg "_law_is_under" (top 49))
  (a43:PySem.W.nsIn K mainGlobals "law" = some (some (.ref f43))) (l43:K.lookup f43=some ⟨oc43,od43,.func (PySem.W.fnOf "law" "law" (x5w (top 51)) (x32 (top 51)) (x0e (top 51)) .none kV43 dc43 pm43 an43 cd43 ct43),sl43⟩) (c43:PySem.W.codeIn K cd43 "law" = true) (k43:PySem.W.keepIn K (.ref f43)=true)
  (z1:PySem.W.nsIn K mainGlobals "all" = some none) (z2:PySem.W.nsIn K mainGlobals "bool" = some none) (z3:PySem.W.nsIn K mainGlobals "int" = some none) (z4:PySem.W.nsIn K mainGlobals "isinstance" = some none) (z5:PySem.W.nsIn K mainGlobals "len" = some none) (z6:PySem.W.nsIn K mainGlobals "list" = some none) (z7:PySem.W.nsIn K mainGlobals "max" = some none) (z8:PySem.W.nsIn K mainGlobals "range" = some none) (z9:PySem.W.nsIn K mainGlobals "str" = some none) (z10:PySem.W.nsIn K mainGlobals "tuple" = some none) (z11:PySem.W.nsIn K mainGlobals "zip" = some none) (t_turned:∃ c Pt,PySem.W.tabIn K "turned" = some (c,Pt)) :
  ∃ fd:FuncData,(∀ (s:Shared) (v:Value),BindsTo s fd ⟨[v],[]⟩ [("_law_script",v)])/\∀ base:Heap,K.In base->base.Ns mainGlobals mg->Lm K mg base->FnOk l.prog w K mg base CX0 9 fa fd ["_law_script"] (spD K 1 y7k):=by
 have e:=hfa.symm.trans (PySem.W.mg_of X G a43)
 cases e
 have B:Bt mg:=⟨PySem.W.mg_none_of X G z1,PySem.W.mg_none_of X G z2,PySem.W.mg_none_of X G z3,PySem.W.mg_none_of X G z4,PySem.W.mg_none_of X G z5,PySem.W.mg_none_of X G z6,PySem.W.mg_none_of X G z7,PySem.W.mg_none_of X G z8,PySem.W.mg_none_of X G z9,PySem.W.mg_none_of X G z10,PySem.W.mg_none_of X G z11⟩
 refine⟨PySem.W.fnOf "law" "law" (x5w (top 51)) (x32 (top 51)) (x0e (top 51)) .none kV43 dc43 pm43 an43 cd43 ct43,fun s v=>.of_eq rfl,fun base KX NG L=>?_⟩
 have E_row_of_least:∀ base:Heap,Cal l.prog w K mg base 1 "row_of_least" 1 x2k:=fun base=>x6u B (A1.at fun _ _ _ _ _ _ _ h=>by obtain⟨_,rfl⟩:=L3.j3d h; rfl)
 have E_least_of:∀ base:Heap,Cal l.prog w K mg base 2 "least_of" 1 x36:=fun base=>y1z B (E_row_of_least base) (A2.at fun _ _ _ _ _ _ _ h=>by obtain⟨_,rfl⟩:=L3.j3d h; rfl)
 have E_joined_all:∀ base:Heap,Cal l.prog w K mg base 3 "joined_all" 2 x37:=fun base=>x90 B (E_least_of base) (A3.at fun _ _ _ _ _ _ _ h=>by obtain⟨_,_,rfl⟩:=L3.j2y h; rfl)
 have E_is_below:∀ base:Heap,Cal l.prog w K mg base 1 "is_below" 3 x1m:=fun base=>y1j B (A4.at fun _ _ _ _ _ _ _ h=>by obtain⟨_,_,_,rfl⟩:=L3.j2p h; rfl)
 have E_below:∀ base:Heap,Cal l.prog w K mg base 2 "below" 2 x8l:=fun base=>y96 B (E_is_below base) (A5.at fun _ _ _ _ _ _ _ h=>by obtain⟨_,_,rfl⟩:=L3.j2y h; rfl)
 have E_met:∀ base:Heap,Cal l.prog w K mg base 4 "met" 3 x8i:=fun base=>z9s B (E_joined_all base) (E_below base) (E_is_below base) (A6.at fun _ _ _ _ _ _ _ h=>by obtain⟨_,_,_,rfl⟩:=L3.j2p h; rfl)
 have hy_table_of:∃ fn,mg "table_of" = some (.ref fn)/\PySem.W.keepIn K (.ref fn)=true:=by
  obtain⟨f,fd,F,m⟩:=A33
  exact⟨f,m,F.kp⟩
 have hT_table_of:∀ (base:Heap) (ob:D) (G:List D->Option (D × Nat)),z5v l.prog w K mg base 5 ob 2 G->Cal l.prog w K mg base 6 "table_of" 2 (x35 ob G):=fun base ob G co=>y6v B co (A33.at fun _ _ _ _ _ _ _ h=>by obtain⟨_,_,rfl⟩:=L3.j2y h; rfl)
 have D_row_of_least:=x6u (P:=l.prog) (w:=w) (base:=base) B (A1.at fun _ _ _ _ _ _ _ h=>by obtain⟨_,rfl⟩:=L3.j3d h; rfl)
 have D_least_of:=y1z B D_row_of_least (A2.at fun _ _ _ _ _ _ _ h=>by obtain⟨_,rfl⟩:=L3.j3d h; rfl)
 have D_joined_all:=x90 B D_least_of (A3.at fun _ _ _ _ _ _ _ h=>by obtain⟨_,_,rfl⟩:=L3.j2y h; rfl)
 have D_is_below:=y1j (P:=l.prog) (w:=w) (base:=base) B (A4.at fun _ _ _ _ _ _ _ h=>by obtain⟨_,_,_,rfl⟩:=L3.j2p h; rfl)
 have D_below:=y96 B D_is_below (A5.at fun _ _ _ _ _ _ _ h=>by obtain⟨_,_,rfl⟩:=L3.j2y h; rfl)
 have D_met:=z9s B D_joined_all D_below D_is_below (A6.at fun _ _ _ _ _ _ _ h=>by obtain⟨_,_,_,rfl⟩:=L3.j2p h; rfl)
 have D__law_cell:=y5d (P:=l.prog) (w:=w) (base:=base) B (A7.at fun _ _ _ _ _ _ _ h=>by obtain⟨_,_,rfl⟩:=L3.j2y h; rfl)
 have D__law_pick:=y4p B D__law_cell (A8.at fun _ _ _ _ _ _ _ h=>by obtain⟨_,_,_,rfl⟩:=L3.j2p h; rfl)
 have D__law_chain:=y3u (P:=l.prog) (w:=w) (base:=base) B (A9.at fun _ _ _ _ _ _ _ h=>by obtain⟨_,rfl⟩:=L3.j3d h; rfl)
 have D__law_couples:=y12 (P:=l.prog) (w:=w) (base:=base) B (A10.at fun _ _ _ _ _ _ _ h=>by obtain⟨_,_,rfl⟩:=L3.j2y h; rfl)
 have D__law_side_by_side:=x77 (P:=l.prog) (w:=w) (base:=base) B (A11.at fun _ _ _ _ _ _ _ h=>by obtain⟨_,rfl⟩:=L3.j3d h; rfl)
 have D__law_base:=y5h B D__law_pick D__law_chain D__law_couples D__law_side_by_side (A12.at fun _ _ _ _ _ _ _ h=>by obtain⟨_,_,rfl⟩:=L3.j2y h; rfl)
 have D__law_ladder:=y23 B D__law_base D__law_pick (A13.at fun _ _ _ _ _ _ _ h=>by obtain⟨_,_,rfl⟩:=L3.j2y h; rfl)
 have D__law_low:=y70 (P:=l.prog) (w:=w) (base:=base) B (A14.at fun _ _ _ _ _ _ _ h=>by obtain⟨_,rfl⟩:=L3.j3d h; rfl)
 have D__law_join:=y52 B D__law_low (A15.at fun _ _ _ _ _ _ _ h=>by obtain⟨_,_,rfl⟩:=L3.j2y h; rfl)
 have D__law_under:=y38 (P:=l.prog) (w:=w) (base:=base) B (A16.at fun _ _ _ _ _ _ _ h=>by obtain⟨_,_,rfl⟩:=L3.j2y h; rfl)
 have D__law_rule:=y4z B D__law_low D__law_pick D__law_join D__law_under (A17.at fun _ _ _ _ _ _ _ h=>by obtain⟨_,_,_,rfl⟩:=L3.j2p h; rfl)
 have D__law_spreads:=y14 (P:=l.prog) (w:=w) (base:=base) B (A18.at fun _ _ _ _ _ _ _ h=>by obtain⟨_,_,rfl⟩:=L3.j2y h; rfl)
 have D__law_spread_rule:=x83 B D__law_rule D__law_spreads D__law_pick (A19.at fun _ _ _ _ _ _ _ h=>by obtain⟨_,_,_,rfl⟩:=L3.j2p h; rfl)
 have D__law_chart:=y3t B D__law_pick D__law_rule D__law_spread_rule (A20.at fun _ _ _ _ _ _ _ h=>by obtain⟨_,_,_,_,rfl⟩:=L3.j3l h; rfl)
 have D_is_whole:=y7i (P:=l.prog) (w:=w) (base:=base) B (A21.at fun _ _ _ _ _ _ _ h=>by obtain⟨_,rfl⟩:=L3.j3d h; rfl)
 have D_is_number_of:=y15 B D_is_whole (A22.at fun _ _ _ _ _ _ _ h=>by obtain⟨_,_,rfl⟩:=L3.j2y h; rfl)
 have D_is_named_number:=x8q B D_is_number_of (A23.at fun _ _ _ _ _ _ _ h=>by obtain⟨_,_,rfl⟩:=L3.j2y h; rfl)
 have D_is_step:=y8n B D_is_named_number (A24.at fun _ _ _ _ _ _ _ h=>by obtain⟨_,_,rfl⟩:=L3.j2y h; rfl)
 have D_refuse_no_step:=x9d B D_is_step (A25.at fun _ _ _ _ _ _ _ h=>by obtain⟨_,_,rfl⟩:=L3.j2y h; rfl)
 have D_place_and_worth:=x8e (P:=l.prog) (w:=w) (base:=base) B (A26.at fun _ _ _ _ _ _ _ h=>by obtain⟨_,_,_,rfl⟩:=L3.j2p h; rfl)
 have D_worths_behind:=y01 B D_place_and_worth (A27.at fun _ _ _ _ _ _ _ h=>by obtain⟨_,_,_,_,rfl⟩:=L3.j3l h; rfl)
 have D_risen:=z54 B D_worths_behind (A28.at fun _ _ _ _ _ _ _ h=>by obtain⟨_,_,_,_,rfl⟩:=L3.j3l h; rfl)
 have D_lowest:=z1d B D_least_of (A29.at fun _ _ _ _ _ _ _ h=>by obtain⟨_,_,rfl⟩:=L3.j2y h; rfl)
 have D_least_by:=y7c B D_refuse_no_step D_risen D_lowest (A30.at fun _ _ _ _ _ _ _ h=>by obtain⟨_,_,_,rfl⟩:=L3.j2p h; rfl)
 have D_all_steps:=y4y (P:=l.prog) (w:=w) (base:=base) B (A31.at fun _ _ _ _ _ _ _ h=>by obtain⟨_,rfl⟩:=L3.j3d h; rfl)
 have D_least:=z3w B D_least_by D_all_steps (A32.at fun _ _ _ _ _ _ _ h=>by obtain⟨_,_,rfl⟩:=L3.j2y h; rfl)
 have D_turned:=z1l B L KX NG t_turned hT_table_of hy_table_of E_met (A34.at fun _ _ _ _ _ _ _ h=>by obtain⟨_,rfl⟩:=L3.j3d h; rfl)
 have D_greatest:=y7f B D_least D_turned (A35.at fun _ _ _ _ _ _ _ h=>by obtain⟨_,_,rfl⟩:=L3.j2y h; rfl)
 have D_is_row_of:=y5m B D_is_number_of (A36.at fun _ _ _ _ _ _ _ h=>by obtain⟨_,_,_,rfl⟩:=L3.j2p h; rfl)
 have D_is_answer:=y4x B D_is_row_of D_is_below (A37.at fun _ _ _ _ _ _ _ h=>by obtain⟨_,_,_,rfl⟩:=L3.j2p h; rfl)
 have D_is_under:=y78 B D_is_answer D_turned (A38.at fun _ _ _ _ _ _ _ h=>by obtain⟨_,_,_,rfl⟩:=L3.j2p h; rfl)
 have D__law_worths:=y2t B D__law_pick (A39.at fun _ _ _ _ _ _ _ h=>by obtain⟨_,_,_,_,rfl⟩:=L3.j3l h; rfl)
 have D__law_sunk:=y4s B D_met (A40.at fun _ _ _ _ _ _ _ h=>by obtain⟨_,_,_,rfl⟩:=L3.j2p h; rfl)
 have D__law_is_no_more:=x8c (P:=l.prog) (w:=w) (base:=base) B (A41.at fun _ _ _ _ _ _ _ h=>by obtain⟨_,_,_,rfl⟩:=L3.j2p h; rfl)
 have D__law_is_under:=x9w (P:=l.prog) (w:=w) (base:=base) B (A42.at fun _ _ _ _ _ _ _ h=>by obtain⟨_,_,_,rfl⟩:=L3.j2p h; rfl)
 exact z50 B D__law_ladder D__law_chart D_greatest D_is_under D__law_worths D__law_is_under D__law_sunk D__law_is_no_more D__law_join D__law_pick (z33 (st:=top 51) l43 c43 k43)
theorem walk {l:PySem.W.OpenLaw} {q:Program} {loose:List Str} {XP:(Str->Option Value)->Heap->Prop} {YP:World->Heap->Prop} {d:DefRec} {K:Params->PySem.W.Frag} (hn:l.most=some 63) (hdf:d.params.defaults=[])
  (hY:∀ (w:World) (h:Heap),YP w h->(K w.params).In h)
  (F:∀ (w:World) (mg:Str->Option Value) (fa:Addr) (h:Heap),(K w.params).In h->h.Ns mainGlobals mg->mg d.name=some (.ref fa)->j0u q (K w.params)/\PySem.W.noTabs (K w.params)=true /\
    ∃ fd:FuncData,(∀ (s:Shared) (u:Value),BindsTo s fd ⟨[u],[]⟩ [("_law_script",u)])/\∀ base:Heap,(K w.params).In base->base.Ns mainGlobals mg->Lm (K w.params) mg base->FnOk l.prog w (K w.params) mg base CX0 9 fa fd ["_law_script"] (spD (K w.params) 1 y7k)) :
  PySem.W.WalkO q loose XP YP l.row.toRowW d [] (fun f vs=>PySem.call f vs):=
 z19 (n:=63) (k:=9) (x:="_law_script") (CX:=fun _=>CX0) (sp:=fun w=>spD (K w.params) 1 y7k) hn (by decide) hdf ⟨rfl,by decide,by decide⟩ hY F (fun _ _ a ns hl tb hS=>z7k law_true hl hS tb) fun _ _ _ _ _ z=>z
end My
namespace PySem.W.Fast
def tw10072386182070315672 := 0
def tw10236081888016698766 := 0
def tw10296007528486191312 := 0
def tw1053519168660478009 := 0
def tw10550884175877346625 := 0
def tw1056887094440887984 := 0
def tw10572803461285654494 := 0
def tw10573710026997440915 := 0
def tw10693351887734732575 := 0
def tw1072672048976723634 := 0
def tw10726944827513146584 := 0
def tw10740371000300527453 := 0
def tw10743171428745666056 := 0
def tw10775359914127829335 := 0
def tw10792651115371049359 := 0
def tw10941975622791535819 := 0
def tw10963900238114337540 := 0
def tw11009313472254884736 := 0
def tw11044578872136929072 := 0
def tw11150789598632478198 := 0
def tw11171440184886594704 := 0
def tw1118807579881857023 := 0
def tw11202394707587021294 := 0
def tw11277478474779478013 := 0
def tw11406625697888389852 := 0
def tw11500769283233216427 := 0
def tw11534409357746740644 := 0
def tw11702642694300518310 := 0
def tw11869436361636650208 := 0
def tw11917058370604170080 := 0
def tw11928036286631702349 := 0
def tw11977919062370580612 := 0
def tw12060626561141058536 := 0
def tw12079224459492665326 := 0
def tw12083758014549732118 := 0
def tw12137445980219763604 := 0
def tw12167589882136159399 := 0
def tw12218574870546911322 := 0
def tw12322058900410964478 := 0
def tw12422838270225703677 := 0
def tw12444377354572928095 := 0
def tw1248018603099325 := 0
def tw12550213774902455940 := 0
def tw12591099185613005158 := 0
def tw12703107905712785735 := 0
def tw1281271686271615818 := 0
def tw12983996893194823324 := 0
def tw13012463289743100039 := 0
def tw13060403957630666191 := 0
def tw13100035755136074317 := 0
def tw13160576508388159514 := 0
def tw13180191713975162039 := 0
def tw13210440747874321375 := 0
def tw1335862136785485515 := 0
def tw13374900022865986378 := 0
def tw13433773063025813346 := 0
def tw13561287523561406485 := 0
def tw13604272931334838365 := 0
def tw13753281837998750078 := 0
def tw13776672134359684942 := 0
def tw13814885290733079341 := 0
def tw13860420220369053963 := 0
def tw13888178502611369553 := 0
def tw13905303903873411878 := 0
def tw13931811595082551375 := 0
def tw13932632243475861909 := 0
def tw13949087351426674106 := 0
def tw13954030875548047908 := 0
def tw14103124181756073560 := 0
def tw14124998090803441368 := 0
def tw14180276642331709884 := 0
def tw1419290223359194562 := 0
def tw14250922718436810254 := 0
def tw14284979917516651715 := 0
def tw14327373444329033343 := 0
def tw14328784234846769940 := 0
def tw1437282341900851019 := 0
def tw14372993190807155851 := 0
def tw1445081260132163371 := 0
def tw14498891149136061444 := 0
def tw14551641587571853964 := 0
def tw14578794208694863139 := 0
def tw14580887625135269204 := 0
def tw14707575117513707051 := 0
def tw1471936799135581323 := 0
def tw14761087842469967396 := 0
def tw1476781771727045851 := 0
def tw14932346452961739537 := 0
def tw1498096333938887989 := 0
def tw1501506581646604874 := 0
def tw15065554297117076875 := 0
def tw15151329762597318914 := 0
def tw15153958846928417261 := 0
def tw15251228208169175461 := 0
def tw15288606695569513262 := 0
def tw15292995609484411818 := 0
def tw15386428990635425373 := 0
def tw15400651127025098507 := 0
def tw15428975167564636040 := 0
def tw1547553896174836700 := 0
def tw15517257857680214451 := 0
def tw15583296476781985621 := 0
def tw15586298153928815134 := 0
def tw15635825314218523033 := 0
def tw15756451840705348024 := 0
def tw15804807639315482327 := 0
def tw15843846637827575804 := 0
def tw15917764482228112346 := 0
def tw1606190824682898868 := 0
def tw16071770598238554397 := 0
def tw16106334240378274951 := 0
def tw16205331521025963495 := 0
def tw16243096467371333460 := 0
def tw16318955671980177279 := 0
def tw1637638165086547429 := 0
def tw16425471837180474785 := 0
def tw16671708868986116300 := 0
def tw16689337162766871088 := 0
def tw16690132388168921891 := 0
def tw16842031293399221559 := 0
def tw16881703078389285523 := 0
def tw16925213438289397007 := 0
def tw16987786764429410297 := 0
def tw17002665373810848749 := 0
def tw17032429242338095743 := 0
def tw17186849269857377781 := 0
def tw17232530781573104945 := 0
def tw17321272699844508775 := 0
def tw17431640907955345947 := 0
def tw17441560563093762223 := 0
def tw17567414030378610296 := 0
def tw17588906497904406376 := 0
def tw17645774308054910431 := 0
def tw17683050741784869015 := 0
def tw17799339588886215777 := 0
def tw17808501733050637778 := 0
def tw17868963926837434539 := 0
def tw17903940127528938490 := 0
def tw17938967736980245256 := 0
def tw18001144657973297825 := 0
def tw18014938791284118141 := 0
def tw18046002265633708205 := 0
def tw18050985719243432084 := 0
def tw18189200089371467291 := 0
def tw18218390217918391389 := 0
def tw18264070741047255279 := 0
def tw18420008567106172143 := 0
def tw2132161171491092564 := 0
def tw2386171745205768245 := 0
def tw2419789234159808183 := 0
def tw2476271624447592236 := 0
def tw2541907021531398557 := 0
def tw2556784887368047348 := 0
def tw2627501082409770238 := 0
def tw2822108088567686824 := 0
def tw2830514698577874153 := 0
def tw2842460819976254364 := 0
def tw2849519265085051604 := 0
def tw2864503353198202940 := 0
def tw2891991556310589840 := 0
def tw2905404466608270712 := 0
def tw3041325086525203744 := 0
def tw3081416990834434130 := 0
def tw3170479983661231500 := 0
def tw3243513375010405922 := 0
def tw3279270371180216646 := 0
def tw3334708169976899119 := 0
def tw3460658875147493660 := 0
def tw3525931085526787117 := 0
def tw3553662668881370443 := 0
def tw3577723972316084560 := 0
def tw3836322071842899690 := 0
def tw3847159625960185884 := 0
def tw3901089240659395318 := 0
def tw3931655540196202596 := 0
def tw3963093857922113507 := 0
def tw4018938297670585370 := 0
def tw4076621171183897901 := 0
def tw4098744561489673883 := 0
def tw4247560268335869354 := 0
def tw4255847647012200710 := 0
def tw427087563750153211 := 0
def tw427585030243023819 := 0
def tw4335291164677295631 := 0
def tw4375195927378333791 := 0
def tw4501710535713468548 := 0
def tw4513087450697790737 := 0
def tw4533422241988214929 := 0
def tw4649816461077501829 := 0
def tw4771383099736446737 := 0
def tw4789669920269731429 := 0
def tw4964540903479554712 := 0
def tw4968784414826436117 := 0
def tw5130443042770409634 := 0
def tw5134495520373066401 := 0
def tw5260535137253870136 := 0
def tw5300738322971530287 := 0
def tw5317062426754135089 := 0
def tw5347453072484935168 := 0
def tw5356974083763918054 := 0
def tw5379812227926403727 := 0
def tw541306376876575942 := 0
def tw5441570083384184245 := 0
def tw5443016262116376326 := 0
def tw551091278606260044 := 0
def tw5556791058614522088 := 0
def tw5612716072673580797 := 0
def tw5711331684156053064 := 0
def tw5766512735274158824 := 0
def tw5778535224439110662 := 0
def tw5807606214956604457 := 0
def tw6033825570325913970 := 0
def tw6152750066809140381 := 0
def tw6153600177633966810 := 0
def tw6174007239544157854 := 0
def tw6199916709095966438 := 0
def tw6216412278593200868 := 0
def tw6270200391458387794 := 0
def tw6328825059786477533 := 0
def tw6341980354351448382 := 0
def tw6524357610569464168 := 0
def tw6574720201233231554 := 0
def tw657572945357514102 := 0
def tw6608556066816134278 := 0
def tw6705257788664303703 := 0
def tw6742168294091063701 := 0
def tw6751138645632013737 := 0
def tw677721762395577243 := 0
def tw6831663531270342872 := 0
def tw6918417377503514717 := 0
def tw698146607636972583 := 0
def tw7033771774811798033 := 0
def tw7142431493212009123 := 0
def tw7258841545422065122 := 0
def tw7384737476298816972 := 0
def tw7394461807166446223 := 0
def tw7527149725120128953 := 0
def tw7528758228176443020 := 0
def tw7536859833036930258 := 0
def tw7537549610591551281 := 0
def tw7557399216196763560 := 0
def tw7584062820479346301 := 0
def tw7657387732082260927 := 0
def tw78165375383238039 := 0
def tw7872213027911425547 := 0
def tw7895402345916539633 := 0
def tw7930685034772630181 := 0
def tw7999478790192439660 := 0
def tw8032513200546107971 := 0
def tw8090278714998313604 := 0
def tw8215350152425377785 := 0
def tw8239145563264976720 := 0
def tw828600768789768843 := 0
def tw8287922035624484627 := 0
def tw8327770677692932165 := 0
def tw8343984917230114326 := 0
def tw8404267660161544500 := 0
def tw840767914465542660 := 0
def tw8541997098387109310 := 0
def tw8559100427824937846 := 0
def tw8593436932252088093 := 0
def tw8612841466570138560 := 0
def tw8699313828833472128 := 0
def tw8926758509092103180 := 0
def tw8974151182608101082 := 0
def tw9048500716645896515 := 0
def tw9052794141211182667 := 0
def tw9125950494977946406 := 0
def tw9134895500144609702 := 0
def tw9178446457093779931 := 0
def tw9292529230671206971 := 0
def tw9305679244687558605 := 0
def tw9359003499946903004 := 0
def tw9490620361752484780 := 0
def tw951655106593759645 := 0
def tw951660689582568403 := 0
def tw9547057348808621490 := 0
def tw9695152333064249174 := 0
def tw9936490487509945228 := 0
def tw9940650448089703941 := 0
def tw9942907999586308783 := 0
end PySem.W.Fast
open PySem PySem.W PyProof.Rows
set_option maxRecDepth 100000 in
set_option maxHeartbeats 0 in
theorem PySem.Challenge.cw_ladderhall_k50_whole_greatest_holds : PySem.Challenge.rw_ladderhall_k50_whole_greatest.Holds := by
  w_on; o_law; k_head; (case hw => w_witness2)
  k_fill
  refine My.walk (l := PySem.Challenge.rw_ladderhall_k50_whole_greatest) rfl rfl (fun w h Y => PySem.W.km_in_of Y) ?F
  case F =>
    intro w mg fa h KX G hmg
    refine' ⟨L3.j0u.of ?r1 ?r2 ?r3 ?r4, ?nt, ?al⟩
    (case r1 => exact .inl ⟨_, rfl⟩)
    (case r2 => refine' .inr (L3.j0x ?_); k_is)
    (case r3 => refine' .inr (L3.j0x ?_); k_is)
    (case r4 => refine' .inr (L3.j0x ?_); k_is)
    (case nt => kernel_rfl)
    refine' My.all_mk KX G hmg ?A1 ?A2 ?A3 ?A4 ?A5 ?A6 ?A7 ?A8 ?A9 ?A10 ?A11 ?A12 ?A13 ?A14 ?A15 ?A16 ?A17 ?A18 ?A19 ?A20 ?A21 ?A22 ?A23 ?A24 ?A25 ?A26 ?A27 ?A28 ?A29 ?A30 ?A31 ?A32 ?A33 ?A34 ?A35 ?A36 ?A37 ?A38 ?A39 ?A40 ?A41 ?A42 ?a43 ?l43 ?c43 ?k43 ?z1 ?z2 ?z3 ?z4 ?z5 ?z6 ?z7 ?z8 ?z9 ?z10 ?z11 ?t_turned
    (case A1 | A2 | A3 | A4 | A5 | A6 | A7 | A8 | A9 | A10 | A11 | A12 | A13 | A14 | A15 | A16 | A17 | A18 | A19 | A20 | A21 | A22 | A23 | A24 | A25 | A26 | A27 | A28 | A29 | A30 | A31 | A32 | A33 | A34 | A35 | A36 | A37 | A38 | A39 | A40 | A41 | A42 => refine' My.A0.mk KX G ?a ?l ?c ?k; (case a => k_is); (case l => k_is); (case c => k_is); (case k => k_is))
    (case a43 => k_is)
    (case l43 => k_is)
    (case c43 => k_is)
    (case k43 => k_is)
    (case z1 => k_is)
    (case z2 => k_is)
    (case z3 => k_is)
    (case z4 => k_is)
    (case z5 => k_is)
    (case z6 => k_is)
    (case z7 => k_is)
    (case z8 => k_is)
    (case z9 => k_is)
    (case z10 => k_is)
    (case z11 => k_is)
    (case t_turned => refine' L3.j2e ?a ?l ?c ?m ?v; (case a => k_is); (case l => k_is); (case c => exact rfl); (case m => k_is); (case v => exact rfl))
