import PyProof.Rows.All
import Wide.All
import OpenK.AllK
import Wide.FinOn
import Lean
import PyProof.EqAt
import PyProof.EqKinds
import PyProof.TupleCall
import KE.KIsNot
import PyProof.ExcArgs
import OpenK.KOwn
import KE.LcSums
import PyProof.EnumMake
import PyProof.Draws
import PyProof.Rows.EnumRows
import PyProof.ExcBaseAll.ValueError
import PyProof.NsDelKeeps
import PyProof.Rows.SetFrom
import PyProof.WalksMore
import KE.KDictSum
import PyProof.Rows.MinMaxN
import PyProof.Rows.CallKwBuiltin
import KE.KMinKey
import PySem.Challenge.RW_ladderhall_k53_whole_demands
set_option Elab.async false
set_option linter.all false
set_option maxRecDepth 100000
set_option maxHeartbeats 0
namespace L2
open PySem PySem.Spec PyProof.Rows
abbrev Key:=Sum Int Str
def y8q:Key->Value->Bool
 | .inl k,v=>Value.isInt k v
 | .inr x,v=>Value.isStrOf x v
def j6w (w:World):Key->Int
 | .inl k=>hashInt k
 | .inr x=>hashStr w x
theorem x2o:∀ {k:Key} {v:Value},y8q k v=true->(∃ i t,k=Sum.inl i/\v=Value.int i t)\/(∃ x t,k=Sum.inr x/\v=Value.str x t)
 | .inl i,v,h=>by
  obtain⟨t,e⟩:=Value.isInt_shape (k:=i) (v:=v) h
  exact .inl ⟨i,t,rfl,e⟩
 | .inr x,v,h=>by
  obtain⟨t,e⟩:=Value.isStrOf_shape (x:=x) (v:=v) h
  exact .inr ⟨x,t,rfl,e⟩
theorem y9t (i:Int)(t:Tok):y8q (.inl i) (.int i t)=true:=by simp[y8q,Value.isInt]
theorem z1i (x:Str)(t:Tok):y8q (.inr x) (.str x t)=true:=by simp[y8q,Value.isStrOf]
theorem j1i (a b:Int):decide ((Sum.inl a:Key)=Sum.inl b)=(a==b):=by
 by_cases e:a=b
 ·subst e;simp
 ·have h:¬ (Sum.inl a:Key)=Sum.inl b:=fun q=>e (Sum.inl.inj q)
  rw[decide_eq_false h]
  exact(beq_eq_false_iff_ne.mpr e).symm
theorem j14 (a b:Str):decide ((Sum.inr a:Key)=Sum.inr b)=decide (a=b):=by
 by_cases e:a=b
 ·subst e;simp
 ·have h:¬ (Sum.inr a:Key)=Sum.inr b:=fun q=>e (Sum.inr.inj q)
  rw[decide_eq_false h,decide_eq_false e]
theorem j1h (a:Int)(b:Str):decide ((Sum.inl a:Key)=Sum.inr b)=false:=decide_eq_false (fun q=>nomatch q)
theorem j15 (a:Str)(b:Int):decide ((Sum.inr a:Key)=Sum.inl b)=false:=decide_eq_false (fun q=>nomatch q)
def x31 (prog:Program)(w:World):PySem.KeyKind prog w Key where
 is:=y8q
 hash:=j6w w
 inj:=fun v a b ha hb=>by
  rcases x2o ha with⟨i,t,rfl,rfl⟩|⟨x,t,rfl,rfl⟩
  ·rcases x2o hb with⟨j,u,rfl,e⟩|⟨y,u,rfl,e⟩
   ·injection e with e1 _;rw[e1]
   ·exact nomatch e
  ·rcases x2o hb with⟨j,u,rfl,e⟩|⟨y,u,rfl,e⟩
   ·exact nomatch e
   ·injection e with e1 _;rw[e1]
 byValue:=fun k v h=>by
  rcases x2o h with⟨i,t,rfl,rfl⟩|⟨x,t,rfl,rfl⟩<;>rfl
 pyHash:=fun hv h=>by
  rcases x2o hv with⟨i,t,rfl,rfl⟩|⟨x,t,rfl,rfl⟩
  ·exact wpAny_pyHash_int h
  ·exact wpAny_pyHash_str h
 eqBool:=fun hu hv h=>by
  rcases x2o hu with⟨i,t,rfl,rfl⟩|⟨x,t,rfl,rfl⟩
  ·rcases x2o hv with⟨j,u,rfl,rfl⟩|⟨y,u,rfl,rfl⟩
   ·rw[j1i]at h;exact wpAny_eqBool_int h
   ·rw[j1h]at h;exact SeqAt.EqAt.int_str i t y u _ _ _ _ h
  ·rcases x2o hv with⟨j,u,rfl,rfl⟩|⟨y,u,rfl,rfl⟩
   ·rw[j15]at h;exact SeqAt.EqAt.str_int x t j u _ _ _ _ h
   ·rw[j14]at h;exact wpAny_eqBool_str h
 «strs»:=fun k x t v h=>by
  rcases x2o h with⟨i,u,rfl,e⟩|⟨y,u,rfl,e⟩
  ·exact nomatch e
  ·injection e with e1 _
   subst e1
   cases v<;>rfl
theorem y69 (prog:Program)(w:World)(i:Int)(t:Tok):(x31 prog w).is (.inl i) (.int i t)=true:=y9t i t
theorem y59 (prog:Program)(w:World)(x:Str)(t:Tok):(x31 prog w).is (.inr x) (.str x t)=true:=z1i x t
inductive V where
 | non|bl (b:Bool)|int (i:Int)|str (x:Str)|byt (b:Array UInt8)|flt (b:UInt64)|ref (a:Addr)|ty (n:String)
 deriving DecidableEq
def x3t:V->Value->Prop
 | .non,u=>u=Value.none
 | .bl b,u=>u=Value.bool b
 | .int i,u=>∃ t,u=Value.int i t
 | .str x,u=>∃ t,u=Value.str x t
 | .byt b,u=>∃ t,u=Value.bytes b t
 | .flt b,u=>∃ t,u=Value.float b t
 | .ref a,u=>u=Value.ref a
 | .ty n,u=>u=Value.type n
abbrev x2i:List V->List Value->Prop:=Paired x3t
theorem x2i.length {xs:List V}{us:List Value}(r:x2i xs us):xs.length=us.length:=Paired.length r
theorem x2i.get:∀ {xs:List V} {us:List Value} {i:Nat} {x:V},x2i xs us->xs[i]? = some x->∃ u,us[i]? = some u/\x3t x u
 | _,_,_,_,.nil,e=>by simp at e
 | _,_,0,_,.cons r _,e=>by simp at e;subst e;exact⟨_,rfl,r⟩
 | _,_,i+1,x,.cons _ t,e=>by
  obtain⟨u,h1,h2⟩:=x2i.get (i:=i) (x:=x) t (by simpa using e)
  exact⟨u,by simpa using h1,h2⟩
theorem x2i.set {x:V}{u:Value}(r:x3t x u):∀ {xs:List V} {us:List Value} (i:Nat),x2i xs us->x2i (xs.set i x) (us.set i u)
 | _,_,_,.nil=>.nil
 | _,_,0,.cons _ t=>.cons r t
 | _,_,i+1,.cons q t=>.cons q (x2i.set r i t)
theorem x2i.append:∀ {xs ys:List V} {us ws:List Value},x2i xs us->x2i ys ws->x2i (xs++ys) (us++ws)
 | _,_,_,_,.nil,s=>s
 | _,_,_,_,.cons r t,s=>.cons r (x2i.append t s)
theorem x2i.take:∀ {xs:List V} {us:List Value} (n:Nat),x2i xs us->x2i (xs.take n) (us.take n)
 | _,_,0,_=>.nil
 | _,_,_+1,.nil=>.nil
 | _,_,n+1,.cons r t=>.cons r (x2i.take n t)
theorem x2i.drop:∀ {xs:List V} {us:List Value} (n:Nat),x2i xs us->x2i (xs.drop n) (us.drop n)
 | _,_,0,r=>r
 | _,_,_+1,.nil=>.nil
 | _,_,n+1,.cons _ t=>x2i.drop n t
def z94:Option V->Option Value->Prop
 | some v,some u=>x3t v u
 | none,none=>True
 | _,_=>False
def KV {κ:Type}:List (κ×V)->List (κ×Value)->Prop:=Paired fun(p:κ×V) (q:κ×Value)=>p.1=q.1/\x3t p.2 q.2
def kV:Key->V
 | .inl i=>.int i
 | .inr x=>.str x
inductive HO where
 /-- a list -/
 | lst (xs:List V)
 /-- a tuple (never changes) -/
 | tup (xs:List V)
 /-- a dict whose keys are ints and texts;one whose keys are tuples of ints and texts (the empty one is both) -/
 | dK (kvs:List (Key×V))|dT (kvs:List (List Key×V))
 /-- a set of ints: its members,its size -/
 | set (S:Int->Bool) (n:Nat)
 /-- an instance of the class at C,its dict at dx,its attributes -/
 | ins (C dx:Addr) (fs:List (Str×V))
 /-- the dict of the instance at x -/
 | own (x:Addr)
 /-- the dict of an exception -/
 | xd (fs:List (Str×V))
 /-- a bound method,f of x -/
 | met (f x:Addr)
 /-- a range object lo,lo+1,.. below hi -/
 | rng (lo hi:Int)
 /-- a thing that is known to the object (the script;a dict while a loop walks it): read,never written while it is so -/
 | frz (o:Obj) (u:HO)
 /-- a code object's table -/
 | tbl (ps:Array Value)
 /-- any other thing,by what is true of its one object (a def of one's own: SetO a S n:=HO.ext fun h=>..) -/
 | ext (φ:Heap->Prop)
abbrev Hp:=Addr->Option HO
def upd (H:Hp)(a:Addr)(o:HO):Hp:=fun b=>if b=a then some o else H b
theorem x0w {H:Hp}{a:Addr}{o:HO}:upd H a o a=some o:=by unfold upd;rw[if_pos rfl]
theorem x0i {H:Hp}{a b:Addr}{o:HO}(h:b≠a):upd H a o b=H b:=by unfold upd;rw[if_neg h]
theorem z8b {H:Hp}{a:Addr}{o u:HO}:upd (upd H a o) a u=upd H a u:=by
 funext b;unfold upd;split<;>rfl
theorem x0u {H:Hp}{a b:Addr}{o:HO}(h:H a=some o)(h':H b=none):a≠b:=by
 intro e;subst e;rw[h]at h';cases h'
def x5h (h:Heap)(a:Addr)(items:Array Value):Prop:=∃ o,h.get? a=some o/\o.cls=.type "tuple" /\ (∃ n,o.data=.seq items n)/\o.dict=none
theorem x5h.tup {h:Heap}{a:Addr}{items:Array Value}(x:x5h h a items):IsTup h a items:=let ⟨o,e,c,n,_⟩:=x;⟨o,e,c,n⟩
theorem x5h.new (h:Heap)(items:Array Value):x5h (h.push { cls:=.type "tuple",data:=.seq items }) h.objs.size items:=⟨_,Heap.get?_push_size _ rfl,rfl,⟨_,rfl⟩,rfl⟩
theorem x5h.lt {h:Heap}{a:Addr}{items:Array Value}(x:x5h h a items):a<h.objs.size:=let ⟨_,e,_⟩:=x;Heap.lt_size e
section
variable (P:Program)(w:World)
def x2b (H:Hp)(h:Heap)(a:Addr):HO->Prop
 | .lst xs=>xs.length<=sizeLine/\∃ (its:List Value) (n:Nat),x2i xs its/\h.get? a=some { cls:=.type "list",data:=.seq its.toArray n }
 | .tup xs=>xs.length<=sizeLine/\∃ its:List Value,x2i xs its/\x5h h a its.toArray
 | .dK kvs=>kvs.length<=sizeLine/\(a==sysModules)=false/\∃ vs,KV kvs vs/\h.DictOf (x31 P w) a vs
 | .dT kvs=>kvs.length<=sizeLine/\(a==sysModules)=false/\∃ xs:List (List Key×Addr×Value),
   Paired (fun(p:List Key×V) (q:List Key×Addr×Value)=>p.1=q.1/\H q.2.1=some (.tup (p.1.map kV))/\x3t p.2 q.2.2) kvs xs /\
   ∃ o es ep,h.get? a=some o/\o.ExactDict/\o.data=.dict es ep/\es.toList=xs.map (entryOfKey (tupleKind (x31 P w)))/\(xs.map (·.1)).Nodup
 | .set S n=>h.SetOf (intKind P w) a S n
 | .ins C dx fs=>H dx=some (.own a)/\fs.length<=1000/\dx≠a/\h.get? a=some (PySem.W.instObj C dx) /\
   ∃ mA,h.Ns1 dx mA/\(∀ f,z94 (fs.lookup f) (mA f))/\PySem.Within mA (fs.map (·.1))
 | .own _=>∃ o,h.get? a=some o
 | .xd fs=>∃ mA,h.Ns1 a mA/\∀ f,z94 (fs.lookup f) (mA f)
 | .rng lo hi=>∃ t u v,h.get? a=some { cls:=.type "range",data:=.fields #[.int lo t,.int hi u,.int 1 v] }
 | .frz o u=>h.get? a=some o/\x2b H h a u
 | .tbl ps=>h.get? a=some { cls:=.none,data:=.fields ps }
 | .met f x=>h.get? a=some (PySem.W.methodObj (.ref f) (.ref x))
 | .ext φ=>φ h/\(∃ o,h.get? a=some o)/\∀ h1 h2:Heap,φ h1->(∀ o,h1.get? a=some o->h2.get? a=some o)->φ h2
def HOk (H:Hp)(h:Heap):Prop:=∀ a o,H a=some o->x2b P w H h a o
end
section
variable {P:Program}{w:World}{H H':Hp}{h h':Heap}{a:Addr}{o:HO}
theorem x2b.lt (x:x2b P w H h a o):a<h.objs.size:=by
 cases o with
 | lst xs=>obtain⟨_,_,_,_,e⟩:=x;exact Heap.lt_size e
 | tup xs=>obtain⟨_,_,_,p⟩:=x;exact p.lt
 | dK kvs=>obtain⟨_,_,_,_,o,_,_,e,_⟩:=x;exact Heap.lt_size e
 | dT kvs=>obtain⟨_,_,_,_,o,_,_,e,_⟩:=x;exact Heap.lt_size e
 | set S n=>obtain⟨o,_,_,_,e,_⟩:=x;exact Heap.lt_size e
 | ins C dx fs=>obtain⟨_,_,_,e,_⟩:=x;exact Heap.lt_size e
 | own y=>obtain⟨_,e⟩:=x;exact Heap.lt_size e
 | xd fs=>obtain⟨_,⟨_,_,_,e,_⟩,_⟩:=x;exact Heap.lt_size e
 | rng lo hi=>obtain⟨_,_,_,e⟩:=x;exact Heap.lt_size e
 | frz ob u=>obtain⟨e,_⟩:=x;exact Heap.lt_size e
 | tbl ps=>exact Heap.lt_size (show h.get? a=some _ from x)
 | met f y=>exact Heap.lt_size (show h.get? a=some _ from x)
 | ext φ=>obtain⟨_,⟨_,e⟩,_⟩:=x;exact Heap.lt_size e
theorem Paired.mapP {α β:Type}{F G:α->β->Prop}:∀ {l₁:List α} {l₂:List β},Paired F l₁ l₂->(∀ a b,F a b->G a b)->Paired G l₁ l₂
 | _,_,.nil,_=>.nil
 | _,_,.cons r t,f=>.cons (f _ _ r) (Paired.mapP t f)
theorem x2b.stay (x:x2b P w H h a o)(k:∀ b u,(b=a\/H b=some (.own a))->h.get? b=some u->h'.get? b=some u)
  (ho:∀ b,H b=some (.own a)->H' b=some (.own a)) (ht:∀ b xs,H b=some (.tup xs)->H' b=some (.tup xs)):x2b P w H' h' a o:=by
 induction o with
 | lst xs=>obtain⟨z,its,n,r,e⟩:=x;exact⟨z,its,n,r,k _ _ (.inl rfl) e⟩
 | tup xs=>obtain⟨z,its,r,ob,e,c⟩:=x;exact⟨z,its,r,ob,k _ _ (.inl rfl) e,c⟩
 | dK kvs=>obtain⟨z,y,vs,r,ob,es,ep,e,c⟩:=x;exact⟨z,y,vs,r,ob,es,ep,k _ _ (.inl rfl) e,c⟩
 | dT kvs=>
  obtain⟨z,y,xs,r,ob,es,ep,e,c⟩:=x
  exact⟨z,y,xs,Paired.mapP r fun p q z=>⟨z.1,ht _ _ z.2.1,z.2.2⟩,ob,es,ep,k _ _ (.inl rfl) e,c⟩
 | set S n=>obtain⟨ob,es,ep,t,e,c⟩:=x;exact⟨ob,es,ep,t,k _ _ (.inl rfl) e,c⟩
 | ins C dx fs=>
  obtain⟨d,z,ne,e,mA,⟨od,es,ep,e2,c⟩,r⟩:=x
  exact⟨ho _ d,z,ne,k _ _ (.inl rfl) e,mA,⟨od,es,ep,k _ _ (.inr d) e2,c⟩,r⟩
 | own y=>obtain⟨ob,e⟩:=x;exact⟨ob,k _ _ (.inl rfl) e⟩
 | xd fs=>obtain⟨mA,⟨od,es,ep,e,c⟩,r⟩:=x;exact⟨mA,⟨od,es,ep,k _ _ (.inl rfl) e,c⟩,r⟩
 | rng lo hi=>obtain⟨t,u,v,e⟩:=x;exact⟨t,u,v,k _ _ (.inl rfl) e⟩
 | frz ob u ih=>obtain⟨e,q⟩:=x;exact⟨k _ _ (.inl rfl) e,ih q⟩
 | tbl ps=>
  have e:h.get? a=some { cls:=.none,data:=.fields ps }:=x
  show h'.get? a=some { cls:=.none,data:=.fields ps }
  exact k a _ (.inl rfl) e
 | met f y=>
  have e:h.get? a=some (PySem.W.methodObj (.ref f) (.ref y)):=x
  show h'.get? a=some (PySem.W.methodObj (.ref f) (.ref y))
  exact k a _ (.inl rfl) e
 | ext φ=>obtain⟨p,⟨o,e⟩,st⟩:=x;exact⟨st _ _ p fun o q=>k _ _ (.inl rfl) q,⟨o,k _ _ (.inl rfl) e⟩,st⟩
theorem HOk.lt (x:HOk P w H h)(e:H a=some o):a<h.objs.size:=(x a o e).lt
theorem HOk.fresh (x:HOk P w H h)(e:h.objs.size<=a):H a=none:=by
 cases q:H a with
 | none=>rfl
 | some u=>exact absurd (Nat.lt_of_lt_of_le (x.lt q) e) (Nat.lt_irrefl _)
theorem HOk.kept (x:HOk P w H h)(k:∀ b u,h.get? b=some u->h'.get? b=some u):HOk P w H h':=fun a o e=>
 (x a o e).stay (fun b u _ q=>k b u q) (fun _ q=>q) fun _ _ q=>q
theorem HOk.laid (x:HOk P w H h)(k:∀ b u,h.get? b=some u->h'.get? b=some u)(hp:h.objs.size<=a)(new:x2b P w (upd H a o) h' a o):HOk P w (upd H a o) h':=fun b u e=>by
 have hn:=x.fresh hp
 by_cases hb:b=a
 ·subst hb;rw[x0w]at e;cases e;exact new
 ·rw[x0i hb]at e
  exact(x b u e).stay (fun c v _ q=>k c v q) (fun c q=>by rw[x0i (x0u q hn)];exact q) fun c xs q=>by rw[x0i (x0u q hn)];exact q
end
def Rd (H:Hp)(a:Addr)(u:HO):Prop:=H a=some u\/∃ o,H a=some (.frz o u)
theorem Rd.of {H:Hp}{a:Addr}{u:HO}(h:H a=some u):Rd H a u:=.inl h
theorem Rd.ok {P:Program}{w:World}{H:Hp}{h:Heap}{a:Addr}{u:HO}(r:Rd H a u)(x:HOk P w H h):x2b P w H h a u:=by
 rcases r with r|⟨o,r⟩
 ·exact x a u r
 ·obtain⟨_,q⟩:=x a _ r
  exact q
def Mut:Option HO->Prop
 | some (.lst _)=>True
 | some (.dK _)=>True
 | some (.dT _)=>True
 | some (.set _ _)=>True
 | some (.ins _ _ _)=>True
 | some (.ext _)=>True
 | _=>False
section
variable {P:Program}{w:World}{H:Hp}{h h':Heap}{x e:Addr}{o':HO}
theorem HOk.write (ok:HOk P w H h)(mu:Mut (H x))(he:e=x\/H e=some (.own x))(k:∀ b u,b≠e->h.get? b=some u->h'.get? b=some u)(heo:∃ u,h'.get? e=some u)
  (new:x2b P w (upd H x o') h' x o'):HOk P w (upd H x o') h':=fun b u q=>by
 have nown:∀ c y,H c=some (.own y)->c≠x:=fun c y r z=>by subst z;rw[r]at mu;exact mu
 have ntup:∀ c xs,H c=some (.tup xs)->c≠x:=fun c xs r z=>by subst z;rw[r]at mu;exact mu
 by_cases hb:b=x
 ·subst hb;rw[x0w]at q;cases q;exact new
 ·rw[x0i hb]at q
  by_cases hbe:b=e
  ·have q':H b=some (.own x):=by
    rcases he with z|z
    ·exact absurd (hbe.trans z) hb
    ·rw[hbe];exact z
   rw[q]at q';cases q'
   obtain⟨v,hv⟩:=heo
   exact⟨v,by rw[hbe];exact hv⟩
  ·refine(ok b u q).stay (fun c v hc r=>k c v ?_ r) (fun c r=>by rw[x0i (nown c b r)];exact r) fun c xs r=>by rw[x0i (ntup c xs r)];exact r
   rcases hc with rfl|hc
   ·exact hbe
   ·rintro rfl
    rcases he with z|z
    ·exact nown c b hc z
    ·rw[hc]at z;cases z;exact hb rfl
end
structure Un (fs ex:List Addr) (H H':Hp) (h h':Heap):Prop where
 keep:∀ b o,h.get? b=some o->H b=none->b ∉ fs->b ∉ ex->h'.get? b=some o
 slot:∀ b o,h.get? b=some o->H b=none->b∈fs->b ∉ ex->∃ sl,h'.get? b=some { o with slots:=sl }
 free:∀ b o,h.get? b=some o->H b=none->b ∉ ex->H' b=none
 there:∀ b o,h.get? b=some o->b ∉ ex->∃ o',h'.get? b=some o'
 tups:∀ b xs,H b=some (.tup xs)->H' b=some (.tup xs)
 frzs:∀ b o u,H b=some (.frz o u)->H' b=some (.frz o u)
 tbls:∀ b ps,H b=some (.tbl ps)->∃ more,H' b=some (.tbl (ps++more))
section
variable {fs fs' ex ex':List Addr}{H H1 H2:Hp}{h h1 h2 h':Heap}{a x e:Addr}{o:HO}
theorem Un.any (u:Un fs ex H H1 h h1){b:Addr}{ob:Obj}(q:h.get? b=some ob)(n:H b=none)(hx:b ∉ ex):∃ sl,h1.get? b=some { ob with slots:=sl }:=by
 by_cases hb:b∈fs
 ·exact u.slot b ob q n hb hx
 ·exact⟨ob.slots,u.keep b ob q n hb hx⟩
theorem Un.trans (a:Un fs ex H H1 h h1)(b:Un fs ex H1 H2 h1 h2):Un fs ex H H2 h h2 where
 keep:=fun c ob q n hc hx=>b.keep c ob (a.keep c ob q n hc hx) (a.free c ob q n hx) hc hx
 slot:=fun c ob q n hc hx=>by
  obtain⟨sl,e1⟩:=a.slot c ob q n hc hx
  obtain⟨sl',e2⟩:=b.slot c _ e1 (a.free c ob q n hx) hc hx
  exact⟨sl',e2⟩
 free:=fun c ob q n hx=>by
  obtain⟨o',e1⟩:=a.there c ob q hx
  exact b.free c o' e1 (a.free c ob q n hx) hx
 there:=fun c ob q hx=>by
  obtain⟨o',e1⟩:=a.there c ob q hx
  exact b.there c o' e1 hx
 tups:=fun c xs q=>b.tups c xs (a.tups c xs q)
 frzs:=fun c ob xs q=>b.frzs c ob xs (a.frzs c ob xs q)
 tbls:=fun c ps q=>by
  obtain⟨m1,e1⟩:=a.tbls c ps q
  obtain⟨m2,e2⟩:=b.tbls c _ e1
  exact⟨m1++m2,by rw[e2,Array.append_assoc]⟩
theorem Un.kept (k:∀ b u,h.get? b=some u->h'.get? b=some u):Un fs ex H H h h':=
 ⟨fun b ob q _ _ _=>k b ob q,fun b ob q _ _ _=>⟨ob.slots,k b ob q⟩,fun _ _ _ n _=>n,fun b ob q _=>⟨ob,k b ob q⟩,fun _ _ q=>q,fun _ _ _ q=>q,fun _ ps q=>⟨#[],by rw[q];simp⟩⟩
theorem Un.refl:Un fs ex H H h h:=Un.kept fun _ _ q=>q
theorem Un.laid (k:∀ b u,h.get? b=some u->h'.get? b=some u)(hp:h.objs.size<=a)(hn:H a=none):Un fs ex H (upd H a o) h h' where
 keep:=fun b u q _ _ _=>k b u q
 slot:=fun b u q _ _ _=>⟨u.slots,k b u q⟩
 free:=fun b u q n _=>by rw[x0i (Nat.ne_of_lt (Nat.lt_of_lt_of_le (Heap.lt_size q) hp))];exact n
 there:=fun b u q _=>⟨u,k b u q⟩
 tups:=fun b xs q=>by rw[x0i (x0u q hn)];exact q
 frzs:=fun b u xs q=>by rw[x0i (x0u q hn)];exact q
 tbls:=fun b ps q=>⟨#[],by rw[x0i (x0u q hn),q];simp⟩
theorem Un.write (mu:Mut (H x))(he:e=x\/H e=some (.own x))(k:∀ b u,b≠e->h.get? b=some u->h'.get? b=some u)(heo:∃ u,h'.get? e=some u):Un fs ex H (upd H x o) h h':=by
 have hx:∀ b,H b=none->b≠x:=fun b n z=>by subst z;rw[n]at mu;exact mu
 have hb:∀ b,H b=none->b≠e:=fun b n z=>by
  subst z
  rcases he with r|r
  ·exact hx b n r
  ·rw[n]at r;cases r
 have hm:∀ b u,H b=some u->¬ Mut (some u)->b≠x:=fun b u q nm z=>by subst z;rw[q]at mu;exact nm mu
 refine⟨fun b u q n _ _=>k b u (hb b n) q,fun b u q n _ _=>⟨u.slots,k b u (hb b n) q⟩,fun b u q n _=>by rw[x0i (hx b n)];exact n,fun b u q _=>?_,
  fun b xs q=>by rw[x0i (hm b _ q fun z=>z)];exact q,fun b u xs q=>by rw[x0i (hm b _ q fun z=>z)];exact q,fun b ps q=>⟨#[],by rw[x0i (hm b _ q fun z=>z),q];simp⟩⟩
 by_cases hbe:b=e
 ·subst hbe;exact heo
 ·exact⟨u,k b u hbe q⟩
end
def trk (h:Heap)(H:Hp):List Addr:=(List.range h.objs.size).filter fun a=>(H a).isSome
def z1v (h:Heap)(H:Hp):Heap:=PySem.W.hideAll h (trk h H)
theorem y94 (h:Heap)(H:Hp):(z1v h H).objs.size=h.objs.size:=PySem.W.hideAll_size _ _
theorem z2n {h:Heap}{H:Hp}{b:Addr}{o:Obj}(e:h.get? b=some o)(n:H b=none):(z1v h H).get? b=some o:=
 PySem.W.hideAll_get _ e fun hm=>by
  have q:(H b).isSome=true:=(List.mem_filter.mp hm).2
  rw[n]at q;simp at q
theorem z9k {h:Heap}{H:Hp}{b:Addr}{o:Obj}(e:(z1v h H).get? b=some o):h.get? b=some o/\H b=none:=by
 have e':h.get? b=some o:=PySem.W.of_hideAll (trk h H) e
 refine⟨e',?_⟩
 cases q:H b with
 | none=>rfl
 | some x=>
  have hm:b∈trk h H:=List.mem_filter.mpr ⟨List.mem_range.mpr (Heap.lt_size e'),by simp[q]⟩
  have z:(z1v h H).get? b=none:=PySem.W.hideAll_none (trk h H) hm
  rw[z]at e;cases e
def z9z (g h:Heap)(L:Addr):List (Addr×Obj):=(List.range h.objs.size).filterMap fun a=>if a=L\/(g.get? a).isSome=true then none else(h.get? a).map fun o=>(a,o)
def x1w (g h:Heap)(L d:Addr):List (Addr×Obj):=(z9z g h L).filter fun p=>decide (p.1≠d)
structure Mod (K:PySem.W.Frag) (mg:Str->Option Value) (base:Heap):Prop where
 kin:K.In base
 glob:base.Ns mainGlobals mg
 blt:∃ mb,base.Ns builtinsNs mb/\∀ x:Str,x ≠ "__name__"->mb x=bootBuiltins x
 nolimit:base.NoLimit
structure Cx where
 prog:Program
 w:World
 K:PySem.W.Frag
 mg:Str->Option Value
 base:Heap
 A:Around
 N:List Str
 s₀:Shared
 H₀:Hp
 env:Env
 outer:List Env
 stack:List Env
 ex:List Addr
 fn:Str->Bool
 calm:Bool
 pn:List (Addr×Obj)
 xe:Value->Shared->Prop
def frs (l:List Env):List Addr:=l.filterMap (·.frame)
abbrev Cx.fs (X:Cx):List Addr:=frs X.outer
def Vis (sc:Scope)(x:Str):Prop:=sc.names.lookup x=some .local\/sc.names.lookup x=some .cell\/sc.names.lookup x=some .free
def Loc (sc:Scope)(x:Str):Prop:=sc.names.lookup x=some .local\/sc.names.lookup x=some .cell
def j71 (env:Env)(h:Heap)(m:Str->Option Value)(x:Str)(u:Value):Prop:=
 (env.kindOf x=some .local/\m x=some u)\/((env.kindOf x=some .cell\/env.kindOf x=some .free)/\∃ c,env.cells.lookup x=some c/\h.IsCell c (some u))
structure Cx.Ok (X:Cx):Prop where
 mod:Mod X.K X.mg X.base
 kind:X.env.scope.kind=.function
 glob:X.env.globals=mainGlobals
 blt:X.env.builtins=builtinsNs
 above:X.s₀.heap.objs.size<=X.env.locals
 inj:∀ x y c,X.env.cells.lookup x=some c->X.env.cells.lookup y=some c->x=y
 has:∀ x,(X.env.kindOf x=some .cell\/X.env.kindOf x=some .free)->∃ c,X.env.cells.lookup x=some c
 cab:∀ x c,X.fn x=true->X.env.cells.lookup x=some c->X.s₀.heap.objs.size<=c
 hd:X.calm=true->X.A.handled=none
 frames:X.A.frames=some X.stack
 stk:X.stack=X.outer\/(X.stack=X.env::X.outer/\X.env.frame=some X.env.locals)
 exf:∀ b∈X.ex,b≠X.env.locals/\∀ x c,X.env.cells.lookup x=some c->c≠b
 bs:∀ b o,X.base.get? b=some o->X.s₀.heap.get? b=some o/\X.H₀ b=none
 bsz:X.base.objs.size<=X.s₀.heap.objs.size
 noex:∀ b o,X.base.get? b=some o->b ∉ X.ex
 exfs:∀ b∈X.ex,b ∉ X.fs
 funs:X.s₀.heap.FunFrames X.base X.outer
 frf:∀ b∈X.fs,X.H₀ b=none
structure Inv (X:Cx) (pins:List (Addr×Obj)) (σ:List (Option V)) (H:Hp) (s:Shared):Prop where
 ok:X.Ok
 os:s.os=X.s₀.os
 bare:AllBare s.gens
 base:Un X.fs X.ex X.H₀ H X.s₀.heap s.heap
 loc:∃ m,s.heap.Ns X.env.locals m/\∀ (i:Nat) (x:Str) (v:V),X.N[i]? = some x->σ[i]? = some (some v)->Vis X.env.scope x->∃ u,x3t v u/\j71 X.env s.heap m x u
 cell:∀ x c,X.env.cells.lookup x=some c->∃ v,s.heap.IsCell c v
 free:H X.env.locals=none
 freeC:∀ x c,X.env.cells.lookup x=some c->H c=none
 pin:∀ p∈X.pn++pins,s.heap.get? p.1=some p.2/\H p.1=none/\p.1≠X.env.locals/\p.1 ∉ X.fs/\∀ v,p.2.data ≠ .cell v
 hok:HOk X.prog X.w H s.heap
 len:σ.length=X.N.length
section
variable {X:Cx}{pins:List (Addr×Obj)}{σ:List (Option V)}{H H':Hp}{s:Shared}{h':Heap}
theorem Cx.Ok.nofr (ok:X.Ok){b:Addr}{o:Obj}(e:X.base.get? b=some o):b ∉ X.fs:=fun hb=>by
 have:=(ok.funs.mem hb).1
 rw[e]at this;cases this
theorem Inv.bs (I:Inv X pins σ H s):∀ b o,X.base.get? b=some o->s.heap.get? b=some o/\H b=none:=fun b o e=>
 ⟨I.base.keep b o (I.ok.bs b o e).1 (I.ok.bs b o e).2 (I.ok.nofr e) (I.ok.noex b o e),I.base.free b o (I.ok.bs b o e).1 (I.ok.bs b o e).2 (I.ok.noex b o e)⟩
theorem Inv.bk (I:Inv X pins σ H s):∀ b o,X.base.get? b=some o->s.heap.get? b=some o:=fun b o e=>(I.bs b o e).1
theorem Inv.mod (I:Inv X pins σ H s):Mod X.K X.mg X.base:=I.ok.mod
theorem Inv.kIn (I:Inv X pins σ H s):X.K.In s.heap:=I.ok.mod.kin.keeps I.bk
theorem Inv.fr (I:Inv X pins σ H s):∃ m,Fr X.base X.env.locals s.heap m:=
 let ⟨m,hn,_⟩:=I.loc
 ⟨m,hn,I.bk,Nat.le_trans I.ok.bsz I.ok.above⟩
theorem Inv.lt (I:Inv X pins σ H s):X.env.locals<s.heap.objs.size:=let ⟨_,hn,_⟩:=I.loc;hn.lt
theorem Inv.sz (I:Inv X pins σ H s):X.s₀.heap.objs.size<=s.heap.objs.size:=Nat.le_trans I.ok.above (Nat.le_of_lt I.lt)
theorem Inv.nofs (I:Inv X pins σ H s){a:Addr}(h:s.heap.objs.size<=a):a ∉ X.fs:=fun hb=>by
 obtain⟨_,o,ho,_⟩:=I.ok.funs.mem hb
 exact absurd (Nat.lt_of_lt_of_le (Heap.lt_size ho) (Nat.le_trans I.sz h)) (Nat.lt_irrefl _)
theorem Inv.cne (I:Inv X pins σ H s):∀ x c,X.env.cells.lookup x=some c->c≠X.env.locals:=fun x c e z=>by
 obtain⟨v,o,ho,hd⟩:=I.cell x c e
 obtain⟨m,⟨o',es,ep,ho',hd',_⟩,_⟩:=I.loc
 rw[z,ho']at ho;cases ho;rw[hd']at hd;cases hd
theorem Inv.funs (I:Inv X pins σ H s):s.heap.FunFrames X.base X.outer:=by
 have all:∀ (l:List Env),(∀ b∈frs l,b∈X.fs)->X.s₀.heap.FunFrames X.base l->s.heap.FunFrames X.base l:=by
  intro l
  induction l with
  | nil=>intro _ _;trivial
  | cons env r ih=>
   intro hs hl
   obtain⟨hk,⟨L,o,hf,hn,ho,hd⟩,hr⟩:=hl
   have hL:L∈X.fs:=hs L (by unfold frs;rw[List.filterMap_cons,hf];exact List.mem_cons_self)
   obtain⟨sl,e⟩:=I.base.slot L o ho (I.ok.frf L hL) hL fun z=>I.ok.exfs L z hL
   exact⟨hk,⟨L,_,hf,hn,e,hd⟩,ih (fun b hb=>hs b (by unfold frs;rw[List.filterMap_cons,hf];exact List.mem_cons_of_mem _ hb)) hr⟩
 exact all X.outer (fun _ hb=>hb) I.ok.funs
theorem Inv.stack (I:Inv X pins σ H s):s.heap.FunFrames X.base X.stack:=by
 rcases I.ok.stk with e|⟨e,hf⟩
 ·rw[e];exact I.funs
 ·rw[e]
  obtain⟨m,hn,_⟩:=I.loc
  refine .cons (by rw[I.ok.kind];decide) hf hn ?_ I.funs
  exact Heap.get?_none_of_le (Nat.le_trans I.ok.bsz I.ok.above)
theorem Inv.stkSub (I:Inv X pins σ H s):∀ b∈frs X.stack,b∈X.env.locals::X.fs:=fun b hb=>by
 rcases I.ok.stk with e|⟨e,hf⟩
 ·rw[e]at hb;exact List.mem_cons_of_mem _ hb
 ·rw[e]at hb
  unfold frs at hb
  rw[List.filterMap_cons,hf]at hb
  exact hb
theorem Inv.stkFree (I:Inv X pins σ H s):∀ b∈frs X.stack,H b=none:=fun b hb=>by
 rcases List.mem_cons.mp (I.stkSub b hb)with e|hb
 ·rw[e];exact I.free
 ·obtain⟨_,o,ho,_⟩:=I.ok.funs.mem hb
  exact I.base.free b o ho (I.ok.frf b hb) fun z=>I.ok.exfs b z hb
theorem Inv.step {g':Array GenState}{t':Nat}{d':Drawn}{ch:List Addr}(I:Inv X pins σ H s)
  (hch:∀ b∈ch,(b∈X.ex\/X.s₀.heap.objs.size<=b)/\b≠X.env.locals/\(∀ x c,X.env.cells.lookup x=some c->c≠b)/\∀ p∈X.pn++pins,p.1≠b)
  (keep:∀ b o,b≠X.env.locals->b ∉ X.fs->b ∉ ch->s.heap.get? b=some o->H b=none->h'.get? b=some o)
  (slot:∀ b o,b≠X.env.locals->b∈X.fs->b ∉ ch->s.heap.get? b=some o->H b=none->∃ sl,h'.get? b=some { o with slots:=sl }) (free:∀ b o,b ∉ ch->s.heap.get? b=some o->H b=none->H' b=none)
  (there:∀ b o,b ∉ ch->s.heap.get? b=some o->∃ o',h'.get? b=some o')
  (tups:∀ b xs,H b=some (.tup xs)->H' b=some (.tup xs)) (frzs:∀ b o u,H b=some (.frz o u)->H' b=some (.frz o u)) (tbls:∀ b ps,H b=some (.tbl ps)->∃ more,H' b=some (.tbl (ps++more)))
  (ns:∀ m,s.heap.Ns X.env.locals m->h'.Ns X.env.locals m) (hok:HOk X.prog X.w H' h') (hg:AllBare g') :
  Inv X pins σ H' { s with heap:=h',gens:=g',drawn:=d',toks:=t' }:=by
 have neL:∀ b o,X.s₀.heap.get? b=some o->b≠X.env.locals:=fun b o e=>Nat.ne_of_lt (Nat.lt_of_lt_of_le (Heap.lt_size e) I.ok.above)
 have neC:∀ b o,X.s₀.heap.get? b=some o->b ∉ X.ex->b ∉ ch:=fun b o e hx hb=>by
  rcases(hch b hb).1 with z|z
  ·exact hx z
  ·exact absurd (Nat.lt_of_lt_of_le (Heap.lt_size e) z) (Nat.lt_irrefl _)
 have cellK:∀ x c,X.env.cells.lookup x=some c->∀ v,s.heap.IsCell c v->h'.IsCell c v:=fun x c e v hh0=>by
  obtain⟨o,ho,hd⟩:=hh0
  have nch:c ∉ ch:=fun z=>(hch c z).2.2.1 x c e rfl
  by_cases hc:c∈X.fs
  ·obtain⟨sl,q⟩:=slot c o (I.cne x c e) hc nch ho (I.freeC x c e)
   exact⟨_,q,hd⟩
  ·exact⟨o,keep c o (I.cne x c e) hc nch ho (I.freeC x c e),hd⟩
 refine⟨I.ok,I.os,hg,⟨fun b o e n hb hx=>?_,fun b o e n hb hx=>?_,fun b o e n hx=>?_,fun b o e hx=>?_,fun b xs e=>tups b xs (I.base.tups b xs e),fun b o xs e=>frzs b o xs (I.base.frzs b o xs e),fun b ps e=>?_⟩,?_,fun x c e=>?_,?_,fun x c e=>?_,fun p hp=>?_,hok,I.len⟩
 ·exact keep b o (neL b o e) hb (neC b o e hx) (I.base.keep b o e n hb hx) (I.base.free b o e n hx)
 ·obtain⟨sl,e1⟩:=I.base.slot b o e n hb hx
  obtain⟨sl',e2⟩:=slot b _ (neL b o e) hb (neC b o e hx) e1 (I.base.free b o e n hx)
  exact⟨sl',e2⟩
 ·obtain⟨o',e1⟩:=I.base.there b o e hx
  exact free b o' (neC b o e hx) e1 (I.base.free b o e n hx)
 ·obtain⟨o',e1⟩:=I.base.there b o e hx
  exact there b o' (neC b o e hx) e1
 ·obtain⟨m1,e1⟩:=I.base.tbls b ps e
  obtain⟨m2,e2⟩:=tbls b _ e1
  exact⟨m1++m2,by rw[e2,Array.append_assoc]⟩
 ·obtain⟨m,hn,hl⟩:=I.loc
  refine⟨m,ns m hn,fun i x v e1 e2 e3=>?_⟩
  obtain⟨u,r,l⟩:=hl i x v e1 e2 e3
  refine⟨u,r,?_⟩
  rcases l with l|⟨k,c,e,z⟩
  ·exact .inl l
  ·exact .inr ⟨k,c,e,cellK x c e _ z⟩
 ·obtain⟨v,z⟩:=I.cell x c e
  exact⟨v,cellK x c e v z⟩
 ·obtain⟨m,⟨o,_,_,ho,_⟩,_⟩:=I.loc
  exact free _ o (fun z=>(hch _ z).2.1 rfl) ho I.free
 ·obtain⟨v,o,ho,hd⟩:=I.cell x c e
  exact free c o (fun z=>(hch c z).2.2.1 x c e rfl) ho (I.freeC x c e)
 ·obtain⟨e,n,ne,nf,d⟩:=I.pin p hp
  have nch:p.1 ∉ ch:=fun z=>(hch p.1 z).2.2.2 p hp rfl
  exact⟨keep p.1 p.2 ne nf nch e n,free p.1 p.2 nch e n,ne,nf,d⟩
theorem Inv.un {t':Nat}(I:Inv X pins σ H s)(u:Un X.fs [] H H' s.heap h')(hok:HOk X.prog X.w H' h'):Inv X pins σ H' { s with heap:=h',toks:=t' }:=by
 obtain⟨m,⟨o,es,ep,ho,r⟩,_⟩:=id I.loc
 obtain⟨sl,hL⟩:=u.any ho I.free (by simp)
 exact I.step (g':=s.gens) (d':=s.drawn) (ch:=[]) (fun _ z=>nomatch z) (fun b o _ hb _ e n=>u.keep b o e n hb (by simp)) (fun b o _ hb _ e n=>u.slot b o e n hb (by simp)) (fun b o _ e n=>u.free b o e n (by simp)) (fun b o _ e=>u.there b o e (by simp)) u.tups u.frzs u.tbls (fun m' hm=>by
  obtain⟨o',es',ep',ho',r'⟩:=hm
  rw[ho]at ho';cases ho'
  exact⟨_,es',ep',hL,r'⟩) hok I.bare
theorem Inv.call {g':Array GenState}{t':Nat}{d':Drawn}{ch:List Addr}(I:Inv X pins σ H s)(u:Un (frs X.stack) ch H H' s.heap h')(hok:HOk X.prog X.w H' h')(hg:AllBare g')
  (hch:∀ b∈ch,(b∈X.ex\/X.s₀.heap.objs.size<=b)/\b≠X.env.locals/\(∀ x c,X.env.cells.lookup x=some c->c≠b)/\∀ p∈X.pn++pins,p.1≠b) :
  Inv X pins σ H' { s with heap:=h',gens:=g',drawn:=d',toks:=t' }:=by
 obtain⟨m,⟨o,es,ep,ho,r⟩,_⟩:=id I.loc
 obtain⟨sl,hL⟩:=u.any ho I.free fun z=>(hch _ z).2.1 rfl
 exact I.step (ch:=ch) hch (fun b o hL hb hc e n=>u.keep b o e n (fun z=>(List.mem_cons.mp (I.stkSub b z)).elim hL hb) hc) (fun b o _ _ hc e n=>u.any e n hc) (fun b o hc e n=>u.free b o e n hc) (fun b o hc e=>u.there b o e hc) u.tups u.frzs u.tbls (fun m' hm=>by
  obtain⟨o',es',ep',ho',r'⟩:=hm
  rw[ho]at ho';cases ho'
  exact⟨_,es',ep',hL,r'⟩) hok hg
theorem Inv.turned {t':Nat}{it:Addr}(I:Inv X pins σ H s)(k:∀ b o,b≠it->s.heap.get? b=some o->h'.get? b=some o)(hn:H it=none)(hL:it≠X.env.locals)
  (h1:it∈X.ex\/X.s₀.heap.objs.size<=it) (h2:∀ x c,X.env.cells.lookup x=some c->c≠it) (h3:∀ p∈X.pn++pins,p.1≠it):Inv X pins σ H { s with heap:=h',toks:=t' }:=by
 have nit:∀ b u,H b=some u->b≠it:=fun b u e z=>by rw[z,hn]at e;cases e
 refine I.step (g':=s.gens) (d':=s.drawn) (ch:=[it]) (fun b hb=>?_) (fun b o _ _ hc e _=>k b o (fun z=>hc (by simp[z])) e) (fun b o _ _ hc e _=>⟨o.slots,k b o (fun z=>hc (by simp[z])) e⟩) (fun _ _ _ _ n=>n)
  (fun b o hc e=>⟨o,k b o (fun z=>hc (by simp[z])) e⟩) (fun _ _ e=>e) (fun _ _ _ e=>e) (fun b ps e=>⟨#[],by rw[e];simp⟩) (fun m hm=>?_) (fun b u e=>?_) I.bare
 ·have e:b=it:=by simpa using hb
  subst e
  exact⟨h1,hL,h2,h3⟩
 ·obtain⟨o,es,ep,ho,r⟩:=hm
  exact⟨o,es,ep,k _ o (Ne.symm hL) ho,r⟩
 ·refine(I.hok b u e).stay (fun c v hc q=>k c v ?_ q) (fun _ q=>q) fun _ _ q=>q
  rcases hc with z|z
  ·rw[z];exact nit b u e
  ·exact nit c _ z
theorem Inv.tok (I:Inv X pins σ H s)(t:Nat):Inv X pins σ H { s with toks:=t }:=I.un (h':=s.heap) (t':=t) Un.refl I.hok
theorem Inv.kept {t':Nat}(I:Inv X pins σ H s)(k:∀ b u,s.heap.get? b=some u->h'.get? b=some u):Inv X pins σ H { s with heap:=h',toks:=t' }:=I.un (Un.kept k) (I.hok.kept k)
theorem Inv.laid {a:Addr}{o:HO}{t':Nat}(I:Inv X pins σ H s)(k:∀ b u,s.heap.get? b=some u->h'.get? b=some u)(hp:s.heap.objs.size<=a)(new:x2b X.prog X.w (upd H a o) h' a o) :
  Inv X pins σ (upd H a o) { s with heap:=h',toks:=t' }:=I.un (Un.laid k hp (I.hok.fresh hp)) (I.hok.laid k hp new)
theorem Inv.write {x e:Addr}{o:HO}{t':Nat}(I:Inv X pins σ H s)(mu:Mut (H x))(he:e=x\/H e=some (.own x))(k:∀ b u,b≠e->s.heap.get? b=some u->h'.get? b=some u)(heo:∃ u,h'.get? e=some u)
  (new:x2b X.prog X.w (upd H x o) h' x o):Inv X pins σ (upd H x o) { s with heap:=h',toks:=t' }:=I.un (Un.write mu he k heo) (I.hok.write mu he k heo new)
theorem Inv.weak {σ':List (Option V)}(I:Inv X pins σ H s)(hl:σ'.length=σ.length)(w:∀ (i:Nat) v,σ'[i]? = some (some v)->σ[i]? = some (some v)):Inv X pins σ' H s:=
 ⟨I.ok,I.os,I.bare,I.base,let ⟨m,hn,hl'⟩:=I.loc;⟨m,hn,fun i x v e1 e2 e3=>hl' i x v e1 (w i v e2) e3⟩,I.cell,I.free,I.freeC,I.pin,I.hok,hl.trans I.len⟩
theorem Inv.pins_of {pins':List (Addr×Obj)}(I:Inv X pins σ H s)(h:∀ p∈pins',s.heap.get? p.1=some p.2/\H p.1=none/\p.1≠X.env.locals/\p.1 ∉ X.fs/\∀ v,p.2.data ≠ .cell v):Inv X pins' σ H s:=
 ⟨I.ok,I.os,I.bare,I.base,I.loc,I.cell,I.free,I.freeC,fun p hp=>(List.mem_append.mp hp).elim (fun z=>I.pin p (List.mem_append_left _ z)) (h p),I.hok,I.len⟩
theorem y39 {N:List Str}(hN:N.Nodup){i j:Nat}{x:Str}(a:N[i]? = some x)(b:N[j]? = some x):i=j:=by
 obtain⟨h1,e1⟩:=List.getElem?_eq_some_iff.mp a
 obtain⟨h2,e2⟩:=List.getElem?_eq_some_iff.mp b
 exact(List.getElem_inj hN).mp (e1.trans e2.symm)
theorem y3y {M:Model}{A:Around}{E:Value->Shared->Prop}{i:Nat}{x:Str}{v:V}{u:Value}{Q:Unit->Shared->Prop}(I:Inv X pins σ H s)(hN:X.N.Nodup)(hi:X.N[i]? = some x)(hx:Loc X.env.scope x)(r:x3t v u)
  (h:∀ s',Inv X pins (σ.set i (some v)) H s'->(∃ a,Heap.SameBut a s.heap s'.heap/\(a=X.env.locals\/X.env.cells.lookup x=some a))->Q () s') (hf:X.fn x=true\/X.env.scope.names.lookup x=some .local:=by first|exact .inl rfl|exact .inr rfl|assumption):wpAny M A (storeName X.env x u) Q E s:=by
 obtain⟨m,hn,hl⟩:=id I.loc
 have hcls:(X.env.scope.kind == .class||(X.env.scope.kind == .module&&X.env.locals != X.env.globals))=false:=by rw[I.ok.kind];rfl
 have hiσ:i<σ.length:=by rw[I.len];exact(List.getElem?_eq_some_iff.mp hi).1
 have cne:=I.cne
 have tracked:∀ {a:Addr} {h':Heap},(∃ o,s.heap.get? a=some o/\H a=none)->Heap.SameBut a s.heap h'->HOk X.prog X.w H h':=fun {a h'} ha hs b ob e=>by
  obtain⟨_,_,hfree⟩:=ha
  refine(I.hok b ob e).stay (fun c w' hc q=>(hs.2 c ?_).trans q) (fun _ q=>q) fun _ _ q=>q
  rintro rfl
  rcases hc with rfl|hc
  ·rw[hfree]at e;cases e
  ·rw[hfree]at hc;cases hc
 rcases hx with hk|hk
 ·refine wpAny_storeName_local hk hn (fun h' hn' hs=>?_) hcls
  obtain⟨oL,_,_,hoL,_⟩:=id hn
  refine h _ ⟨I.ok,I.os,I.bare,⟨fun b o e n hb hx=>?_,fun b o e n hb hx=>?_,I.base.free,fun b o e hx=>?_,I.base.tups,I.base.frzs,I.base.tbls⟩,⟨_,hn',fun j y v' e1 e2 e3=>?_⟩,fun y c e=>?_,I.free,I.freeC,fun p hp=>?_,tracked ⟨oL,hoL,I.free⟩ hs,by simpa using I.len⟩ ⟨_,hs,.inl rfl⟩
  ·exact(hs.2 b (Nat.ne_of_lt (Nat.lt_of_lt_of_le (Heap.lt_size e) I.ok.above))).trans (I.base.keep b o e n hb hx)
  ·obtain⟨sl,e1⟩:=I.base.slot b o e n hb hx
   exact⟨sl,(hs.2 b (Nat.ne_of_lt (Nat.lt_of_lt_of_le (Heap.lt_size e) I.ok.above))).trans e1⟩
  ·obtain⟨o',e1⟩:=I.base.there b o e hx
   exact⟨o',(hs.2 b (Nat.ne_of_lt (Nat.lt_of_lt_of_le (Heap.lt_size e) I.ok.above))).trans e1⟩
  ·by_cases hj:j=i
   ·subst hj
    rw[hi]at e1;cases e1
    rw[List.getElem?_set_self hiσ]at e2
    cases e2
    exact⟨u,r,.inl ⟨hk,by simp⟩⟩
   ·rw[List.getElem?_set_ne (Ne.symm hj)]at e2
    obtain⟨u',r',q⟩:=hl j y v' e1 e2 e3
    refine⟨u',r',?_⟩
    rcases q with⟨k,e⟩|⟨k,c,e,z⟩
    ·refine .inl ⟨k,?_⟩
     have:y≠x:=fun e=>hj (y39 hN e1 (e ▸ hi))
     simp[this,e]
    ·exact .inr ⟨k,c,e,z.sameBut hs (cne y c e)⟩
  ·obtain⟨w',z⟩:=I.cell y c e
   exact⟨w',z.sameBut hs (cne y c e)⟩
  ·obtain⟨e,n,ne,nf,d⟩:=I.pin p hp
   exact⟨(hs.2 p.1 ne).trans e,n,ne,nf,d⟩
 ·have hfn:X.fn x=true:=by
   rcases hf with z|z
   ·exact z
   ·rw[z]at hk;cases hk
  obtain⟨c,hc⟩:=I.ok.has x (.inl hk)
  obtain⟨w',z⟩:=I.cell x c hc
  refine wpAny_storeName_cell I.ok.kind hk hc z (fun h' hc' hs=>?_)
  obtain⟨oc,hoc,hocd⟩:=id z
  refine h { s with heap:=h' } ⟨I.ok,I.os,I.bare,⟨fun b o e n hb hx=>?_,fun b o e n hb hx=>?_,I.base.free,fun b o e hx=>?_,I.base.tups,I.base.frzs,I.base.tbls⟩,⟨m,hn.sameBut hs (Ne.symm (cne x c hc)),fun j y v' e1 e2 e3=>?_⟩,fun y c' e=>?_,I.free,I.freeC,fun p hp=>?_,tracked ⟨oc,hoc,I.freeC x c hc⟩ hs,by simpa using I.len⟩ ⟨c,hs,.inr hc⟩
  ·exact(hs.2 b (Nat.ne_of_lt (Nat.lt_of_lt_of_le (Heap.lt_size e) (I.ok.cab x c hfn hc)))).trans (I.base.keep b o e n hb hx)
  ·obtain⟨sl,e1⟩:=I.base.slot b o e n hb hx
   exact⟨sl,(hs.2 b (Nat.ne_of_lt (Nat.lt_of_lt_of_le (Heap.lt_size e) (I.ok.cab x c hfn hc)))).trans e1⟩
  ·obtain⟨o',e1⟩:=I.base.there b o e hx
   exact⟨o',(hs.2 b (Nat.ne_of_lt (Nat.lt_of_lt_of_le (Heap.lt_size e) (I.ok.cab x c hfn hc)))).trans e1⟩
  ·by_cases hj:j=i
   ·subst hj
    rw[hi]at e1;cases e1
    rw[List.getElem?_set_self hiσ]at e2
    cases e2
    exact⟨u,r,.inr ⟨.inl hk,c,hc,hc'⟩⟩
   ·rw[List.getElem?_set_ne (Ne.symm hj)]at e2
    obtain⟨u',r',q⟩:=hl j y v' e1 e2 e3
    refine⟨u',r',?_⟩
    rcases q with q|⟨k,c',e,z'⟩
    ·exact .inl q
    ·refine .inr ⟨k,c',e,z'.sameBut hs ?_⟩
     rintro rfl
     exact hj (y39 hN e1 (I.ok.inj _ _ _ e hc ▸ hi))
  ·by_cases hcc:c'=c
   ·subst hcc;exact⟨_,hc'⟩
   ·obtain⟨w2,z2⟩:=I.cell y c' e
    exact⟨w2,z2.sameBut hs hcc⟩
  ·obtain⟨e,n,ne,nf,d⟩:=I.pin p hp
   refine⟨(hs.2 p.1 ?_).trans e,n,ne,nf,d⟩
   intro q
   rw[q,hoc]at e
   have q':oc=p.2:=Option.some.inj e
   exact d w' (by rw[<- q'];exact hocd)
theorem y2o {M:Model}{A:Around}{E:Value->Shared->Prop}{i:Nat}{x:Str}{v:V}{u:Value}{Q:Unit->Shared->Prop}(I:Inv X pins σ H s)(hN:X.N.Nodup)(hi:X.N[i]? = some x)(hx:Loc X.env.scope x)(r:x3t v u)
  (h:∀ s',Inv X pins (σ.set i (some v)) H s'->Q () s') (hf:X.fn x=true\/X.env.scope.names.lookup x=some .local:=by first|exact .inl rfl|exact .inr rfl|assumption):wpAny M A (storeName X.env x u) Q E s:=
 y3y I hN hi hx r (fun s' I' _=>h s' I') hf
theorem Inv.call' {s':Shared}{ch:List Addr}(I:Inv X pins σ H s)(ho:s'.os=s.os)(u:Un (frs X.stack) ch H H' s.heap s'.heap)(hok:HOk X.prog X.w H' s'.heap)(hg:AllBare s'.gens)
  (hch:∀ b∈ch,(b∈X.ex\/X.s₀.heap.objs.size<=b)/\b≠X.env.locals/\(∀ x c,X.env.cells.lookup x=some c->c≠b)/\∀ p∈X.pn++pins,p.1≠b):Inv X pins σ H' s':=by
 obtain⟨h',g',d',t',o'⟩:=s'
 have e:o'=s.os:=ho
 subst e
 exact I.call (g':=g') (t':=t') (d':=d') u hok hg hch
end
abbrev XK:=Value->Option Addr->Hp->Prop
abbrev St:=List (Option V)
abbrev VK:=V->Hp->Prop
abbrev TE:=St->Hp->VK->Prop
abbrev TT:=St->Hp->(Bool->Hp->Prop)->Prop
abbrev TA:=St->Hp->(List V->Hp->Prop)->Prop
structure Ends where
 nx:St->Hp->Prop
 rt:VK
 bk:St->Hp->Prop:=fun _ _=>False
 ct:St->Hp->Prop:=fun _ _=>False
abbrev TS:=Ends->St->Hp->Prop
def EP (X:Cx)(pins:List (Addr×Obj))(σ:St)(Q:VK)(u:Value)(s':Shared):Prop:=∃ v H',Inv X pins σ H' s'/\x3t v u/\Q v H'
def TP (X:Cx)(pins:List (Addr×Obj))(σ:St)(Q:Bool->Hp->Prop)(b:Bool)(s':Shared):Prop:=∃ H',Inv X pins σ H' s'/\Q b H'
def AP (X:Cx)(pins:List (Addr×Obj))(σ:St)(Q:List V->Hp->Prop)(us:List Value)(s':Shared):Prop:=∃ vs H',Inv X pins σ H' s'/\x2i vs us/\Q vs H'
def SP (X:Cx)(pins:List (Addr×Obj))(D:Ends)(f:Flow)(s':Shared):Prop:=
 match f with
 | .next=>∃ σ' H',Inv X pins σ' H' s'/\D.nx σ' H'
 | .brk=>∃ σ' H',Inv X pins σ' H' s'/\D.bk σ' H'
 | .cont=>∃ σ' H',Inv X pins σ' H' s'/\D.ct σ' H'
 | .ret u=>∃ v σ' H',Inv X pins σ' H' s'/\x3t v u/\D.rt v H'
def PE (X:Cx)(e:Expr)(t:TE):Prop:=
 ∀ (pins:List (Addr×Obj)) (s:Shared) (σ:St) (H:Hp) (Q:VK),Inv X pins σ H s->t σ H Q->wpAny (model X.prog X.w) X.A (eval e X.env) (EP X pins σ Q) X.xe s
def PT (X:Cx)(e:Expr)(t:TT):Prop:=
 ∀ (pins:List (Addr×Obj)) (s:Shared) (σ:St) (H:Hp) (Q:Bool->Hp->Prop),Inv X pins σ H s->t σ H Q->wpAny (model X.prog X.w) X.A (isTrue e X.env (eval e X.env)) (TP X pins σ Q) X.xe s
def PW (X:Cx)(e:Expr)(t:TT):Prop:=
 ∀ (whole:Sem Value) (pins:List (Addr×Obj)) (s:Shared) (σ:St) (H:Hp) (Q:Bool->Hp->Prop),Inv X pins σ H s->t σ H Q->wpAny (model X.prog X.w) X.A (isTrue e X.env whole) (TP X pins σ Q) X.xe s
theorem PW.pt {X:Cx}{e:Expr}{t:TT}(h:PW X e t):PT X e t:=h _
def PA (X:Cx)(es:List Expr)(t:TA):Prop:=
 ∀ (pos:Pos) (pins:List (Addr×Obj)) (s:Shared) (σ:St) (H:Hp) (Q:List V->Hp->Prop),Inv X pins σ H s->t σ H Q->wpAny (model X.prog X.w) X.A (spliced (backTo pos (starEach es X.env))) (AP X pins σ Q) X.xe s
def PS (X:Cx)(st:Stmt)(t:TS):Prop:=
 ∀ (pins:List (Addr×Obj)) (s:Shared) (σ:St) (H:Hp) (D:Ends),Inv X pins σ H s->t D σ H->wpAny (model X.prog X.w) X.A (exec st X.env) (SP X pins D) X.xe s
def PSs (X:Cx)(st:List Stmt)(t:TS):Prop:=
 ∀ (pins:List (Addr×Obj)) (s:Shared) (σ:St) (H:Hp) (D:Ends),Inv X pins σ H s->t D σ H->wpAny (model X.prog X.w) X.A (execs st X.env) (SP X pins D) X.xe s
theorem thn {α:Type}{t:Sem α}{Q Q':α->Shared->Prop}{M:Model}{A:Around}{E:Value->Shared->Prop}{s:Shared}(h:wpAny M A t Q E s)(hQ:∀ a s,Q a s->Q' a s):wpAny M A t Q' E s:=wpAny_mono h hQ fun _ _ x=>x
section
variable {X:Cx}
def x9r (i:Nat):TE:=fun σ H Q=>∃ v,σ[i]? = some (some v)/\Q v H
def tC (v:V):TE:=fun _ H Q=>Q v H
theorem j34 {i:Nat}{x:Str}{pos:Pos}(hN:X.N[i]? = some x)(hv:Vis X.env.scope x)(hd:(x==("__debug__":Str))=false:=by decide)(hcd:(x==("__classdict__":Str))=false:=by decide):PE X (.Name x pos) (x9r i):=by
 intro pins s σ H Q I h
 obtain⟨v,e,h⟩:=h
 obtain⟨m,hn,hl⟩:=I.loc
 obtain⟨u,r,l⟩:=hl i x v hN e hv
 have fin:EP X pins σ Q u s:=⟨v,H,I,r,h⟩
 rcases l with⟨hk,hm⟩|⟨hk,c,hc,hcell⟩
 ·exact wpAny_Name (wpAny_loadName_local I.ok.kind hk hn hm fin) hd
 ·rcases hk with hk|hk
  ·exact wpAny_Name (wpAny_loadName_cell I.ok.kind hk hc hcell fin) hd
  ·exact wpAny_Name (wpAny_loadName_free I.ok.kind hk hc hcell fin hcd) hd
theorem z5c {i j pos}:PE X (.Constant (.int i) j pos) (tC (.int i)):=fun _ _ _ H _ I h=>wpAny_Constant_int ⟨.int i,H,I.tok _,⟨_,rfl⟩,h⟩
theorem j5b {b j pos}:PE X (.Constant (.bool b) j pos) (tC (.bl b)):=fun _ _ _ H _ I h=>Constant_bool ⟨.bl b,H,I,rfl,h⟩
theorem j41 {j pos}:PE X (.Constant .none j pos) (tC .non):=fun _ _ _ H _ I h=>Constant_none ⟨.non,H,I,rfl,h⟩
theorem y6x {x j pos}:PE X (.Constant (.str x) j pos) (tC (.str x)):=fun _ _ _ H _ I h=>Calls.Constant_str ⟨.str x,H,I.tok _,⟨_,rfl⟩,h⟩
def Gl (X:Cx)(x:Str):Prop:=X.env.kindOf x=some .globalImplicit
theorem x8u {E:Value->Shared->Prop}{pins:List (Addr×Obj)}{s:Shared}{σ:St}{H:Hp}{x:Str}{u:Value}{pos:Pos}{Q:Value->Shared->Prop}(I:Inv X pins σ H s)(hg:Gl X x)(hm:X.mg x=some u)(h:Q u s)
  (hd:(x==("__debug__":Str))=false:=by decide):wpAny (model X.prog X.w) X.A (eval (.Name x pos) X.env) Q E s:=
 Calls.Name_function_global I.ok.kind hg (Calls.loadGlobal_global (by rw[I.ok.glob];exact I.mod.glob.keeps I.bk) hm h) hd
theorem y21 {E:Value->Shared->Prop}{pins:List (Addr×Obj)}{s:Shared}{σ:St}{H:Hp}{x:Str}{u:Value}{pos:Pos}{Q:Value->Shared->Prop}(I:Inv X pins σ H s)(hg:Gl X x)(hm:X.mg x=none)(hv:bootBuiltins x=some u)(h:Q u s)
  (hn:x ≠ "__name__":=by decide) (hd:(x==("__debug__":Str))=false:=by decide):wpAny (model X.prog X.w) X.A (eval (.Name x pos) X.env) Q E s:=by
 obtain⟨mb,h1,h2⟩:=I.mod.blt
 exact Calls.Name_function_global I.ok.kind hg (Calls.loadGlobal_builtin (by rw[I.ok.glob];exact I.mod.glob.keeps I.bk) hm (by rw[I.ok.blt];exact h1.keeps I.bk) ((h2 x hn).trans hv) h) hd
theorem z9w {x:Str}{v:V}{u:Value}{pos:Pos}(hg:Gl X x)(hm:X.mg x=some u)(r:x3t v u)(hd:(x==("__debug__":Str))=false:=by decide):PE X (.Name x pos) (tC v):=
 fun _ _ _ H _ I h=>x8u I hg hm ⟨v,H,I,r,h⟩ hd
theorem y9r {x:Str}{v:V}{u:Value}{pos:Pos}(hg:Gl X x)(hm:X.mg x=none)(hv:bootBuiltins x=some u)(r:x3t v u)(hn:x ≠ "__name__":=by decide)(hd:(x==("__debug__":Str))=false:=by decide):PE X (.Name x pos) (tC v):=
 fun _ _ _ H _ I h=>y21 I hg hm hv ⟨v,H,I,r,h⟩ hn hd
variable {a b:Expr}{ta tb:TE}{pos:Pos}
variable {tA tB':TT}{x1w:List Expr}
def tOr (t u:TT):TT:=fun σ H Q=>t σ H fun c H1=>if c=true then Q true H1 else u σ H1 Q
def j6z (t:TT):TT:=fun σ H Q=>t σ H fun c H1=>Q (!c) H1
theorem j3h (ha:PT X a tA):PW X (.BoolOp .Or [a] pos) tA:=by
 intro wh pins s σ H Q I h
 refine isTrue_or (thn (ha pins s σ H Q I h) fun c s1 e=>?_)
 cases c with
 | false=>exact isTrue_or_nil e
 | true=>exact e
theorem j5m (ha:PT X a tA)(hb:PW X (.BoolOp .Or (b::x1w) pos) tB'):PW X (.BoolOp .Or (a::b::x1w) pos) (tOr tA tB'):=by
 intro wh pins s σ H Q I h
 refine isTrue_or (thn (ha pins s σ H _ I h) fun c s1 hh0=>?_)
 obtain⟨H1,I1,q1⟩:=hh0
 cases c with
 | true=>exact⟨H1,I1,q1⟩
 | false=>exact hb wh pins s1 σ H1 Q I1 q1
theorem j37 (ha:PT X a tA):PT X (.UnaryOp .Not a pos) (j6z tA):=by
 intro pins s σ H Q I h
 exact isTrue_not (ha pins s σ H (fun c H1=>Q (!c) H1) I h)
def j5e (ta tb:TE):TE:=fun σ H Q=>ta σ H fun x H1=>∃ c,x=.bl c/\if c=true then tb σ H1 Q else Q (.bl false) H1
def j5d (ta:TE):TE:=fun σ H Q=>ta σ H fun x H1=>∃ c,x=.bl c/\Q (.bl (!c)) H1
theorem j11 {op}{t:TE}(h:PE X a t):PE X (.BoolOp op [a] pos) t:=fun pins s σ H Q I hw=>BoolOp_one (h pins s σ H Q I hw)
theorem j3i (ha:PE X a ta)(hb:PE X (.BoolOp .And (b::x1w) pos) tb):PE X (.BoolOp .And (a::b::x1w) pos) (j5e ta tb):=by
 intro pins s σ H Q I h
 refine BoolOp_and (thn (ha pins s σ H _ I h) fun v s1 hh0=>?_)
 obtain⟨x,H1,I1,r1,q1⟩:=hh0
 obtain⟨c,rfl,q1⟩:=q1
 cases r1
 refine wpAny_truthy_bool ?_
 cases c with
 | true=>exact hb pins s1 σ H1 Q I1 q1
 | false=>exact⟨.bl false,H1,I1,rfl,q1⟩
theorem j0t (ha:PE X a ta):PE X (.UnaryOp .Not a pos) (j5d ta):=by
 intro pins s σ H Q I h
 refine UnaryOp_ (thn (ha pins s σ H _ I h) fun v s1 hh0=>?_)
 obtain⟨x,H1,I1,r1,q1⟩:=hh0
 obtain⟨c,rfl,q1⟩:=q1
 cases r1
 exact not_of (wpAny_truthy_bool ⟨.bl (!c),H1,I1,rfl,q1⟩)
def tIf (t:TT)(ta tb:TE):TE:=fun σ H Q=>t σ H fun c H1=>if c=true then ta σ H1 Q else tb σ H1 Q
theorem z2k {c:Expr}(hc:PT X c tA)(ha:PE X a ta)(hb:PE X b tb):PE X (.IfExp c a b pos) (tIf tA ta tb):=by
 intro pins s σ H Q I h
 refine wpAny_IfExp (thn (hc pins s σ H _ I h) fun d s1 hh0=>?_)
 obtain⟨H1,I1,q1⟩:=hh0
 cases d with
 | true=>exact ha pins s1 σ H1 Q I1 q1
 | false=>exact hb pins s1 σ H1 Q I1 q1
end
def SqL (K:PySem.W.Frag)(H:Hp)(a:Addr)(xs:List V):Prop:=
 Rd H a (.lst xs) \/
  ∃ (o:Obj) (its:Array Value) (n:Nat),K.lookup a=some o/\o.cls=.type "list" /\ o.dict=none/\o.data=.seq its n/\its.size<=sizeLine/\x2i xs its.toList
def SqT (K:PySem.W.Frag)(H:Hp)(a:Addr)(xs:List V):Prop:=
 Rd H a (.tup xs) \/
  ∃ (o:Obj) (its:Array Value) (n:Nat),K.lookup a=some o/\o.cls=.type "tuple" /\ o.data=.seq its n/\its.size<=sizeLine/\x2i xs its.toList
def j7h:Value->Option V
 | .none=>some .non
 | .bool b=>some (.bl b)
 | .int i _=>some (.int i)
 | .str x _=>some (.str x)
 | .bytes b _=>some (.byt b)
 | .float b _=>some (.flt b)
 | .ref a=>some (.ref a)
 | .type n=>some (.ty n)
 | _=>none
theorem x3t.abs {x:V}{u:Value}(r:x3t x u):j7h u=some x:=by
 cases x with
 | non=>cases r;rfl
 | bl _=>cases r;rfl
 | int _=>obtain⟨t,rfl⟩:=r;rfl
 | str _=>obtain⟨t,rfl⟩:=r;rfl
 | byt _=>obtain⟨t,rfl⟩:=r;rfl
 | flt _=>obtain⟨t,rfl⟩:=r;rfl
 | ref _=>cases r;rfl
 | ty _=>cases r;rfl
theorem x3t.inj {x y:V}{u:Value}(r:x3t x u)(q:x3t y u):x=y:=Option.some.inj (r.abs.symm.trans q.abs)
theorem x2i.inj:∀ {xs ys:List V} {us:List Value},x2i xs us->x2i ys us->xs=ys
 | _,_,_,.nil,.nil=>rfl
 | _,_,_,.cons r t,.cons r' t'=>by rw[r.inj r',x2i.inj t t']
section
variable {X:Cx}{pins:List (Addr×Obj)}{σ:St}{H:Hp}{s:Shared}{a:Addr}{xs ys:List V}
theorem SqL.of {K:PySem.W.Frag}(h:H a=some (.lst xs)):SqL K H a xs:=.inl (.inl h)
theorem SqT.of {K:PySem.W.Frag}(h:H a=some (.tup xs)):SqT K H a xs:=.inl (.inl h)
theorem Inv.list (I:Inv X pins σ H s)(h:SqL X.K H a xs):∃ its:List Value,x2i xs its/\PlainL s.heap a its.toArray/\xs.length<=sizeLine:=by
 rcases h with h|⟨o,its,n,hk,hc,hd,hs,hz,r⟩
 ·obtain⟨z,its,n,r,e⟩:=h.ok I.hok
  exact⟨its,r,⟨_,n,e,rfl,rfl,rfl⟩,z⟩
 ·refine⟨its.toList,r,⟨o,n,I.kIn a o hk,hc,hd,by simpa using hs⟩,?_⟩
  have e:=r.length
  simp only[Array.length_toList]at e
  omega
theorem Inv.tuple (I:Inv X pins σ H s)(h:SqT X.K H a xs):∃ its:List Value,x2i xs its/\IsTup s.heap a its.toArray/\xs.length<=sizeLine:=by
 rcases h with h|⟨o,its,n,hk,hc,hs,hz,r⟩
 ·obtain⟨z,its,r,p⟩:=h.ok I.hok
  exact⟨its,r,p.tup,z⟩
 ·refine⟨its.toList,r,⟨o,I.kIn a o hk,hc,n,by simpa using hs⟩,?_⟩
  have e:=r.length
  simp only[Array.length_toList]at e
  omega
theorem Inv.list_inj (I:Inv X pins σ H s)(h:SqL X.K H a xs)(h':SqL X.K H a ys):xs=ys:=by
 obtain⟨its,r,⟨o,n,e,_,_,d⟩,_⟩:=I.list h
 obtain⟨its',r',⟨o',n',e',_,_,d'⟩,_⟩:=I.list h'
 rw[e]at e';cases e'
 rw[d]at d'
 injection d' with d1 _
 have:its=its':=by simpa using congrArg Array.toList d1
 subst this
 exact r.inj r'
theorem Inv.tuple_inj (I:Inv X pins σ H s)(h:SqT X.K H a xs)(h':SqT X.K H a ys):xs=ys:=by
 obtain⟨its,r,⟨o,e,_,n,d⟩,_⟩:=I.tuple h
 obtain⟨its',r',⟨o',e',_,n',d'⟩,_⟩:=I.tuple h'
 rw[e]at e';cases e'
 rw[d]at d'
 injection d' with d1 _
 have:its=its':=by simpa using congrArg Array.toList d1
 subst this
 exact r.inj r'
end
abbrev Cx.wish (X:Cx)(E:Value->Shared->Prop):Cx:={ X with xe:=E }
abbrev Cx.nox (X:Cx):Cx:=X.wish fun _ _=>False
theorem Cx.Ok.wish {X:Cx}(ok:X.Ok)(E:Value->Shared->Prop):(X.wish E).Ok:=
 ⟨ok.mod,ok.kind,ok.glob,ok.blt,ok.above,ok.inj,ok.has,ok.cab,ok.hd,ok.frames,ok.stk,ok.exf,ok.bs,ok.bsz,ok.noex,ok.exfs,ok.funs,ok.frf⟩
theorem Cx.Ok.unwish {X:Cx}{E:Value->Shared->Prop}(ok:(X.wish E).Ok):X.Ok:=
 ⟨ok.mod,ok.kind,ok.glob,ok.blt,ok.above,ok.inj,ok.has,ok.cab,ok.hd,ok.frames,ok.stk,ok.exf,ok.bs,ok.bsz,ok.noex,ok.exfs,ok.funs,ok.frf⟩
section
variable {X:Cx}{pins:List (Addr×Obj)}{σ:St}{H:Hp}{s:Shared}{E:Value->Shared->Prop}
theorem Inv.wish (I:Inv X pins σ H s)(E:Value->Shared->Prop):Inv (X.wish E) pins σ H s:=⟨I.ok.wish E,I.os,I.bare,I.base,I.loc,I.cell,I.free,I.freeC,I.pin,I.hok,I.len⟩
theorem Inv.unwish (I:Inv (X.wish E) pins σ H s):Inv X pins σ H s:=⟨I.ok.unwish,I.os,I.bare,I.base,I.loc,I.cell,I.free,I.freeC,I.pin,I.hok,I.len⟩
theorem SP.unwish {D:Ends}{f:Flow}{s':Shared}(h:SP (X.wish E) pins D f s'):SP X pins D f s':=by
 cases f with
 | next=>obtain⟨σ',H',I,q⟩:=h;exact⟨σ',H',I.unwish,q⟩
 | brk=>obtain⟨σ',H',I,q⟩:=h;exact⟨σ',H',I.unwish,q⟩
 | cont=>obtain⟨σ',H',I,q⟩:=h;exact⟨σ',H',I.unwish,q⟩
 | ret u=>obtain⟨v,σ',H',I,r,q⟩:=h;exact⟨v,σ',H',I.unwish,r,q⟩
theorem PE.nox {e:Expr}{t:TE}(h:PE X.nox e t):PE X e t:=fun pins s σ H Q I hw=>
 wpAny_mono (h pins s σ H Q (I.wish _) hw) (fun _ _ ⟨v,H',I',r,q⟩=>⟨v,H',I'.unwish,r,q⟩) fun _ _ z=>False.elim z
theorem PSs.nox {st:List Stmt}{t:TS}(h:PSs X.nox st t):PSs X st t:=fun pins s σ H D I hw=>
 wpAny_mono (h pins s σ H D (I.wish _) hw) (fun _ _ q=>q.unwish) fun _ _ z=>False.elim z
end
section
variable {X:Cx}{st:Stmt}{x1w:List Stmt}{t u:TS}{e:Expr}{te:TE}{pos:Pos}
def j58:TS:=fun D σ H=>D.nx σ H
def j7c (t u:TS):TS:=fun D σ H=>t { D with nx:=u D } σ H
theorem z9c:PSs X [] j58:=fun _ _ σ H _ I h=>wpAny_execs_nil ⟨σ,H,I,h⟩
theorem y7l (h1:PS X st t)(h2:PSs X x1w u):PSs X (st::x1w) (j7c t u):=by
 intro pins s σ H D I h
 refine wpAny_execs_cons (thn (h1 pins s σ H { D with nx:=u D } I h) fun f s1 q=>?_)
 cases f with
 | next=>
  obtain⟨σ',H',I',q⟩:=q
  exact h2 pins s1 σ' H' D I' q
 | ret v=>exact q
 | brk=>exact q
 | cont=>exact q
theorem z1n (h1:PS X st t):PSs X [st] t:=by
 intro pins s σ H D I h
 refine wpAny_execs_cons (thn (h1 pins s σ H D I h) fun f s1 q=>?_)
 cases f with
 | next=>exact wpAny_execs_nil q
 | ret v=>exact q
 | brk=>exact q
 | cont=>exact q
theorem Inv.quiet {pins:List (Addr×Obj)}{σ:St}{H:Hp}{s:Shared}(I:Inv X pins σ H s):interactive X.env=false:=by simp[interactive,I.ok.kind]
def j63 (te:TE):TS:=fun D σ H=>te σ H fun _ H1=>D.nx σ H1
theorem y9z (he:PE X e te)(hs:swapsWith e none pos.line X.env=pure false:=by rfl):PS X (.Expr e pos) (j63 te):=by
 intro pins s σ H D I h
 exact wpAny_Expr_any (thn (he pins s σ H _ I h) fun v s1 ⟨x,H1,I1,r1,q1⟩=>⟨σ,H1,I1,q1⟩) I.quiet hs
def j76 (te:TE):TS:=fun D σ H=>te σ H D.rt
theorem j0o (he:PE X e te):PS X (.Return (some e) pos) (j76 te):=by
 intro pins s σ H D I h
 exact wpAny_Return_some (thn (he pins s σ H _ I h) fun v s1 ⟨x,H1,I1,r1,q1⟩=>⟨x,σ,H1,I1,r1,q1⟩)
def j6r (c:TT)(t u:TS):TS:=fun D σ H=>c σ H fun b H1=>if b=true then t D σ H1 else u D σ H1
theorem j0z {c:Expr}{a b:List Stmt}{tc:TT}(hc:PT X c tc)(ha:PSs X a t)(hb:PSs X b u):PS X (.If c a b pos) (j6r tc t u):=by
 intro pins s σ H D I h
 refine wpAny_If (thn (hc pins s σ H _ I h) fun d s1 hh0=>?_)
 obtain⟨H1,I1,q1⟩:=hh0
 cases d with
 | true=>exact ha pins s1 σ H1 D I1 q1
 | false=>exact hb pins s1 σ H1 D I1 q1
def j1g:TS:=fun _ _ _=>False
theorem z1z:PS X st j1g:=fun _ _ _ _ _ _ h=>h.elim
end
abbrev TG:=V->St->Hp->(St->Hp->Prop)->Prop
abbrev TGs:=List V->St->Hp->(St->Hp->Prop)->Prop
def PG (X:Cx)(target:Expr)(t:TG):Prop:=
 ∀ (pins:List (Addr×Obj)) (s:Shared) (σ:St) (H:Hp) (v:V) (u:Value) (Q:St->Hp->Prop),Inv X pins σ H s->x3t v u->t v σ H Q->
  wpAny (model X.prog X.w) X.A (assign target X.env u) (fun _ s'=>∃ σ' H',Inv X pins σ' H' s'/\Q σ' H') X.xe s
def PGs (X:Cx)(ts:List Expr)(t:TGs):Prop:=
 ∀ (pins:List (Addr×Obj)) (s:Shared) (σ:St) (H:Hp) (vs:List V) (us:List Value) (Q:St->Hp->Prop),Inv X pins σ H s->x2i vs us->t vs σ H Q->
  wpAny (model X.prog X.w) X.A (assignInOrder ((assignEach ts X.env).map (·.2)) us) (fun _ s'=>∃ σ' H',Inv X pins σ' H' s'/\Q σ' H') X.xe s
abbrev j4w:=V->V->V->Hp->(Hp->Prop)->Prop
def j6m (X:Cx)(t:j4w):Prop:=
 ∀ (pins:List (Addr×Obj)) (s:Shared) (σ:St) (H:Hp) (o i v:V) (ov iv u:Value) (Q:Hp->Prop),Inv X pins σ H s->x3t o ov->x3t i iv->x3t v u->t o i v H Q->
  wpAny (model X.prog X.w) X.A (setItem ov iv u) (fun _ s'=>∃ H',Inv X pins σ H' s'/\Q H') X.xe s
section
variable {X:Cx}{pos:Pos}
def z6f (i:Nat):TG:=fun v σ H Q=>Q (σ.set i (some v)) H
theorem z9a {i:Nat}{x:Str}(hN:X.N.Nodup)(hi:X.N[i]? = some x)(hx:Loc X.env.scope x)(hf:X.fn x=true\/X.env.scope.names.lookup x=some .local:=by first|exact .inl rfl|exact .inr rfl|assumption):PG X (.Name x pos) (z6f i):=by
 intro pins s σ H v u Q I r h
 exact wpAny_assign_Name (y2o I hN hi hx r (fun s' I'=>⟨_,H,I',h⟩) hf)
def j78:TGs:=fun vs σ H Q=>vs=[]/\Q σ H
def j5t (t:TG)(u:TGs):TGs:=fun vs σ H Q=>∃ v r,vs=v::r/\t v σ H fun σ' H'=>u r σ' H' Q
theorem z95:PGs X [] j78:=by
 intro pins s σ H vs us Q I r h
 obtain⟨e,h⟩:=h
 subst e
 cases r
 exact assignInOrder_nil ⟨σ,H,I,h⟩
theorem z4u {e:Expr}{es:List Expr}{t:TG}{u:TGs}(h1:PG X e t)(h2:PGs X es u)
  (hs:(assignEach (e::es) X.env).map (·.2)=assign e X.env::(assignEach es X.env).map (·.2):=by rfl):PGs X (e::es) (j5t t u):=by
 intro pins s σ H vs us Q I r h
 obtain⟨v,vr,e1,h⟩:=h
 subst e1
 cases r with
 | cons r rr=>
  rw[hs]
  refine assignInOrder_cons (thn (h1 pins s σ H _ _ _ I r h) fun _ s1 hh0=>?_)
  obtain⟨σ1,H1,I1,q1⟩:=hh0
  exact h2 pins s1 σ1 H1 _ _ Q I1 rr q1
def j77 (K:PySem.W.Frag)(n:Nat)(t:TGs):TG:=fun v σ H Q=>∃ a xs,v=.ref a/\SqT K H a xs/\xs.length=n/\t xs σ H Q
theorem j27 {es:List Expr}{k:Nat}{t:TGs}{n:Nat}(hc:X.calm=true)(h:PGs X es t)
  (hn:(assignEach es X.env).length=n:=by rfl) (hst:(assignEach es X.env).findIdx? (·.1)=none:=by rfl):PG X (.Tuple es k pos) (j77 X.K n t):=by
 intro pins s σ H v u Q I r hw
 obtain⟨a,xs,e1,hq,hl,hw⟩:=hw
 subst e1
 cases r
 obtain⟨its,rv,ht,hz⟩:=I.tuple hq
 refine assign_Tuple_tuple (I.ok.hd hc) ht (by simp[hn,<- hl,rv.length]) hst fun h' hx=>?_
 have I1:Inv X pins σ H { s with heap:=h' }:=I.kept (t':=s.toks) fun b o e=>hx b o (Nat.ne_of_lt (Heap.lt_size e)) e
 exact h pins _ σ H xs _ Q I1 (by simpa using rv) hw
def j6n (to ti:TE)(t:j4w):TG:=fun v σ H Q=>to σ H fun o H1=>ti σ H1 fun i H2=>t o i v H2 fun H3=>Q σ H3
theorem j18 {o i:Expr}{to ti:TE}{t:j4w}(ho:PE X o to)(hi:PE X i ti)(hs:j6m X t)
  (ha:∀ v,assign (.Subscript o i pos) X.env v=(do
    let ov <- holding [v] (eval o X.env)
    let iv <- holding [v,ov] (eval i X.env)
    standAt pos
    holding [v,ov,iv] (setItem ov iv v)
    release [v,ov,iv] []):=by intro _;rfl):PG X (.Subscript o i pos) (j6n to ti t):=by
 intro pins s σ H v u Q I r h
 rw[ha]
 refine wpAny_bind (wpAny_holding (thn (ho pins s σ H _ I h) fun ov s1 hh0=>?_))
 obtain⟨x,H1,I1,r1,q1⟩:=hh0
 refine wpAny_bind (wpAny_holding (thn (hi pins s1 σ H1 _ I1 q1) fun iv s2 hh0=>?_))
 obtain⟨y,H2,I2,r2,q2⟩:=hh0
 refine wpAny_bind (wpAny_standAt (wpAny_bind (wpAny_holding (thn (hs pins s2 σ H2 x y v ov iv u _ I2 r1 r2 r q2) fun _ s3 hh0=>?_))))
 obtain⟨H3,I3,q3⟩:=hh0
 exact wpAny_release ⟨σ,H3,I3,q3⟩
def j5w (te:TE)(g:TG):TS:=fun D σ H=>te σ H fun x H1=>g x σ H1 D.nx
theorem z5v {tg e:Expr}{te:TE}{g:TG}(he:PE X e te)(hg:PG X tg g)(hs:swapsWithSole [tg] e pos.line X.env=pure false:=by rfl)(hw:swappedStores [tg] e X.env=pure none:=by rfl)
  (h1:(assignEach [tg] X.env).map (·.2)=[assign tg X.env]:=by rfl):PS X (.Assign [tg] e pos) (j5w te g):=by
 intro pins s σ H D I h
 refine wpAny_Assign_stores (thn (he pins s σ H _ I h) fun v s1 ⟨x,H1,I1,r1,q1⟩=>?_) hs hw
 rw[h1]
 exact thn (hg pins s1 σ H1 x v _ I1 r1 q1) fun _ s2 q=>q
theorem z64 {i:Nat}{x:Str}{e:Expr}{te:TE}{pos':Pos}(hN:X.N.Nodup)(hi:X.N[i]? = some x)(hx:Loc X.env.scope x)(he:PE X e te)(hs:swapsWith e (some (.Name x pos')) pos.line X.env=pure false:=by rfl)(hf:X.fn x=true\/X.env.scope.names.lookup x=some .local:=by first|exact .inl rfl|exact .inr rfl|assumption) :
  PS X (.Assign [.Name x pos'] e pos) (j5w te (z6f i)):=by
 intro pins s σ H D I h
 refine wpAny_Assign_Name (thn (he pins s σ H _ I h) fun v s1 ⟨y,H1,I1,r1,q1⟩=>?_) hs
 exact y2o I1 hN hi hx r1 (fun s2 I2=>⟨_,H1,I2,q1⟩) hf
def j20 (c:TT)(tb:TS):TS:=fun D σ H=>∃ W:Nat->St->Hp->Prop,(∃ m,W m σ H)/\∀ m σ H,W m σ H->
 c σ H fun b H1=>if b=true then ∃ N:St->Hp->Prop,(∀ σ' H',N σ' H'->∃ m',m'<m/\W m' σ' H')/\tb { D with nx:=N,ct:=N,bk:=D.nx } σ H1 else D.nx σ H1
theorem z32 {c:Expr}{body:List Stmt}{tc:TT}{tb:TS}(hp:PassesOwn (model X.prog X.w) X.A X.env X.xe)(hc:PT X c tc)(hb:PSs X body tb):PS X (.While c body [] pos) (j20 tc tb):=by
 intro pins s σ H D I h
 obtain⟨W,⟨m0,w0⟩,turn⟩:=h
 refine wpAny_While (codeAny_whileLoop (fun n s'=>∃ σ' H',Inv X pins σ' H' s'/\W n σ' H') ?_ m0 ⟨σ,H,I,w0⟩)
 rintro n s1 ⟨σ1,H1,I1,w1⟩
 refine wpAny_passesOwn hp (thn (hc pins s1 σ1 H1 _ I1 (turn n σ1 H1 w1)) fun b s2 hh0=>?_)
 obtain⟨H2,I2,q2⟩:=hh0
 cases b with
 | true=>
  obtain⟨N,hN,q2⟩:=q2
  rw[if_pos rfl]
  refine wpAny_passesOwn hp (thn (hb pins s2 σ1 H2 _ I2 q2) fun f s3 q3=>?_)
  cases f with
  | next=>
   obtain⟨σ3,H3,I3,n3⟩:=q3
   obtain⟨m',hm,w3⟩:=hN σ3 H3 n3
   exact⟨m',hm,σ3,H3,I3,w3⟩
  | cont=>
   obtain⟨σ3,H3,I3,n3⟩:=q3
   obtain⟨m',hm,w3⟩:=hN σ3 H3 n3
   exact⟨m',hm,σ3,H3,I3,w3⟩
  | brk=>exact q3
  | ret v=>exact q3
 | false=>
  rw[if_neg Bool.false_ne_true]
  exact wpAny_execs_nil ⟨σ1,H2,I2,q2⟩
end
structure It where
 go:Nat->Hp->Prop
 yld:Nat->Hp->V->Hp->Prop
 stop:Nat->Hp->Prop
def y72 (X:Cx)(pins:List (Addr×Obj))(H:Hp)(b:Addr):Prop:=
 H b=none/\b≠X.env.locals/\b ∉ X.fs/\(b∈X.ex\/X.s₀.heap.objs.size<=b)/\(∀ x c,X.env.cells.lookup x=some c->c≠b)/\∀ p∈X.pn++pins,p.1≠b
theorem Inv.fpOk {X:Cx}{pins:List (Addr×Obj)}{σ:St}{H H':Hp}{s:Shared}{b:Addr}(I:Inv X pins σ H s)(hb:s.heap.objs.size<=b)(hn:H' b=none):y72 X pins H' b:=by
 refine⟨hn,Nat.ne_of_gt (Nat.lt_of_lt_of_le I.lt hb),I.nofs hb,.inr (Nat.le_trans I.sz hb),fun x c e z=>?_,fun p hp z=>?_⟩
 ·obtain⟨v,q⟩:=I.cell x c e
  exact absurd (Nat.lt_of_lt_of_le q.lt (by rw[z];exact hb)) (Nat.lt_irrefl _)
 ·exact absurd (Nat.lt_of_lt_of_le (Heap.lt_size (I.pin p hp).1) (by rw[z];exact hb)) (Nat.lt_irrefl _)
structure Turn (P:Program) (w:World) (K:PySem.W.Frag) (tg:Expr) (J:It) (fp:List Addr) (it:Addr) (tn:Nat->Heap->Prop):Prop where
 mem:it∈fp
 obj:∀ i h,tn i h->∀ b∈fp,∃ o,h.get? b=some o/\∀ v,o.data ≠ .cell v
 keep:∀ i h h',tn i h->(∀ b∈fp,∀ o,h.get? b=some o->h'.get? b=some o)->tn i h'
 item:∀ (X:Cx),X.prog=P->X.w=w->X.K=K->X.calm=true->∀ (i:Nat) (pins:List (Addr×Obj)) (s:Shared) (σ:St) (H:Hp) (E:Value->Shared->Prop),Inv X pins σ H s->(∀ b∈fp,y72 X pins H b)->tn i s.heap->J.go i H->
  wpAny (model P w) X.A (pyNext (.ref it)) (fun r s1=>∃ u,r=some u /\
   wpAny (model P w) X.A (letOwnedTupleGo tg (.ref it) u) (fun _ s2=>∃ x H',Inv X pins σ H' s2/\x3t x u/\J.yld i H x H'/\tn (i+1) s2.heap/\∀ b∈fp,H' b=none) E s1) E s
 done:∀ (X:Cx),X.prog=P->X.w=w->X.K=K->X.calm=true->∀ (i:Nat) (pins:List (Addr×Obj)) (s:Shared) (σ:St) (H:Hp) (E:Value->Shared->Prop),Inv X pins σ H s->(∀ b∈fp,y72 X pins H b)->tn i s.heap->J.stop i H->
  wpAny (model P w) X.A (pyNext (.ref it)) (fun r s1=>r=none/\Inv X pins σ H s1) E s
 self:∀ (A:Around) (i:Nat) (s:Shared) (Q:Value->Shared->Prop) (E:Value->Shared->Prop),tn i s.heap->Q (.ref it) s->wpAny (model P w) A (pyIter (.ref it)) Q E s
abbrev TI:=St->Hp->(It->Hp->Prop)->Prop
def PIE (X:Cx)(pins:List (Addr×Obj))(σ:St)(tg:Expr)(R:It->Hp->Prop)(itv:Value)(s2:Shared):Prop:=
 ∃ (it:Addr) (fp:List Addr) (tn:Nat->Heap->Prop) (J:It) (H':Hp),itv=.ref it/\Inv X pins σ H' s2/\Turn X.prog X.w X.K tg J fp it tn/\tn 0 s2.heap/\(∀ b∈fp,y72 X pins H' b)/\R J H'
def PI (X:Cx)(tg iter:Expr)(wi:TI):Prop:=
 ∀ (pins:List (Addr×Obj)) (s:Shared) (σ:St) (H:Hp) (R:It->Hp->Prop),Inv X pins σ H s->wi σ H R->
  wpAny (model X.prog X.w) X.A (eval iter X.env) (fun v s1=>wpAny (model X.prog X.w) X.A (pyIter v) (PIE X pins σ tg R) X.xe s1) X.xe s
theorem z88 {M:Model}{A:Around}{E:Value->Shared->Prop}{s:Shared}{tg:Expr}{it:Addr}{u:Value}{o:Obj}{n:String}{vs:Array Value}{Q:Unit->Shared->Prop}(ho:s.heap.get? it=some o)(hc:o.cls=.type n)(hd:o.data=.fields vs)
  (hn:["enumerate","zip","dict_itemiterator","dict_reverseitemiterator","odict_iterator","itertools.zip_longest","itertools.pairwise"].contains n=false) (hQ:Q () s):wpAny M A (letOwnedTupleGo tg (.ref it) u) Q E s:=by
 unfold letOwnedTupleGo
 cases tg<;>first
  | exact wpAny_pure hQ
  | (cases u<;>first
      | exact wpAny_pure hQ
      | (refine wpAny_bind (wpAny_load ho ?_)
         rw[hc,hd]
         show wpAny M A (if(["enumerate","zip","dict_itemiterator","dict_reverseitemiterator","odict_iterator","itertools.zip_longest","itertools.pairwise"].contains n&&vs[0]? == some (rawInt _))=true then _ else _) Q E s
         rw[if_neg (by intro h;rw[hn,Bool.false_and]at h;cases h)]
         exact wpAny_pure hQ))
def Itl (K:PySem.W.Frag)(a:Addr):It:=
 ⟨fun i H=>∃ xs x,SqL K H a xs/\xs[i]? = some x,fun i H x H'=>H'=H/\∀ xs,SqL K H a xs->xs[i]? = some x,fun i H=>∃ xs,SqL K H a xs/\xs.length<=i⟩
def Itt (K:PySem.W.Frag)(a:Addr):It:=
 ⟨fun i H=>∃ xs x,SqT K H a xs/\xs[i]? = some x,fun i H x H'=>H'=H/\∀ xs,SqT K H a xs->xs[i]? = some x,fun i H=>∃ xs,SqT K H a xs/\xs.length<=i⟩
def Itr (lo:Int)(n:Nat):It:=⟨fun i _=>i<n,fun i H x H'=>H'=H/\x=.int (lo+i),fun i _=>n<=i⟩
theorem z0h {P:Program}{w:World}{K:PySem.W.Frag}{tg:Expr}(a it:Addr):Turn P w K tg (Itl K a) [it] it (fun i h=>h.IsListIter it a i) where
 mem:=by simp
 obj:=fun i h st b hb=>by
  have e:b=it:=by simpa using hb
  subst e
  obtain⟨o,e,c,d⟩:=st
  exact⟨o,e,fun v z=>by rw[d]at z;cases z⟩
 keep:=fun i h h' st k=>st.at fun o e=>k it (by simp) o e
 item:=by
  intro X hP hw hK hc i pins s σ H E I hf st hg
  subst hP hw hK
  obtain⟨xs,x,hq,hx⟩:=hg
  obtain⟨its,rv,p,hz⟩:=I.list hq
  obtain⟨u,hu,ru⟩:=rv.get hx
  obtain⟨f0,f1,f2,f3,f4,f5⟩:=hf it (by simp)
  refine wpAny_pyNext_list_item st p.isList (x:=u) (by simpa using hu) fun h' st' sb=>?_
  have I1:Inv X pins σ H { s with heap:=h' }:=I.turned (t':=s.toks) (fun b o hb e=>(sb.2 b hb).trans e) f0 f1 f3 f4 f5
  obtain⟨o,e,c,d⟩:=id st'
  exact⟨u,rfl,z88 (s:={ s with heap:=h' }) e c d (by decide) ⟨x,H,I1,ru,⟨rfl,fun ys hy=>by rw[I.list_inj hy hq];exact hx⟩,st',fun b hb=>(hf b hb).1⟩⟩
 done:=by
  intro X hP hw hK hc i pins s σ H E I hf st hg
  subst hP hw hK
  obtain⟨xs,hq,hx⟩:=hg
  obtain⟨its,rv,p,hz⟩:=I.list hq
  obtain⟨f0,f1,f2,f3,f4,f5⟩:=hf it (by simp)
  have hl:=rv.length
  exact wpAny_pyNext_list_end (I.ok.hd hc) st p.isList (by simp;omega) fun h' eb=>⟨rfl,I.turned (t':=s.toks) (fun b o hb e=>eb b o hb e) f0 f1 f3 f4 f5⟩
 self:=fun _ _ _ _ _ st h=>wpAny_pyIter_listiter st h
theorem y8f {P:Program}{w:World}{K:PySem.W.Frag}{tg:Expr}(a it:Addr):Turn P w K tg (Itt K a) [it] it (fun i h=>h.IsTupleIter it a i) where
 mem:=by simp
 obj:=fun i h st b hb=>by
  have e:b=it:=by simpa using hb
  subst e
  obtain⟨o,e,c,d⟩:=st
  exact⟨o,e,fun v z=>by rw[d]at z;cases z⟩
 keep:=fun i h h' st k=>st.at fun o e=>k it (by simp) o e
 item:=by
  intro X hP hw hK hc i pins s σ H E I hf st hg
  subst hP hw hK
  obtain⟨xs,x,hq,hx⟩:=hg
  obtain⟨its,rv,p,hz⟩:=I.tuple hq
  obtain⟨u,hu,ru⟩:=rv.get hx
  obtain⟨f0,f1,f2,f3,f4,f5⟩:=hf it (by simp)
  refine wpAny_pyNext_tuple_item st (show s.heap.IsTuple a its.toArray from p) (x:=u) (by simpa using hu) fun h' st' sb=>?_
  have I1:Inv X pins σ H { s with heap:=h' }:=I.turned (t':=s.toks) (fun b o hb e=>(sb.2 b hb).trans e) f0 f1 f3 f4 f5
  obtain⟨o,e,c,d⟩:=id st'
  exact⟨u,rfl,z88 (s:={ s with heap:=h' }) e c d (by decide) ⟨x,H,I1,ru,⟨rfl,fun ys hy=>by rw[I.tuple_inj hy hq];exact hx⟩,st',fun b hb=>(hf b hb).1⟩⟩
 done:=by
  intro X hP hw hK hc i pins s σ H E I hf st hg
  subst hP hw hK
  obtain⟨xs,hq,hx⟩:=hg
  obtain⟨its,rv,p,hz⟩:=I.tuple hq
  obtain⟨f0,f1,f2,f3,f4,f5⟩:=hf it (by simp)
  have hl:=rv.length
  exact wpAny_pyNext_tuple_end (I.ok.hd hc) st (show s.heap.IsTuple a its.toArray from p) (by simp;omega) fun h' eb=>⟨rfl,I.turned (t':=s.toks) (fun b o hb e=>eb b o hb e) f0 f1 f3 f4 f5⟩
 self:=fun _ _ _ _ _ st h=>wpAny_pyIter_tupleiter st h
theorem y83 {P:Program}{w:World}{K:PySem.W.Frag}{tg:Expr}(it:Addr)(lo:Int)(n:Nat):Turn P w K tg (Itr lo n) [it] it (fun i h=>IsRangeIter h it (lo+(i:Nat)*1) ((n:Int)-(i:Nat)) 1) where
 mem:=by simp
 obj:=fun i h st b hb=>by
  have e:b=it:=by simpa using hb
  subst e
  exact⟨_,st,fun v z=>by
   have z':Data.fields _=Data.cell v:=z
   cases z'⟩
 keep:=fun i h h' st k=>k it (by simp) _ st
 item:=by
  intro X hP hw hK hc i pins s σ H E I hf st hg
  subst hP hw hK
  obtain⟨f0,f1,f2,f3,f4,f5⟩:=hf it (by simp)
  have W:=Walks.range (prog:=X.prog) (w:=X.w) (I.ok.hd hc) it lo 1 n
  refine W.item i s _ _ hg st fun v h' tk hv st' kk=>?_
  obtain⟨t,rfl⟩:=hv
  have I1:Inv X pins σ H { s with heap:=h',toks:=tk }:=I.turned (fun b o hb e=>kk b o (by simpa using hb) e) f0 f1 f3 f4 f5
  refine⟨_,rfl,z88 (s:={ s with heap:=h',toks:=tk }) (n:="range_iterator") st' rfl rfl (by decide) ⟨.int (lo+i),H,I1,⟨t,?_⟩,⟨rfl,rfl⟩,st',fun b hb=>(hf b hb).1⟩⟩
  rw[Int.mul_one]
 done:=by
  intro X hP hw hK hc i pins s σ H E I hf st hg
  subst hP hw hK
  obtain⟨f0,f1,f2,f3,f4,f5⟩:=hf it (by simp)
  exact wpAny_pyNext_range_end (I.ok.hd hc) st (by have:n<=i:=hg;omega) fun h' eb=>⟨rfl,I.turned (t':=s.toks) (fun b o hb e=>eb b o hb e) f0 f1 f3 f4 f5⟩
 self:=fun _ _ _ _ _ st h=>wpAny_pyIter_rangeiter st h
section
variable {X:Cx}{tg:Expr}
theorem z2r {pins:List (Addr×Obj)}{σ:St}{H:Hp}{s:Shared}{R:It->Hp->Prop}{E:Value->Shared->Prop}{lo hi:Int}{t u v:Tok}{tk:Nat}(I:Inv X pins σ H s)(h1:-(2 ^ 62)<=lo)(h2:lo<2 ^ 62)(h3:-(2 ^ 62)<=hi)(h4:hi<2 ^ 62)
  (q:R (Itr lo (hi-lo).toNat) H):wpAny (model X.prog X.w) X.A (pyIter (.ref s.heap.objs.size)) (PIE X pins σ tg R) E { s with heap:=s.heap.push { cls:=.type "range",data:=.fields #[.int lo t,.int hi u,.int 1 v] },toks:=tk }:=by
 refine wpAny_pyIter_range (IsRange.new ..) (small_one h1 h2 h3 h4) ?_
 have I1:Inv X pins σ H { s with heap:=s.heap.push { cls:=.type "range",data:=.fields #[.int lo t,.int hi u,.int 1 v] },toks:=tk }:=I.kept fun b o e=>Heap.get?_push_of_some _ e
 refine⟨(s.heap.push { cls:=.type "range",data:=.fields #[.int lo t,.int hi u,.int 1 v] }).objs.size,[(s.heap.push { cls:=.type "range",data:=.fields #[.int lo t,.int hi u,.int 1 v] }).objs.size],_,_,H,rfl,
  I1.kept (t':=tk) fun b o e=>Heap.get?_push_of_some _ e,y83 _ lo (hi-lo).toNat,?_,fun b hb=>?_,q⟩
 ·have e1:lo+((0:Nat):Int)*1=lo:=by simp
  have e2:(((hi-lo).toNat:Nat):Int)-((0:Nat):Int)=Builtin.Range.rangeSize lo hi 1:=by rw[rangeSize_one];split<;>omega
  show IsRangeIter _ _ (lo+((0:Nat):Int)*1) ((((hi-lo).toNat:Nat):Int)-((0:Nat):Int)) 1
  rw[e1,e2]
  exact Heap.get?_push_size _ rfl
 ·have e:b=(s.heap.push { cls:=.type "range",data:=.fields #[.int lo t,.int hi u,.int 1 v] }).objs.size:=by simpa using hb
  subst e
  exact I1.fpOk (Nat.le_refl _) (I1.hok.fresh (Nat.le_refl _))
def j5h (ta:TA):TI:=fun σ H R=>ta σ H fun vs H1=>∃ j:Int,vs=[.int j] /\ -(2 ^ 62)<=j/\j<2 ^ 62/\R (Itr 0 j.toNat) H1
theorem z1d {a:Expr}{ta:TA}{p pos:Pos}(hg:Gl X "range")(hm:X.mg "range" = none)(ha:PA X [a] ta)(hs:starEach [a] X.env=[(false,eval a X.env)]:=by rfl):PI X tg (.Call (.Name "range" p) [a] [] pos) (j5h ta):=by
 intro pins s σ H R I h
 refine Call_ (y21 I hg hm boot_range (PyProof.Rows.callWith_type1 (thn (ha pos pins s σ H _ I h) fun us s1 ⟨vs,H1,I1,r1,q1⟩=>?_) hs rfl))
 obtain⟨j,e,q1,q2,q⟩:=q1
 subst e
 cases r1 with
 | cons r rr=>
  cases rr
  obtain⟨t,rfl⟩:=r
  exact call_range_1 (z2r I1 (by omega) (by omega) q1 q2 (by simpa using q))
def j6p (wi:TI)(g:TG)(tb:TS):TS:=fun D σ H=>wi σ H fun J H1=>∃ W:Nat->Nat->St->Hp->Prop,(∃ m,W 0 m σ H1)/\∀ i m σ H,W i m σ H->
 (J.stop i H/\D.nx σ H)\/(J.go i H/\∃ N:St->Hp->Prop,(∀ σ' H',N σ' H'->∃ m',m'<m/\W (i+1) m' σ' H')/\∀ x H',J.yld i H x H'->g x σ H' fun σ2 H2=>tb { D with nx:=N,ct:=N,bk:=D.nx } σ2 H2)
def x62 (fp:List Addr)(h:Heap):List (Addr×Obj):=fp.filterMap fun b=>(h.get? b).map fun o=>(b,o)
theorem x4k {fp:List Addr}{h:Heap}{b:Addr}{o:Obj}(hb:b∈fp)(e:h.get? b=some o):(b,o)∈x62 fp h:=List.mem_filterMap.mpr ⟨b,hb,by rw[e];rfl⟩
theorem y0s {fp:List Addr}{h:Heap}{p:Addr×Obj}(hp:p∈x62 fp h):p.1∈fp/\h.get? p.1=some p.2:=by
 obtain⟨b,hb,e⟩:=List.mem_filterMap.mp hp
 cases q:h.get? b with
 | none=>rw[q]at e;cases e
 | some o=>
  rw[q]at e
  have e':(b,o)=p:=Option.some.inj e
  subst e'
  exact⟨hb,q⟩
theorem Inv.pinned {pins:List (Addr×Obj)}{σ:St}{H:Hp}{s:Shared}{fp:List Addr}(I:Inv X pins σ H s)(hf:∀ b∈fp,y72 X pins H b)(ho:∀ b∈fp,∃ o,s.heap.get? b=some o/\∀ v,o.data ≠ .cell v):Inv X (pins++x62 fp s.heap) σ H s:=
 I.pins_of fun p hp=>(List.mem_append.mp hp).elim (fun z=>I.pin p (List.mem_append_right _ z)) fun z=>by
  obtain⟨hb,e⟩:=y0s z
  obtain⟨f0,f1,f2,_⟩:=hf p.1 hb
  obtain⟨o,e',d⟩:=ho p.1 hb
  rw[e]at e';cases e'
  exact⟨e,f0,f1,f2,d⟩
theorem Inv.unpinned {pins pl:List (Addr×Obj)}{σ:St}{H:Hp}{s:Shared}(I:Inv X (pins++pl) σ H s):Inv X pins σ H s:=I.pins_of fun p hp=>I.pin p (List.mem_append_right _ (List.mem_append_left _ hp))
theorem j2e {iter:Expr}{body:List Stmt}{wi:TI}{g:TG}{tb:TS}{pos:Pos}(hp:PassesOwn (model X.prog X.w) X.A X.env X.xe)(hc:X.calm=true)(hi:PI X tg iter wi)(hg:PG X tg g)(hb:PSs X body tb)
  (hs:∀ x,foldedSetIterable iter X.env x=pure x:=by intro _;rfl):PS X (.For tg iter body [] pos) (j6p wi g tb):=by
 intro pins s σ H D I h
 refine wpAny_For (thn (hi pins s σ H _ I h) fun v s1 h1=>thn h1 fun itv s2 h2=>?_) hs
 obtain⟨it,fp,tn,J,H2,e,I2,T,st2,f2,W,⟨m0,w0⟩,turn⟩:=h2
 subst e
 -- what stays true of the iterator's objects through the loop
 have stat:∀ {H':Hp},(∀ b∈fp,H' b=none)->∀ b∈fp,y72 X pins H' b:=fun hn b hb=>⟨hn b hb,(f2 b hb).2⟩
 refine codeAny_forLoop_any (fun n s'=>∃ i σ' H',Inv X pins σ' H' s'/\tn i s'.heap/\(∀ b∈fp,H' b=none)/\W i n σ' H') ?_ m0 ⟨0,σ,H2,I2,st2,fun b hb=>(f2 b hb).1,w0⟩
 rintro n s3 ⟨i,σ3,H3,I3,st3,fr3,w3⟩
 rcases turn i n σ3 H3 w3 with⟨stop,qn⟩|⟨go,N,hN,step⟩
 ·refine wpAny_passesOwn hp (thn (T.done X rfl rfl rfl hc i pins s3 σ3 H3 X.xe I3 (stat fr3) st3 stop) fun r s4 ⟨hr,I4⟩=>?_)
  subst hr
  exact wpAny_execs_nil ⟨σ3,H3,I4,qn⟩
 ·refine wpAny_passesOwn hp (thn (T.item X rfl rfl rfl hc i pins s3 σ3 H3 X.xe I3 (stat fr3) st3 go) fun r s4 ⟨u,hr,h4⟩=>?_)
  subst hr
  refine wpAny_passesOwn hp (thn h4 fun _ s5 hh0=>?_)
  obtain⟨x,H5,I5,r5,y5,st5,fr5⟩:=hh0
  have I5':=I5.pinned (stat fr5) (T.obj _ _ st5)
  refine wpAny_passesOwn hp (thn (hg _ s5 σ3 H5 x u _ I5' r5 (step x H5 y5)) fun _ s6 hh0=>?_)
  obtain⟨σ6,H6,I6,q6⟩:=hh0
  refine wpAny_passesOwn hp (thn (hb _ s6 σ6 H6 _ I6 q6) fun f s7 q7=>?_)
  have again:∀ {σ7:St} {H7:Hp},Inv X (pins++x62 fp s5.heap) σ7 H7 s7->N σ7 H7->∃ m,m<n/\∃ i σ' H',Inv X pins σ' H' s7/\tn i s7.heap/\(∀ b∈fp,H' b=none)/\W i m σ' H':=fun {σ7 H7} I7 n7=>by
   obtain⟨m',hm,w7⟩:=hN σ7 H7 n7
   refine⟨m',hm,i+1,σ7,H7,I7.unpinned,T.keep _ _ _ st5 fun b hb o e=>(I7.pin (b,o) (List.mem_append_right _ (List.mem_append_right _ (x4k hb e)))).1,fun b hb=>?_,w7⟩
   obtain⟨o,e,d⟩:=T.obj _ _ st5 b hb
   exact(I7.pin (b,o) (List.mem_append_right _ (List.mem_append_right _ (x4k hb e)))).2.1
  cases f with
  | next=>obtain⟨σ7,H7,I7,n7⟩:=q7;exact again I7 n7
  | cont=>obtain⟨σ7,H7,I7,n7⟩:=q7;exact again I7 n7
  | brk=>obtain⟨σ7,H7,I7,q7⟩:=q7;exact⟨σ7,H7,I7.unpinned,q7⟩
  | ret v=>obtain⟨x7,σ7,H7,I7,r7,q7⟩:=q7;exact⟨x7,σ7,H7,I7.unpinned,r7,q7⟩
end
abbrev R2:=V->V->Hp->VK->Prop
def OpR (X:Cx)(f:Value->Value->Sem Value)(r:R2):Prop:=
 ∀ (pins:List (Addr×Obj)) (s:Shared) (σ:St) (H:Hp) (x y:V) (v u:Value) (Q:VK),Inv X pins σ H s->x3t x v->x3t y u->r x y H Q->
  wpAny (model X.prog X.w) X.A (f v u) (EP X pins σ Q) X.xe s
def UnR (X:Cx)(f:Value->Sem Value)(r:V->Hp->VK->Prop):Prop:=
 ∀ (pins:List (Addr×Obj)) (s:Shared) (σ:St) (H:Hp) (x:V) (v:Value) (Q:VK),Inv X pins σ H s->x3t x v->r x H Q->
  wpAny (model X.prog X.w) X.A (f v) (EP X pins σ Q) X.xe s
def x9q (X:Cx)(f:Value)(r:List V->Hp->VK->Prop):Prop:=
 ∀ (pins:List (Addr×Obj)) (s:Shared) (σ:St) (H:Hp) (xs:List V) (us:List Value) (Q:VK),Inv X pins σ H s->x2i xs us->r xs H Q->
  wpAny (model X.prog X.w) X.A (call f us) (EP X pins σ Q) X.xe s
def j7f (X:Cx)(r:V->Hp->(Bool->Hp->Prop)->Prop):Prop:=
 ∀ (pins:List (Addr×Obj)) (s:Shared) (σ:St) (H:Hp) (x:V) (v:Value) (Q:Bool->Hp->Prop),Inv X pins σ H s->x3t x v->r x H Q->
  wpAny (model X.prog X.w) X.A (truthy v) (TP X pins σ Q) X.xe s
def tOp (r:R2)(ta tb:TE):TE:=fun σ H Q=>ta σ H fun x H1=>tb σ H1 fun y H2=>r x y H2 Q
def tUn (r:V->Hp->VK->Prop)(ta:TE):TE:=fun σ H Q=>ta σ H fun x H1=>r x H1 Q
def rI (C:Int->Int->Prop)(g:Int->Int->V):R2:=fun x y H Q=>∃ i j,x=.int i/\y=.int j/\C i j/\Q (g i j) H
def rI0 (g:Int->Int->V):R2:=fun x y H Q=>∃ i j,x=.int i/\y=.int j/\Q (g i j) H
def rU (g:Int->V):V->Hp->VK->Prop:=fun x H Q=>∃ i,x=.int i/\Q (g i) H
section
variable {X:Cx}{a b c:Expr}{ta tb tc:TE}{pos:Pos}
theorem j67 (ha:PE X a ta)(hb:PE X b tb){pins:List (Addr×Obj)}{s:Shared}{σ:St}{H:Hp}{R:V->V->Hp->Prop}(I:Inv X pins σ H s)
  (h:ta σ H fun x H1=>tb σ H1 fun y H2=>R x y H2) {Q:Value->Shared->Prop} {f:Value->Value->Sem Value}
  (hf:∀ v u s2 x y H2,Inv X pins σ H2 s2->x3t x v->x3t y u->R x y H2->wpAny (model X.prog X.w) X.A (f v u) Q X.xe s2) :
  wpAny (model X.prog X.w) X.A (eval a X.env) (fun v s₁=>wpAny (model X.prog X.w) X.A (eval b X.env) (fun u s₂=>wpAny (model X.prog X.w) X.A (f v u) Q X.xe s₂) X.xe s₁) X.xe s:=by
 refine thn (ha pins s σ H _ I h) fun v s1 hh0=>?_
 obtain⟨x,H1,I1,r1,q1⟩:=hh0
 refine thn (hb pins s1 σ H1 _ I1 q1) fun u s2 hh0=>?_
 obtain⟨y,H2,I2,r2,q2⟩:=hh0
 exact hf v u s2 x y H2 I2 r1 r2 q2
theorem y4r {op:Operator}{r:R2}(ho:OpR X (binaryOp op) r)(ha:PE X a ta)(hb:PE X b tb):PE X (.BinOp a op b pos) (tOp r ta tb):=by
 intro pins s σ H Q I h
 exact wpAny_BinOp (j67 ha hb I h fun v u s2 x y H2 I2 rx ry q=>ho pins s2 σ H2 x y v u Q I2 rx ry q)
theorem j4v {op:UnaryOp}{r:V->Hp->VK->Prop}(ho:UnR X (unaryOp op) r)(ha:PE X a ta):PE X (.UnaryOp op a pos) (tUn r ta):=by
 intro pins s σ H Q I h
 exact UnaryOp_ (thn (ha pins s σ H _ I h) fun v s1 ⟨x,H1,I1,r1,q1⟩=>ho pins s1 σ H1 x v Q I1 r1 q1)
theorem opI {f:Value->Value->Sem Value}{C:Int->Int->Prop}{g:Int->Int->Int}
  (rule:∀ (i j:Int) (t u:Tok) (s:Shared) (Q:Value->Shared->Prop) (E:Value->Shared->Prop),C i j->Q (.int (g i j) s.toks) { s with toks:=s.toks+1 }->wpAny (model X.prog X.w) X.A (f (.int i t) (.int j u)) Q E s) :
  OpR X f (rI C fun i j=>.int (g i j)):=by
 intro pins s σ H x y v u Q I rx ry h
 obtain⟨i,j,rfl,rfl,hc,q⟩:=h
 obtain⟨t,rfl⟩:=rx
 obtain⟨t',rfl⟩:=ry
 exact rule i j t t' s _ _ hc ⟨.int (g i j),H,I.tok _,⟨_,rfl⟩,q⟩
theorem j7b {f:Value->Value->Sem Value}{g:Int->Int->Int}
  (rule:∀ (i j:Int) (t u:Tok) (s:Shared) (Q:Value->Shared->Prop) (E:Value->Shared->Prop),Q (.int (g i j) s.toks) { s with toks:=s.toks+1 }->wpAny (model X.prog X.w) X.A (f (.int i t) (.int j u)) Q E s) :
  OpR X f (rI0 fun i j=>.int (g i j)):=by
 intro pins s σ H x y v u Q I rx ry h
 obtain⟨i,j,rfl,rfl,q⟩:=h
 obtain⟨t,rfl⟩:=rx
 obtain⟨t',rfl⟩:=ry
 exact rule i j t t' s _ _ ⟨.int (g i j),H,I.tok _,⟨_,rfl⟩,q⟩
theorem j6b {f:Value->Value->Sem Value}{g:Int->Int->Bool}
  (rule:∀ (i j:Int) (t u:Tok) (s:Shared) (Q:Value->Shared->Prop) (E:Value->Shared->Prop),Q (.bool (g i j)) s->wpAny (model X.prog X.w) X.A (f (.int i t) (.int j u)) Q E s) :
  OpR X f (rI0 fun i j=>.bl (g i j)):=by
 intro pins s σ H x y v u Q I rx ry h
 obtain⟨i,j,rfl,rfl,q⟩:=h
 obtain⟨t,rfl⟩:=rx
 obtain⟨t',rfl⟩:=ry
 exact rule i j t t' s _ _ ⟨.bl (g i j),H,I,rfl,q⟩
def j6v (i j:Int):Prop:=0<j/\j<1073741824
def j55 (i j:Int):Prop:=(-(2 ^ 64)<i/\i<2 ^ 64)\/(-(2 ^ 64)<j/\j<2 ^ 64)
theorem j55.ok {i j:Int}(h:j55 i j):IntMulOk i j:=by
 rcases h with⟨h1,h2⟩|⟨h1,h2⟩
 ·exact .of_left (intBits_le_64 h1 h2)
 ·exact .of_right (intBits_le_64 h1 h2)
theorem j30:OpR X (binaryOp .Add) (rI0 fun i j=>.int (i+j)):=j7b fun _ _ _ _ _ _ _ q=>add_int q
theorem j1b:OpR X (binaryOp .Mult) (rI j55 fun i j=>.int (i*j)):=opI fun _ _ _ _ _ _ _ hc q=>mul_int q hc.ok
theorem z6o:OpR X (binaryOp .FloorDiv) (rI j6v fun i j=>.int (i / j)):=opI fun i j _ _ _ _ _ hc q=>by
 have h1:(0:Int)<j:=hc.1
 have h2:j<1073741824:=hc.2
 exact floordiv_int (by omega) (by rw[Int.fdiv_eq_ediv_of_nonneg i (by omega)];exact q) (.inl (PyProof.noPylong_small (by omega)))
theorem j3x:OpR X (binaryOp .Mod) (rI (fun _ j=>0<j) fun i j=>.int (i % j)):=opI fun i j _ _ _ _ _ hc q=>by
 have h1:(0:Int)<j:=hc
 exact mod_int' (by omega) (by rw[Int.fmod_eq_emod_of_nonneg i (by omega)];exact q)
theorem unI {f:Value->Sem Value}{g:Int->Int}
  (rule:∀ (i:Int) (t:Tok) (s:Shared) (Q:Value->Shared->Prop) (E:Value->Shared->Prop),Q (.int (g i) s.toks) { s with toks:=s.toks+1 }->wpAny (model X.prog X.w) X.A (f (.int i t)) Q E s) :
  UnR X f (rU fun i=>.int (g i)):=by
 intro pins s σ H x v Q I rx h
 obtain⟨i,rfl,q⟩:=h
 obtain⟨t,rfl⟩:=rx
 exact rule i t s _ _ ⟨.int (g i),H,I.tok _,⟨_,rfl⟩,q⟩
theorem j2q:UnR X (unaryOp .USub) (rU fun i=>.int (-i)):=unI fun _ _ _ _ _ q=>neg_int q
theorem j2u {pins:List (Addr×Obj)}{σ:St}{H:Hp}{s:Shared}{Q:VK}{k k':Bool}(I:Inv X pins σ H s)(q:Q (.bl k) H)(e:k=k'):EP X pins σ Q (.bool k') s:=by
 subst e
 exact⟨.bl k,H,I,rfl,q⟩
theorem j1r:OpR X (compareOp .Lt) (rI0 fun i j=>.bl (decide (i<j))):=j6b fun _ _ _ _ _ _ _ q=>lt_int q
theorem j5x:OpR X (compareOp .LtE) (rI0 fun i j=>.bl (decide (i<=j))):=j6b fun _ _ _ _ _ _ _ q=>le_int q
theorem z66:OpR X (compareOp .Is) (fun x y H Q=>y=.non/\Q (.bl (decide (x=.non))) H):=by
 intro pins s σ H x y v u Q I rx ry h
 obtain⟨rfl,q⟩:=h
 cases ry
 refine is_none_gen (j2u I q ?_)
 cases x<;>first
  | (cases rx;rfl)
  | (obtain⟨t,rfl⟩:=rx;rfl)
theorem OpR.or {f:Value->Value->Sem Value}{r r':R2}(h:OpR X f r)(h':OpR X f r'):OpR X f (fun x y H Q=>r x y H Q\/r' x y H Q):=by
 intro pins s σ H x y v u Q I rx ry q
 rcases q with q|q
 ·exact h pins s σ H x y v u Q I rx ry q
 ·exact h' pins s σ H x y v u Q I rx ry q
theorem y4t (b:Expr){op:CmpOp}(h:op ≠ .In:=by decide)(h2:op ≠ .NotIn:=by decide):behindInMarks op b=false:=by
 have e1:(op==CmpOp.In)=false:=by cases op<;>first|rfl|exact absurd rfl h
 have e2:(op==CmpOp.NotIn)=false:=by cases op<;>first|rfl|exact absurd rfl h2
 cases b<;>simp[behindInMarks,e1,e2]
theorem z85 {op:CmpOp}{r:R2}(ho:OpR X (compareOp op) r)(ha:PE X a ta)(hb:PE X b tb)(hm:behindInMarks op b=false):PE X (.Compare a [op] [b] pos) (tOp r ta tb):=by
 intro pins s σ H Q I h
 exact wpAny_Compare1 (j67 ha hb I h fun v u s2 x y H2 I2 rx ry q=>ho pins s2 σ H2 x y v u Q I2 rx ry q) hm
def j33 (t:TE):TT:=fun σ H Q=>t σ H fun x H'=>∃ k,x=.bl k/\Q k H'
theorem z8e {op:CmpOp}{r:R2}(ho:OpR X (compareOp op) r)(ha:PE X a ta)(hb:PE X b tb)(hm:behindInMarks op b=false):PT X (.Compare a [op] [b] pos) (j33 (tOp r ta tb)):=by
 intro pins s σ H Q I h
 refine wpAny_isTrue_Compare1 (thn (ha pins s σ H _ I h) fun v s1 ⟨x,H1,I1,r1,q1⟩=>thn (hb pins s1 σ H1 _ I1 q1) fun u s2 ⟨y,H2,I2,r2,q2⟩=>
  thn (ho pins s2 σ H2 x y v u _ I2 r1 r2 q2) fun c s3 ⟨z,H3,I3,r3,k,e,q3⟩=>?_) hm
 subst e
 cases r3
 exact wpAny_truthy_bool ⟨H3,I3,q3⟩
def j3c (r r':R2)(ta tb tc:TE):TE:=fun σ H Q=>ta σ H fun x H1=>tb σ H1 fun y H2=>r x y H2 fun z H3=>∃ k,z=.bl k /\
 (if k=true then tc σ H3 fun w' H4=>r' y w' H4 Q else Q (.bl false) H3)
theorem z3r {op op':CmpOp}{r r':R2}(ho:OpR X (compareOp op) r)(ho':OpR X (compareOp op') r')(ha:PE X a ta)(hb:PE X b tb)(hc:PE X c tc)
  (hm:lastMarks [op,op'] [b,c]=false:=by with_unfolding_all rfl):PE X (.Compare a [op,op'] [b,c] pos) (j3c r r' ta tb tc):=by
 intro pins s σ H Q I h
 refine Compare_chain (thn (ha pins s σ H _ I h) fun v s1 ⟨x,H1,I1,r1,q1⟩=>chain_link (thn (hb pins s1 σ H1 _ I1 q1) fun u s2 ⟨y,H2,I2,r2,q2⟩=>
  thn (ho pins s2 σ H2 x y v u _ I2 r1 r2 q2) fun d s3 ⟨z,H3,I3,r3,k,e,q3⟩=>?_)) hm
 subst e
 cases r3
 refine wpAny_truthy_bool ?_
 cases k with
 | false=>exact ite_ff ⟨.bl false,H3,I3,rfl,q3⟩
 | true=>exact ite_tt (chain_last (thn (hc pins s3 σ H3 _ I3 q3) fun w' s4 ⟨z',H4,I4,r4,q4⟩=>ho' pins s4 σ H4 y z' u w' Q I4 r2 r4 q4))
def j6a (K:PySem.W.Frag)(x:V)(H:Hp)(k:Bool):Prop:=
 match x with
 | .non=>k=false
 | .bl b=>k=b
 | .int i=>k=(i != 0)
 | .str y=>y.length<=sizeLine/\k=((y.length:Int) != 0)
 | .byt y=>y.size<=sizeLine/\k=((y.size:Int) != 0)
 | .ref p=>(∃ xs,SqL K H p xs/\k = !xs.isEmpty)\/(∃ xs,SqT K H p xs/\k = !xs.isEmpty)\/∃ kvs,H p=some (.dK kvs)/\k = !kvs.isEmpty
 | _=>False
theorem y7w {κ:Type}{kvs:List (κ×V)}{vs:List (κ×Value)}(r:KV kvs vs):(!vs.isEmpty) = !kvs.isEmpty:=by
 cases r<;>rfl
theorem y2f {xs:List V}{its:List Value}(r:x2i xs its):(!its.toArray.isEmpty) = !xs.isEmpty:=by
 cases r<;>simp
theorem y2b:(sizeLine:Nat)<2 ^ 63:=by rw[sizeLine_eq];decide
theorem j2y:j7f X (fun x H Q=>∃ k,j6a X.K x H k/\Q k H):=by
 intro pins s σ H x v Q I rx h
 obtain⟨k,e,q⟩:=h
 have hl:=y2b
 have hs:sizeLine=16777216:=sizeLine_eq
 cases x with
 | non=>
  cases rx
  have e':k=false:=e
  subst e'
  exact truthy_none ⟨H,I,q⟩
 | bl b=>
  cases rx
  have e':k=b:=e
  subst e'
  exact wpAny_truthy_bool ⟨H,I,q⟩
 | int i=>
  obtain⟨t,rfl⟩:=rx
  have e':k=(i != 0):=e
  subst e'
  exact PySem.P.truthy_int ⟨H,I,q⟩
 | str y=>
  obtain⟨t,rfl⟩:=rx
  obtain⟨hy,e'⟩:y.length<=sizeLine/\k=((y.length:Int) != 0):=e
  subst e'
  exact PySem.P.truthy_str (by omega) ⟨H,I.tok _,q⟩
 | byt y=>
  obtain⟨t,rfl⟩:=rx
  obtain⟨hy,e'⟩:y.size<=sizeLine/\k=((y.size:Int) != 0):=e
  subst e'
  exact PySem.W.truthy_bytes (by omega) ⟨H,I.tok _,q⟩
 | ref p=>
  cases rx
  have e':(∃ xs,SqL X.K H p xs/\k = !xs.isEmpty)\/(∃ xs,SqT X.K H p xs/\k = !xs.isEmpty)\/∃ kvs,H p=some (.dK kvs)/\k = !kvs.isEmpty:=e
  rcases e' with⟨xs,hx,e'⟩|⟨xs,hx,e'⟩|⟨kvs,hx,e'⟩
  ·subst e'
   obtain⟨its,r,pl,hz⟩:=I.list hx
   have hlen:=r.length
   exact wpAny_truthy_list pl.isList (by simp only[List.size_toArray];omega) ⟨H,I.tok _,by rw[y2f r];exact q⟩
  ·subst e'
   obtain⟨its,r,pl,hz⟩:=I.tuple hx
   have hlen:=r.length
   exact truthy_tuple pl (by simp only[List.size_toArray];omega) ⟨H,I.tok _,by rw[y2f r];exact q⟩
  ·subst e'
   obtain⟨hz,hS,vs,r,m⟩:kvs.length<=sizeLine/\(p==sysModules)=false/\∃ vs,KV kvs vs/\s.heap.DictOf (x31 X.prog X.w) p vs:=I.hok p _ hx
   have hlen:kvs.length=vs.length:=Paired.length r
   exact wpAny_truthy_dict hS m (by omega) ⟨H,I.tok _,by rw[y7w r];exact q⟩
 | _=>exact(show False from e).elim
theorem z3k (ha:PE X a ta)(he:∀ whole,isTrue a X.env whole=(do let v <- whole;standAt a.pos;holding [v] (truthy v))) :
  PT X a (fun σ H Q=>ta σ H fun x H'=>∃ k,j6a X.K x H' k/\Q k H'):=by
 intro pins s σ H Q I h
 exact isTrue_plain (thn (ha pins s σ H _ I h) fun v s1 ⟨x,H1,I1,r1,q1⟩=>j2y pins s1 σ H1 x v Q I1 r1 q1) (he _)
theorem y33 {x:V}{us:List Value}(r:x2i [x] us):∃ u,us=[u]/\x3t x u:=by
 cases r with
 | cons r1 r2=>cases r2;exact⟨_,rfl,r1⟩
theorem z3f {x y:V}{us:List Value}(r:x2i [x,y] us):∃ u w',us=[u,w']/\x3t x u/\x3t y w':=by
 cases r with
 | cons r1 r2=>
  cases r2 with
  | cons r3 r4=>cases r4;exact⟨_,_,rfl,r1,r3⟩
theorem z0b (hc:X.calm=true):x9q X (.builtin "max") (fun xs H Q=>∃ i j,xs=[.int i,.int j]/\Q (.int (if j > i then j else i)) H):=by
 intro pins s σ H xs us Q I r h
 obtain⟨i,j,rfl,q⟩:=h
 obtain⟨u,w',rfl,⟨t,rfl⟩,⟨t',rfl⟩⟩:=z3f r
 refine max_two_ints (I.ok.hd hc) fun h' tk k=>⟨_,H,I.kept k,?_,q⟩
 by_cases hj:j > i
 ·rw[if_pos hj,if_pos hj];exact⟨_,rfl⟩
 ·rw[if_neg hj,if_neg hj];exact⟨_,rfl⟩
end
structure ObjM (h:Heap) (x dx C:Addr) (mA:Str->Option Value):Prop where
 obj:h.get? x=some (PySem.W.instObj C dx)
 ns:h.Ns1 dx mA
 ne:dx≠x
theorem y97 {h:Heap}{dx:Addr}{mA:Str->Option Value}(n:h.Ns1 dx mA):∃ od,h.get? dx=some od/\∀ name,PySem.W.lookIn name od=some (mA name):=by
 obtain⟨o,es,ep,ho,hd,hk,_,hm⟩:=n
 refine⟨o,ho,fun name=>?_⟩
 have e:=hm name
 unfold nsFind findBy at e
 rw[<- Array.find?_toList]at e
 unfold PySem.W.lookIn
 rw[hd]
 dsimp only
 split
 ·rename_i y q
  rw[q]at e
  exact congrArg some e
 ·rename_i q
  rw[q]at e
  have a:es.toList.any (·.refKey)=false:=by
   rw[List.any_eq_false]
   intro y hy
   obtain⟨z,t,hkey⟩:=hk y (Array.mem_toList_iff.mp hy)
   simp[DictEntry.refKey,hkey]
  have a':¬ es.toList.any (·.refKey)=true:=by rw[a];exact Bool.false_ne_true
  rw[if_neg a']
  exact congrArg some e
theorem ObjM.look {h:Heap}{x dx C:Addr}{mA:Str->Option Value}(I:ObjM h x dx C mA):∃ od,PySem.W.InstAt h x (PySem.W.instObj C dx) C (some od)/\∀ name,PySem.W.lookIn name od=some (mA name):=
 let ⟨od,ho,hl⟩:=y97 I.ns
 ⟨od,⟨I.obj,rfl,rfl,ho⟩,hl⟩
section
variable {P:Program}{w:World}{H H':Hp}{h h':Heap}{a C dx:Addr}{fs fs':List (Str×V)}
theorem z6z (hok:HOk P w H h)(e:H a=some (.ins C dx fs)):∃ mA,ObjM h a dx C mA/\(∀ f,z94 (fs.lookup f) (mA f))/\PySem.Within mA (fs.map (·.1))/\fs.length<=1000/\H dx=some (.own a):=by
 obtain⟨d,z,ne,ob,mA,n,r,q⟩:=(show x2b P w H h a (.ins C dx fs)from hok a _ e)
 exact⟨mA,⟨ob,n,ne⟩,r,q,z,d⟩
end
structure Cls (K:PySem.W.Frag) (C:Addr):Prop where
 pg:PySem.W.plainGet K C Str.empty=true
 hd:PySem.W.hasDictIn K C=true
 po:PySem.W.plainOver K C=true
 sa:PySem.W.findIn K (.ref C) "__setattr__" = some (some (.builtin "object.__setattr__"))
theorem Cls.get {K:PySem.W.Frag}{C:Addr}(c:Cls K C)(f:Str):PySem.W.plainGet K C f=true:=c.pg
section
variable {X:Cx}{pins:List (Addr×Obj)}{σ:St}{H:Hp}{s:Shared}{A:Around}{E:Value->Shared->Prop}{Q:Value->Shared->Prop}{c:Value}{b:Bool}
inductive TyOf (K:PySem.W.Frag) (H:Hp):V->Value->Prop where
 | non:TyOf K H .non (.type "NoneType")
 | bl (x:Bool):TyOf K H (.bl x) (.type "bool")
 | int (i:Int):TyOf K H (.int i) (.type "int")
 | str (x:Str):TyOf K H (.str x) (.type "str")
 | flt (x:UInt64):TyOf K H (.flt x) (.type "float")
 | lst {a:Addr} {xs:List V} (e:H a=some (.lst xs)):TyOf K H (.ref a) (.type "list")
 | frz {a:Addr} {o:Obj} {xs:List V} (e:H a=some (.frz o (.lst xs))):TyOf K H (.ref a) (.type "list")
 | tup {a:Addr} {xs:List V} (e:H a=some (.tup xs)):TyOf K H (.ref a) (.type "tuple")
 | dK {a:Addr} {kvs:List (Key×V)} (e:H a=some (.dK kvs)):TyOf K H (.ref a) (.type "dict")
 | dT {a:Addr} {kvs:List (List Key×V)} (e:H a=some (.dT kvs)):TyOf K H (.ref a) (.type "dict")
 | ins {a C dx:Addr} {fs:List (Str×V)} (e:H a=some (.ins C dx fs)) (cl:Cls K C) (ha:PySem.W.findIn K (.ref C) "__class__" = some (some (.builtin "object.__class__")))
   (hn:PySem.W.specialIn K (.builtin "object.__class__") "__get__" = some (some (.builtin "getset_descriptor.__get__"))) (htk:PySem.W.takesIn K (.builtin "object.__class__")=some true)
   (hm:PySem.W.mroIn K C (.type "object")=some true):TyOf K H (.ref a) (.ref C)
theorem x3y {x:V}{u t:Value}(I:Inv X pins σ H s)(rx:x3t x u)(ty:TyOf X.K H x t)(e:PySem.W.kitOne X.K t c=some b)(h:∀ tk,Q (.bool b) { s with toks:=tk }) :
  wpAny (model X.prog X.w) A (call (.builtin "isinstance") [u,c]) Q E s:=by
 cases ty with
 | non=>cases (show u=Value.none from rx);exact PySem.W.kia_one PySem.W.kitx_none I.kIn True.intro e (fun z=>nomatch z) h
 | bl y=>cases (show u=Value.bool y from rx);exact PySem.W.kia_one PySem.W.kitx_bool I.kIn True.intro e (fun z=>nomatch z) h
 | int i=>obtain⟨t,q⟩:=(show ∃ t,u=Value.int i t from rx);cases q;exact PySem.W.kia_one PySem.W.kitx_int I.kIn True.intro e (fun z=>nomatch z) h
 | str y=>obtain⟨t,q⟩:=(show ∃ t,u=Value.str y t from rx);cases q;exact PySem.W.kia_one PySem.W.kitx_str I.kIn True.intro e (fun z=>nomatch z) h
 | flt y=>obtain⟨t,q⟩:=(show ∃ t,u=Value.float y t from rx);cases q;exact PySem.W.kia_one PySem.W.kitx_float I.kIn True.intro e (fun z=>nomatch z) h
 | @lst a xs ea=>
  cases (show u=Value.ref a from rx)
  obtain⟨_,_,n,_,h1⟩:=(show x2b X.prog X.w H s.heap a (.lst xs)from I.hok a _ ea)
  exact PySem.W.kia_one PySem.W.kitx_list I.kIn ⟨_,h1,rfl⟩ e (fun z=>nomatch z) h
 | @frz a ob xs ea=>
  cases (show u=Value.ref a from rx)
  obtain⟨_,_,_,n,_,h1⟩:=(show x2b X.prog X.w H s.heap a (.frz ob (.lst xs))from I.hok a _ ea)
  exact PySem.W.kia_one PySem.W.kitx_list I.kIn ⟨_,h1,rfl⟩ e (fun z=>nomatch z) h
 | @tup a xs ea=>
  cases (show u=Value.ref a from rx)
  obtain⟨_,_,_,p⟩:=(show x2b X.prog X.w H s.heap a (.tup xs)from I.hok a _ ea)
  obtain⟨o,h1,h2,_⟩:=p
  exact PySem.W.kia_one PySem.W.kitx_tuple I.kIn ⟨o,h1,h2⟩ e (fun z=>nomatch z) h
 | @dK a kvs ea=>
  cases (show u=Value.ref a from rx)
  obtain⟨_,_,vs,_,p⟩:=(show x2b X.prog X.w H s.heap a (.dK kvs)from I.hok a _ ea)
  obtain⟨o,es,ep,h1,h2,_⟩:=p
  exact PySem.W.kia_one PySem.W.kitx_dict I.kIn ⟨o,h1,h2.1⟩ e (fun z=>nomatch z) h
 | @dT a kvs ea=>
  cases (show u=Value.ref a from rx)
  obtain⟨_,_,xs,_,o,es,ep,h1,h2,_⟩:=(show x2b X.prog X.w H s.heap a (.dT kvs)from I.hok a _ ea)
  exact PySem.W.kia_one PySem.W.kitx_dict I.kIn ⟨o,h1,h2.1⟩ e (fun z=>nomatch z) h
 | @ins a C dx fs ea cl ha hn htk hm=>
  cases (show u=Value.ref a from rx)
  obtain⟨mA,O,_⟩:=z6z I.hok ea
  obtain⟨od,J,_⟩:=O.look
  exact PySem.W.kia_one (PySem.W.kitx_own (cl.get _) cl.hd ha hn htk hm) I.kIn J e (fun z=>nomatch z) h
end
structure Room (k:Nat) (A:Around):Prop where
 hd:A.handled=none
 dp:A.depth+3*k+5<recursionLimit
 un:A.units+16*k+200<cLine
theorem Room.mono {j k:Nat}{A:Around}(r:Room k A)(h:j<=k):Room j A:=⟨r.hd,by have:=r.dp;omega,by have:=r.un;omega⟩
theorem Room.deeper {k:Nat}{A:Around}(r:Room (k+1) A)(env:Env):Room k (A.deeper env):=
 ⟨r.hd,by have:=r.dp;show A.depth+1+3*k+5<_;omega,by have:=r.un;show A.units+3+16*k+200<_;omega⟩
theorem Room.depth {k:Nat}{A:Around}(r:Room k A):A.depth<recursionLimit:=by have:=r.dp;omega
theorem Room.units {k:Nat}{A:Around}(r:Room k A):A.units+64<cLine:=by have:=r.un;omega
def j6d:TA:=fun _ H Q=>Q [] H
def j1d (ta:TE)(tr:TA):TA:=fun σ H Q=>ta σ H fun x H1=>tr σ H1 fun xs H2=>Q (x::xs) H2
section
variable {X:Cx}{e:Expr}{es:List Expr}{te:TE}{t:TA}{pos:Pos}
theorem x7x:PA X [] j6d:=fun _ _ _ _ H Q I h=>Calls.spliced_nil ⟨[],H,I,.nil,h⟩
theorem x3x (ha:PE X e te)(hr:PA X es t)(hs:starEach (e::es) X.env=(false,eval e X.env)::starEach es X.env:=by rfl):PA X (e::es) (j1d te t):=by
 intro pos pins s σ H Q I h
 rw[hs]
 show wpAny _ _ (spliced ((false,eval e X.env)::backTo pos (starEach es X.env))) _ _ s
 refine Calls.spliced_cons (thn (ha pins s σ H _ I h) fun u s1 hh0=>?_)
 obtain⟨x,H1,I1,r1,q1⟩:=hh0
 exact thn (hr pos pins s1 σ H1 _ I1 q1) fun us s2 ⟨xs,H2,I2,r2,q2⟩=>⟨x::xs,H2,I2,.cons r1 r2,q2⟩
def j6y (t:TA):TE:=fun σ H Q=>t σ H fun xs H1=>xs.length<=sizeLine/\∀ p,H1 p=none->Q (.ref p) (upd H1 p (.tup xs))
def j70 (t:TA):TE:=fun σ H Q=>t σ H fun xs H1=>xs.length<=sizeLine/\∀ p,H1 p=none->Q (.ref p) (upd H1 p (.lst xs))
theorem z5f {x1}(h:PA X es t):PE X (.Tuple es x1 pos) (j6y t):=by
 intro pins s σ H Q I hq
 refine wpAny_Tuple_spliced (thn (h pos pins s σ H _ I hq) fun us s1 ⟨xs,H1,I1,r,z,q⟩=>⟨by rw[<- r.length];exact z,?_⟩)
 have hf:H1 s1.heap.objs.size=none:=I1.hok.fresh (Nat.le_refl _)
 refine⟨.ref s1.heap.objs.size,upd H1 s1.heap.objs.size (.tup xs),I1.laid (t':=s1.toks) (fun b u e=>Heap.get?_push_of_some _ e) (Nat.le_refl _) ?_,rfl,q _ hf⟩
 exact⟨z,us,r,⟨_,Heap.get?_push_size _ rfl,rfl,⟨_,rfl⟩,rfl⟩⟩
theorem j1c (h:PA X es t):PE X (.List es pos) (j70 t):=by
 intro pins s σ H Q I hq
 refine wpAny_List_spliced (thn (h pos pins s σ H _ I hq) fun us s1 ⟨xs,H1,I1,r,z,q⟩=>⟨by rw[<- r.length];exact z,?_⟩)
 have hf:H1 s1.heap.objs.size=none:=I1.hok.fresh (Nat.le_refl _)
 refine⟨.ref s1.heap.objs.size,upd H1 s1.heap.objs.size (.lst xs),I1.laid (t':=s1.toks) (fun b u e=>Heap.get?_push_of_some _ e) (Nat.le_refl _) ?_,rfl,q _ hf⟩
 exact⟨z,us,0,r,Heap.get?_push_size _ rfl⟩
end
abbrev Sp:=List V->Hp->VK->XK->Prop
abbrev CXT:=List Env->Hp->Shared->XK->Value->Shared->Prop
structure Env0 (P:Program) (w:World) (K:PySem.W.Frag) (mg:Str->Option Value) (base:Heap) (A:Around) (outer:List Env) (s:Shared) (H:Hp):Prop where
 frames:A.frames=some outer
 mod:Mod K mg base
 bs:∀ b o,base.get? b=some o->s.heap.get? b=some o/\H b=none
 bsz:base.objs.size<=s.heap.objs.size
 funs:s.heap.FunFrames base outer
 frf:∀ b∈frs outer,H b=none
 hok:HOk P w H s.heap
 bare:AllBare s.gens
def CE (outer:List Env)(P:Program)(w:World)(H:Hp)(s:Shared)(Q:VK)(u:Value)(s':Shared):Prop:=
 ∃ v H',s'.os=s.os/\AllBare s'.gens/\Un (frs outer) [] H H' s.heap s'.heap/\HOk P w H' s'.heap/\x3t v u/\Q v H'
def CR (CX:CXT)(outer:List Env)(P:Program)(w:World)(H:Hp)(s:Shared)(Q:VK)(E:XK)(r:Result)(s':Shared):Prop:=
 match r with
 | .ok (.ret u)=>CE outer P w H s Q u s'
 | .ok _=>False
 | .error e=>CX outer H s E e s'
structure FnOk (P:Program) (w:World) (K:PySem.W.Frag) (mg:Str->Option Value) (base:Heap) (CX:CXT) (k:Nat) (f:Addr) (fd:FuncData) (ps:List Str) (sp:Sp):Prop where
 len:∀ vs H Q E,sp vs H Q E->vs.length=ps.length
 run:∀ (A:Around) (outer:List Env) (s:Shared) (H:Hp) (args:Args) (us:List Value) (vs:List V) (Q:VK) (E:XK),Room k A->Env0 P w K mg base A outer s H->BindsTo s fd args (ps.zip us)->x2i vs us->sp vs H Q E->
  codeAny (model P w) A (.call (.ref f) args) (CR CX outer P w H s Q E) s
section
variable {X:Cx}{pins:List (Addr×Obj)}{σ:St}{H:Hp}{s s':Shared}
theorem Inv.env0 (I:Inv X pins σ H s):Env0 X.prog X.w X.K X.mg X.base X.A X.stack s H:=
 ⟨I.ok.frames,I.ok.mod,I.bs,Nat.le_trans I.ok.bsz I.sz,I.stack,I.stkFree,I.hok,I.bare⟩
theorem Inv.after {Q:VK}{u:Value}(I:Inv X pins σ H s)(h:CE X.stack X.prog X.w H s Q u s'):EP X pins σ Q u s':=by
 obtain⟨v,H',os,bare,un,hok,r,q⟩:=h
 obtain⟨hh,g,d,t,os'⟩:=s'
 obtain rfl:os'=s.os:=os
 exact⟨v,H',I.call (h':=hh) (g':=g) (d':=d) (t':=t) (ch:=[]) un hok bare (fun b z=>absurd z (by simp)),r,q⟩
end
def j5u (sp:Sp)(dvs:List V)(E:XK)(t:TA):TE:=fun σ H Q=>t σ H fun vs H1=>sp (vs++dvs) H1 Q E
def y3h (K:PySem.W.Frag)(fd:FuncData)(ps:List Str)(ds:List Value):Prop:=
 ∀ (s:Shared) (us:List Value),K.In s.heap->(us++ds).length=ps.length->BindsTo s fd ⟨us,[]⟩ (ps.zip (us++ds))
theorem y3h.all {K:PySem.W.Frag}{fd:FuncData}{ps:List Str}(h:∀ us:List Value,us.length=ps.length->bindArgs fd ⟨us,[]⟩=pure (ps.zip us)):y3h K fd ps []:=fun s us _ hl=>by
 rw[List.append_nil]at hl ⊢
 exact .of_eq (h us hl)
def y6m (CX:CXT)(X:Cx)(E:XK):Prop:=∀ (pins:List (Addr×Obj)) (σ:St) (H:Hp) (s:Shared) (e:Value) (s':Shared),Inv X pins σ H s->CX X.stack H s E e s'->X.xe e s'
section
variable {X:Cx}{CX:CXT}{k:Nat}{f C:Addr}{fd:FuncData}{ps:List Str}{sp:Sp}{dvs:List V}{ds:List Value}{E:XK}{x m:Str}{p pos apos:Pos}{e o:Expr}{es:List Expr}{ta:TE}{t:TA}
theorem j3l {pins:List (Addr×Obj)}{σ:St}{H:Hp}{s:Shared}{Q:VK}{us:List Value}{vs:List V}(F:FnOk X.prog X.w X.K X.mg X.base CX k f fd ps sp)(hr:Room k X.A)(hb:y3h X.K fd ps ds)(hd:x2i dvs ds)(hx:y6m CX X E)
  (I:Inv X pins σ H s) (r:x2i vs us) (h:sp (vs++dvs) H Q E):wpAny (model X.prog X.w) X.A (call (.ref f) us) (EP X pins σ Q) X.xe s:=by
 have r2:x2i (vs++dvs) (us++ds):=r.append hd
 have hl:(us++ds).length=ps.length:=by rw[<- r2.length];exact F.len _ _ _ _ h
 refine wpAny_call (codeAny_mono (F.run X.A X.stack s H ⟨us,[]⟩ (us++ds) (vs++dvs) Q E hr I.env0 (hb s us I.kIn hl) r2 h) fun r s' hq=>?_)
 cases r with
 | error e=>exact hx pins σ H s e s' I hq
 | ok fl=>
  cases fl with
  | ret u=>exact I.after hq
  | next=>exact False.elim hq
  | brk=>exact False.elim hq
  | cont=>exact False.elim hq
theorem y5r (F:FnOk X.prog X.w X.K X.mg X.base CX k f fd ps sp)(hr:Room k X.A)(hg:Gl X x)(hm:X.mg x=some (.ref f))(hk:PySem.W.keepIn X.K (.ref f)=true)(hb:y3h X.K fd ps ds)(hd:x2i dvs ds)(hx:y6m CX X E)
  (ha:PA X (e::es) t) (hdb:(x==("__debug__":Str))=false:=by decide) (he:starEach (e::es) X.env=(false,eval e X.env)::starEach es X.env:=by rfl) (hpl:(backTo pos (starEach es X.env)).any (·.1)=false:=by rfl) :
  PE X (.Call (.Name x p) (e::es) [] pos) (j5u sp dvs E t):=by
 intro pins s σ H Q I h
 refine wpAny_Call_Name_kw (x8u I hg hm ?_ hdb)
 refine PySem.W.callWith_K (h₀:=X.base) I.ok.mod.kin hk (thn (ha pos pins s σ H _ I h) fun us s1 ⟨vs,H1,I1,r,q⟩=>⟨I1.kIn,?_⟩) he hpl
 exact j3l F hr hb hd hx I1 r q
end
structure FnScope (N P:List Str) (sc:Scope):Prop where
 kind:sc.kind=.function
 co:sc.isCoroutine=false
 gen:sc.isGenerator=false
 nd:N.Nodup
 pre:N.take P.length=P
 par:∀ x∈P,sc.names.lookup x=some .local\/sc.names.lookup x=some .cell
 nofree:∀ y∈sc.names,y.2 ≠ .free
theorem fsq {N P:List Str}{sc:Scope}(a:sc.kind=.function:=by rfl)(b:sc.isCoroutine=false:=by rfl)(c:sc.isGenerator=false:=by rfl)(d:N.Nodup:=by decide +kernel)(e:N.take P.length=P:=by rfl)(f:∀ x∈P,sc.names.lookup x=some .local\/sc.names.lookup x=some .cell:=by decide +kernel)(g:∀ y∈sc.names,y.2 ≠ .free:=by decide +kernel):FnScope N P sc:=⟨a,b,c,d,e,f,g⟩
theorem y3v {kindOf:Str->Option NameKind}{x:Str}:∀ {binds:List (Str×Value)} {m:Str->Option Value},(∀ v,(x,v) ∉ binds)->bindL kindOf binds m x=m x
 | [],_,_=>rfl
 | (n,v)::r,m,h=>by
  unfold bindL
  rw[y3v fun w hw=>h w (List.mem_cons_of_mem _ hw)]
  split
  ·have:x≠n:=by rintro rfl;exact h v List.mem_cons_self
   simp[this]
  ·rfl
theorem y3t {kindOf:Str->Option NameKind}{x:Str}:∀ {binds:List (Str×Value)} {m:Str->Option Value},(∀ v,(x,v) ∉ binds)->bindC kindOf binds m x=m x
 | [],_,_=>rfl
 | (n,v)::r,m,h=>by
  unfold bindC
  rw[y3t fun w hw=>h w (List.mem_cons_of_mem _ hw)]
  split
  ·rfl
  ·have:x≠n:=by rintro rfl;exact h v List.mem_cons_self
   simp[this]
theorem y4d {kindOf:Str->Option NameKind}{x:Str}{v:Value}:∀ {P:List Str} {vs:List Value} {i:Nat} {m:Str->Option Value},P.Nodup->P[i]? = some x->vs[i]? = some v->kindOf x=some .local->
  bindL kindOf (P.zip vs) m x=some v
 | [],_,_,_,_,h,_,_=>by simp at h
 | _::_,[],_,_,_,_,h,_=>by simp at h
 | p::P,w::vs,0,m,nd,h1,h2,hk=>by
  simp at h1 h2;subst h1;subst h2
  show bindL kindOf ((p,w)::P.zip vs) m p=_
  unfold bindL
  rw[y3v fun v hv=>(List.nodup_cons.mp nd).1 (List.of_mem_zip hv).1,if_pos hk]
  simp
 | p::P,w::vs,i+1,m,nd,h1,h2,hk=>by
  show bindL kindOf ((p,w)::P.zip vs) m x=_
  unfold bindL
  exact y4d (i:=i) (List.nodup_cons.mp nd).2 (by simpa using h1) (by simpa using h2) hk
theorem y4p {kindOf:Str->Option NameKind}{x:Str}{v:Value}:∀ {P:List Str} {vs:List Value} {i:Nat} {m:Str->Option Value},P.Nodup->P[i]? = some x->vs[i]? = some v->kindOf x≠some .local->
  bindC kindOf (P.zip vs) m x=some v
 | [],_,_,_,_,h,_,_=>by simp at h
 | _::_,[],_,_,_,_,h,_=>by simp at h
 | p::P,w::vs,0,m,nd,h1,h2,hk=>by
  simp at h1 h2;subst h1;subst h2
  show bindC kindOf ((p,w)::P.zip vs) m p=_
  unfold bindC
  rw[y3t fun v hv=>(List.nodup_cons.mp nd).1 (List.of_mem_zip hv).1,if_neg hk]
  simp
 | p::P,w::vs,i+1,m,nd,h1,h2,hk=>by
  show bindC kindOf ((p,w)::P.zip vs) m x=_
  unfold bindC
  exact y4p (i:=i) (List.nodup_cons.mp nd).2 (by simpa using h1) (by simpa using h2) hk
def y1o (N:List Str)(vs:List V):St:=vs.map some++List.replicate (N.length-vs.length) none
def y2h (CX:CXT)(P:Program)(w:World)(K:PySem.W.Frag)(mg:Str->Option Value)(base:Heap)(N:List Str)(qual:Str)(scope:Scope)(f:Addr)(cd:Value)(A:Around)(outer:List Env)(s:Shared)(H:Hp)(E:XK):Cx where
 prog:=P
 w:=w
 K:=K
 mg:=mg
 base:=base
 A:=A.deeper (envOfC qual scope s.heap.objs.size f cd)
 N:=N
 s₀:=s
 H₀:=H
 env:=envOfC qual scope s.heap.objs.size f cd
 outer:=outer
 stack:=envOfC qual scope s.heap.objs.size f cd::outer
 ex:=[]
 calm:=true
 fn:=fun _=>true
 pn:=[]
 xe:=fun e s'=>wpAny (model P w) (A.deeper (envOfC qual scope s.heap.objs.size f cd)) (leaving (envOfC qual scope s.heap.objs.size f cd) e) (fun _ s''=>CX outer H s E e s'') (fun e' s''=>CX outer H s E e' s'') s'
theorem y6s {sc:Scope}{n:Nat}{x:Str}(h:sc.names.lookup x=some .cell):∃ c,(cellsFrom n sc.names []).lookup x=some c:=by
 have q:=PySem.W.cellsFrom_some sc.names n [] (.inl h)
 exact Option.isSome_iff_exists.mp q
theorem z0r {CX:CXT}{P:Program}{w:World}{K:PySem.W.Frag}{mg:Str->Option Value}{base:Heap}{N ps:List Str}{qual:Str}{scope:Scope}{f:Addr}{cd:Value}{A:Around}{outer:List Env}{s s1:Shared}{H:Hp}{E:XK}{us:List Value}{vs:List V}
  (S:FnScope N ps scope) (hd:A.handled=none) (e0:Env0 P w K mg base A outer s H) (hl:vs.length=ps.length) (r:x2i vs us)
  (x:InCallC s s.heap.objs.size (bindL (envOfC qual scope s.heap.objs.size f cd).kindOf (ps.zip us) fun _=>none) (cellsFrom (s.heap.objs.size+1) scope.names []) (bindC (envOfC qual scope s.heap.objs.size f cd).kindOf (ps.zip us) fun _=>none) s1) :
  Inv (y2h CX P w K mg base N qual scope f cd A outer s H E) [] (y1o N vs) H s1:=by
 have hpl:ps.length<=N.length:=by have:=congrArg List.length S.pre;rw[List.length_take]at this;omega
 obtain⟨h1,tk,rfl,hk⟩:=x.done
 have noA:∀ b:Addr,b ∉ (y2h CX P w K mg base N qual scope f cd A outer s H E).ex:=fun b z=>absurd (show b∈([]:List Addr)from z) (by simp)
 refine⟨⟨e0.mod,S.kind,rfl,rfl,Nat.le_refl _,fun y z c h1 h2=>?_,fun y hy=>?_,fun y c _ h=>?_,fun _=>hd,Around.frames_deeper e0.frames,.inr ⟨rfl,rfl⟩,fun b z=>absurd z (noA b),e0.bs,e0.bsz,fun b _ _=>noA b,fun b z=>absurd z (noA b),e0.funs,e0.frf⟩,
  rfl,e0.bare,Un.kept hk,⟨_,x.toInCall.ns,fun i y v h1 h2 h3=>?_⟩,fun y c h=>⟨_,x.cell y c h⟩,e0.hok.fresh (Nat.le_refl _),fun y c h=>?_,fun p hp=>absurd (show p∈([]:List (Addr×Obj))from hp) (by simp),e0.hok.kept hk,?_⟩
 ·exact name_of_addr x.apart (PySem.mem_of_lookup h1) (PySem.mem_of_lookup h2)
 ·have hy:scope.names.lookup y=some .cell\/scope.names.lookup y=some .free:=hy
  rcases hy with hy|hy
  ·exact y6s hy
  ·exact absurd rfl (S.nofree _ (PySem.mem_of_lookup hy))
 ·exact Nat.le_of_lt (x.above y c (PySem.mem_of_lookup h))
 ·have hi:i<vs.length:=by
   unfold y1o at h2
   by_cases hi:i<vs.length
   ·exact hi
   ·rw[List.getElem?_append_right (by simpa using hi)]at h2
    rw[List.getElem?_replicate]at h2
    split at h2<;>cases h2
  have ha:vs[i]? = some v:=by
   unfold y1o at h2
   rw[List.getElem?_append_left (by simpa using hi),List.getElem?_map]at h2
   cases e:vs[i]? with
   | none=>rw[e]at h2;cases h2
   | some a=>rw[e]at h2;cases h2;rfl
  obtain⟨u,hu,rv⟩:=r.get ha
  have hp:ps[i]? = some y:=by
   rw[<- S.pre,List.getElem?_take_of_lt (by omega)];exact h1
  have ndP:ps.Nodup:=by rw[<- S.pre];exact S.nd.sublist (List.take_sublist _ _)
  refine⟨u,rv,?_⟩
  rcases S.par y (List.mem_of_getElem? hp)with k|k
  ·exact .inl ⟨k,y4d ndP hp hu k⟩
  ·obtain⟨c,e⟩:=y6s (n:=s.heap.objs.size+1) k
   refine .inr ⟨.inl k,c,e,?_⟩
   have q:=x.cell y c e
   rw[y4p ndP hp hu (by show scope.names.lookup y≠_;rw[k];decide)]at q
   exact q
 ·exact e0.hok.fresh (Nat.le_of_lt (x.above y c (PySem.mem_of_lookup h)))
 ·unfold y1o
  show _=N.length
  rw[List.length_append,List.length_map,List.length_replicate]
  omega
theorem z7r {CX:CXT}{P:Program}{w:World}{K:PySem.W.Frag}{mg:Str->Option Value}{base:Heap}{k:Nat}{f:Addr}{name qual:Str}{params:Arguments}{body:List Stmt}{scope:Scope}{dV kV doc pm cdv ct oc:Value}{an od:Option Addr}
  {osl:Array (Option Value)} {N ps:List Str} {sp:Sp} (lk:K.lookup f=some ⟨oc,od,.func (PySem.W.fnOf name qual params body scope dV kV doc pm an cdv ct),osl⟩) (hcd:PySem.W.codeIn K cdv qual=true) (S:FnScope N ps scope)
  (len:∀ vs H Q E,sp vs H Q E->vs.length=ps.length)
  (hbody:∀ (A:Around) (outer:List Env) (s:Shared) (H:Hp) (vs:List V) (Q:VK) (E:XK),Room k (A.deeper (envOfC qual scope s.heap.objs.size f cdv))->sp vs H Q E->
    ∃ t,PSs (y2h CX P w K mg base N qual scope f cdv A outer s H E) body t/\t { nx:=fun _ H'=>Q .non H',rt:=Q } (y1o N vs) H) :
  FnOk P w K mg base CX (k+1) f (PySem.W.fnOf name qual params body scope dV kV doc pm an cdv ct) ps sp:=by
 refine⟨len,fun A outer s H args us vs Q E hr e0 hb r hsp=>?_⟩
 have hl:=len _ _ _ _ hsp
 have KX:K.In s.heap:=e0.mod.kin.keeps fun b o e=>(e0.bs b o e).1
 have lim:s.heap.NoLimit:=e0.mod.nolimit.keeps fun b o e=>(e0.bs b o e).1
 have hkind:∀ y∈ps.zip us,scope.names.lookup y.1=some .local\/(scope.names.lookup y.1=some .cell/\((cellsFrom (s.heap.objs.size+1) scope.names []).lookup y.1).isSome=true):=fun⟨n,v⟩ hy=>by
  rcases S.par n (List.of_mem_zip hy).1 with q|q
  ·exact .inl q
  ·exact .inr ⟨q,PySem.W.cellsFrom_some _ _ _ (.inl q)⟩
 refine codeAny_call_function hr.depth (KX _ _ lk) rfl S.co S.gen rfl (PySem.W.codeRec_of KX hcd) (hb _ _ _ _ ?_)
 refine wpAny_newFunctionEnv_cells S.kind hkind fun env he s1 x=>?_
 subst he
 refine⟨lim.keeps x.toInCall.keep,codeAny_func ?_⟩
 obtain⟨t,ht,hq⟩:=hbody A outer s H vs Q E (hr.deeper _) hsp
 have I:Inv (y2h CX P w K mg base N qual scope f cdv A outer s H E) [] (y1o N vs) H s1:=z0r S hr.hd e0 hl r x
 refine wpAny_mono (ht [] s1 (y1o N vs) H _ I hq) (fun fl s' hs=>?_) fun e s' hs=>hs
 have fin:∀ {σ':St} {H':Hp} {v:V} {u:Value},Inv (y2h CX P w K mg base N qual scope f cdv A outer s H E) [] σ' H' s'->x3t v u->Q v H'->CE outer P w H s Q u s':=
  fun {σ' H' v u} J rv q=>⟨v,H',J.os,J.bare,J.base,J.hok,rv,q⟩
 cases fl with
 | ret u=>
  obtain⟨v,σ',H',J,rv,q⟩:=hs
  exact fin J rv q
 | next=>
  obtain⟨σ',H',J,q⟩:=hs
  exact fin (v:=V.non) (u:=Value.none) J rfl q
 | brk=>
  obtain⟨_,_,_,q⟩:=hs
  exact False.elim q
 | cont=>
  obtain⟨_,_,_,q⟩:=hs
  exact False.elim q
section
variable {X:Cx}{x:Str}{p pos:Pos}{e:Expr}{es:List Expr}{t:TA}{id T:String}{r:List V->Hp->VK->Prop}
def tCB (r:List V->Hp->VK->Prop)(t:TA):TE:=fun σ H Q=>t σ H fun vs H1=>r vs H1 Q
theorem x4y (hc:x9q X (.builtin id) r)(hg:Gl X x)(hm:X.mg x=none)(hv:bootBuiltins x=some (.builtin id))(ha:PA X (e::es) t)(hn:x ≠ "__name__":=by decide)(hdb:(x==("__debug__":Str))=false:=by decide)
  (he:starEach (e::es) X.env=(false,eval e X.env)::starEach es X.env:=by rfl) (hpl:(backTo pos (starEach es X.env)).any (·.1)=false:=by rfl):PE X (.Call (.Name x p) (e::es) [] pos) (tCB r t):=by
 intro pins s σ H Q I h
 refine wpAny_Call_Name_kw (y21 I hg hm hv ?_ hn hdb)
 exact PyProof.Rows.callWith_builtin1 (thn (ha pos pins s σ H _ I h) fun us s1 ⟨vs,H1,I1,r1,q1⟩=>hc pins s1 σ H1 vs us Q I1 r1 q1) he hpl
theorem x68 (hc:x9q X (.type T) r)(hg:Gl X x)(hm:X.mg x=none)(hv:bootBuiltins x=some (.type T))(ha:PA X (e::es) t)(hn:x ≠ "__name__":=by decide)(hdb:(x==("__debug__":Str))=false:=by decide)
  (he:starEach (e::es) X.env=(false,eval e X.env)::starEach es X.env:=by rfl) (hpl:(backTo pos (starEach es X.env)).any (·.1)=false:=by rfl):PE X (.Call (.Name x p) (e::es) [] pos) (tCB r t):=by
 intro pins s σ H Q I h
 refine wpAny_Call_Name_kw (y21 I hg hm hv ?_ hn hdb)
 exact PyProof.Rows.callWith_type1 (thn (ha pos pins s σ H _ I h) fun us s1 ⟨vs,H1,I1,r1,q1⟩=>hc pins s1 σ H1 vs us Q I1 r1 q1) he hpl
end
end L2
namespace HT
open PySem PyProof.Rows
section
open PySem.SeqAt
open PySem.AutoSeq1 (wpAny_loadPart')
open PySem.MeetsSeq PySem.MeetsSeq2 PySem.MeetsSeq3
end
section
variable {prog:Program}{w:World}{A:Around}{E:Value->Shared->Prop}{s:Shared}
theorem j5a {t b:Addr}{vs ws:List Value}{Q:Value->Shared->Prop}(ht:IsTup s.heap t vs.toArray)(hb:IsTup s.heap b ws.toArray)(hv:vs ≠ [])
  (h1:ws=[]->Q (.ref t) s) (h2:ws ≠ []->Q (.ref s.heap.objs.size) { s with heap:=s.heap.push { cls:=.type "tuple",data:=.seq (vs++ws).toArray } })
  (hsz:vs.length+ws.length<=sizeLine):wpAny (model prog w) A (binaryOp .Add (.ref t) (.ref b)) Q E s:=by
 obtain⟨⟨cls,dd,data,sl⟩,ho,hc,n,hd⟩:=id ht
 obtain⟨⟨cls2,dd2,data2,sl2⟩,ho2,hc2,n2,hd2⟩:=id hb
 simp only at hc hd hc2 hd2
 subst hc hd hc2 hd2
 have e:vs.toArray++ws.toArray=(vs++ws).toArray:=by simp
 by_cases hw:ws=[]
 ·exact concat_meets ⟨_,ho,rfl⟩ ⟨_,ho2,rfl⟩ noFill_tuple_add seq_tuple_add PySem.F.slot_tuple_add PySem.F.entry_tuple_add (PySem.F.args_tuple_add_2 _ _)
   (tuple_addW1 t b vs.toArray ws.toArray n n2 dd dd2 sl sl2 (by simpa using hv) (by simp[hw])) ⟨ho,ho2,h1 hw⟩
 ·refine concat_meets ⟨_,ho,rfl⟩ ⟨_,ho2,rfl⟩ noFill_tuple_add seq_tuple_add PySem.F.slot_tuple_add PySem.F.entry_tuple_add (PySem.F.args_tuple_add_2 _ _)
   (tuple_addW2 t b vs.toArray ws.toArray n n2 dd dd2 sl sl2 (by simpa using hv) (by simpa using hw) (by rw[List.size_toArray,List.size_toArray];exact hsz)) ⟨ho,ho2,?_⟩
  rw[e]
  exact h2 hw
def sIx (n d:Nat):Option Int->Nat
 | none=>d
 | some v=>if v<0 then(v+(n:Int)).toNat else min v.toNat n
theorem j1f (n d:Nat)(hd:d<=n)(o:Option Int):sIx n d o<=n:=by
 cases o with
 | none=>exact hd
 | some v=>
  show(if v<0 then(v+(n:Int)).toNat else min v.toNat n)<=n
  by_cases hv:v<0
  ·rw[if_pos hv];omega
  ·rw[if_neg hv];exact Nat.min_le_right _ _
theorem z1r (v:Int)(n d:Nat):(if v<0 then max (v+(n:Int)) 0 else min v (n:Int))=((sIx n d (some v):Nat):Int):=by
 show(if v<0 then max (v+(n:Int)) 0 else min v (n:Int))=(((if v<0 then(v+(n:Int)).toNat else min v.toNat n):Nat):Int)
 by_cases hv:v<0
 ·simp only[if_pos hv];omega
 ·simp only[if_neg hv];omega
theorem y7q (lo hi:Option Int)(n:Nat):Builtin.Slice.sliceAdjust lo hi 1 (n:Int)=(((sIx n 0 lo:Nat):Int),((sIx n n hi:Nat):Int)):=by
 have h1:¬ ((1:Int)<0):=by omega
 unfold Builtin.Slice.sliceAdjust
 simp only[h1,if_false]
 refine Prod.ext ?_ ?_
 ·cases lo with
  | none=>rfl
  | some v=>exact z1r v n 0
 ·cases hi with
  | none=>rfl
  | some v=>exact z1r v n n
theorem y8a (i j:Nat):Builtin.Slice.slicePlaces (i:Int) (j:Int) 1=j-i:=by
 unfold Builtin.Slice.slicePlaces
 have h1:(1:Int) > 0:=by omega
 simp only[h1,if_true,Int.ediv_one]
 split<;>omega
theorem y2g {v:Value}{o:Option Int}{Q:Option Int->Shared->Prop}(p:IsPart v o)(h:Q o s):wpAny (model prog w) A (Builtin.Slice.slicePartIndex v) Q E s:=by
 cases p with
 | none=>exact slicePart_none h
 | int i t=>exact slicePart_int h
theorem x9l {sl:Addr}{vl vu:Value}{lo hi:Option Int}{n:Nat}{Q:Int×Int×Nat->Shared->Prop}(hs:s.heap.IsSliceOf sl vl vu .none)(pl:IsPart vl lo)(pu:IsPart vu hi)
  (h:Q (((sIx n 0 lo:Nat):Int),1,sIx n n hi-sIx n 0 lo) s):wpAny (model prog w) A (Builtin.Slice.sliceApplied (.ref sl) (pure (n:Int))) Q E s:=by
 obtain⟨os,hos,hcs,hds⟩:=id hs
 unfold Builtin.Slice.sliceApplied Builtin.Slice.sliceFields
 refine wpAny_bind (wpAny_bind (wpAny_field hos hds (x:=vl) rfl (wpAny_bind (wpAny_field hos hds (x:=vu) rfl (wpAny_bind (wpAny_field hos hds (x:=.none) rfl (wpAny_pure ?_)))))))
 refine wpAny_bind (slicePart_none ?_)
 show wpAny _ _ (if((1:Int)==0)=true then _ else _) _ _ s
 rw[if_neg (by decide)]
 refine wpAny_bind (y2g pl (wpAny_bind (y2g pu (wpAny_bind (wpAny_pure ?_)))))
 show wpAny _ _ (match Builtin.Slice.sliceAdjust lo hi 1 (n:Int)with|(lo,hi)=>pure (lo,(1:Int),Builtin.Slice.slicePlaces lo hi 1)) _ _ s
 rw[y7q lo hi n]
 show wpAny _ _ (pure (((sIx n 0 lo:Nat):Int),(1:Int),Builtin.Slice.slicePlaces ((sIx n 0 lo:Nat):Int) ((sIx n n hi:Nat):Int) 1)) _ _ s
 rw[y8a]
 exact wpAny_pure h
theorem z2q (xs:Array Value)(i k:Nat):((List.range k).filterMap fun(m:Nat)=>xs[((i:Int)+(m:Int)*1).toNat]?).toArray=((xs.toList.drop i).take k).toArray:=by
 have e:(fun(m:Nat)=>xs[((i:Int)+(m:Int)*1).toNat]?)=fun m=>xs[i+m]?:=by
  funext m
  have:((i:Int)+(m:Int)*1).toNat=i+m:=by omega
  rw[this]
 rw[e]
 have:=pick_run xs i k
 rw[List.filterMap_map]at this
 have e2:((fun x=>xs[x]?) ∘ fun x=>i+x)=fun m=>xs[i+m]?:=rfl
 rw[e2]at this
 rw[this]
theorem y8i {t sl:Addr}{items:Array Value}{vl vu:Value}{lo hi:Option Int}{Q:Value->Shared->Prop}(ht:IsTup s.heap t items)(hs:s.heap.IsSliceOf sl vl vu .none)(pl:IsPart vl lo)(pu:IsPart vu hi)
  (hw:¬ (sIx items.size 0 lo=0/\sIx items.size items.size hi=items.size))
  (h:Q (.ref s.heap.objs.size) { s with heap:=s.heap.push { cls:=.type "tuple",data:=.seq ((items.toList.drop (sIx items.size 0 lo)).take (sIx items.size items.size hi-sIx items.size 0 lo)).toArray } })
  (hsz:items.size<=sizeLine):wpAny (model prog w) A (getItem (.ref t) (.ref sl)) Q E s:=by
 have htake:sizeOk (.seq ((items.toList.drop (sIx items.size 0 lo)).take (sIx items.size items.size hi-sIx items.size 0 lo)).toArray):=by
  show((items.toList.drop (sIx items.size 0 lo)).take (sIx items.size items.size hi-sIx items.size 0 lo)).toArray.size<=sizeLine
  rw[List.size_toArray,List.length_take,List.length_drop,Array.length_toList]
  omega
 have hj:sIx items.size items.size hi<=items.size:=j1f _ _ (Nat.le_refl _) hi
 obtain⟨os,hos,hcs,hds⟩:=id hs
 have hTs:s.TypeIs (.ref sl) "slice":=⟨os,hos,hcs⟩
 unfold getItem
 try with_reducible refine wpAny_holding ?_
 first|refine wpAny_bind (wpAny_pure ?_)|skip
 refine wpAny_bind (wpAny_sequenceKey ht.typeIs (by decide) ?_)
 refine wpAny_bind (wpAny_callSpecial?_slot (name:=Str.ofString "__getitem__") ht.typeIs PyProof.Rows.slot_tuple_getitem
  (wpAny_call_entry PyProof.Rows.slot_tuple_getitem ht.typeIs entry_tuple_getitem ?_ (args_tuple_getitem _ _)))
 show wpAny _ _ (Builtin.Tuple.tupleItemsOf (.ref t) >>= _) _ _ s
 refine wpAny_bind (tupleItemsOf_ ht ?_)
 refine wpAny_bind (wpAny_typeOf hTs ?_)
 rw[if_pos (by decide)]
 refine wpAny_bind (x9l hs pl pu ?_)
 have hno:¬ ((((sIx items.size 0 lo:Nat):Int)==0&&(1:Int)==1&&(sIx items.size items.size hi-sIx items.size 0 lo)==items.size)=true):=by
  intro q
  rw[Bool.and_eq_true,Bool.and_eq_true]at q
  have q1:((sIx items.size 0 lo:Nat):Int)=0:=eq_of_beq q.1.1
  have q2:sIx items.size items.size hi-sIx items.size 0 lo=items.size:=eq_of_beq q.2
  exact hw ⟨by omega,by omega⟩
 show wpAny _ _ (if(((sIx items.size 0 lo:Nat):Int)==0&&(1:Int)==1&&(sIx items.size items.size hi-sIx items.size 0 lo)==items.size)=true then _ else _) _ _ s
 rw[if_neg hno,z2q]
 first
  | exact wpAny_bind (m:=Builtin.Tuple.tupleExact _) (wpAny_newObj_type (wpAny_pure ⟨_,rfl,wpAny_pure h⟩) htake)
  | exact wpAny_bind (m:=Builtin.Tuple.tupleExact _) (wpAny_newObj_type (wpAny_bind (wpAny_pure (wpAny_pure ⟨_,rfl,wpAny_pure h⟩))) htake)
  | exact wpAny_bind (wpAny_bind (m:=Builtin.Tuple.tupleExact _) (wpAny_newObj_type (wpAny_pure (wpAny_pure ⟨_,rfl,wpAny_pure h⟩)) htake))
  | exact wpAny_bind (wpAny_bind (m:=Builtin.Tuple.tupleExact _) (wpAny_newObj_type (wpAny_pure ⟨_,rfl,wpAny_pure h⟩) htake))
end
end HT
namespace L2
open PySem PySem.Spec PyProof.Rows
abbrev TO:=St->Hp->(Option Int->Hp->Prop)->Prop
def PO (X:Cx)(e:Option Expr)(t:TO):Prop:=
 ∀ (pins:List (Addr×Obj)) (s:Shared) (σ:St) (H:Hp) (Q:Option Int->Hp->Prop),Inv X pins σ H s->t σ H Q->
  wpAny (model X.prog X.w) X.A (evalPart e X.env) (fun u s'=>∃ o H',Inv X pins σ H' s'/\IsPart u o/\Q o H') X.xe s
def z7m:TO:=fun _ H Q=>Q none H
def j5n (t:TE):TO:=fun σ H Q=>t σ H fun x H1=>∃ i,x=.int i/\Q (some i) H1
section
variable {X:Cx}{e:Expr}{te:TE}{lo hi:Option Expr}{tl th:TO}{pos p2:Pos}
theorem z7x:PO X none z7m:=by
 intro pins s σ H Q I h
 rw[evalPart_none]
 exact wpAny_pure ⟨none,H,I,.none,h⟩
theorem z7t (h:PE X e te):PO X (some e) (j5n te):=by
 intro pins s σ H Q I hw
 rw[evalPart_some]
 refine thn (h pins s σ H _ I hw) fun u s1 hh0=>?_
 obtain⟨x,H1,I1,r1,q1⟩:=hh0
 obtain⟨i,rfl,q⟩:=q1
 obtain⟨t,rfl⟩:=r1
 exact⟨some i,H1,I1,.int i t,q⟩
def SlR (X:Cx)(r:V->Option Int->Option Int->Hp->VK->Prop):Prop:=
 ∀ (pins:List (Addr×Obj)) (s:Shared) (σ:St) (H:Hp) (x:V) (v vl vu:Value) (lo hi:Option Int) (sl:Addr) (Q:VK),Inv X pins σ H s->x3t x v->s.heap.IsSliceOf sl vl vu .none->IsPart vl lo->IsPart vu hi->r x lo hi H Q->
  ∃ T id,typeLookup (.type T) "__getitem__" = pure (some (.builtin id))/\s.TypeIs v T/\wpAny (model X.prog X.w) X.A (getItem v (.ref sl)) (EP X pins σ Q) X.xe s
theorem SlR.or {r r':V->Option Int->Option Int->Hp->VK->Prop}(h:SlR X r)(h':SlR X r'):SlR X (fun x lo hi H Q=>r x lo hi H Q\/r' x lo hi H Q):=by
 intro pins s σ H x v vl vu lo hi sl Q I rx hs pl pu q
 rcases q with q|q
 ·exact h pins s σ H x v vl vu lo hi sl Q I rx hs pl pu q
 ·exact h' pins s σ H x v vl vu lo hi sl Q I rx hs pl pu q
def tSl (r:V->Option Int->Option Int->Hp->VK->Prop)(te:TE)(tl th:TO):TE:=fun σ H Q=>te σ H fun x H1=>tl σ H1 fun l H2=>th σ H2 fun u H3=>r x l u H3 Q
theorem z3l {r:V->Option Int->Option Int->Hp->VK->Prop}(hr:SlR X r)(he:PE X e te)(hl:PO X lo tl)(hu:PO X hi th):PE X (.Subscript e (.Slice lo hi none p2) pos) (tSl r te tl th):=by
 intro pins s σ H Q I h
 refine Subscript_ (thn (he pins s σ H _ I h) fun v s1 hh0=>?_)
 obtain⟨x,H1,I1,r1,q1⟩:=hh0
 refine wpAny_Slice (thn (hl pins s1 σ H1 _ I1 q1) fun vl s2 ⟨l,H2,I2,pl,q2⟩=>thn (hu pins s2 σ H2 _ I2 q2) fun vu s3 hh0=>?_)
 obtain⟨u,H3,I3,pu,q3⟩:=hh0
 rw[evalPart_none]
 refine wpAny_pure ?_
 have I4:Inv X pins σ H3 { s3 with heap:=s3.heap.push { cls:=.type "slice",data:=.fields #[vl,vu,.none] } }:=I3.kept (t':=s3.toks) fun b ob q=>Heap.get?_push_of_some _ q
 obtain⟨T,id,hT,ht,hg⟩:=hr pins { s3 with heap:=s3.heap.push { cls:=.type "slice",data:=.fields #[vl,vu,.none] } } σ H3 x v vl vu l u s3.heap.objs.size Q I4 r1 (Heap.IsSliceOf.new ..) pl pu q3
 show wpAny (model X.prog X.w) X.A (subscriptTail e (.Slice lo hi none p2) v (.ref s3.heap.objs.size)) (EP X pins σ Q) X.xe { s3 with heap:=s3.heap.push { cls:=.type "slice",data:=.fields #[vl,vu,.none] } }
 exact tail_any (ops:=[.ref s3.heap.objs.size,v]) ht hT hg (by with_unfolding_all rfl)
def z5i (xs:List V)(lo hi:Option Int):List V:=(xs.drop (HT.sIx xs.length 0 lo)).take (HT.sIx xs.length xs.length hi-HT.sIx xs.length 0 lo)
theorem y0d (xs:List V)(lo hi:Option Int):(z5i xs lo hi).length<=xs.length:=by
 unfold z5i
 rw[List.length_take,List.length_drop]
 omega
def j6q (K:PySem.W.Frag):V->Option Int->Option Int->Hp->VK->Prop:=fun x lo hi H Q=>∃ a xs,x=.ref a/\SqT K H a xs /\
 ¬ (HT.sIx xs.length 0 lo=0/\HT.sIx xs.length xs.length hi=xs.length)/\∀ p,H p=none->Q (.ref p) (upd H p (.tup (z5i xs lo hi)))
theorem j1u:SlR X (j6q X.K):=by
 intro pins s σ H x v vl vu lo hi sl Q I rx hs pl pu h
 obtain⟨a,xs,rfl,hx,hw,q⟩:=h
 cases rx
 obtain⟨its,r,ht,hz⟩:=I.tuple hx
 have hlen:its.toArray.size=xs.length:=by rw[List.size_toArray];exact r.length.symm
 refine⟨"tuple",_,PyProof.Rows.slot_tuple_getitem.lookup,ht.typeIs,?_⟩
 refine HT.y8i ht hs pl pu (by rw[hlen];exact hw) ?_ (by rw[hlen];exact hz)
 rw[hlen]
 refine⟨.ref s.heap.objs.size,_,I.laid (t':=s.toks) (o:=.tup (z5i xs lo hi)) (fun b ob q=>Heap.get?_push_of_some _ q) (Nat.le_refl _) ?_,rfl,q _ (I.hok.fresh (Nat.le_refl _))⟩
 exact⟨Nat.le_trans (y0d xs lo hi) hz,_,(r.drop (HT.sIx xs.length 0 lo)).take (HT.sIx xs.length xs.length hi-HT.sIx xs.length 0 lo),x5h.new _ _⟩
def j5y (K:PySem.W.Frag):R2:=fun x y H Q=>∃ a b xs ys,x=.ref a/\y=.ref b/\SqT K H a xs/\SqT K H b ys/\xs ≠ []/\xs.length+ys.length<=sizeLine /\
 (ys=[]->Q (.ref a) H)/\(ys ≠ []->∀ p,H p=none->Q (.ref p) (upd H p (.tup (xs++ys))))
theorem x2i.nil_iff {xs:List V}{us:List Value}(r:x2i xs us):us=[] ↔ xs=[]:=by
 cases r with
 | nil=>simp
 | cons _ _=>simp
theorem z7s:OpR X (binaryOp .Add) (j5y X.K):=by
 intro pins s σ H x y v u Q I rx ry h
 obtain⟨a,b,xs,ys,rfl,rfl,ha,hb,hx,hz,q1,q2⟩:=h
 cases rx
 cases ry
 obtain⟨its,r1,p1,_⟩:=I.tuple ha
 obtain⟨its2,r2,p2,_⟩:=I.tuple hb
 refine HT.j5a p1 p2 (fun z=>hx (r1.nil_iff.mp z)) (fun z=>⟨.ref a,H,I,rfl,q1 (r2.nil_iff.mp z)⟩) (fun z=>?_) (by rw[<- r1.length,<- r2.length];exact hz)
 refine⟨.ref s.heap.objs.size,_,I.laid (t':=s.toks) (o:=.tup (xs++ys)) (fun b ob q=>Heap.get?_push_of_some _ q) (Nat.le_refl _) ?_,rfl,q2 (fun w=>z (r2.nil_iff.mpr w)) _ (I.hok.fresh (Nat.le_refl _))⟩
 exact⟨by rw[List.length_append];exact hz,_,r1.append r2,x5h.new _ _⟩
end
def ixN (n:Nat)(i:Int):Option Nat:=if 0<=i then(if i<n then some i.toNat else none)else if -(n:Int)<=i then some (i+n).toNat else none
def atI {α:Type}(xs:List α)(i:Int):Option α:=(ixN xs.length i).bind fun j=>xs[j]?
theorem y5x {n:Nat}{i:Int}{j:Nat}(h:ixN n i=some j):seqIndex? i n=some j/\j<n /\ -(n:Int)<=i/\i<n:=by
 unfold ixN at h
 by_cases h0:0<=i
 ·rw[if_pos h0]at h
  by_cases h1:i<n
  ·rw[if_pos h1]at h
   have e:i.toNat=j:=Option.some.inj h
   exact⟨by rw[seqIndex_of h0 h1,e],by omega,by omega,h1⟩
  ·rw[if_neg h1]at h;cases h
 ·rw[if_neg h0]at h
  by_cases h1:-(n:Int)<=i
  ·rw[if_pos h1]at h
   have e:(i+n).toNat=j:=Option.some.inj h
   exact⟨by rw[seqIndex_neg (by omega) h1,e],by omega,h1,by omega⟩
  ·rw[if_neg h1]at h;cases h
theorem y62 {α:Type}{xs:List α}{i:Int}{v:α}(h:atI xs i=some v):∃ j,seqIndex? i xs.length=some j/\xs[j]? = some v/\j<xs.length /\ -(xs.length:Int)<=i/\i<xs.length:=by
 unfold atI at h
 cases e:ixN xs.length i with
 | none=>rw[e]at h;cases h
 | some j=>
  rw[e]at h
  obtain⟨h1,h2,h3,h4⟩:=y5x e
  exact⟨j,h1,h,h2,h3,h4⟩
def x4t (b:Expr):Prop:=∀ o i,subscripted b false o i=operate [o,i] (getItem o i)
def IxR (X:Cx)(r:R2):Prop:=
 ∀ (value slice:Expr) (pins:List (Addr×Obj)) (s:Shared) (σ:St) (H:Hp) (x y:V) (v u:Value) (Q:VK),Inv X pins σ H s->x3t x v->x3t y u->r x y H Q->
  subscripted slice false v u=operate [v,u] (getItem v u)->wpAny (model X.prog X.w) X.A (subscriptTail value slice v u) (EP X pins σ Q) X.xe s
def MtR (X:Cx)(id:String)(r:V->List V->Hp->VK->Prop):Prop:=
 ∀ (pins:List (Addr×Obj)) (s:Shared) (σ:St) (H:Hp) (x:V) (xs:List V) (v:Value) (us:List Value) (Q:VK),Inv X pins σ H s->x3t x v->x2i xs us->r x xs H Q->
  wpAny (model X.prog X.w) X.A (call (.builtin id) (v::us)) (EP X pins σ Q) X.xe s
section
variable {X:Cx}{a b:Expr}{ta tb:TE}{pos:Pos}
theorem IxR.or {r r':R2}(h:IxR X r)(h':IxR X r'):IxR X (fun x y H Q=>r x y H Q\/r' x y H Q):=by
 intro value slice pins s σ H x y v u Q I rx ry q hs
 rcases q with q|q
 ·exact h value slice pins s σ H x y v u Q I rx ry q hs
 ·exact h' value slice pins s σ H x y v u Q I rx ry q hs
theorem z0o {r:R2}(hr:IxR X r)(ha:PE X a ta)(hb:PE X b tb)(hs:x4t b):PE X (.Subscript a b pos) (tOp r ta tb):=by
 intro pins s σ H Q I h
 exact Subscript_ (j67 ha hb I h fun v u s2 x y H2 I2 rx ry q=>hr a b pins s2 σ H2 x y v u Q I2 rx ry q (hs _ _))
def j69 (K:PySem.W.Frag):R2:=fun x y H Q=>∃ p xs i v,x=.ref p/\y=.int i/\SqL K H p xs/\atI xs i=some v/\Q v H
def j6c (K:PySem.W.Frag):R2:=fun x y H Q=>∃ p xs i v,x=.ref p/\y=.int i/\SqT K H p xs/\atI xs i=some v/\Q v H
def j6f:R2:=fun x y H Q=>∃ z i c,x=.str z/\y=.int i/\z.length<=sizeLine/\atI z.cps.toList i=some c/\Q (.str ⟨#[c]⟩) H
theorem z9d:IxR X (j69 X.K):=by
 intro value slice pins s σ H x y v u Q I rx ry h hs
 obtain⟨p,xs,i,z,rfl,rfl,hq,he,q⟩:=h
 cases rx
 obtain⟨t,rfl⟩:=ry
 obtain⟨its,r,pl,hz⟩:=I.list hq
 obtain⟨j,h1,h2,h3,h4,h5⟩:=y62 he
 obtain⟨w,ew,rw'⟩:=r.get h2
 have hl:=r.length
 have hn:=y2b
 have fin:EP X pins σ Q w s:=⟨z,H,I,rw',q⟩
 by_cases h0:0<=i
 ·have hj:i.toNat=j:=by
   rw[seqIndex_of h0 h5]at h1
   exact Option.some.inj h1
  exact item_listR pl.isList h0 (by omega) (by rw[hj];simpa using ew) fin hs
 ·have hj:(i+(its.toArray.size:Int)).toNat=j:=by
   rw[seqIndex_neg (by omega) h4]at h1
   rw[List.size_toArray,<- hl]
   exact Option.some.inj h1
  exact subscriptTail_builtinR (x:=w) pl.isList.typeIs slot_list_getitem.lookup
   (wpAny_getItem_list_neg (Q:=fun r s'=>r=w/\EP X pins σ Q r s') pl.isList (by omega) (by rw[List.size_toArray]<;>omega) (by omega) (by rw[hj];simpa using ew) ⟨rfl,fin⟩) hs
theorem j0q:IxR X (j6c X.K):=by
 intro value slice pins s σ H x y v u Q I rx ry h hs
 obtain⟨p,xs,i,z,rfl,rfl,hq,he,q⟩:=h
 cases rx
 obtain⟨t,rfl⟩:=ry
 obtain⟨its,r,pl,hz⟩:=I.tuple hq
 obtain⟨j,h1,h2,h3,h4,h5⟩:=y62 he
 obtain⟨w,ew,rw'⟩:=r.get h2
 have hl:=r.length
 have hn:=y2b
 have fin:EP X pins σ Q w s:=⟨z,H,I,rw',q⟩
 exact subscriptTail_builtinR (x:=w) pl.typeIs slot_tuple_getitem.lookup
  (getItem_tuple (j:=j) (Q:=fun r s'=>r=w/\EP X pins σ Q r s') pl (by omega) (by omega) (by rw[List.size_toArray,<- hl];exact h1) (by simpa using ew) ⟨rfl,fin⟩) hs
theorem j3r:IxR X j6f:=by
 intro value slice pins s σ H x y v u Q I rx ry h hs
 obtain⟨z,i,c,rfl,rfl,hz,he,q⟩:=h
 obtain⟨t,rfl⟩:=rx
 obtain⟨t',rfl⟩:=ry
 obtain⟨j,h1,h2,h3,h4,h5⟩:=y62 he
 have hl:z.cps.toList.length=z.length:=by simp[Str.length]
 rw[hl]at h1 h4 h5
 have hn:=y2b
 exact tail_any (typeIs_str s z t) slot_str_getitem.lookup (getItem_str (c:=c) (by
  have e1:decide (i < -(2 ^ 63:Int))=false:=decide_eq_false (by omega)
  have e2:decide (i ≥ 2 ^ 63)=false:=decide_eq_false (by omega)
  rw[e1,e2,Bool.or_false]) (by rw[h1];simpa using h2) ⟨.str ⟨#[c]⟩,H,I.tok _,⟨_,rfl⟩,q⟩) hs
def rIx (K:PySem.W.Frag):R2:=fun x y H Q=>j69 K x y H Q\/j6c K x y H Q\/j6f x y H Q
theorem y53:IxR X (rIx X.K):=z9d.or (j0q.or j3r)
theorem y8s (its:List Value)(n j:Nat)(u:Value):Obj.mapSeq (·.setIfInBounds j u) { cls:=.type "list",data:=.seq its.toArray n }={ cls:=.type "list",data:=.seq (its.set j u).toArray n }:=by
 simp[Obj.mapSeq]
theorem Inv.lst {pins:List (Addr×Obj)}{σ:St}{H:Hp}{s:Shared}{p:Addr}{xs:List V}(I:Inv X pins σ H s)(h:H p=some (.lst xs)) :
  ∃ (its:List Value) (n:Nat),x2i xs its/\s.heap.get? p=some { cls:=.type "list",data:=.seq its.toArray n }/\xs.length<=sizeLine:=by
 obtain⟨z,its,n,r,e⟩:=I.hok p _ h
 exact⟨its,n,r,e,z⟩
theorem Inv.lstUpd {pins:List (Addr×Obj)}{σ:St}{H:Hp}{s:Shared}{p:Addr}{xs ys:List V}{its its':List Value}{n n':Nat}{f:Obj->Obj}(I:Inv X pins σ H s)(h:H p=some (.lst xs))
  (ho:s.heap.get? p=some { cls:=.type "list",data:=.seq its.toArray n }) (hf:f { cls:=.type "list",data:=.seq its.toArray n }={ cls:=.type "list",data:=.seq its'.toArray n' }) (r:x2i ys its') (hz:ys.length<=sizeLine) (t:Nat) :
  Inv X pins σ (upd H p (.lst ys)) { s with heap:=s.heap.update p f,toks:=t }:=by
 have e:(s.heap.update p f).get? p=some { cls:=.type "list",data:=.seq its'.toArray n' }:=by
  rw[Heap.get?_update_self f ho (by rw[hf]<;>rfl),hf]
 refine I.write (x:=p) (e:=p) (by rw[h];trivial) (.inl rfl) (fun b u hb q=>(Heap.get?_update_other _ _ (Ne.symm hb)).trans q) ⟨_,e⟩ ?_
 exact⟨hz,its',n',r,e⟩
def j4x:V->V->V->Hp->(Hp->Prop)->Prop:=fun o i v H Q=>∃ p xs k j,o=.ref p/\i=.int k/\H p=some (.lst xs)/\ixN xs.length k=some j/\Q (upd H p (.lst (xs.set j v)))
theorem z54:j6m X j4x:=by
 intro pins s σ H o i v ov iv u Q I ro ri rv h
 obtain⟨p,xs,k,j,rfl,rfl,hp,hj,q⟩:=h
 cases ro
 obtain⟨t,rfl⟩:=ri
 obtain⟨its,n,r,ho,hz⟩:=I.lst hp
 obtain⟨h1,h2,h3,h4⟩:=y5x hj
 have hl:=r.length
 have hn:=y2b
 have I':Inv X pins σ (upd H p (.lst (xs.set j v))) { s with heap:=s.heap.update p (Obj.mapSeq (·.setIfInBounds j u)) }:=
  I.lstUpd hp ho (y8s its n j u) (r.set rv j) (by rw[List.length_set];exact hz) s.toks
 by_cases h0:0<=k
 ·have hk:k.toNat=j:=by
   rw[seqIndex_of h0 h4]at h1
   exact Option.some.inj h1
  exact PySem.W.ki_setAt ho h0 (by omega) (by rw[List.size_toArray,<- hl];exact h4) (by rw[hk];exact⟨_,I',q⟩)
 ·have hk:(k+(its.toArray.size:Int)).toNat=j:=by
   rw[seqIndex_neg (by omega) h3]at h1
   rw[List.size_toArray,<- hl]
   exact Option.some.inj h1
  exact PySem.W.ki_setBack ho (by omega) (by rw[List.size_toArray,<- hl];exact h3) (by omega) (by rw[hk];exact⟨_,I',q⟩)
theorem y4a (lo hi:Option Int)(n:Nat):(sliceBounds lo hi none n).1=((HT.sIx n 0 lo:Nat):Int)/\(sliceBounds lo hi none n).2.1=((HT.sIx n n hi:Nat):Int)/\(sliceBounds lo hi none n).2.2=1:=by
 refine⟨?_,?_,rfl⟩
 ·cases lo with
  | none=>simp[sliceBounds,HT.sIx]
  | some i=>
   simp only[sliceBounds,HT.sIx,Option.getD_none,show(1:Int) > 0 by decide,if_true]
   by_cases h:i<0
   ·simp only[h,if_true]<;>omega
   ·simp only[h,if_false]<;>omega
 ·cases hi with
  | none=>simp[sliceBounds,HT.sIx]
  | some i=>
   simp only[sliceBounds,HT.sIx,Option.getD_none,show(1:Int) > 0 by decide,if_true]
   by_cases h:i<0
   ·simp only[h,if_true]<;>omega
   ·simp only[h,if_false]<;>omega
theorem y3f (its:List Value)(lo hi:Option Int):slicePick its.toArray lo hi none=((its.drop (HT.sIx its.length 0 lo)).take (HT.sIx its.length its.length hi-HT.sIx its.length 0 lo)).toArray:=by
 obtain⟨h1,h2,h3⟩:=y4a lo hi its.toArray.size
 unfold slicePick
 rw[h1,h2,h3]
 simp only[sliceRange_one,pick_run,List.size_toArray]<;>rfl
def j7d (K:PySem.W.Frag):V->Option Int->Option Int->Hp->VK->Prop:=fun x lo hi H Q=>∃ a xs,x=.ref a/\SqL K H a xs/\∀ p,H p=none->Q (.ref p) (upd H p (.lst (z5i xs lo hi)))
theorem j52:SlR X (j7d X.K):=by
 intro pins s σ H x v vl vu lo hi sl Q I rx hs pl pu h
 obtain⟨a,xs,rfl,hx,q⟩:=h
 cases rx
 obtain⟨its,r,ht,hz⟩:=I.list hx
 have hlen:=r.length
 refine⟨"list",_,slot_list_getitem.lookup,ht.isList.typeIs,?_⟩
 refine wpAny_getItem_list_slice ht.isList hs pl pu .none (by simp) ?_ (by rw[List.size_toArray]<;>omega)
 rw[y3f,<- hlen]
 refine⟨.ref s.heap.objs.size,_,I.laid (t':=s.toks) (o:=.lst (z5i xs lo hi)) (fun b ob q=>Heap.get?_push_of_some _ q) (Nat.le_refl _) ?_,rfl,q _ (I.hok.fresh (Nat.le_refl _))⟩
 exact⟨Nat.le_trans (y0d xs lo hi) hz,_,0,(r.drop (HT.sIx xs.length 0 lo)).take (HT.sIx xs.length xs.length hi-HT.sIx xs.length 0 lo),Heap.get?_push_size _ rfl⟩
theorem x6f:x9q X (.builtin "len") (fun xs H Q=>∃ p ys,xs=[.ref p]/\(SqL X.K H p ys\/SqT X.K H p ys)/\Q (.int ys.length) H):=by
 intro pins s σ H xs us Q I r h
 obtain⟨p,ys,rfl,hq,q⟩:=h
 obtain⟨u,rfl,rx⟩:=y33 r
 cases rx
 have hn:=y2b
 rcases hq with hq|hq
 ·obtain⟨its,r',pl,hz⟩:=I.list hq
  have hlen:=r'.length
  exact Calls.call_len_list pl.isList (by simp only[List.size_toArray]<;>omega) ⟨.int ys.length,H,I.tok _,⟨s.toks+1,by rw[List.size_toArray,hlen]⟩,q⟩
 ·obtain⟨its,r',pl,hz⟩:=I.tuple hq
  have hlen:=r'.length
  exact len_tuple pl (by simp only[List.size_toArray]<;>omega) ⟨.int ys.length,H,I.tok _,⟨s.toks+1,by rw[List.size_toArray,hlen]⟩,q⟩
theorem y52:x9q X (.type "list") (fun xs H Q=>∃ p ys,xs=[.ref p]/\(SqL X.K H p ys\/SqT X.K H p ys)/\∀ l,H l=none->Q (.ref l) (upd H l (.lst ys))):=by
 intro pins s σ H xs us Q I r h
 obtain⟨p,ys,rfl,hq,q⟩:=h
 obtain⟨u,rfl,rx⟩:=y33 r
 cases rx
 have fin:∀ (its:List Value),x2i ys its->ys.length<=sizeLine->∀ (h':Heap) (c':Nat),(∀ b o',s.heap.get? b=some o'->h'.get? b=some o')->
   h'.get? s.heap.objs.size=some { cls:=.type "list",dict:=none,data:=.seq its.toArray c',slots:=#[] }->EP X pins σ Q (.ref s.heap.objs.size) { s with heap:=h' }:=fun its r' hz h' c' kp e=>
  ⟨.ref s.heap.objs.size,_,I.laid (t':=s.toks) kp (Nat.le_refl _) (show x2b X.prog X.w _ h' _ (.lst ys)from⟨hz,its,c',r',e⟩),rfl,q _ (I.hok.fresh (Nat.le_refl _))⟩
 rcases hq with hq|hq
 ·obtain⟨its,r',pl,hz⟩:=I.list hq
  have hlen:=r'.length
  obtain⟨o,ho,hc,n,hd⟩:=pl.isList
  exact call_list_seq p (.inl rfl) ho hc hd (fun h' c' kp e=>fin its r' hz h' c' kp e) (by simp only[List.size_toArray]<;>omega)
 ·obtain⟨its,r',pl,hz⟩:=I.tuple hq
  have hlen:=r'.length
  obtain⟨o,ho,hc,n,hd⟩:=pl
  exact call_list_seq p (.inr rfl) ho hc hd (fun h' c' kp e=>fin its r' hz h' c' kp e) (by simp only[List.size_toArray]<;>omega)
theorem y36:x9q X (.type "tuple") (fun xs H Q=>∃ p ys,xs=[.ref p]/\((SqL X.K H p ys/\∀ l,H l=none->Q (.ref l) (upd H l (.tup ys)))\/(SqT X.K H p ys/\Q (.ref p) H))):=by
 intro pins s σ H xs us Q I r h
 obtain⟨p,ys,rfl,h⟩:=h
 obtain⟨u,rfl,rx⟩:=y33 r
 cases rx
 rcases h with⟨hq,q⟩|⟨hq,q⟩
 ·obtain⟨its,r',pl,hz⟩:=I.list hq
  have hlen:=r'.length
  refine call_tuple_list pl.isList (fun h' kp=>?_) (by simp only[List.size_toArray]<;>omega)
  have I1:Inv X pins σ H { s with heap:=h' }:=I.kept (t':=s.toks) kp
  have I2:Inv X pins σ (upd H h'.objs.size (.tup ys)) { s with heap:=h'.push { cls:=.type "tuple",data:=.seq its.toArray } }:=
   I1.laid (t':=s.toks) (fun b o e=>Heap.get?_push_of_some _ e) (Nat.le_refl _) (show x2b X.prog X.w _ _ _ (.tup ys)from⟨hz,its,r',x5h.new _ _⟩)
  exact⟨.ref h'.objs.size,_,I2,rfl,q _ (I1.hok.fresh (Nat.le_refl _))⟩
 ·obtain⟨its,r',pl,hz⟩:=I.tuple hq
  exact call_tuple_same pl ⟨.ref p,H,I,rfl,q⟩
def tyV (K:PySem.W.Frag)(T:String)(x:V)(H:Hp):Prop:=match x with
 | .str _=>T = "str"
 | .int _=>T = "int"
 | .ref p=>(T = "list" /\ ∃ xs,SqL K H p xs)\/(T = "tuple" /\ ((∃ o,K.lookup p=some o/\o.cls=.type "tuple" /\ o.dict=none)\/∃ xs,H p=some (.tup xs))) \/
   (T = "dict" /\ ((∃ kvs,H p=some (.dK kvs))\/∃ kvs,H p=some (.dT kvs)))\/(T = "set" /\ ∃ S n,H p=some (.set S n))
 | _=>False
theorem j2p {pins:List (Addr×Obj)}{σ:St}{H:Hp}{s:Shared}{T:String}{x:V}{v:Value}(I:Inv X pins σ H s)(r:x3t x v)(ty:tyV X.K T x H) :
  s.TypeIs v T/\∀ a,v=.ref a->∃ ob,s.heap.get? a=some ob/\ob.dict=none:=by
 cases x with
 | str z=>
  obtain⟨t,rfl⟩:=r
  cases (show T = "str" from ty)
  exact⟨typeIs_str s z t,fun _ e=>nomatch e⟩
 | int i=>
  obtain⟨t,rfl⟩:=r
  cases (show T = "int" from ty)
  exact⟨typeIs_int s i t,fun _ e=>nomatch e⟩
 | ref p=>
  cases r
  rcases ty with⟨rfl,xs,hq⟩|⟨rfl,⟨o,hk,hc,hd⟩|⟨xs,hk⟩⟩|⟨rfl,hk⟩|⟨rfl,S,n,hk⟩
  ·obtain⟨its,_,pl,_⟩:=I.list hq
   refine⟨pl.isList.typeIs,fun a e=>?_⟩
   cases e
   obtain⟨o,n,e,c,hd,_⟩:=pl
   exact⟨o,e,hd⟩
  ·refine⟨⟨o,I.kIn p o hk,hc⟩,fun a e=>?_⟩
   cases e
   exact⟨o,I.kIn _ o hk,hd⟩
  ·obtain⟨_,its,_,o,e,c,_,hd⟩:=(show x2b X.prog X.w H s.heap p (.tup xs)from I.hok p _ hk)
   refine⟨⟨o,e,c⟩,fun a e2=>?_⟩
   cases e2
   exact⟨o,e,hd⟩
  ·have z:∃ o,s.heap.get? p=some o/\o.ExactDict:=by
    rcases hk with⟨kvs,hk⟩|⟨kvs,hk⟩
    ·obtain⟨_,_,_,_,o,_,_,e,ex,_⟩:=I.hok p _ hk
     exact⟨o,e,ex⟩
    ·obtain⟨_,_,_,_,o,_,_,e,ex,_⟩:=I.hok p _ hk
     exact⟨o,e,ex⟩
   obtain⟨o,e,ex⟩:=z
   refine⟨⟨o,e,ex.1⟩,fun a e2=>?_⟩
   cases e2
   exact⟨o,e,ex.2.1⟩
  ·obtain⟨o,_,_,_,e,ex,_⟩:=I.hok p _ hk
   refine⟨⟨o,e,ex.1⟩,fun a e2=>?_⟩
   cases e2
   exact⟨o,e,ex.2.1⟩
 | _=>exact False.elim ty
def tBM (K:PySem.W.Frag)(T:String)(r:V->List V->Hp->VK->Prop)(to:TE)(t:TA):TE:=fun σ H Q=>to σ H fun x H1=>tyV K T x H1/\t σ H1 fun xs H2=>r x xs H2 Q
variable {o e:Expr}{es:List Expr}{to:TE}{t:TA}{name:Str}{apos cpos:Pos}{T id:String}{r:V->List V->Hp->VK->Prop}
theorem y8m (pa:PlainAttrs T)(slot:Slot T name id)(hty:typeOf (.builtin id)=pure (.type "method_descriptor"))(hm:MtR X id r)(ho:PE X o to)(ha:PA X (e::es) t)
  (hbase:attributeBase o name X.env (eval o X.env)=eval o X.env:=by rfl)
  (hfew:((backTo cpos (starEach (e::es) X.env)).all (fun x=>!x.1)&&(backToKw cpos (keywordEach [] X.env)).all (fun x=>x.1.isSome)
    && decide ((e::es).length+([]:List Keyword).length+(if([]:List Keyword).isEmpty then 0 else 1)<30))=true:=by rfl)
  (hline:(apos.endLine==cpos.line)=true:=by rfl) (hs:starEach (e::es) X.env=(false,eval e X.env)::starEach es X.env:=by rfl) (hplain:(backTo cpos (starEach es X.env)).any (·.1)=false:=by rfl) :
  PE X (.Call (.Attribute o name apos) (e::es) [] cpos) (tBM X.K T r to t):=by
 intro pins s σ H Q I h
 refine wpAny_Call_method_late hbase hfew hline rfl (thn (ho pins s σ H _ I h) fun v s1 hh0=>?_)
 obtain⟨x,H1,I1,r1,ty,q1⟩:=hh0
 obtain⟨h1,h2⟩:=j2p I1 r1 ty
 refine⟨T,id,pa,slot,hty,h1,h2,?_⟩
 have hA:=ha cpos pins s1 σ H1 _ I1 q1
 rw[hs]at hA ⊢
 refine Calls.callWith_builtin (by show(false||(backTo cpos (starEach es X.env)).any (·.1))=false;rw[hplain]<;>rfl) (Calls.evalArgs_plain ?_)
 exact thn hA fun us s2 ⟨vs,H2,I2,r2,q2⟩=>hm pins s2 σ H2 x vs v us Q I2 r1 r2 q2
end
def MtM (X:Cx)(id:String)(r:V->List V->Hp->VK->Prop):Prop:=
 ∀ (pins:List (Addr×Obj)) (s:Shared) (σ:St) (H:Hp) (x:V) (xs:List V) (v:Value) (us:List Value) (Q:VK),Inv X pins σ H s->x3t x v->x2i xs us->r x xs H Q->
  wpAny (model X.prog X.w) X.A (call (.builtin id) (v::us)) (EP X pins σ Q) X.xe s
theorem x2i.one:∀ {x:V} {us:List Value},x2i [x] us->∃ u,us=[u]/\x3t x u
 | _,_,.cons r .nil=>⟨_,rfl,r⟩
theorem x2i.eraseIdx:∀ {xs:List V} {us:List Value} (i:Nat),x2i xs us->x2i (xs.eraseIdx i) (us.eraseIdx i)
 | _,_,_,.nil=>.nil
 | _,_,0,.cons _ t=>t
 | _,_,i+1,.cons r t=>.cons r (x2i.eraseIdx i t)
theorem x2i.rep {xs:List V}{us:List Value}(h:x2i xs us):∀ k:Nat,x2i (List.replicate k xs).flatten (List.replicate k us).flatten
 | 0=>.nil
 | k+1=>by
  rw[List.replicate_succ,List.replicate_succ,List.flatten_cons,List.flatten_cons]
  exact x2i.append h (x2i.rep h k)
theorem y43 {α:Type}:∀ (l:List α) (i:Nat),(l.eraseIdx i).length<=l.length
 | [],_=>Nat.le_refl _
 | _::_,0=>Nat.le_succ _
 | _::r,i+1=>Nat.succ_le_succ (y43 r i)
theorem y0q (its:List Value):∀ (k:Nat) (acc:List Value),
  List.foldl (fun x1 x2=>x1++x2) acc.toArray (List.replicate k its.toArray)=(acc++(List.replicate k its).flatten).toArray
 | 0,acc=>by simp
 | k+1,acc=>by
  have e:acc.toArray++its.toArray=(acc++its).toArray:=by simp
  have e2:(acc++its)++(List.replicate k its).flatten=acc++(List.replicate (k+1) its).flatten:=by
   rw[List.replicate_succ,List.flatten_cons,List.append_assoc]
  rw[<- e2,<- y0q its k (acc++its),<- e,List.replicate_succ,List.foldl_cons]
section
variable {X:Cx}{pins:List (Addr×Obj)}{σ:St}{H:Hp}{s:Shared}{l b:Addr}{xs ys zs:List V}
theorem Inv.lset {its its':List Value}{n:Nat}{f:Array Value->Array Value}{t':Nat}(I:Inv X pins σ H s)(hH:H l=some (.lst xs))
  (e:s.heap.get? l=some { cls:=.type "list",data:=.seq its.toArray n }) (hf:f its.toArray=its'.toArray) (hv:x2i ys its') (hz:ys.length<=sizeLine) :
  Inv X pins σ (upd H l (.lst ys)) { s with heap:=s.heap.update l (Obj.mapSeq f),toks:=t' }:=by
 have q:=PySem.IsL.update e f
 rw[hf]at q
 refine I.write (x:=l) (e:=l) (by rw[hH];exact trivial) (.inl rfl) (fun b' u hb hu=>(Heap.get?_update_other s.heap (Obj.mapSeq f) (Ne.symm hb)).trans hu) ⟨_,q⟩ ?_
 exact⟨hz,its',_,hv,q⟩
theorem Inv.lnew {its:List Value}{t':Nat}(I:Inv X pins σ H s)(hv:x2i ys its)(hz:ys.length<=sizeLine) :
  Inv X pins σ (upd H s.heap.objs.size (.lst ys)) { s with heap:=s.heap.push { cls:=.type "list",data:=.seq its.toArray },toks:=t' }:=
 I.laid (fun _ _ q=>Heap.get?_push_of_some _ q) (Nat.le_refl _) ⟨hz,its,0,hv,Heap.get?_push_size _ rfl⟩
theorem Inv.fresh (I:Inv X pins σ H s):H s.heap.objs.size=none:=I.hok.fresh (Nat.le_refl _)
theorem Inv.lstM (I:Inv X pins σ H s)(hH:H l=some (.lst xs)):xs.length<=sizeLine/\∃ (its:List Value) (n:Nat),x2i xs its/\xs.length=its.length/\s.heap.get? l=some { cls:=.type "list",data:=.seq its.toArray n }:=by
 obtain⟨z,its,n,r,e⟩:=I.hok l _ hH
 exact⟨z,its,n,r,r.length,e⟩
theorem y6r {n:Nat}(h:n<=sizeLine):Builtin.List.listTooLong n=false:=by
 unfold Builtin.List.listTooLong
 exact decide_eq_false (by omega)
end
section
variable {X:Cx}
def z8v:V->List V->Hp->VK->Prop:=fun x vs H Q=>∃ l xs y,x=.ref l/\vs=[y]/\H l=some (.lst xs)/\xs.length<sizeLine/\Q .non (upd H l (.lst (xs++[y])))
theorem z0a:MtM X "list.append" z8v:=by
 intro pins s σ H x vs v us Q I rx rv h
 obtain⟨l,xs,y,rfl,rfl,hH,hz,q⟩:=h
 cases rx
 obtain⟨u,rfl,ru⟩:=rv.one
 obtain⟨z,its,n,r,hl,e⟩:=I.lstM hH
 refine call_meets F.slot_list_append ⟨_,e,rfl⟩ F.entry_list_append (F.args_list_append_2 _ _) (PySem.list_append l its.toArray n u (by rw[List.size_toArray];omega)) ⟨e,?_⟩
 refine⟨.non,_,I.lset (its':=its++[u]) hH e (by simp) (r.append (.cons ru .nil)) ?_,rfl,q⟩
 rw[List.length_append,List.length_singleton]
 omega
def z79:V->List V->Hp->VK->Prop:=fun x vs H Q=>∃ l b xs zs,x=.ref l/\vs=[.ref b]/\H l=some (.lst xs)/\H b=some (.lst zs)/\xs.length+zs.length<=sizeLine/\Q .non (upd H l (.lst (xs++zs)))
theorem z08:MtM X "list.extend" z79:=by
 intro pins s σ H x vs v us Q I rx rv h
 obtain⟨l,b,xs,zs,rfl,rfl,hH,hB,hz,q⟩:=h
 cases rx
 obtain⟨u,rfl,ru⟩:=rv.one
 cases ru
 obtain⟨z,its,n,r,hl,e⟩:=I.lstM hH
 obtain⟨z2,its2,n2,r2,hl2,e2⟩:=I.lstM hB
 have hsz:its.toArray.size+its2.toArray.size<=sizeLine:=by rw[List.size_toArray,List.size_toArray];omega
 have hlong:¬ (!its.toArray.isEmpty&&Builtin.List.listTooLong (its.toArray.size+its2.toArray.size))=true:=by
  rw[y6r hsz,Bool.and_false]
  exact Bool.false_ne_true
 refine call_meets F.slot_list_extend ⟨_,e,rfl⟩ F.entry_list_extend (F.args_list_extend_2 _ _)
  (AutoSeq1.list_extend_list_list_0 l its.toArray n b its2.toArray n2 hlong (by rw[List.size_toArray];omega) (by omega)) ⟨e,e2,?_⟩
 refine⟨.non,_,I.lset (its':=its++its2) hH e (by simp) (r.append r2) ?_,rfl,q⟩
 rw[List.length_append]
 omega
def j2l:V->List V->Hp->VK->Prop:=fun x vs H Q=>∃ l xs i k y,x=.ref l/\vs=[.int i]/\H l=some (.lst xs) /\ -(2 ^ 63)<=i/\i<2 ^ 63/\seqIndex? i xs.length=some k/\xs[k]? = some y/\Q y (upd H l (.lst (xs.eraseIdx k)))
theorem z2f:MtM X "list.pop" j2l:=by
 intro pins s σ H x vs v us Q I rx rv h
 obtain⟨l,xs,i,k,y,rfl,rfl,hH,h1,h2,hk,hy,q⟩:=h
 cases rx
 obtain⟨u,rfl,ru⟩:=rv.one
 obtain⟨t,rfl⟩:=ru
 obtain⟨z,its,n,r,hl,e⟩:=I.lstM hH
 obtain⟨w,hw,rw'⟩:=r.get hy
 refine call_meets F.slot_list_pop ⟨_,e,rfl⟩ F.entry_list_pop (F.args_list_pop_2 _ _)
  (MeetsSeq.list_pop_at l its.toArray n i t k w (fitsIndex_both h1 h2) (by rw[List.size_toArray,<- hl];exact hk) (by rw[<- Array.getElem?_toList];exact hw) (by rw[List.size_toArray];omega)) ⟨e,?_⟩
 refine⟨y,_,I.lset (its':=its.eraseIdx k) hH e ?_ (r.eraseIdx k) ?_,rw',q⟩
 ·show its.toArray.eraseIdxIfInBounds k=(its.eraseIdx k).toArray
  rw[List.eraseIdxIfInBounds_toArray]
 ·have:=y43 xs k
  omega
def j79:R2:=fun x y H Q=>∃ l k xs,x=.ref l/\y=.int k/\H l=some (.lst xs) /\ -(2 ^ 63)<=k/\k<2 ^ 63/\xs.length*k.toNat<=sizeLine /\
 ∀ p,H p=none->Q (.ref p) (upd H p (.lst (List.replicate k.toNat xs).flatten))
theorem y68 {α:Type}(xs:List α)(k:Nat):(List.replicate k xs).flatten.length=k*xs.length:=by
 induction k with
 | zero=>simp
 | succ k ih=>rw[List.replicate_succ,List.flatten_cons,List.length_append,ih,Nat.succ_mul,Nat.add_comm]
theorem j48:OpR X (binaryOp .Mult) j79:=by
 intro pins s σ H x y v u Q I rx ry h
 obtain⟨l,k,xs,rfl,rfl,hH,h1,h2,hz,q⟩:=h
 cases rx
 obtain⟨t,rfl⟩:=ry
 obtain⟨z,its,n,r,hl,e⟩:=I.lstM hH
 have hlen:its.toArray.size*k.toNat<=sizeLine:=by rw[List.size_toArray,<- hl];exact hz
 have hcap:¬ its.toArray.size*k.toNat > (2 ^ 63-1) / 8:=by
  have:(sizeLine:Nat)<=(2 ^ 63-1) / 8:=by decide
  omega
 have hfit:¬ (!Builtin.List.listFitsIndex k)=true:=by
  rw[fitsIndex_both h1 h2]
  exact Bool.false_ne_true
 have hlong:¬ Builtin.List.listTooLong (its.toArray.size*k.toNat)=true:=by
  rw[y6r hlen]
  exact Bool.false_ne_true
 have hnew:List.foldl (fun x1 x2=>x1++x2) #[] (List.replicate (if its.toArray.isEmpty=true then 0 else k.toNat) its.toArray)=(List.replicate k.toNat its).flatten.toArray:=by
  have f0:∀ m:Nat,List.foldl (fun x1 x2=>x1++x2) #[] (List.replicate m its.toArray)=(List.replicate m its).flatten.toArray:=fun m=>by
   have:=y0q its m []
   rw[List.nil_append]at this
   exact this
  rw[f0]
  cases its with
  | nil=>simp
  | cons a r'=>rw[if_neg (by simp)]
 refine wpAny_binaryOp_repeat_ref (T:="list") (U:="int") (by decide) ⟨_,e,rfl⟩ (fun s'=>typeIs_int s' k t) noFill_list_mul F.fills_int_mul F.slot_int_rmul repeat_list F.slot_int_index.lookup
  (call_meets F.slot_int_rmul (typeIs_int s k t) F.entry_int_rmul (F.args_int_rmul_2 _ _) (int___rmul___int_list k t l its.toArray n)
    ⟨e,rfl,⟨_,e,rfl⟩,call_meets F.slot_list_mul ⟨_,e,rfl⟩ F.entry_list_mul (F.args_list_mul_2 _ _) (AutoListH.list___mul___list_int_3 l its.toArray n k t hfit hcap hlong) ⟨e,?_⟩⟩)
 rw[hnew]
 exact⟨.ref _,_,I.lnew (t':=s.toks) (r.rep k.toNat) (by rw[y68,Nat.mul_comm];exact hz),rfl,q _ I.fresh⟩
end
end L2
namespace Att
open PySem PySem.W PySem.Calls PyProof.Rows
theorem y0f {P:Params}{h:Heap}:∀ (ns:List Int) (vs:List Value),WellAll P h vs (ns.map WData.int)->IntsAre vs ns:=by
 intro ns
 induction ns with
 | nil=>
  intro vs w
  rw[List.map_nil]at w
  cases w
  exact .nil
 | cons n ns ih=>
  intro vs w
  rw[List.map_cons]at w
  cases w with
  | cons a b=>
   cases a
   exact .cons _ _ (ih _ b)
theorem z0i {l:OpenLaw}{n:Nat}(hn:l.most=some n){P:Params}{h:Heap}{args:List WData}{vals:List Value}
  (hpre:l.row.toRowW.claim.pre args=true) (hwl:WellAll P h vals args) :
  ∃ a vs ns,vals=[Value.ref a]/\args=[WData.list (ns.map WData.int)]/\h.get? a=some { cls:=.type "list",data:=.seq vs.toArray }/\IntsAre vs ns/\ns.length<=n:=by
 have hsh:WShape.hasAll [] args [.list .int]=true:=(pre_splitW hpre).1
 have hc:l.pre.holds [] { args:=args }=true:=(pre_splitW hpre).2
 obtain⟨d,r,rfl,h1,h2⟩:=hasAllW_cons hsh
 obtain rfl:=hasAllW_nil h2
 obtain⟨xs,rfl,h3⟩:=hasW_list h1
 obtain⟨ns,rfl⟩:=items_int h3
 have hlen:ns.length<=n:=by
  unfold OpenLaw.pre at hc
  have h4:(WTm.not (.lt (.lit (.int (n:Int))) (.len (.arg 0)))).holds [] { args:=[.list (ns.map .int)] }=true:=by
   have h4:=(holds_andW hc).1
   rw[hn]at h4
   exact h4
  have h5:=condW_of h4 (w_not (w_lt w_lit (w_len_list (w_arg rfl))))
  rw[List.length_map]at h5
  refine Nat.le_of_not_lt fun q=>?_
  have q':(n:Int)<((ns.length:Nat):Int):=by omega
  first
   | (rw[decide_eq_true q']at h5;exact absurd h5 (by decide))
   | (simp at h5;omega)
 cases hwl with
 | cons w1 w2=>
  cases w2
  cases w1 with
  | list ho hall=>exact⟨_,_,ns,rfl,rfl,ho,y0f ns _ hall,hlen⟩
theorem z1b (l:OpenLaw)(args:List WData):l.row.toRowW.claim.post args (.bool true) args=true:=
 postW_of (r:=l.row.toRowW) (X:=(true==true))
  (show WShape.has [] (.bool true) .bool=true by first|rfl|decide|simp[WShape.has,WShape.arms,WShape.armsAll])
  (show(WTm.eq .res (.lit (.bool true))).value [] { args:=args,res:=some (.bool true),after:=args }=some (.bool (true==true))from w_eq_bool (w_res rfl) w_lit) rfl
theorem z72 {l:OpenLaw}{n:Nat}{q:Program}{loose:List Str}{XP:(Str->Option Value)->Heap->Prop}{YP:World->Heap->Prop}{d:DefRec}
  (hn:l.most=some n) (hdf:d.params.defaults=[])
  (call:∀ (w:World) (s₀ s₁:Shared) (mg mb:Str->Option Value) (fa:Addr) (o:Obj) (pm cd doc:Value) (a:Addr) (vs:List Value) (ns:List Int),
    Ground q loose [] XP w s₀ mg mb s₁.heap->YP w s₁.heap->
    s₁.heap.get? fa=some o->o.data=.func (docDef d.name d.params d.body d.scope pm cd doc)->s₁.heap.CodeRec cd d.name->mg d.name=some (.ref fa)->
    s₁.heap.get? a=some { cls:=.type "list",data:=.seq vs.toArray }->IntsAre vs ns->ns.length<=n->s₁.gens = #[]->
    codeAny (model l.prog w) callerA (.call (.ref fa) ⟨[.ref a],[]⟩) (fun r s'=>r=.ok (.ret (.bool true))/\OldK s₁.heap s'.heap/\s'.os=s₁.os/\AllBare s'.gens) s₁) :
  WalkO q loose XP YP l.row.toRowW d [] (fun f vs=>PySem.call f vs):=by
 intro w s₀ s₁ mg mb G Y fa o pm cd doc dV kV ho hd hcd hD hmg hg args vals as hpre hlay hrd hwl hlo
 obtain rfl:dV=.none:=Dflts.none hD hdf
 obtain rfl:kV=.none:=Dflts.noKw hD
 obtain⟨a,vs,ns,rfl,rfl,hobj,hints,hlen⟩:=z0i hn hpre hwl
 refine enter_call (codeAny_mono (call w s₀ s₁ mg mb fa o pm cd doc a vs ns G Y ho (fd_plain hd) hcd hmg hobj hints hlen hg) fun r s' hq=>?_)
 obtain⟨rfl,h2,h3,h4⟩:=hq
 exact⟨.inl ⟨.bool true,.bool true,[],rfl,fun _=>rfl,.bool true,z1b l _,fun _=>⟨List.Pairwise.nil,fun _ hm=>(nomatch hm)⟩⟩,h2,h3,h4⟩
end Att
namespace L2
open PySem PySem.Spec PyProof.Rows
theorem x7z:∀ {vs:List Value} {ns:List Int},IntsAre vs ns->x2i (ns.map V.int) vs
 | _,_,.nil=>.nil
 | _,_,.cons n t h=>.cons ⟨t,rfl⟩ (x7z h)
end L2
namespace L2
open PySem PySem.Spec PyProof.Rows
end L2
namespace L2
open PySem PySem.Spec PyProof.Rows
def x6h (s:Stmt):Arguments:=match s with
 | .FunctionDef _ a _ _ _ _ _ _ _ _=>a
 | _=>{ posonlyargs:=[],args:=[],vararg:=none,kwonlyargs:=[],kw_defaults:=[],kwarg:=none,defaults:=[] }
def x32 (s:Stmt):List Stmt:=match s with
 | .FunctionDef _ _ b _ _ _ _ _ _ _=>b
 | _=>[]
def x0a (s:Stmt):Scope:=match s with
 | .FunctionDef _ _ _ _ _ _ sc _ _ _=>sc
 | _=>{ kind:=.function,names:=[],isGenerator:=false,isCoroutine:=false }
abbrev CX0:CXT:=fun _ _ _ _ _ _=>False
abbrev E0:XK:=fun _ _ _=>False
theorem j5p {X:Cx}:y6m CX0 X E0:=fun _ _ _ _ _ _ _ h=>h.elim
structure Fun (K:PySem.W.Frag) (x qual:Str) (st:Stmt) (f:Addr) (fd:FuncData):Prop where
 ex:∃ (oc:Value) (od:Option Addr) (kV doc pm:Value) (an:Option Addr) (cdv ct:Value) (osl:Array (Option Value)),
  fd=PySem.W.fnOf x qual (x6h st) (x32 st) (x0a st) .none kV doc pm an cdv ct/\K.lookup f=some ⟨oc,od,.func fd,osl⟩/\PySem.W.codeIn K cdv qual=true
 kp:PySem.W.keepIn K (.ref f)=true
section
variable {P:Program}{w:World}{K:PySem.W.Frag}{mg:Str->Option Value}{base:Heap}
theorem Fun.ok {x qual:Str}{st:Stmt}{f:Addr}{fd:FuncData}{N ps:List Str}{k:Nat}{sp:Sp}(F:Fun K x qual st f fd)(S:FnScope N ps (x0a st))(len:∀ vs H Q E,sp vs H Q E->vs.length=ps.length)
  (hbody:∀ (cdv:Value) (A:Around) (outer:List Env) (s:Shared) (H:Hp) (vs:List V) (Q:VK) (E:XK),Room k (A.deeper (envOfC qual (x0a st) s.heap.objs.size f cdv))->sp vs H Q E->
    ∃ t,PSs (y2h CX0 P w K mg base N qual (x0a st) f cdv A outer s H E).nox (x32 st) t/\t { nx:=fun _ H'=>Q .non H',rt:=Q } (y1o N vs) H):FnOk P w K mg base CX0 (k+1) f fd ps sp:=by
 obtain⟨oc,od,kV,doc,pm,an,cdv,ct,osl,rfl,lk,hcd⟩:=F.ex
 refine z7r lk hcd S len fun A outer s H vs Q E hr hsp=>?_
 obtain⟨t,h,q⟩:=hbody cdv A outer s H vs Q E hr hsp
 exact⟨t,h.nox,q⟩
theorem Fun.binds {x qual:Str}{st:Stmt}{f:Addr}{fd:FuncData}{ps:List Str}(F:Fun K x qual st f fd)
  (h:∀ (kV doc pm:Value) (an:Option Addr) (cdv ct:Value) (us:List Value),us.length=ps.length->bindArgs (PySem.W.fnOf x qual (x6h st) (x32 st) (x0a st) .none kV doc pm an cdv ct) ⟨us,[]⟩=pure (ps.zip us)):y3h K fd ps []:=by
 obtain⟨oc,od,kV,doc,pm,an,cdv,ct,osl,rfl,lk,hcd⟩:=F.ex
 exact .all (h kV doc pm an cdv ct)
theorem z5w {x qual:Str}{st:Stmt}{f:Addr}{oc:Value}{od an:Option Addr}{osl:Array (Option Value)}{kV doc pm cdv ct:Value}(l:K.lookup f=some ⟨oc,od,.func (PySem.W.fnOf x qual (x6h st) (x32 st) (x0a st) .none kV doc pm an cdv ct),osl⟩)
  (c:PySem.W.codeIn K cdv qual=true) (k:PySem.W.keepIn K (.ref f)=true):Fun K x qual st f (PySem.W.fnOf x qual (x6h st) (x32 st) (x0a st) .none kV doc pm an cdv ct):=⟨⟨oc,od,kV,doc,pm,an,cdv,ct,osl,rfl,l,c⟩,k⟩
end
theorem j5o {A:Around}{k:Nat}(hr:Room k A):A.units+1<cLine:=Nat.lt_of_le_of_lt (Nat.add_le_add_left (by decide:1<=64) _) hr.units
theorem x4b {n:Nat}(h:n<=1000):n<sizeLine:=Nat.lt_of_le_of_lt h (by decide)
section
variable {X:Cx}
theorem pv (i:Nat){x:Str}{pos:Pos}(hN:X.N[i]? = some x:=by rfl)(hv:Vis X.env.scope x:=by first|exact Or.inl rfl|exact Or.inr (Or.inl rfl)|exact Or.inr (Or.inr rfl))(hd:(x==("__debug__":Str))=false:=by decide)
  (hcd:(x==("__classdict__":Str))=false:=by decide):PE X (.Name x pos) (x9r i):=j34 hN hv hd hcd
end
section
variable {κ:Type}[DecidableEq κ]
def y7d (kvs:List (κ×V))(k:κ):Option V:=(kvs.find? fun kv=>decide (kv.1=k)).map (·.2)
def z4v (kvs:List (κ×V))(k:κ)(v:V):List (κ×V):=
 if(kvs.any fun kv=>decide (kv.1=k))=true then kvs.map (fun kv=>if kv.1=k then(kv.1,v)else kv)else kvs++[(k,v)]
theorem y3j {p:κ×V}{r:List (κ×V)}{k:κ}(e:p.1=k):y7d (p::r) k=some p.2:=by simp[y7d,List.find?_cons,e]
theorem y3i {p:κ×V}{r:List (κ×V)}{k:κ}(e:¬ p.1=k):y7d (p::r) k=y7d r k:=by simp[y7d,List.find?_cons,e]
theorem y6d (kvs:List (κ×V))(k:κ)(v:V):(z4v kvs k v).length<=kvs.length+1:=by
 unfold z4v
 split
 ·rw[List.length_map];omega
 ·rw[List.length_append,List.length_cons,List.length_nil];omega
theorem z94.getD {o:Option V}{u:Option Value}{d:V}{d':Value}(r:z94 o u)(rd:x3t d d'):x3t (o.getD d) (u.getD d'):=by
 cases o with
 | none=>cases u with
  | none=>exact rd
  | some _=>exact(show False from r).elim
 | some _=>cases u with
  | none=>exact(show False from r).elim
  | some _=>exact r
theorem KV.val {kvs:List (κ×V)}{vs:List (κ×Value)}(r:KV kvs vs)(k:κ):z94 (y7d kvs k) (valueAt vs k):=by
 unfold KV at r
 induction r with
 | nil=>exact True.intro
 | @cons p q ps qs h t ih=>
  obtain⟨h1,h2⟩:=h
  by_cases e:p.1=k
  ·have e':q.1=k:=h1.symm.trans e
   have b:valueAt (q::qs) k=some q.2:=by simp[valueAt,List.find?_cons,e']
   rw[y3j e,b];exact h2
  ·have e':¬ q.1=k:=fun z=>e (h1.trans z)
   have b:valueAt (q::qs) k=valueAt qs k:=by simp[valueAt,List.find?_cons,e']
   rw[y3i e,b];exact ih
theorem KV.any {kvs:List (κ×V)}{vs:List (κ×Value)}(r:KV kvs vs)(k:κ):(kvs.any fun kv=>decide (kv.1=k))=vs.any fun kv=>decide (kv.1=k):=by
 unfold KV at r
 induction r with
 | nil=>rfl
 | cons h t ih=>rw[List.any_cons,List.any_cons,ih,h.1]
theorem KV.repl {kvs:List (κ×V)}{vs:List (κ×Value)}(r:KV kvs vs)(k:κ){y:V}{u:Value}(ry:x3t y u) :
  KV (kvs.map fun kv=>if kv.1=k then(kv.1,y)else kv) (vs.map fun kv=>if kv.1=k then(kv.1,u)else kv):=by
 unfold KV at r ⊢
 induction r with
 | nil=>exact .nil
 | @cons p q ps qs h t ih=>
  rw[List.map_cons,List.map_cons]
  refine .cons ?_ ih
  obtain⟨h1,h2⟩:=h
  by_cases e:p.1=k
  ·rw[if_pos e,if_pos (h1.symm.trans e)];exact⟨h1,ry⟩
  ·rw[if_neg e,if_neg (fun z=>e (h1.trans z))];exact⟨h1,h2⟩
theorem KV.put {kvs:List (κ×V)}{vs:List (κ×Value)}(r:KV kvs vs)(k:κ){y:V}{u:Value}(ry:x3t y u):KV (z4v kvs k y) (stored vs k u):=by
 unfold z4v stored
 rw[r.any k]
 by_cases e:(vs.any fun kv=>decide (kv.1=k))=true
 ·rw[if_pos e,if_pos e];exact r.repl k ry
 ·rw[if_neg e,if_neg e];exact Paired.snoc r ⟨rfl,ry⟩
end
theorem z9q {P:Program}{w:World}{k:Key}{u:Value}(r:x3t (kV k) u):(x31 P w).is k u=true:=by
 cases k with
 | inl i=>obtain⟨t,e⟩:=(show ∃ t,u=Value.int i t from r);subst e;exact y69 P w i t
 | inr x=>obtain⟨t,e⟩:=(show ∃ t,u=Value.str x t from r);subst e;exact y59 P w x t
theorem y4l {P:Program}{w:World}:∀ {ks:List Key} {us:List Value},x2i (ks.map kV) us->ItemsAre (x31 P w) ks us
 | [],_,r=>by rw[List.map_nil]at r;cases r;exact .nil
 | k::ks,_,r=>by
  rw[List.map_cons]at r
  cases r with
  | cons h t=>exact .cons (z9q h) (y4l t)
abbrev KT (H:Hp):List (List Key×V)->List (List Key×Addr×Value)->Prop:=Paired fun p q=>p.1=q.1/\H q.2.1=some (.tup (p.1.map kV))/\x3t p.2 q.2.2
theorem KT.val {H:Hp}{kvs:List (List Key×V)}{xs:List (List Key×Addr×Value)}(r:KT H kvs xs)(k:List Key):z94 (y7d kvs k) ((atKey xs k).map (·.2)):=by
 induction r with
 | nil=>exact True.intro
 | @cons p q ps qs h t ih=>
  obtain⟨h1,_,h2⟩:=h
  by_cases e:p.1=k
  ·have e':q.1=k:=h1.symm.trans e
   have b:atKey (q::qs) k=some q.2:=by simp[atKey,List.find?_cons,e']
   rw[y3j e,b];exact h2
  ·have e':¬ q.1=k:=fun z=>e (h1.trans z)
   have b:atKey (q::qs) k=atKey qs k:=by simp[atKey,List.find?_cons,e']
   rw[y3i e,b];exact ih
section
variable {P:Program}{w:World}{H:Hp}{h:Heap}{a:Addr}
theorem j0p {u:HO}(ok:HOk P w H h)(e:Rd H a u):x2b P w H h a u:=e.ok ok
theorem z86 {kvs:List (Key×V)}(ok:HOk P w H h)(e:Rd H a (.dK kvs)):kvs.length<=sizeLine/\(a==sysModules)=false/\∃ vs,KV kvs vs/\h.DictOf (x31 P w) a vs:=
 show x2b P w H h a (.dK kvs)from j0p ok e
theorem j4u {kvs:List (Key×V)}(ok:HOk P w H h)(e:H a=some (.dK kvs)):kvs.length<=sizeLine/\(a==sysModules)=false/\∃ vs,KV kvs vs/\h.DictOf (x31 P w) a vs:=z86 ok (.inl e)
theorem z5d {ks:List Key}(ok:HOk P w H h)(e:H a=some (.tup (ks.map kV))):(tupleKind (x31 P w)).is h ks a:=by
 obtain⟨_,its,r,o,h1,h2,⟨n,h3⟩,_⟩:=(show x2b P w H h a (.tup (ks.map kV))from ok a _ e)
 exact⟨o,its.toArray,n,h1,h2,h3,by simpa using y4l r⟩
theorem j49 {kvs:List (List Key×V)}(ok:HOk P w H h)(e:Rd H a (.dT kvs)):kvs.length<=sizeLine/\(a==sysModules)=false /\
  ∃ xs,KT H kvs xs/\h.DictOfH (tupleKind (x31 P w)) a xs:=by
 obtain⟨z,y,xs,r,o,es,ep,h1,h2,h3,h4,h5⟩:=(show x2b P w H h a (.dT kvs)from j0p ok e)
 refine⟨z,y,xs,r,o,es,ep,h1,h2,h3,h4,fun x hx=>?_,h5⟩
 have all:∀ {l:List (List Key×V)} {m:List (List Key×Addr×Value)},KT H l m->∀ x∈m,(tupleKind (x31 P w)).is h x.1 x.2.1:=by
  intro l m q
  induction q with
  | nil=>intro x hx;exact nomatch hx
  | @cons p q ps qs hq t ih=>
   intro x hx
   rcases List.mem_cons.mp hx with e|hx
   ·subst e
    exact z5d ok (by rw[<- hq.1];exact hq.2.1)
   ·exact ih x hx
 exact all r x hx
end
def j2z (H:Hp)(a:Addr)(y:V)(r:Option V):Prop:=
 (∃ kvs k,Rd H a (.dK kvs)/\y=kV k/\r=y7d kvs k)\/∃ kvs k b,Rd H a (.dT kvs)/\y=.ref b/\H b=some (.tup (k.map kV))/\r=y7d kvs k
theorem j2z.k {H:Hp}{a:Addr}{kvs:List (Key×V)}{k:Key}(e:H a=some (.dK kvs)):j2z H a (kV k) (y7d kvs k):=.inl ⟨kvs,k,.inl e,rfl,rfl⟩
section
variable {X:Cx}{pins:List (Addr×Obj)}{σ:St}{H:Hp}{s:Shared}{a:Addr}{y v:V}{u r:Value}{o:Option V}{A:Around}{E:Value->Shared->Prop}
theorem Inv.big (I:Inv X pins σ H s):sysModules<s.heap.objs.size:=by
 have h:mainGlobals<s.heap.objs.size:=(I.mod.glob.keeps I.bk).lt
 exact Nat.lt_trans (by decide) h
theorem z82 {h':Heap}{t':Nat}{ob:HO}(I:Inv X pins σ H s)(mu:Mut (H a))(hs:Heap.SameBut a s.heap h')(he:∃ q,h'.get? a=some q)(new:x2b X.prog X.w (upd H a ob) h' a ob) :
  Inv X pins σ (upd H a ob) { s with heap:=h',toks:=t' }:=
 I.write (x:=a) (e:=a) mu (.inl rfl) (fun b q hb z=>(hs.2 b hb).trans z) he new
theorem j3v {P:Program}{w:World}{H':Hp}{h':Heap}{kvs:List (Key×V)}{vs:List (Key×Value)}(z:kvs.length<=sizeLine)(hd:(a==sysModules)=false)(rel:KV kvs vs)(dd:h'.DictOf (x31 P w) a vs) :
  x2b P w H' h' a (.dK kvs):=⟨z,hd,vs,rel,dd⟩
end
theorem z3y {P:Program}{w:World}{H:Hp}(h:Heap)(hb:sysModules<h.objs.size):x2b P w H (h.push { cls:=.type "dict",data:=.dict #[] }) h.objs.size (.dK []):=
 ⟨Nat.zero_le _,beq_eq_false_iff_ne.mpr (Ne.symm (Nat.ne_of_lt hb)),[],.nil,Heap.DictOf.new h⟩
def y8z:List (TE×TE)->St->Hp->(List (V×V)->Hp->Prop)->Prop
 | [],_,H,Q=>Q [] H
 | (tk,tv)::r,σ,H,Q=>tk σ H fun x H1=>tv σ H1 fun y H2=>y8z r σ H2 fun ps H3=>Q ((x,y)::ps) H3
abbrev VV:List (V×V)->List (Value×Value)->Prop:=Paired fun p q=>x3t p.1 q.1/\x3t p.2 q.2
def PPs (X:Cx)(pos:Pos)(keys:List (Option Expr))(values:List Expr)(trs:List (TE×TE)):Prop:=
 ∀ (pins:List (Addr×Obj)) (s:Shared) (σ:St) (H:Hp) (Q:List (V×V)->Hp->Prop),Inv X pins σ H s->y8z trs σ H Q->
  wpAny (model X.prog X.w) X.A (evalPairs (pairTrees keys values X.env pos)) (fun vs s'=>∃ ps H',Inv X pins σ H' s'/\VV ps vs/\Q ps H') X.xe s
theorem z9m {X:Cx}{pos:Pos}:PPs X pos [] [] []:=fun pins s σ H Q I h=>pairTrees_nil_walk ⟨[],H,I,.nil,h⟩
theorem y7c {X:Cx}{pos:Pos}{k v:Expr}{ks:List (Option Expr)}{vs:List Expr}{tk tv:TE}{trs:List (TE×TE)}(hk:PE X k tk)(hv:PE X v tv)(hr:PPs X pos ks vs trs) :
  PPs X pos (some k::ks) (v::vs) ((tk,tv)::trs):=fun pins s σ H Q I h=>
 pairTrees_cons_walk (thn (hk pins s σ H _ I h) fun u s1 ⟨x,H1,I1,rx,q1⟩=>thn (hv pins s1 σ H1 _ I1 q1) fun w2 s2 ⟨y,H2,I2,ry,q2⟩=>
  thn (hr pins s2 σ H2 _ I2 q2) fun ws s3 ⟨ps,H3,I3,rel,q3⟩=>⟨(x,y)::ps,H3,I3,.cons ⟨rx,ry⟩ rel,q3⟩)
def y0h (kvs more:List (Key×V)):List (Key×V):=more.foldl (fun acc kv=>z4v acc kv.1 kv.2) kvs
theorem KV.merge:∀ {more:List (Key×V)} {rs:List (Key×Value)} {kvs:List (Key×V)} {vs:List (Key×Value)},KV more rs->KV kvs vs->KV (y0h kvs more) (merged vs rs):=by
 intro more rs kvs vs r
 unfold KV at r
 induction r generalizing kvs vs with
 | nil=>intro q;exact q
 | @cons p q ps qs h t ih=>
  intro r0
  have e:KV (z4v kvs p.1 p.2) (stored vs q.1 q.2):=by
   have:=r0.put p.1 h.2
   rw[<- h.1];exact this
  exact ih e
theorem x87:∀ (more kvs:List (Key×V)),(y0h kvs more).length<=kvs.length+more.length
 | [],kvs=>by show kvs.length<=kvs.length+0;omega
 | p::r,kvs=>by
  have h1:=x87 r (z4v kvs p.1 p.2)
  have h2:=y6d kvs p.1 p.2
  show(y0h (z4v kvs p.1 p.2) r).length<=_
  rw[List.length_cons];omega
theorem y20 {P:Program}{w:World}:∀ {kvs:List (Key×V)} {ws:List (Value×Value)},VV (kvs.map fun kv=>(kV kv.1,kv.2)) ws->∃ rs,Carries (x31 P w) ws rs/\KV kvs rs
 | [],_,r=>by rw[List.map_nil]at r;cases r;exact⟨[],True.intro,.nil⟩
 | p::kvs,_,r=>by
  rw[List.map_cons]at r
  cases r with
  | @cons a b as bs h t=>
   obtain⟨rs,c,q⟩:=y20 (P:=P) (w:=w) t
   obtain⟨b1,b2⟩:=b
   exact⟨(p.1,b2)::rs,⟨z9q h.1,rfl,c⟩,.cons ⟨rfl,h.2⟩ q⟩
def j60 (trs:List (TE×TE)):TE:=fun σ H Q=>∀ p,H p=none->y8z trs σ (upd H p (.dK [])) fun ps H2=>H2 p=some (.dK [])/\∃ kvs:List (Key×V),ps=kvs.map (fun kv=>(kV kv.1,kv.2))/\kvs.length<=15/\Q (.ref p) (upd H2 p (.dK (y0h [] kvs)))
theorem z8d {X:Cx}{pos:Pos}{keys:List (Option Expr)}{values:List Expr}{trs:List (TE×TE)}(h:PPs X pos keys values trs)(hall:keys.all (·.isSome)=true)(hl:keys.length=values.length)(h0:keys ≠ [])
  (h15:keys.length<=15):PE X (.Dict keys values pos) (j60 trs):=by
 intro pins s σ H Q I q
 have hn:=I.hok.fresh (Nat.le_refl s.heap.objs.size)
 have I1:=I.laid (a:=s.heap.objs.size) (o:=.dK []) (h':=s.heap.push { cls:=.type "dict",data:=.dict #[] }) (t':=s.toks) (fun _ _ q=>Heap.get?_push_of_some _ q) (Nat.le_refl _) (z3y s.heap I.big)
 refine wpAny_Dict_walk (knd:=x31 X.prog X.w) hall hl h0 h15 (thn (h pins _ σ _ _ I1 (q _ hn)) fun ws s2 hh0=>?_)
 obtain⟨ps,H2,I2,rel,e,kvs,ep,lk,q2⟩:=hh0
 subst ep
 obtain⟨rs,c,rk⟩:=y20 (P:=X.prog) (w:=X.w) rel
 obtain⟨z,hd,vs0,r0,dd⟩:=j4u I2.hok e
 cases r0
 refine⟨rs,c,dd,fun h' dd' hs=>⟨.ref s.heap.objs.size,_,?_,rfl,q2⟩⟩
 have hz:(y0h [] kvs).length<=sizeLine:=by
  have h1:=x87 kvs []
  rw[List.length_nil]at h1
  rw[sizeLine_eq];omega
 have he:∃ q,h'.get? s.heap.objs.size=some q:=let ⟨q,_,_,hq,_⟩:=dd';⟨q,hq⟩
 exact z82 I2 (by rw[e];exact True.intro) hs he (j3v hz hd (rk.merge .nil) dd')
structure M2 (X:Cx) (o:Expr) (m:Str) (apos:Pos) (e f:Expr) (cpos:Pos):Prop where
 base:attributeBase o m X.env (eval o X.env)=eval o X.env
 few:((backTo cpos (starEach [e,f] X.env)).all (fun x=>!x.1)&&(backToKw cpos (keywordEach [] X.env)).all (fun x=>x.1.isSome)
  && decide (([e,f]:List Expr).length+([]:List Keyword).length+(if([]:List Keyword).isEmpty then 0 else 1)<30))=true
 line:(apos.endLine==cpos.line)=true
 trees:backTo cpos (starEach [e,f] X.env)=[(false,eval e X.env),(false,eval f X.env)]
def IsD (H:Hp)(a:Addr):Prop:=(∃ kvs,Rd H a (.dK kvs))\/∃ kvs,Rd H a (.dT kvs)
theorem j45 {X:Cx}{pins:List (Addr×Obj)}{σ:St}{H:Hp}{s:Shared}{a:Addr}(I:Inv X pins σ H s)(d:IsD H a) :
  s.TypeIs (.ref a) "dict" /\ (∀ b,Value.ref a=.ref b->∃ ob,s.heap.get? b=some ob/\ob.dict=none)/\(a==sysModules)=false:=by
 rcases d with⟨kvs,e⟩|⟨kvs,e⟩
 ·obtain⟨_,hd,vs,_,dd⟩:=z86 I.hok e
  refine⟨dd.typeIs,fun b q=>?_,hd⟩
  cases q
  obtain⟨ob,_,_,h1,h2,_⟩:=dd
  exact⟨ob,h1,h2.2.1⟩
 ·obtain⟨_,hd,xs,_,dd⟩:=j49 I.hok e
  refine⟨dd.typeIs,fun b q=>?_,hd⟩
  cases q
  obtain⟨ob,_,_,h1,h2,_⟩:=dd
  exact⟨ob,h1,h2.2.1⟩
section
variable {X:Cx}{pins:List (Addr×Obj)}{σ:St}{H:Hp}{s:Shared}{a:Addr}{y d:V}{u r:Value}{o:Option V}{A:Around}{E:Value->Shared->Prop}
theorem j2r {Q:Value->Shared->Prop}(hu:A.units+1<cLine)(I:Inv X pins σ H s)(g:j2z H a y o)(ry:x3t y u)(rd:x3t d r)(h:∀ w' s',Inv X pins σ H s'->x3t (o.getD d) w'->Q w' s') :
  wpAny (model X.prog X.w) A (call (.builtin "dict.get") [.ref a,u,r]) Q E s:=by
 rcases g with⟨kvs,k,e,ey,l⟩|⟨kvs,k,b,e,ey,eb,l⟩
 ·subst ey
  obtain⟨z,hd,vs,rel,dd⟩:=z86 I.hok e
  refine call_meetsIn PySem.F.slot_dict_get dd.typeIs PySem.F.entry_dict_get (PySem.F.args_dict_get_3 _ _ _) (meets_dict_get_default (x31 X.prog X.w) a (z9q ry) hd r) ⟨_,dd.mapOf,h _ _ (I.tok _) ?_⟩
  rw[l]
  exact(rel.val k).getD rd
 ·subst ey
  cases (show u=Value.ref b from ry)
  obtain⟨z,hd,xs,rel,dd⟩:=j49 I.hok e
  refine call_meetsIn PySem.F.slot_dict_get dd.typeIs PySem.F.entry_dict_get (PySem.F.args_dict_get_3 _ _ _) (meetsH_dict_get_default (tupleKind (x31 X.prog X.w)) a b hd r) ⟨tupleKind_room_in1 hu,k,xs,z5d I.hok eb,dd,h _ _ (I.tok _) ?_⟩
  rw[l]
  exact(rel.val k).getD rd
end
def j42 (td ty tx:TE):TE:=fun σ H Q=>td σ H fun x H1=>∃ a,x=.ref a/\IsD H1 a/\ty σ H1 fun y H2=>tx σ H2 fun z H3=>∃ o,j2z H3 a y o/\Q (o.getD z) H3
section
variable {X:Cx}{o e f:Expr}{apos cpos:Pos}{td ty tx:TE}
theorem z4y (hu:X.A.units+1<cLine)(ho:PE X o td)(he:PE X e ty)(hf:PE X f tx)(m:M2 X o "get" apos e f cpos):PE X (.Call (.Attribute o "get" apos) [e,f] [] cpos) (j42 td ty tx):=by
 intro pins s σ H Q I h
 refine wpAny_Call_method m.base m.few m.line PySem.F.plainAttrs_dict PySem.F.slot_dict_get PySem.F.type_dict_get (thn (ho pins s σ H _ I h) fun u s1 hh0=>?_)
 obtain⟨x,H1,I1,rx,a,ex,d,q1⟩:=hh0
 subst ex
 obtain rfl:u=Value.ref a:=rx
 obtain⟨t1,t2,_⟩:=j45 I1 d
 refine⟨t1,t2,?_⟩
 rw[m.trees]
 refine Calls.callWith_builtin rfl (Calls.evalArgs_plain (Calls.spliced_cons (thn (he pins s1 σ H1 _ I1 q1) fun iv s2 ⟨y,H2,I2,ry,q2⟩=>
  Calls.spliced_cons (thn (hf pins s2 σ H2 _ I2 q2) fun fv s3 ⟨z,H3,I3,rz,ov,g,q3⟩=>Calls.spliced_nil ?_))))
 exact j2r hu I3 g ry rz fun w' s4 I4 rw'=>⟨_,H3,I4,rw',q3⟩
end
theorem y4f {prog:Program}{w:World}{A:Around}{R:Result->Shared->Prop}{s:Shared}{elt target iter:Expr}{ifs:List Expr}{scope:Scope}{pos:Pos}{it acc:Value}{env:Env}(I:Nat->Shared->Prop)
  (turn:∀ n s,I n s->wpAny (model prog w) A (pyNext it) (fun r s₁=>match r with
    | none=>R (.ok .next) s₁
    | some v=>wpAny (model prog w) A (letOwnedTupleGo target it v) (fun _ s₁'=>wpAny (model prog w) A (assign target env v) (fun _ s₂=>
      wpAny (model prog w) A (forIn ifs true fun c r=>if r=true then do let ok <- isTrue c env (eval c env);pure (ForInStep.yield ok)else pure (ForInStep.yield r)) (fun ok s₃=>
       if ok=true then wpAny (model prog w) A (eval elt env) (fun x s₄=>
        wpAny (model prog w) A (call (.builtin "list.append") [acc,x]) (fun _ s₅=>∃ m,m<n/\I m s₅) (fun _ _=>False) s₄) (fun _ _=>False) s₃
       else ∃ m,m<n/\I m s₃) (fun _ _=>False) s₂) (fun _ _=>False) s₁') (fun _ _=>False) s₁) (fun _ _=>False) s)
  (n:Nat) (h:I n s):codeAny (model prog w) A (.compLoop (.ListComp elt [⟨target,iter,ifs,0⟩] scope pos) 0 it acc env) R s:=by
 refine codeAny_loop rfl I (fun n s hI=>?_) n h
 show wpAny _ A ((compTurn (.ListComp elt [⟨target,iter,ifs,0⟩] scope pos) 0 it acc env).onRaise (fun x=>do noteFrame x env;theTreesLotGoes x)) _ _ s
 refine wpAny_noted ?_
 rw[compTurn_list]
 refine wpAny_bind (wpAny_standAt (wpAny_bind (wpAny_mono (turn n s hI) (fun r s₁ h₁=>?_) fun _ _ h'=>h'.elim)))
 cases r with
 | none=>exact wpAny_pure h₁
 | some v=>
  refine wpAny_bind (wpAny_mono h₁ (fun _ s₁' h₁'=>?_) fun _ _ h'=>h'.elim)
  refine wpAny_bind (wpAny_mono h₁' (fun _ s₂ h₂=>wpAny_bind (wpAny_mono h₂ (fun ok s₃ h₃=>?_) fun _ _ h'=>h'.elim)) fun _ _ h'=>h'.elim)
  cases ok with
  | false=>exact wpAny_pure ⟨rfl,h₃⟩
  | true=>
   exact wpAny_bind (wpAny_bind (wpAny_mono h₃ (fun x s₄ h₄=>wpAny_bind (wpAny_mono h₄ (fun _ s₅ h₅=>wpAny_pure (wpAny_pure ⟨rfl,h₅⟩)) fun _ _ h'=>h'.elim)) fun _ _ h'=>h'.elim))
theorem y0z {M:Model}{A:Around}{E:Value->Shared->Prop}{s:Shared}{scope:Scope}{globals:Addr}{cl:List (Str×Addr)}{qual:Str}{outer:Env}{Q:Env->Shared->Prop}
  (hQ:Q (newEnv scope s.heap.objs.size globals (cellsFrom (s.heap.objs.size+1) scope.names cl) qual none .none (some outer) builtinsNs)
    { s with heap:=pushCells (s.heap.push { cls:=.type "dict",data:=.dict #[] }) scope.names }) :
  wpAny M A (newFunctionEnv scope globals cl [] qual none .none (some outer)) Q E s:=by
 simp only[newFunctionEnv,Option.isSome_some,if_true]
 refine wpAny_bind (wpAny_alloc ?_)
 refine wpAny_bind (wpAny_layCells _ (fun name kind cells=>by cases hkc:kind==NameKind.cell<;>simp[hkc]) _ _ _ _ ?_)
 rw[show({ s with heap:=s.heap.push { cls:=.type "dict",data:=.dict #[] } }:Shared).heap.objs.size=s.heap.objs.size+1 from Heap.size_push ..]
 refine wpAny_bind ?_
 rw[List.forIn_nil]
 exact wpAny_pure (wpAny_pure hQ)
def x2a (cells:List (Str×Addr)):List (Str×NameKind)->List (Str×Addr)->List (Str×Addr)
 | [],acc=>acc
 | (n,k)::r,acc=>if k == .free then(match cells.lookup n with
   | some c=>x2a cells r ((n,c)::acc)
   | none=>x2a cells r acc)else x2a cells r acc
theorem x5l {scope:Scope}{env:Env}(h:∀ y∈scope.names,y.2=.free->∃ c,env.cells.lookup y.1=some c):closureFor scope env=pure (x2a env.cells scope.names []):=by
 unfold closureFor
 have key:∀ (names:List (Str×NameKind)) (acc:List (Str×Addr)),(∀ y∈names,y.2=.free->∃ c,env.cells.lookup y.1=some c)->
   (forIn names acc (fun(x:Str×NameKind) (r:List (Str×Addr))=>(match x with
     | (name,kind)=>if(kind==NameKind.free)=true then do
       let c <- cellOf env name
       pure (ForInStep.yield ((name,c)::r))
      else pure (ForInStep.yield r):Sem (ForInStep (List (Str×Addr))))))=(pure (x2a env.cells names acc):Sem (List (Str×Addr))):=by
  intro names
  induction names with
  | nil=>intro acc _;rfl
  | cons y r ih=>
   intro acc hh
   obtain⟨n,kd⟩:=y
   rw[List.forIn_cons]
   unfold x2a
   by_cases hk:(kd==NameKind.free)=true
   ·obtain⟨c,hc⟩:=hh (n,kd) List.mem_cons_self (by simpa using hk)
    have hc':env.cells.lookup n=some c:=hc
    simp only[hk,if_true,hc']
    have e:cellOf env n=pure c:=by unfold cellOf;rw[hc']
    rw[e]
    exact ih ((n,c)::acc) fun z hz=>hh z (List.mem_cons_of_mem _ hz)
   ·simp only[hk]
    exact ih acc fun z hz=>hh z (List.mem_cons_of_mem _ hz)
 exact(congrArg (fun m=>m >>= fun cs=>(pure cs:Sem (List (Str×Addr)))) (key scope.names [] h)).trans rfl
theorem x5n {cells:List (Str×Addr)}:∀ {names:List (Str×NameKind)} {acc:List (Str×Addr)},(∀ y c,(y,c)∈acc->cells.lookup y=some c)->∀ y c,(y,c)∈x2a cells names acc->cells.lookup y=some c
 | [],_,h,y,c,m=>h y c m
 | (n,k)::r,acc,h,y,c,m=>by
  unfold x2a at m
  split at m
  ·split at m
   ·rename_i c' e
    refine x5n (acc:=(n,c')::acc) (fun z d hz=>?_) y c m
    rcases List.mem_cons.mp hz with q|q
    ·cases q;exact e
    ·exact h z d q
   ·exact x5n h y c m
  ·exact x5n h y c m
theorem x5q {cells:List (Str×Addr)}:∀ {names:List (Str×NameKind)} {acc:List (Str×Addr)} {y:Str},(acc.lookup y).isSome=true->((x2a cells names acc).lookup y).isSome=true
 | [],_,_,h=>h
 | (n,k)::r,acc,y,h=>by
  unfold x2a
  split
  ·split
   ·refine x5q ?_
    rw[List.lookup_cons]
    split
    ·rfl
    ·exact h
   ·exact x5q h
  ·exact x5q h
theorem x4p {cells:List (Str×Addr)}{y:Str}{c:Addr}(hc:cells.lookup y=some c):∀ {names:List (Str×NameKind)} {acc:List (Str×Addr)},(y,NameKind.free)∈names->((x2a cells names acc).lookup y).isSome=true
 | (n,k)::r,acc,h=>by
  unfold x2a
  rcases List.mem_cons.mp h with q|q
  ·cases q
   simp only[hc]
   rw[if_pos (by rfl)]
   refine x5q ?_
   rw[List.lookup_cons,beq_self_eq_true]
   rfl
  ·split
   ·split
    ·exact x4p hc q
    ·exact x4p hc q
   ·exact x4p hc q
theorem x5o:∀ {names:List (Str×NameKind)} {h:Heap} {acc:List (Str×Addr)} {y:Str} {c:Addr},(y,c)∈cellsFrom h.objs.size names acc->(y,c)∈acc\/(h.objs.size<=c/\(pushCells h names).IsCell c none)
 | [],_,_,_,_,m=>.inl m
 | (n,k)::r,h,acc,y,c,m=>by
  unfold cellsFrom at m
  unfold pushCells
  split at m
  ·rename_i hk
   rw[if_pos hk]
   have m':(y,c)∈cellsFrom (h.push { cls:=.type "cell",data:=.cell none }).objs.size r ((n,h.objs.size)::acc):=by rw[Heap.size_push];exact m
   rcases x5o m' with q|⟨q1,q2⟩
   ·rcases List.mem_cons.mp q with e|q
    ·cases e
     refine .inr ⟨Nat.le_refl _,_,pushCells_keeps _ _ _ _ (Heap.get?_push_size _ rfl),rfl⟩
    ·exact .inl q
   ·rw[Heap.size_push]at q1
    exact .inr ⟨by omega,q2⟩
  ·rename_i hk
   rw[if_neg hk]
   exact x5o m
theorem x5p:∀ {names:List (Str×NameKind)} {n:Nat} {acc:List (Str×Addr)},(∀ y c,(y,c)∈acc->c<n)->(∀ x y c,(x,c)∈acc->(y,c)∈acc->x=y)->∀ x y c,(x,c)∈cellsFrom n names acc->(y,c)∈cellsFrom n names acc->x=y
 | [],_,_,_,h=>h
 | (nm,k)::r,n,acc,hlt,h=>by
  unfold cellsFrom
  split
  ·refine x5p (n:=n+1) (acc:=(nm,n)::acc) (fun y c m=>?_) (fun x y c m1 m2=>?_)
   ·rcases List.mem_cons.mp m with e|m
    ·cases e;exact Nat.lt_succ_self _
    ·exact Nat.lt_succ_of_lt (hlt y c m)
   ·rcases List.mem_cons.mp m1 with e1|m1<;>rcases List.mem_cons.mp m2 with e2|m2
    ·cases e1;cases e2;rfl
    ·cases e1;exact absurd (hlt y _ m2) (Nat.lt_irrefl _)
    ·cases e2;exact absurd (hlt x _ m1) (Nat.lt_irrefl _)
    ·exact h x y c m1 m2
  ·exact x5p hlt h
theorem x5k {lo:Nat}{y:Str}:∀ {names:List (Str×NameKind)} {n:Nat} {acc:List (Str×Addr)},lo<=n->(∀ c,acc.lookup y=some c->lo<=c)->∀ c,(cellsFrom n names acc).lookup y=some c->lo<=c
 | [],_,_,_,h=>h
 | (nm,k)::r,n,acc,hn,h=>by
  unfold cellsFrom
  split
  ·refine x5k (n:=n+1) (by omega) fun c e=>?_
   rw[List.lookup_cons]at e
   split at e
   ·cases e;exact hn
   ·exact h c e
  ·exact x5k hn h
theorem x6e {lo:Nat}{y:Str}:∀ {names:List (Str×NameKind)} {n:Nat} {acc:List (Str×Addr)},lo<=n->(y,NameKind.cell)∈names->∀ c,(cellsFrom n names acc).lookup y=some c->lo<=c
 | (nm,k)::r,n,acc,hn,h=>by
  unfold cellsFrom
  rcases List.mem_cons.mp h with q|q
  ·cases q
   rw[if_pos (by rfl)]
   refine x5k (n:=n+1) (by omega) fun c e=>?_
   rw[List.lookup_cons,beq_self_eq_true]at e
   cases e;exact hn
  ·split
   ·exact x6e (n:=n+1) (by omega) q
   ·exact x6e hn q
theorem x4n {y:Str}:∀ {names:List (Str×NameKind)} {n:Nat} {acc:List (Str×Addr)},(y,NameKind.cell) ∉ names->(cellsFrom n names acc).lookup y=acc.lookup y
 | [],_,_,_=>rfl
 | (nm,k)::r,n,acc,h=>by
  unfold cellsFrom
  split
  ·rename_i hk
   rw[x4n (fun z=>h (List.mem_cons_of_mem _ z)),List.lookup_cons]
   have hne:(y==nm)=false:=by
    cases e:y==nm with
    | false=>rfl
    | true=>
     have e1:y=nm:=beq_iff_eq.mp e
     have e2:k=NameKind.cell:=by simpa using hk
     exact absurd (by rw[e1,<- e2];exact List.mem_cons_self) h
   rw[hne]
  ·exact x4n fun z=>h (List.mem_cons_of_mem _ z)
def y49 (env:Env)(y:Str)(k:NameKind):NameKind:=if(k==NameKind.free&&env.scope.kind == .function&&env.kindOf y==some .cell)then .cell else k
theorem x51 {env:Env}{y:Str}:∀ (names:List (Str×NameKind)),(names.map fun(n,k)=>if(k==NameKind.free&&env.scope.kind == .function&&env.kindOf n==some .cell)then(n,NameKind.cell)else(n,k)).lookup y=(names.lookup y).map (y49 env y)
 | []=>rfl
 | (n,k)::r=>by
  have ih:=x51 (env:=env) (y:=y) r
  show List.lookup y ((if(k==NameKind.free&&env.scope.kind == .function&&env.kindOf n==some .cell)=true then(n,NameKind.cell)else(n,k))::_)=_
  cases hx:y==n with
  | true=>
   have e:=beq_iff_eq.mp hx
   subst e
   rw[List.lookup_cons,List.lookup_cons]
   by_cases hc:(k==NameKind.free&&env.scope.kind == .function&&env.kindOf y==some .cell)=true
   ·simp only[y49,hc,if_true,beq_self_eq_true,Option.map_some]
   ·simp only[y49,hc,beq_self_eq_true,Option.map_some]
    simp
  | false=>
   by_cases hc:(k==NameKind.free&&env.scope.kind == .function&&env.kindOf n==some .cell)=true
   ·rw[if_pos hc,List.lookup_cons,List.lookup_cons];simp only[hx];exact ih
   ·rw[if_neg hc,List.lookup_cons,List.lookup_cons];simp only[hx];exact ih
theorem y4x {l:List (Str×NameKind)}(hn:(l.map (·.1)).Nodup){y:Str}{k:NameKind}(h:(y,k)∈l):l.lookup y=some k:=by
 induction l with
 | nil=>cases h
 | cons p r ih=>
  rw[List.lookup_cons]
  rcases List.mem_cons.mp h with e|h
  ·rw[<- e,beq_self_eq_true]
  ·have hne:y≠p.1:=fun e=>by
    have:=(List.nodup_cons.mp hn).1
    exact this (by show p.1∈_;rw[<- e];exact List.mem_map.mpr ⟨(y,k),h,rfl⟩)
   have:(y==p.1)=false:=by simpa using hne
   rw[this]
   exact ih (List.nodup_cons.mp hn).2 h
def x3p (scope:Scope)(env:Env)(C:Addr):Env:=
 { newEnv scope C env.globals (cellsFrom (C+1) scope.names (x2a env.cells scope.names [])) env.qual none .none (some env) builtinsNs with scope:=relabel scope env }
def x11 (X:Cx)(N':List Str)(scope:Scope)(C:Addr)(s:Shared)(H:Hp)(fp:List Addr):Cx where
 prog:=X.prog
 w:=X.w
 K:=X.K
 mg:=X.mg
 base:=X.base
 A:=X.A
 N:=N'
 s₀:=s
 H₀:=H
 env:=x3p scope X.env C
 outer:=X.stack
 stack:=X.stack
 ex:=fp
 fn:=fun y=>scope.names.lookup y==some .cell
 calm:=X.calm
 pn:=[]
 xe:=fun _ _=>False
structure CompOk (X:Cx) (k:Nat) (N':List Str) (scope:Scope):Prop where
 kind:scope.kind=.function
 names:(scope.names.map (·.1)).Nodup
 len:N'.length=X.N.length+k
 frees:(scope.names.all fun y=>y.2 != .free||X.env.kindOf y.1==some .cell||X.env.kindOf y.1==some .free)=true
 outs:((N'.zip X.N).all fun p=>(p.1==p.2&&scope.names.lookup p.1==some .free)||scope.names.lookup p.1==none||scope.names.lookup p.1==some .globalImplicit)=true
theorem CompOk.free {X:Cx}{k:Nat}{N':List Str}{scope:Scope}(S:CompOk X k N' scope){y:Str}(h:(y,NameKind.free)∈scope.names):X.env.kindOf y=some .cell\/X.env.kindOf y=some .free:=by
 have:=List.all_eq_true.mp S.frees (y,NameKind.free) h
 simp only[Bool.or_eq_true,bne_iff_ne,ne_eq,beq_iff_eq]at this
 rcases this with(h1|h1)|h1
 ·exact absurd trivial h1
 ·exact .inl h1
 ·exact .inr h1
theorem CompOk.out {X:Cx}{k:Nat}{N':List Str}{scope:Scope}(S:CompOk X k N' scope){i:Nat}{y:Str}(hi':i<X.N.length)(h:N'[i]? = some y)(hv:Vis (relabel scope X.env) y):X.N[i]? = some y/\scope.names.lookup y=some .free:=by
 have e2:X.N[i]? = some X.N[i]:=by simp[hi']
 have m:(y,X.N[i])∈N'.zip X.N:=List.mem_of_getElem? (i:=i) (by rw[List.getElem?_zip_eq_some];exact⟨h,e2⟩)
 have:=List.all_eq_true.mp S.outs _ m
 simp only[Bool.or_eq_true,Bool.and_eq_true,beq_iff_eq]at this
 have hl:(relabel scope X.env).names.lookup y=(scope.names.lookup y).map (y49 X.env y):=x51 _
 rcases this with(⟨h1,h2⟩|h1)|h1
 ·exact⟨by rw[e2,<- h1],h2⟩
 ·rw[h1]at hl
  rcases hv with z|z|z<;>(rw[hl]at z;cases z)
 ·rw[h1]at hl
  have hr:y49 X.env y .globalImplicit=.globalImplicit:=rfl
  rw[Option.map_some,hr]at hl
  rcases hv with z|z|z<;>(rw[hl]at z;cases z)
theorem Un.updNew {fs ex:List Addr}{P:Program}{w:World}{H H':Hp}{h h':Heap}{D:Addr}{o:HO}(u:Un fs ex H H' h h')(hok:HOk P w H h)(hD:h.objs.size<=D):Un fs ex H (upd H' D o) h h':=by
 have ne:∀ b ob,h.get? b=some ob->b≠D:=fun b ob e z=>absurd (Nat.lt_of_lt_of_le (Heap.lt_size e) hD) (by rw[z];exact Nat.lt_irrefl _)
 have ne':∀ b x,H b=some x->b≠D:=fun b x e z=>absurd (Nat.lt_of_lt_of_le (hok.lt e) hD) (by rw[z];exact Nat.lt_irrefl _)
 refine⟨u.keep,u.slot,fun b ob e n hx=>?_,u.there,fun b xs e=>?_,fun b ob x e=>?_,fun b ps e=>?_⟩
 ·rw[x0i (ne b ob e)];exact u.free b ob e n hx
 ·rw[x0i (ne' b _ e)];exact u.tups b xs e
 ·rw[x0i (ne' b _ e)];exact u.frzs b ob x e
 ·rw[x0i (ne' b _ e)];exact u.tbls b ps e
theorem HOk.add {P:Program}{w:World}{H:Hp}{h:Heap}{D:Addr}{o:HO}(x:HOk P w H h)(hn:H D=none)(new:x2b P w (upd H D o) h D o):HOk P w (upd H D o) h:=fun b u e=>by
 by_cases hb:b=D
 ·subst hb;rw[x0w]at e;cases e;exact new
 ·rw[x0i hb]at e
  exact(x b u e).stay (fun c v _ q=>q) (fun c q=>by rw[x0i (x0u q hn)];exact q) fun c xs q=>by rw[x0i (x0u q hn)];exact q
def PTs (X:Cx)(ifs:List Expr)(t:TT):Prop:=
 ∀ (pins:List (Addr×Obj)) (s:Shared) (σ:St) (H:Hp) (Q:Bool->Hp->Prop),Inv X pins σ H s->t σ H Q->
  wpAny (model X.prog X.w) X.A (forIn ifs true fun c r=>if r=true then do let ok <- isTrue c X.env (eval c X.env);pure (ForInStep.yield ok)else pure (ForInStep.yield r)) (TP X pins σ Q) X.xe s
def j73:TT:=fun _ H Q=>Q true H
theorem z9p {X:Cx}:PTs X [] j73:=fun pins s σ H Q I h=>wpAny_tests_nil ⟨H,I,h⟩
theorem z6i {X:Cx}{c:Expr}{t:TT}(h:PT X c t):PTs X [c] t:=fun pins s σ H Q I q=>wpAny_tests_one (h pins s σ H Q I q)
def z80 (k:Nat)(g:TG)(tt:TT)(te:TE)(σ:St)(J:It)(H:Hp)(Fin:List V->Hp->Prop):Prop:=
 ∃ W:Nat->Nat->List V->Hp->Prop,(∃ m,W 0 m [] H)/\∀ i m ys H2,W i m ys H2->ys.length<=sizeLine /\
  ((J.stop i H2/\Fin ys H2)\/(J.go i H2/\ys.length<sizeLine/\∀ x H3,J.yld i H2 x H3->g x (σ++List.replicate k none) H3 fun σ4 H4=>(∃ τ,σ4=σ++τ/\τ.length=k) /\
    tt σ4 H4 fun b H5=>if b=true then te σ4 H5 fun v H6=>∃ m',m'<m/\W (i+1) m' (ys++[v]) H6 else ∃ m',m'<m/\W (i+1) m' ys H5))
def y8b (k:Nat)(wi:TI)(g:TG)(tt:TT)(te:TE):TE:=fun σ H Q=>wi σ H fun J H1=>z80 k g tt te σ J H1 fun ys H2=>∀ p,H2 p=none->Q (.ref p) (upd H2 p (.lst ys))
def lsO (us:List Value)(n:Nat):Obj:={ cls:=.type "list",data:=.seq us.toArray n }
theorem z2c {X:Cx}{pins:List (Addr×Obj)}{τ σ:St}{H:Hp}{s:Shared}(I:Inv X pins (σ++τ) H s):Inv X pins (σ++List.replicate τ.length none) H s:=
 I.weak (by simp) fun i v e=>by
  by_cases hi:i<σ.length
  ·rw[List.getElem?_append_left hi]at e ⊢
   exact e
  ·rw[List.getElem?_append_right (by omega),List.getElem?_replicate]at e
   split at e<;>cases e
section
variable {X:Cx}{k:Nat}{N':List Str}{scope:Scope}{pins:List (Addr×Obj)}{σ:St}{H2:Hp}{s2:Shared}{fp:List Addr}
abbrev x5x (scope:Scope)(s2:Shared):Heap:=pushCells ((s2.heap.push (lsO [] 0)).push { cls:=.type "dict",data:=.dict #[] }) scope.names
theorem y7e (S:CompOk X k N' scope)(I2:Inv X pins σ H2 s2)(f2:∀ b∈fp,y72 X pins H2 b)(hfp:∀ b∈fp,b<s2.heap.objs.size) :
  Inv (x11 X N' scope (s2.heap.objs.size+1) s2 H2 fp) [(s2.heap.objs.size,lsO [] 0)] (σ++List.replicate k none) H2 { s2 with heap:=x5x scope s2 }:=by
 have e1:(s2.heap.push (lsO [] 0)).objs.size=s2.heap.objs.size+1:=Heap.size_push ..
 have e2:((s2.heap.push (lsO [] 0)).push { cls:=.type "dict",data:=.dict #[] }).objs.size=s2.heap.objs.size+1+1:=by rw[Heap.size_push,e1]
 have keep:∀ b o,s2.heap.get? b=some o->(x5x scope s2).get? b=some o:=fun b o e=>pushCells_keeps _ _ b o (Heap.get?_push_of_some _ (Heap.get?_push_of_some _ e))
 have hsub:∀ y c,(y,c)∈x2a X.env.cells scope.names []->X.env.cells.lookup y=some c:=x5n (fun _ _ m=>nomatch m)
 have cmem:∀ y c,(y,c)∈cellsFrom (s2.heap.objs.size+1+1) scope.names (x2a X.env.cells scope.names [])->X.env.cells.lookup y=some c\/(s2.heap.objs.size+1+1<=c/\(x5x scope s2).IsCell c none):=fun y c m=>by
  have m':(y,c)∈cellsFrom ((s2.heap.push (lsO [] 0)).push { cls:=.type "dict",data:=.dict #[] }).objs.size scope.names (x2a X.env.cells scope.names []):=by rw[e2];exact m
  rcases x5o m' with q|⟨q1,q2⟩
  ·exact .inl (hsub y c q)
  ·rw[e2]at q1;exact .inr ⟨q1,q2⟩
 have clt:∀ y c,X.env.cells.lookup y=some c->c<s2.heap.objs.size:=fun y c e=>by obtain⟨v,z⟩:=I2.cell y c e;exact z.lt
 have hl:∀ y,(relabel scope X.env).names.lookup y=(scope.names.lookup y).map (y49 X.env y):=fun y=>x51 _
 have ok:(x11 X N' scope (s2.heap.objs.size+1) s2 H2 fp).Ok:=by
  refine⟨I2.ok.mod,S.kind,I2.ok.glob,I2.ok.blt,Nat.le_succ _,fun x y c h1 h2=>?_,fun x hx=>?_,fun x c hf h=>?_,I2.ok.hd,I2.ok.frames,.inl rfl,fun b hb=>⟨?_,fun x c h z=>?_⟩,I2.bs,Nat.le_trans I2.ok.bsz I2.sz,fun b o e hb=>?_,fun b hb z=>?_,I2.stack,I2.stkFree⟩
  ·refine x5p (n:=s2.heap.objs.size+1+1) (names:=scope.names) (acc:=x2a X.env.cells scope.names []) (fun y c m=>?_) (fun x y c m1 m2=>?_) x y c (PySem.mem_of_lookup h1) (PySem.mem_of_lookup h2)
   ·exact Nat.lt_of_lt_of_le (clt y c (hsub y c m)) (by omega)
   ·exact I2.ok.inj x y c (hsub x c m1) (hsub y c m2)
  ·have hx':(relabel scope X.env).names.lookup x=some .cell\/(relabel scope X.env).names.lookup x=some .free:=hx
   rw[hl x]at hx'
   have:scope.names.lookup x=some .cell\/scope.names.lookup x=some .free:=by
    cases e:scope.names.lookup x with
    | none=>rw[e]at hx';rcases hx' with z|z<;>cases z
    | some kd=>
     rw[e,Option.map_some]at hx'
     cases kd<;>first
      | exact .inl rfl
      | exact .inr rfl
      | (rcases hx' with z|z<;>(have z':=Option.some.inj z;unfold y49 at z';simp at z'))
   rcases this with q|q
   ·exact Option.isSome_iff_exists.mp (PySem.W.cellsFrom_some scope.names (s2.heap.objs.size+1+1) _ (.inl q))
   ·have qm:=PySem.mem_of_lookup q
    have hk:=S.free qm
    obtain⟨c,hc⟩:=I2.ok.has x hk
    exact Option.isSome_iff_exists.mp (PySem.W.cellsFrom_some scope.names (s2.heap.objs.size+1+1) _ (.inr (x4p hc qm)))
  ·have hf':(scope.names.lookup x==some .cell)=true:=hf
   have:=x6e (lo:=s2.heap.objs.size) (n:=s2.heap.objs.size+1+1) (acc:=x2a X.env.cells scope.names []) (by omega) (PySem.mem_of_lookup (beq_iff_eq.mp hf')) c h
   exact this
  ·have:=hfp b hb
   show b≠s2.heap.objs.size+1
   exact Nat.ne_of_lt (Nat.lt_of_lt_of_le this (Nat.le_succ _))
  ·have q:=hfp b hb
   rcases cmem x c (PySem.mem_of_lookup h)with w|⟨w,_⟩
   ·exact(f2 b hb).2.2.2.2.1 x c w z
   ·subst z;exact absurd (Nat.lt_of_lt_of_le q (Nat.le_trans (by omega) w)) (Nat.lt_irrefl _)
  ·rcases(f2 b hb).2.2.2.1 with z|z
   ·exact I2.ok.noex b o e z
   ·have:=Heap.lt_size e
    have:=I2.ok.bsz
    exact absurd (Nat.lt_of_lt_of_le (Heap.lt_size e) (Nat.le_trans I2.ok.bsz z)) (Nat.lt_irrefl _)
  ·rcases List.mem_cons.mp (I2.stkSub b z)with q|q
   ·exact(f2 b hb).2.1 q
   ·exact(f2 b hb).2.2.1 q
 obtain⟨m,hn,hloc⟩:=id I2.loc
 refine⟨ok,rfl,I2.bare,Un.kept keep,⟨fun _=>none,?_,fun i y v h1 h2 h3=>?_⟩,fun y c h=>?_,I2.hok.fresh (Nat.le_succ _),fun y c h=>?_,fun p hp=>?_,I2.hok.kept keep,?_⟩
 ·have:=(Heap.Ns.new (s2.heap.push (lsO [] 0)) (.type "dict")).keeps (pushCells_keeps scope.names _)
  rw[e1]at this
  exact this
 ·by_cases hi:i<σ.length
  ·have h3':Vis (relabel scope X.env) y:=h3
   obtain⟨o1,o2⟩:=S.out (by rw[<- I2.len];exact hi) h1 h3'
   have hk:=S.free (PySem.mem_of_lookup o2)
   have hs:σ[i]? = some (some v):=by
    rw[List.getElem?_append_left hi]at h2
    exact h2
   obtain⟨u,r,l⟩:=hloc i y v o1 hs (.inr hk)
   refine⟨u,r,?_⟩
   rcases l with⟨l,_⟩|⟨_,c,hc,hcell⟩
   ·rcases hk with z|z<;>(rw[l]at z;cases z)
   ·refine .inr ⟨?_,c,?_,hcell.keeps keep⟩
    ·show(relabel scope X.env).names.lookup y=some .cell\/(relabel scope X.env).names.lookup y=some .free
     rw[hl y,o2,Option.map_some]
     unfold y49
     split
     ·exact .inl rfl
     ·exact .inr rfl
    ·show(cellsFrom (s2.heap.objs.size+1+1) scope.names (x2a X.env.cells scope.names [])).lookup y=some c
     rw[x4n (fun z=>by have:=y4x S.names z;rw[o2]at this;cases this)]
     obtain⟨c',hc'⟩:=Option.isSome_iff_exists.mp (x4p (acc:=[]) hc (PySem.mem_of_lookup o2))
     have:=hsub y c' (PySem.mem_of_lookup hc')
     rw[hc]at this;cases this
     exact hc'
  ·rw[List.getElem?_append_right (by omega),List.getElem?_replicate]at h2
   split at h2<;>cases h2
 ·rcases cmem y c (PySem.mem_of_lookup h)with w|⟨_,w⟩
  ·obtain⟨v,z⟩:=I2.cell y c w
   exact⟨v,z.keeps keep⟩
  ·exact⟨_,w⟩
 ·rcases cmem y c (PySem.mem_of_lookup h)with w|⟨w,_⟩
  ·exact I2.freeC y c w
  ·exact I2.hok.fresh (by omega)
 ·have e:p=(s2.heap.objs.size,lsO [] 0):=by
   have:p ∈ [(s2.heap.objs.size,lsO [] 0)]:=hp
   simpa using this
  subst e
  refine⟨pushCells_keeps _ _ _ _ (Heap.get?_push_of_some _ (Heap.get?_push_size _ rfl)),I2.hok.fresh (Nat.le_refl _),?_,fun z=>?_,fun v z=>nomatch z⟩
  ·show s2.heap.objs.size≠s2.heap.objs.size+1
   omega
  ·have z':s2.heap.objs.size∈frs X.stack:=z
   rcases List.mem_cons.mp (I2.stkSub _ z')with q|q
   ·exact absurd I2.lt (by rw[<- q];exact Nat.lt_irrefl _)
   ·exact I2.nofs (Nat.le_refl _) q
 ·rw[List.length_append,List.length_replicate,I2.len]
  exact S.len.symm
theorem y77 {us:List Value}{n:Nat}{ys:List V}{H':Hp}{s':Shared}{σ':St}{C:Addr}(I2:Inv X pins σ H2 s2)(f2:∀ b∈fp,y72 X pins H2 b)
  (I3:Inv (x11 X N' scope C s2 H2 fp) [(s2.heap.objs.size,lsO us n)] σ' H' s') (r:x2i ys us) (hz:ys.length<=sizeLine):Inv X pins σ (upd H' s2.heap.objs.size (.lst ys)) s':=by
 obtain⟨e,hn,_⟩:=I3.pin (s2.heap.objs.size,lsO us n) (List.mem_append_right _ (List.mem_singleton.mpr rfl))
 have u:Un (frs X.stack) fp H2 H' s2.heap s'.heap:=I3.base
 exact I2.call' (ch:=fp) I3.os (u.updNew I2.hok (Nat.le_refl _)) (I3.hok.add hn ⟨hz,us,n,r,e⟩) I3.bare fun b hb=>⟨(f2 b hb).2.2.2.1,(f2 b hb).2.1,(f2 b hb).2.2.2.2⟩
end
theorem y6o {X:Cx}{k:Nat}{N':List Str}{scope:Scope}{pins:List (Addr×Obj)}{σ:St}{H2:Hp}{s2:Shared}{fp:List Addr}{elt tg iter:Expr}{ifs:List Expr}{pos:Pos}{it:Addr}{tn:Nat->Heap->Prop}{J:It}{g:TG}{tt:TT}{te:TE}{Fin:List V->Hp->Prop}{E:Value->Shared->Prop}{RR:Value->Addr->Result->Shared->Prop}
  (hc:X.calm=true) (S:CompOk X k N' scope) (hg:∀ C s H fp,PG (x11 X N' scope C s H fp) tg g) (ht:∀ C s H fp,PTs (x11 X N' scope C s H fp) ifs tt) (he:∀ C s H fp,PE (x11 X N' scope C s H fp) elt te)
  (I2:Inv X pins σ H2 s2) (T:Turn X.prog X.w X.K tg J fp it tn) (st2:tn 0 s2.heap) (f2:∀ b∈fp,y72 X pins H2 b) (R:z80 k g tt te σ J H2 Fin)
  (hRR:∀ C ys H' s' m',Inv X pins σ (upd H' s2.heap.objs.size (.lst ys)) s'->s'.heap.Ns C m'->H' s2.heap.objs.size=none->upd H' s2.heap.objs.size (.lst ys) C=none->C≠X.env.locals->X.s₀.heap.objs.size<=C->s2.heap.objs.size<C->
    Fin ys H'->RR (.ref s2.heap.objs.size) C (.ok .next) s') :
  wpAny (model X.prog X.w) X.A (newList []) (fun acc s₃=>wpAny (model X.prog X.w) X.A (newFunctionEnv scope X.env.globals (x2a X.env.cells scope.names []) [] X.env.qual none .none (some X.env)) (fun cenv s₄=>
   codeAny (model X.prog X.w) X.A (.compStart (.ListComp elt [⟨tg,iter,ifs,0⟩] scope pos) 0 (.ref it) acc { cenv with scope:=relabel scope X.env }) (RR acc cenv.locals) s₄) E s₃) E s2:=by
 refine wpAny_newObj_type (y0z ?_)
 have e1:(s2.heap.push (lsO [] 0)).objs.size=s2.heap.objs.size+1:=Heap.size_push ..
 have hfp:∀ b∈fp,b<s2.heap.objs.size:=fun b hb=>by obtain⟨o,e,_⟩:=T.obj _ _ st2 b hb;exact Heap.lt_size e
 obtain⟨W,⟨m0,w0⟩,turn⟩:=R
 have I3:=y7e S I2 f2 hfp
 have st3:tn 0 (x5x scope s2):=T.keep _ _ _ st2 fun b hb o e=>pushCells_keeps _ _ b o (Heap.get?_push_of_some _ (Heap.get?_push_of_some _ e))
 have hDC:s2.heap.objs.size≠s2.heap.objs.size+1:=by omega
 -- what stays true of the iterator's objects
 have stat:∀ {H':Hp} {us:List Value} {n:Nat},(∀ b∈fp,H' b=none)->∀ b∈fp,y72 (x11 X N' scope (s2.heap.objs.size+1) s2 H2 fp) [(s2.heap.objs.size,lsO us n)] H' b:=fun {H' us n} hn b hb=>by
  have q:=I3.ok.exf b hb
  refine⟨hn b hb,q.1,I3.ok.exfs b hb,.inl hb,q.2,fun p hp z=>?_⟩
  have hp':p ∈ [(s2.heap.objs.size,lsO us n)]:=hp
  have e:p=(s2.heap.objs.size,lsO us n):=by simpa using hp'
  subst e
  have:=hfp b hb
  have z':s2.heap.objs.size=b:=z
  exact absurd this (by rw[z'];exact Nat.lt_irrefl _)
 have loop:∀ it',it'=Value.ref it->codeAny (model X.prog X.w) X.A (.compLoop (.ListComp elt [⟨tg,iter,ifs,0⟩] scope pos) 0 it' (.ref s2.heap.objs.size) (x3p scope X.env (s2.heap.objs.size+1))) (RR (.ref s2.heap.objs.size) (s2.heap.objs.size+1)) { s2 with heap:=x5x scope s2 }:=by
  rintro _ rfl
  refine y4f (fun n s'=>∃ i ys us cnt H',Inv (x11 X N' scope (s2.heap.objs.size+1) s2 H2 fp) [(s2.heap.objs.size,lsO us cnt)] (σ++List.replicate k none) H' s'/\tn i s'.heap/\(∀ b∈fp,H' b=none)/\x2i ys us/\W i n ys H') ?_ m0
   ⟨0,[],[],0,H2,I3,st3,fun b hb=>(f2 b hb).1,.nil,w0⟩
  rintro n s3 ⟨i,ys,us,cnt,H3,J3,st,fr,r3,w3⟩
  obtain⟨hz,hw⟩:=turn i n ys H3 w3
  rcases hw with⟨stop,fin⟩|⟨go,hlt,step⟩
  ·refine thn (T.done (x11 X N' scope (s2.heap.objs.size+1) s2 H2 fp) rfl rfl rfl hc i _ s3 _ H3 _ J3 (stat fr) st stop) fun rr s4 ⟨hr,I4⟩=>?_
   subst hr
   obtain⟨m',hn',_⟩:=id I4.loc
   obtain⟨eD,nD,_⟩:=I4.pin (s2.heap.objs.size,lsO us cnt) (List.mem_append_right _ (List.mem_singleton.mpr rfl))
   refine hRR (s2.heap.objs.size+1) ys H3 s4 m' (y77 I2 f2 I4 r3 hz) hn' nD ?_ ?_ ?_ (Nat.lt_succ_self _) fin
   ·rw[x0i (Ne.symm hDC)];exact I4.free
   ·exact Ne.symm (Nat.ne_of_lt (Nat.lt_of_lt_of_le I2.lt (Nat.le_succ _)))
   ·have:=I2.sz;omega
  ·refine thn (T.item (x11 X N' scope (s2.heap.objs.size+1) s2 H2 fp) rfl rfl rfl hc i _ s3 _ H3 _ J3 (stat fr) st go) fun rr s4 ⟨u,hr,h4⟩=>?_
   subst hr
   refine thn h4 fun _ s5 hh0=>?_
   obtain⟨x,H5,I5,r5,y5,st5,fr5⟩:=hh0
   have I5':=I5.pinned (stat fr5) (T.obj _ _ st5)
   refine thn (hg _ _ _ _ _ s5 _ H5 x u _ I5' r5 (step x H5 y5)) fun _ s6 ⟨σ6,H6,I6,⟨τ,e6,l6⟩,q6⟩=>?_
   subst e6
   refine thn (ht _ _ _ _ _ s6 _ H6 _ I6 q6) fun ok s7 hh0=>?_
   obtain⟨H7,I7,q7⟩:=hh0
   have kept:∀ {s':Shared} {H':Hp} {σ':St},Inv (x11 X N' scope (s2.heap.objs.size+1) s2 H2 fp) ([(s2.heap.objs.size,lsO us cnt)]++x62 fp s5.heap) σ' H' s'->tn (i+1) s'.heap/\∀ b∈fp,H' b=none:=fun {s' H' σ'} I'=>by
    refine⟨T.keep _ _ _ st5 fun b hb o e=>(I'.pin (b,o) (List.mem_append_right _ (List.mem_append_right _ (x4k hb e)))).1,fun b hb=>?_⟩
    obtain⟨o,e,d⟩:=T.obj _ _ st5 b hb
    exact(I'.pin (b,o) (List.mem_append_right _ (List.mem_append_right _ (x4k hb e)))).2.1
   cases ok with
   | false=>
    rw[if_neg (by decide)]at q7 ⊢
    obtain⟨m',hm,w7⟩:=q7
    have:=z2c I7.unpinned
    rw[l6]at this
    exact⟨m',hm,i+1,ys,us,cnt,H7,this,(kept I7).1,(kept I7).2,r3,w7⟩
   | true=>
    rw[if_pos rfl]at q7 ⊢
    refine thn (he _ _ _ _ _ s7 _ H7 _ I7 q7) fun u8 s8 hh0=>?_
    obtain⟨v,H8,I8,r8,m',hm,w8⟩:=hh0
    obtain⟨eD,nD,neD,nfD,dD⟩:=I8.pin (s2.heap.objs.size,lsO us cnt) (List.mem_append_right _ (List.mem_append_left _ (List.mem_singleton.mpr rfl)))
    refine append_at eD (fun h9 hs9 hD9=>?_) (hsz:=by rw[List.size_toArray,<- r3.length];exact Nat.le_of_lt hlt)
    have Ia:=I8.pins_of (pins':=x62 fp s5.heap) fun p hp=>I8.pin p (List.mem_append_right _ (List.mem_append_right _ hp))
    have nfp:∀ p∈x62 fp s5.heap,p.1≠s2.heap.objs.size:=fun p hp z=>by
     have:=hfp p.1 (y0s hp).1
     exact absurd this (by rw[z];exact Nat.lt_irrefl _)
    have Ib:=Ia.turned (h':=h9) (t':=s8.toks) (it:=s2.heap.objs.size) (fun b o hb e=>hs9.extBut b o hb e) nD neD (.inr (Nat.le_refl _)) (fun y c h z=>by
      obtain⟨vv,o,ho,hd⟩:=I8.cell y c h
      rw[z,eD]at ho
      cases ho
      cases hd) (fun p hp=>nfp p (by
      have hp':p ∈ []++x62 fp s5.heap:=hp
      simpa using hp'))
    have Ic:=Ib.pins_of (pins':=[(s2.heap.objs.size,lsO (us++[u8]) (cnt+1))]) fun p hp=>by
     have e:p=(s2.heap.objs.size,lsO (us++[u8]) (cnt+1)):=by simpa using hp
     subst e
     refine⟨?_,nD,neD,nfD,fun v z=>nomatch z⟩
     show h9.get? s2.heap.objs.size=_
     rw[hD9]
     unfold lsO
     simp
    have Id:=z2c Ic
    rw[l6]at Id
    have kp:=kept I8
    refine⟨m',hm,i+1,ys++[v],us++[u8],cnt+1,H8,Id,T.keep _ _ _ kp.1 fun b hb o e=>hs9.extBut b o (fun z=>by
     have:=hfp b hb
     have z':b=s2.heap.objs.size:=z
     exact absurd this (by rw[z'];exact Nat.lt_irrefl _)) e,kp.2,x2i.append r3 (.cons r8 .nil),w8⟩
 have hC:(s2.heap.push { cls:=.type "list",dict:=none,data:=.seq ([]:List Value).toArray }).objs.size=s2.heap.objs.size+1:=Heap.size_push ..
 have fin:=codeAny_compStart_list (loop _ rfl) (T.self X.A 0 _ _ _ st3 (loop _ rfl))
 dsimp only at fin ⊢
 rw[hC]
 exact fin
theorem CompOk.locs {X:Cx}{k:Nat}{N':List Str}{scope:Scope}(S:CompOk X k N' scope):∀ y∈scope.names,y.2=.local->scope.names.lookup y.1=some .local:=fun y hy e=>by
 obtain⟨n,kd⟩:=y
 have e':kd=.local:=e
 subst e'
 exact y4x S.names hy
theorem x6s {h:Heap}{C c:Addr}{m:Str->Option Value}{v:Option Value}(hn:h.Ns C m)(hc:h.IsCell c v):c≠C:=fun z=>by
 obtain⟨o,es,ep,ho,hd,_⟩:=hn
 obtain⟨o',ho',hd'⟩:=hc
 rw[z,ho]at ho'
 cases ho'
 rw[hd]at hd'
 cases hd'
section
variable {X:Cx}{k:Nat}{N':List Str}{scope:Scope}{elt tg iter:Expr}{ifs:List Expr}{pos:Pos}{wi:TI}{g:TG}{tt:TT}{te:TE}
theorem z78 (hc:X.calm=true)(S:CompOk X k N' scope)(hi:PI X tg iter wi)(hg:∀ C s H fp,PG (x11 X N' scope C s H fp) tg g)(ht:∀ C s H fp,PTs (x11 X N' scope C s H fp) ifs tt)(he:∀ C s H fp,PE (x11 X N' scope C s H fp) elt te)
  (hs:∀ x,foldedSetIterable iter X.env x=pure x:=by intro _;rfl):PE X (.ListComp elt [⟨tg,iter,ifs,0⟩] scope pos) (y8b k wi g tt te):=by
 intro pins s σ H Q I h
 rw[eval_ListComp]
 refine wpAny_comprehension_free (use:=none) rfl hs (x5l fun y hy e=>?_) S.kind S.locs (thn (hi pins s σ H _ I h) fun v s1 h1=>thn h1 fun itv s2 h2=>?_)
 ·obtain⟨n,kd⟩:=y
  have e':kd=.free:=e
  subst e'
  exact I.ok.has n (S.free hy)
 ·obtain⟨it,fp,tn,J,H2,e,I2,T,st2,f2,R⟩:=h2
  subst e
  refine y6o hc S hg ht he I2 T st2 f2 R ?_
  intro C ys H' s' m' I' hn hD hCn hCL hCs hCD fin
  refine⟨m',hn,fun h' hs'=>⟨.ref s2.heap.objs.size,_,I'.turned (h':=h') (t':=s'.toks) (it:=C) (fun b o hb e=>hs'.extBut b o hb e) hCn hCL (.inr hCs) (fun x c h=>?_) (fun p hp z=>?_),rfl,fin _ hD⟩⟩
  ·obtain⟨v,q⟩:=I'.cell x c h
   exact x6s hn q
  ·have:=Heap.lt_size (I2.pin p hp).1
   exact absurd (Nat.lt_trans this hCD) (by rw[z];exact Nat.lt_irrefl _)
theorem z7j {i:Nat}{y:Str}{py spos:Pos}(hN:X.N.Nodup)(hy:X.N[i]? = some y)(hx:Loc X.env.scope y)(hsw:swapsWith (.ListComp elt [⟨tg,iter,ifs,0⟩] scope pos) (some (.Name y py)) spos.line X.env=pure true)
  (hc:X.calm=true) (S:CompOk X k N' scope) (hi:PI X tg iter wi) (hg:∀ C s H fp,PG (x11 X N' scope C s H fp) tg g) (ht:∀ C s H fp,PTs (x11 X N' scope C s H fp) ifs tt) (he:∀ C s H fp,PE (x11 X N' scope C s H fp) elt te)
  (hs:∀ x,foldedSetIterable iter X.env x=pure x:=by intro _;rfl) (hf:X.fn y=true\/X.env.scope.names.lookup y=some .local:=by first|exact .inl rfl|exact .inr rfl|assumption) :
  PS X (.Assign [.Name y py] (.ListComp elt [⟨tg,iter,ifs,0⟩] scope pos) spos) (j5w (y8b k wi g tt te) (z6f i)):=by
 intro pins s σ H D I h
 rw[exec_Assign_Name_used _ _ _ _ hsw]
 refine wpAny_bind (wpAny_standAt (wpAny_bind ?_))
 show wpAny _ X.A (do let _ <- comprehension (.ListComp elt [⟨tg,iter,ifs,0⟩] scope pos) scope X.env _ (newList []) false (eval iter X.env) (some (assign (.Name y py) X.env))) _ _ s
 refine wpAny_bind (wpAny_mono (wpAny_comprehension_free (use:=some (assign (.Name y py) X.env)) (Q:=fun _ s'=>SP X pins D .next s') rfl hs (x5l fun z hz e=>?_) S.kind S.locs
  (thn (hi pins s σ H _ I h) fun v s1 h1=>thn h1 fun itv s2 h2=>?_)) (fun _ s' hq=>wpAny_pure (wpAny_pure hq)) fun _ _ e=>e)
 ·obtain⟨n,kd⟩:=z
  have e':kd=.free:=e
  subst e'
  exact I.ok.has n (S.free hz)
 ·obtain⟨it,fp,tn,J,H2,e,I2,T,st2,f2,R⟩:=h2
  subst e
  refine y6o hc S hg ht he I2 T st2 f2 R ?_
  intro C ys H' s' m' I' hn hD hCn hCL hCs hCD fin
  show wpAny _ X.A (assign (.Name y py) X.env (.ref s2.heap.objs.size)) _ _ _
  refine wpAny_assign_Name (y3y I' hN hy hx (v:=.ref s2.heap.objs.size) rfl (fun s'' I'' ⟨a,sb,ha⟩=>?_) hf)
  have hCa:C≠a:=fun z=>by
   rcases ha with q|q
   ·exact hCL (z.trans q)
   ·obtain⟨v,w⟩:=I'.cell y a q
    exact x6s hn w z.symm
  have hn2:=hn.sameBut sb hCa
  refine⟨m',hn2,fun h' hs'=>⟨_,_,I''.turned (h':=h') (t':=s''.toks) (it:=C) (fun b o hb e=>hs'.extBut b o hb e) hCn hCL (.inr hCs) (fun x c h=>?_) (fun p hp z=>?_),fin _ hD⟩⟩
  ·obtain⟨v,q⟩:=I''.cell x c h
   exact x6s hn2 q
  ·have:=Heap.lt_size (I2.pin p hp).1
   exact absurd (Nat.lt_trans this hCD) (by rw[z];exact Nat.lt_irrefl _)
end
end L2
namespace L3
open PySem PySem.Spec PyProof.Rows PySem.W L2
section
variable {prog:Program}{w:World}{A:Around}{E:Value->Shared->Prop}{s:Shared}{K:Frag}{x C:Addr}{ox:Obj}
structure XAt (h:Heap) (x:Addr) (ox:Obj) (C:Addr):Prop where
 at_:h.get? x=some ox
 cls:ox.cls=.ref C
theorem XAt.type {M:Model}{h:Heap}(I:XAt h x ox C):Looks M h (typeOf (.ref x)) (.ref C):=I.cls ▸ (Looks.ld I.at_).andThen .now
structure XCls (K:Frag) (C:Addr):Prop where
 ci:(clsIn K C).isSome=true
 ga:findIn K (.ref C) "__getattribute__" = some (some (.builtin "BaseException.__getattribute__"))
 gt:findIn K (.ref C) "__getattr__" = some none
 cl:findIn K (.ref C) "__class__" = some (some (.builtin "object.__class__"))
 cg:specialIn K (.builtin "object.__class__") "__get__" = some (some (.builtin "getset_descriptor.__get__"))
 ct:takesIn K (.builtin "object.__class__")=some true
 mo:mroIn K C (.type "object")=some true
 mb:mroIn K C (.type "BaseException")=some true
theorem z6u {M:Model}{h:Heap}(X:K.In h)(I:XAt h x ox C)(XC:XCls K C):Looks M h (Builtin.ObjectAttr.find (.ref x) (.ref C) "__class__") (.bind (.builtin "getset_descriptor.__get__") (.builtin "object.__class__")):=by
 have L1:=looks_findIn (M:=M) X XC.cl
 have L2:Looks M h (Builtin.ObjectAttr.getOf (some (.builtin "object.__class__"))) _:=looks_specialIn (M:=M) X XC.cg
 have L3:=looks_takesIn (M:=M) X XC.ct
 exact L1.andThen (L2.andThen ((show Looks M h (Builtin.ObjectAttr.dataDescriptor? (some (.builtin "object.__class__")) (some (.builtin "getset_descriptor.__get__"))) (some ((.builtin "getset_descriptor.__get__"),(.builtin "object.__class__")))from L3.andThen .now).andThen (Looks.tag .now)))
theorem y67 {tp:Value}{R:Result->Shared->Prop}(X:K.In s.heap)(I:XAt s.heap x ox C)(hm:mroIn K C (.type "object")=some true)
  (h:R (.ok (.ret (.ref C))) s):codeAny (model prog w) A (.call (.builtin "getset_descriptor.__get__") ⟨[.builtin "object.__class__",.ref x,tp],[]⟩) R s:=by
 obtain⟨hh,g,dr,t,os⟩:=s
 have L0:=I.type (M:=model prog w)
 have L1:=looks_mroIn (M:=model prog w) X hm
 refine codeAny_call_builtin KF.slot_gs.plain KF.entry_gs (KF.slot_gs.check _ _ _ _ _ _ _ _ KF.type_class (KF.args_gs _ _ _) ?_)
 unfold Builtin.«getset_descriptor.__get__» Builtin.Getset_descriptor.descrGet
 rw[dga_obj]
 refine wpAny_bind (wpAny_pure ?_)
 unfold Builtin.Getset_descriptor.descrGetter Builtin.Getset_descriptor.descrCheckInstance Builtin.Getset_descriptor.descrNameAndClass isInstance
 simp only[KF.owner_class]
 repeat lk
 refine⟨Code.quiet_builtin _ (by decide +kernel),codeAny_builtin KF.entry_class ?_⟩
 unfold Builtin.«object.__class__» shownTypeOf
 repeat lk
 exact h
theorem z4b {M:Model}{nameV:Value}{Q:Unit->Shared->Prop}(X:K.In s.heap)(I:XAt s.heap x ox C)(XC:XCls K C)(hq:Q () s):wpAny M A (checkBuiltinCall "BaseException.__getattribute__" ⟨[.ref x,nameV],[]⟩) Q E s:=by
 obtain⟨hh,g,d,t,os⟩:=s
 have L0:=I.type (M:=M)
 have L1:=looks_mroIn (M:=M) X XC.mb
 have hk:builtinKind "BaseException.__getattribute__" = some .slot:=by decide +kernel
 have hsplit:splitId "BaseException.__getattribute__" = some ("BaseException","__getattribute__"):=by decide +kernel
 have ha:=PySem.F.args_bexc_ga (.ref x) nameV
 simp only[checkBuiltinCall,hk,hsplit]
 unfold isInstance
 repeat lk
 exact hq
theorem j62 {tk:Tok}{R:Result->Shared->Prop}(X:K.In s.heap)(I:XAt s.heap x ox C)(XC:XCls K C)(h:R (.ok (.ret (.ref C))) s) :
  codeAny (model prog w) A (.call (.builtin "BaseException.__getattribute__") ⟨[.ref x,.str "__class__" tk],[]⟩) R s:=by
 refine codeAny_call_builtin PySem.F.excAttr_ValueError.ga.plain PySem.F.entry_bexc_ga (z4b X I XC ?_)
 obtain⟨hh,g,d,t,os⟩:=s
 have L0:=I.type (M:=model prog w)
 have L1:=z6u (M:=model prog w) X I XC
 show wpAny _ _ (Builtin.«object.__getattribute__» ⟨[.ref x,.str "__class__" tk],[]⟩) _ _ _
 refine wpAny_bind (wpAny_pure ?_)
 refine wpAny_bind (wpAny_pure ?_)
 refine wpAny_bind (L0.at (wpAny_bind (L1.at ?_)))
 show wpAny _ _ (holding [.builtin "object.__class__"] (call (.builtin "getset_descriptor.__get__") [.builtin "object.__class__",.ref x,.ref C]) >>= ret) _ _ _
 exact wpAny_bind (wpAny_holding (wpAny_call (y67 X I XC.mo (wpAny_pure h))))
theorem z39 {Q:Option Value->Shared->Prop}(X:K.In s.heap)(I:XAt s.heap x ox C)(XC:XCls K C)(h:Q (some (.ref C)) { s with toks:=s.toks+1 }):wpAny (model prog w) A (getAttr? (.ref x) "__class__") Q E s:=by
 obtain⟨hh,g,d,t,os⟩:=s
 have L0:=I.type (M:=model prog w)
 have L1:=looks_findIn (M:=model prog w) X XC.ga
 have L2:=looks_findIn (M:=model prog w) X XC.gt
 have f3:=PySem.F.excAttr_ValueError.ga.bind (.ref x)
 unfold getAttr? getAttrBy? getAttrBy
 refine wpAny_bind (wpAny_mkText (wpAny_bind (wpAny_attempt (wpAny_holding (wpAny_bind (L0.at (wpAny_bind (L1.at ?_))))))))
 show wpAny _ _ (getAttrByItsOwn _ _ _ _ _ _) _ _ _
 unfold getAttrByItsOwn
 refine wpAny_bind (L2.at ?_)
 refine wpAny_bind (wpAny_attempt (wpAny_holding ?_))
 show wpAny _ _ (boundAndCalled _ _ _) _ _ _
 unfold boundAndCalled
 rw[f3]
 refine wpAny_bind (wpAny_pure ?_)
 show wpAny _ _ (call (.builtin "BaseException.__getattribute__") [.ref x,.str "__class__" t]) _ _ _
 refine wpAny_call (j62 (s:=⟨hh,g,d,t+1,os⟩) X I XC ?_)
 exact handed_on rfl (wpAny_pure h)
theorem x6c {M:Model}{h:Heap}{D:Addr}(X:K.In h)(e:(clsIn K D).isSome=true):Looks M h (isType (.ref D)) true:=by
 unfold clsIn at e
 split at e
 ·rename_i c' d' cd' sl' ho
  intro A' Q' E' s' k q
  unfold isType loadHead
  exact wpAny_bind (wpAny_loadPart (k _ _ (X _ _ ho)) (wpAny_pure q))
 ·cases e
theorem y41 {c:Value}{dep:Int}{tk:Tok}{Q:Fin->Shared->Prop}(X:K.In s.heap)(I:XAt s.heap x ox C)(XC:XCls K C)(hty:Looks (model prog w) s.heap (typeOf c) (.type "type"))(his:Looks (model prog w) s.heap (isType c) true)
  (hne:(Value.ref C==c)=false) (hsub:Looks (model prog w) s.heap (isSubtype (.ref C) c) false) (h:Q (.done (.ret (.bool false))) { s with toks:=s.toks+1 }) :
  wpAny (model prog w) A (Builtin.«isinstance.nested» ⟨[.ref x,c,.int dep tk],[]⟩) Q E s:=by
 have hisD:=x6c (M:=model prog w) X XC.ci
 obtain⟨h0,g,d,tt,os⟩:=s
 have L0:=I.type (M:=model prog w)
 have LI:Looks (model prog w) h0 (isInstance (.ref x) c) false:=L0.andThen hsub
 unfold Builtin.«isinstance.nested»
 refine wpAny_bind (L0.at ?_)
 rw[if_neg (fun q=>by rw[hne]at q;exact Bool.noConfusion q)]
 refine wpAny_bind (hty.at ?_)
 rw[if_pos (by decide)]
 k_delta "plainIsInstance"
 refine wpAny_bind (wpAny_bind (his.at ?_))
 simp only[Bool.not_true,Bool.false_eq_true,if_false]
 refine wpAny_bind (LI.at ?_)
 simp only[Bool.false_eq_true,if_false]
 refine wpAny_bind (z39 X I XC ?_)
 refine wpAny_bind (hisD.at ?_)
 simp only[Bool.not_true,Bool.false_eq_true,if_false]
 refine wpAny_bind (wpAny_rule ?_)
 refine hsub.at ?_
 first
  | exact wpAny_pure h
  | exact wpAny_pure (wpAny_pure h)
  | exact wpAny_bind (wpAny_pure (wpAny_pure h))
theorem j5z {D:Addr}{Q:Value->Shared->Prop}(X:K.In s.heap)(I:XAt s.heap x ox C)(XC:XCls K C)(e:kin_not K C D=true)(h:Q (.bool false) { s with toks:=s.toks+1 }):wpAny (model prog w) A (call (.builtin "isinstance") [.ref x,.ref D]) Q E s:=by
 unfold kin_not at e
 rw[Bool.and_eq_true,Bool.and_eq_true,Bool.and_eq_true]at e
 obtain⟨⟨⟨e0,e1⟩,e2⟩,e3⟩:=e
 have hne:(Value.ref C==Value.ref D)=false:=Bool.eq_false_iff.mpr fun q=>of_decide_eq_true e0 (Value.ref.inj (beq_iff_eq.mp q))
 exact call_isinstance (S:=fun _ R s=>(K.In s.heap/\XAt s.heap x ox C)/\R (.ok (.ret (.bool false))) { s with toks:=s.toks+1 })
  (fun _ _ _ _ _ hs=>isinstance_outer (y41 hs.1.1 hs.1.2 XC (looks_typeIn hs.1.1 (beq_iff_eq.mp e2)) (x6c hs.1.1 e1) hne (looks_subIn hs.1.1 (beq_iff_eq.mp e3)) hs.2) (by intro q;cases q)) ⟨⟨X,I⟩,h⟩
theorem j2k {D:Addr}{Q:Value->Shared->Prop}(X:K.In s.heap)(I:XAt s.heap x ox C)(e:isIn K (.ref C) D=true)(h:Q (.bool true) s):wpAny (model prog w) A (call (.builtin "isinstance") [.ref x,.ref D]) Q E s:=
 isi_call X (fun M=>I.type) e (by intro q;cases q) h
theorem z9s {T:String}{Q:Value->Shared->Prop}(X:K.In s.heap)(I:XAt s.heap x ox C)(hty:typeOf (.type T)=pure (.type "type"))(e:subIn K (.ref C) (.type T)=some true)(h:Q (.bool true) s):wpAny (model prog w) A (call (.builtin "isinstance") [.ref x,.type T]) Q E s:=
 call_isinstance (S:=fun _ R s=>(K.In s.heap/\XAt s.heap x ox C)/\R (.ok (.ret (.bool true))) s) (fun prog w A R s hs=>isinstance_outer (by
  obtain⟨⟨X,I⟩,h⟩:=hs
  obtain⟨h0,g,d,tt,os⟩:=s
  have L0:=I.type (M:=model prog w)
  have LI:Looks (model prog w) h0 (isInstance (.ref x) (.type T)) true:=L0.andThen (looks_subIn X e)
  have hT:Looks (model prog w) h0 (typeOf (.type T)) (.type "type"):=Looks.of_pure hty
  have hI:Looks (model prog w) h0 (isType (.type T)) true:=Looks.of_pure rfl
  unfold Builtin.«isinstance.nested»
  refine wpAny_bind (L0.at ?_)
  rw[if_neg (fun q=>by cases beq_iff_eq.mp q)]
  refine wpAny_bind (hT.at ?_)
  rw[if_pos (by decide)]
  k_delta "plainIsInstance"
  refine wpAny_bind (wpAny_bind (hI.at ?_))
  simp only[Bool.not_true,Bool.false_eq_true,if_false]
  refine wpAny_bind (LI.at ?_)
  simp only[if_true]
  exact wpAny_pure (wpAny_pure h)) (by intro q;cases q)) ⟨⟨X,I⟩,h⟩
theorem j2h {T:String}{Q:Value->Shared->Prop}(X:K.In s.heap)(I:XAt s.heap x ox C)(XC:XCls K C)(hty:typeOf (.type T)=pure (.type "type"))(e:subIn K (.ref C) (.type T)=some false)(h:Q (.bool false) { s with toks:=s.toks+1 }):wpAny (model prog w) A (call (.builtin "isinstance") [.ref x,.type T]) Q E s:=
 call_isinstance (S:=fun _ R s=>(K.In s.heap/\XAt s.heap x ox C)/\R (.ok (.ret (.bool false))) { s with toks:=s.toks+1 })
  (fun _ _ _ _ _ hs=>isinstance_outer (y41 hs.1.1 hs.1.2 XC (Looks.of_pure hty) (Looks.of_pure rfl) (Bool.eq_false_iff.mpr fun q=>by cases beq_iff_eq.mp q) (looks_subIn hs.1.1 e) hs.2) (by intro q;cases q)) ⟨⟨X,I⟩,h⟩
end
def bmV:List Value:=[.type "ValueError",.type "Exception",.type "BaseException",.type "object"]
structure XKls (K:Frag) (nm:Str) (C:Addr):Prop where
 ns:nsIn K mainGlobals nm=some (some (.ref C))
 xc:XCls K C
 ex:excIn K C bmV "ValueError.__new__" = true
 ve:subIn K (.ref C) (.type "ValueError")=some true
 no:∀ T ∈ ["int","bool","tuple","list","str"],subIn K (.ref C) (.type T)=some false
def XO (K:Frag)(nm:Str)(ob:Obj):Prop:=∃ C,ob.cls=.ref C/\XKls K nm C
end L3
namespace L3
open PySem PySem.Spec PyProof.Rows L2
theorem y2q:Slot "function" "__getattribute__" "object.__getattribute__" :=
 .of (owner:="object") (n:="__getattribute__") (by rw[typeLookup_type,builtinLookup_eq_fast];kernel_rfl) (by decide +kernel) (by decide +kernel) (by decide +kernel)
  (by first|exact .inl (by decide +kernel)|exact .inr (by decide +kernel)) (by rw[isSubtype_type];kernel_rfl)
theorem z83:typeLookup (.type "function") "__class__" = pure (some (.builtin "object.__class__")):=by rw[typeLookup_type,builtinLookup_eq_fast];kernel_rfl
theorem j3p:isSubtype (.type "function") (.type (".".intercalate ("object.__class__".cutAt '.').dropLast))=pure true:=by
 rw[PySem.F.owner_object_class,isSubtype_type];kernel_rfl
theorem z2u:entryFor table "object.__getattribute__" = some Builtin.«object.__getattribute__»:=entryFor_of_tree (by kernel_rfl)
theorem z6x (a b:Value):argsOk "object.__getattribute__" ⟨[a,b],[]⟩:=by unfold argsOk;kernel_rfl
section
variable {prog:Program}{w:World}{A:Around}{E:Value->Shared->Prop}{s:Shared}{a:Addr}
theorem j2b {R:Result->Shared->Prop}(hT:s.TypeIs (.ref a) "function")(hq:R (.ok (.ret (.type "function"))) s) :
  codeAny (model prog w) A (.call (.builtin "getset_descriptor.__get__") ⟨[.builtin "object.__class__",.ref a,.type "function"],[]⟩) R s:=by
 obtain⟨h,g,d,t,os⟩:=s
 have h5:(⟨h,g,d,t,os⟩:Shared).TypeIs (.builtin "object.__class__") "getset_descriptor":=PySem.F.typeOf_object_class
 have f8:=j3p
 refine codeAny_call_builtin PySem.F.slot_gs_get.plain PySem.F.entry_gs_get (PySem.F.slot_gs_get.check _ _ _ _ _ _ _ _ h5 (PySem.F.args_gs_get _ _ _) ?_)
 repeat (any_goals (first|assumption|wp_step))
 refine⟨Code.quiet_builtin _ (by decide +kernel),codeAny_builtin PySem.F.entry_object_class ?_⟩
 repeat (any_goals (first|assumption|wp_step))
theorem z3h {Q:Option Value->Shared->Prop}(hT:s.TypeIs (.ref a) "function")(hq:Q (some (.type "function")) { s with toks:=s.toks+1 }):wpAny (model prog w) A (getAttr? (.ref a) "__class__") Q E s:=by
 obtain⟨h,g,d,t,os⟩:=s
 have hT1:∀ t',(⟨h,g,d,t',os⟩:Shared).TypeIs (.ref a) "function":=fun _=>hT
 have en:∀ {tk:Tok} {t':Nat} {Q:Fin->Shared->Prop} {E:Value->Shared->Prop} {A:Around},Q (.done (.ret (.type "function"))) ⟨h,g,d,t',os⟩->
   wpAny (model prog w) A (Builtin.«object.__getattribute__» ⟨[.ref a,.str "__class__" tk],[]⟩) Q E ⟨h,g,d,t',os⟩:=by
  intro tk t' Q E A hq
  have hT:=hT1 t'
  have h5:(⟨h,g,d,t',os⟩:Shared).TypeIs (.builtin "object.__class__") "getset_descriptor":=PySem.F.typeOf_object_class
  have f4:=z83
  have f5:=PySem.F.typeOf_object_class
  have f6:=PySem.F.slot_gs_get.lookup
  have f7:=PySem.F.slot_gs_set.lookup
  repeat (any_goals (first|assumption|wp_step))
  refine j2b hT ?_
  repeat (any_goals (first|assumption|wp_step))
 have by':∀ {tk:Tok} {t':Nat} {Q:Value->Shared->Prop} {E:Value->Shared->Prop} {A:Around},Q (.type "function") ⟨h,g,d,t',os⟩->wpAny (model prog w) A (getAttrBy (.ref a) (.str "__class__" tk) false) Q E ⟨h,g,d,t',os⟩:=by
  intro tk t' Q E A hq
  have hT:=hT1 t'
  have f2:=y2q.lookup
  have f3:=y2q.bind (.ref a)
  repeat (any_goals (first|assumption|wp_step))
  refine codeAny_call_builtin y2q.plain z2u (y2q.check _ _ _ _ _ _ _ _ hT (z6x _ _) (en ?_))
  repeat (any_goals (first|assumption|wp_step))
 unfold getAttr? getAttrBy?
 repeat (any_goals (first|assumption|with_reducible apply by' | wp_step))
theorem z1y {K:PySem.W.Frag}:PySem.W.KitX K (.ref a) (.type "function") (PySem.W.KitAt a "function"):=PySem.W.kitx_of PySem.W.kitAt_ty (fun {_ _ _ _ _ s} p k=>z3h (by obtain⟨o,h1,h2⟩:=p;exact⟨o,h1,h2⟩) k)
end
inductive D where
 | non|bl (b:Bool)|int (i:Int)|str (x:Str)|tup (ds:List D)|lst (ds:List D)
 /-- a dict that is not changed,its keys texts -/
 | dic (ks:List Str) (ds:List D)
 /-- an exception,by its class's name -/
 | exc (nm:Str)
 /-- a function made here: its place,its object,what it keeps of the names around it -/
 | ob (f:Addr) (fo:Obj) (vs:List V) (ds:List D)
abbrev St:=L2.St
inductive Ow where
 | s (i:Nat)|t (i:Nat)|f
 deriving DecidableEq
abbrev Wn:=Addr->Option Ow
def KL (K:PySem.W.Frag)(a:Addr)(xs:List V):Prop:=
 ∃ (o:Obj) (its:Array Value) (n:Nat),K.lookup a=some o/\o.cls=.type "list" /\ o.dict=none/\o.data=.seq its n/\its.size<=sizeLine/\x2i xs its.toList
theorem SqL.cases {K:PySem.W.Frag}{H:Hp}{a:Addr}{xs:List V}(h:SqL K H a xs):Rd H a (.lst xs)\/KL K a xs:=h
theorem KL.sq {K:PySem.W.Frag}{H:Hp}{a:Addr}{xs:List V}(h:KL K a xs):SqL K H a xs:=.inr h
def kvL (ks:List Str)(vs:List V):List (Key×V):=(ks.map fun x=>(Sum.inr x:Key)).zip vs
def Clo (fo:Obj)(c:Addr)(oc:Obj):Prop:=fo.cls=.type "function" /\ (∃ fd,fo.data=.func fd/\fd.code=.ref c)/\∃ fs q t,oc.data=.fields fs/\fs[1]? = some (.str q t)
mutual
/-- q: how deep the lists are owned -/
inductive Rep (K:PySem.W.Frag) (H:Hp) (w:Wn) (o:Ow):Nat->D->V->List Addr->Prop
 | non {q}:Rep K H w o q .non .non []
 | bl {q} (b:Bool):Rep K H w o q (.bl b) (.bl b) []
 | int {q} (i:Int):Rep K H w o q (.int i) (.int i) []
 | str {q} (x:Str):Rep K H w o q (.str x) (.str x) []
 | tup {q} {a:Addr} {vs:List V} {ds:List D}:H a=some (.tup vs)->Reps K H w o 0 ds vs []->Rep K H w o q (.tup ds) (.ref a) []
 | dic {q} {a:Addr} {ks:List Str} {vs:List V} {ds:List D}:H a=some (.dK (kvL ks vs))->Reps K H w o 0 ds vs []->Rep K H w o q (.dic ks ds) (.ref a) []
 | exc {q} {a:Addr} {nm:Str} {ob:Obj} {u:HO}:H a=some (.frz ob u)->XO K nm ob->(∀ xs,u ≠ .lst xs)->Rep K H w o q (.exc nm) (.ref a) []
 | ob {q} {f c:Addr} {fo oc:Obj} {u u':HO} {vs:List V} {ds:List D}:H f=some (.frz fo u)->H c=some (.frz oc u')->Clo fo c oc->Reps K H w o 0 ds vs []->Rep K H w o q (.ob f fo vs ds) (.ref f) []
 | kl {a:Addr} {vs:List V} {ds:List D}:KL K a vs->Reps K H w o 0 ds vs []->Rep K H w o 0 (.lst ds) (.ref a) []
 | shr {a:Addr} {vs:List V} {ds:List D}:Rd H a (.lst vs)->w a=none->Reps K H w o 0 ds vs []->Rep K H w o 0 (.lst ds) (.ref a) []
 | own {q} {a:Addr} {vs:List V} {ds:List D} {F:List Addr}:H a=some (.lst vs)->w a=some o->Reps K H w o q ds vs F->a ∉ F->Rep K H w o (q+1) (.lst ds) (.ref a) (a::F)
inductive Reps (K:PySem.W.Frag) (H:Hp) (w:Wn) (o:Ow):Nat->List D->List V->List Addr->Prop
 | nil {q}:Reps K H w o q [] [] []
 | cons {q} {d:D} {v:V} {ds:List D} {vs:List V} {F G:List Addr}:Rep K H w o q d v F->Reps K H w o q ds vs G->(∀ a∈F,a ∉ G)->Reps K H w o q (d::ds) (v::vs) (F++G)
end
def j3y:HO->Bool
 | .tbl _=>true
 | _=>false
def Sm (x:HO)(y:Option HO):Prop:=match x with
 | .tbl _=>∃ ps,y=some (.tbl ps)
 | x=>y=some x
theorem sm {x:HO}{y:Option HO}(h:y=some x):Sm x y:=by cases x<;>first|exact h|exact⟨_,h⟩
theorem Sm.is {x:HO}{y:Option HO}(h:Sm x y):∃ z,y=some z/\j3y z=j3y x:=by
 cases x<;>first|exact⟨_,h,rfl⟩|(obtain⟨ps,e⟩:=h;exact⟨_,e,rfl⟩)
theorem Sm.eq {x:HO}{y:Option HO}(h:Sm x y)(n:j3y x=false):y=some x:=by cases x<;>first|exact h|cases n
def x77:List Str:=["turned","chain_ladder","flat_ladder","paired"]
structure TB (K:PySem.W.Frag) (H:Hp):Prop where
 tr:∀ P ps,H P=some (.tbl ps)->PySem.TriplesOk ps.toList
 cd:∀ P ps,H P=some (.tbl ps)->∀ pos cv,PySem.codeAmong pos ps.toList=some cv->∃ c oc u vs q t,cv=.ref c/\H c=some (.frz oc u)/\oc.data=.fields vs/\vs[1]? = some (.str q t)/\∀ xs,u ≠ .lst xs
 is:∀ x∈x77,∀ c P,PySem.W.tabIn K x=some (c,P)->∃ ps,H P=some (.tbl ps)
structure WL (K:PySem.W.Frag) (w:Wn) (H:Hp):Prop where
 own:∀ a o,w a=some o->∃ vs,H a=some (.lst vs)
 tb:TB K H
instance {K:PySem.W.Frag} {w:Wn} {H:Hp}:CoeFun (WL K w H) (fun _=>∀ a o,w a=some o->∃ vs,H a=some (.lst vs)):=⟨WL.own⟩
theorem TB.upd {K:PySem.W.Frag}{H:Hp}(t:TB K H){p:Addr}{x:HO}(hx:j3y x=false)(hp:H p=none\/∃ vs,H p=some (.lst vs)):TB K (L2.upd H p x):=by
 have ne:∀ a y,H a=some y->(∀ vs,y ≠ .lst vs)->a≠p:=fun a y e h z=>by
  subst z
  rcases hp with q|⟨vs,q⟩
  ·rw[e]at q;cases q
  ·rw[e]at q;cases q;exact h _ rfl
 refine⟨fun P ps e=>?_,fun P ps e pos cv hc=>?_,fun x hx c P hP=>by
  obtain⟨ps,e⟩:=t.is x hx c P hP
  exact⟨ps,by rw[x0i (ne P _ e fun _ z=>nomatch z)];exact e⟩⟩
 ·by_cases hP:P=p
  ·subst hP;rw[x0w]at e;cases e;cases hx
  ·rw[x0i hP]at e;exact t.tr P ps e
 ·by_cases hP:P=p
  ·subst hP;rw[x0w]at e;cases e;cases hx
  ·rw[x0i hP]at e
   obtain⟨c,oc,u,vs,q,tt,h1,h2,h3,h4,h5⟩:=t.cd P ps e pos cv hc
   exact⟨c,oc,u,vs,q,tt,h1,by rw[x0i (ne c _ h2 fun _ z=>nomatch z)];exact h2,h3,h4,h5⟩
def x71 (H:Hp)(w:Wn)(H':Hp)(w':Wn):Prop:=∀ a x,H a=some x->w a=none->Sm x (H' a)/\w' a=none
theorem x71.trans {H H1 H2:Hp}{w w1 w2:Wn}(a:x71 H w H1 w1)(b:x71 H1 w1 H2 w2):x71 H w H2 w2:=fun c x h n=>by
 obtain⟨s1,n1⟩:=a c x h n
 cases ht:j3y x with
 | false=>exact b c x (s1.eq ht) n1
 | true=>
  obtain⟨y,e,hy⟩:=s1.is
  obtain⟨s2,n2⟩:=b c y e n1
  refine⟨?_,n2⟩
  rw[ht]at hy
  cases x with
  | tbl ps=>
   cases y with
   | tbl ps'=>exact s2
   | _=>cases hy
  | _=>cases ht
theorem WL.rdT {K:PySem.W.Frag}{w:Wn}{H:Hp}(wl:WL K w H){a:Addr}{x:HO}(e:H a=some x)(h:∀ vs,x ≠ .lst vs):w a=none:=by
 cases q:w a with
 | none=>rfl
 | some o=>
  obtain⟨vs,e'⟩:=wl a o q
  rw[e]at e'
  exact absurd (Option.some.inj e') (h vs)
theorem SqT.go {K:PySem.W.Frag}{H H':Hp}{w w':Wn}(wl:WL K w H)(st:x71 H w H' w'){a:Addr}{vs:List V}(h:SqT K H a vs):SqT K H' a vs:=by
 rcases h with(h|⟨o,h⟩)|h
 ·exact .inl (.inl (st a _ h (wl.rdT h (fun _ z=>nomatch z))).1)
 ·exact .inl (.inr ⟨o,(st a _ h (wl.rdT h (fun _ z=>nomatch z))).1⟩)
 ·exact .inr h
theorem RdL.go {H H':Hp}{w w':Wn}(st:x71 H w H' w'){a:Addr}{vs:List V}(n:w a=none)(h:Rd H a (.lst vs)):Rd H' a (.lst vs)/\w' a=none:=by
 rcases h with h|⟨o,h⟩
 ·exact⟨.inl (st a _ h n).1,(st a _ h n).2⟩
 ·exact⟨.inr ⟨o,(st a _ h n).1⟩,(st a _ h n).2⟩
theorem Rep.go {K:PySem.W.Frag}{H H':Hp}{w w':Wn}{o o':Ow}(wl:WL K w H)(st:x71 H w H' w'):∀ {q:Nat} {d:D} {v:V} {F:List Addr},Rep K H w o q d v F->(∀ a∈F,H' a=H a/\w' a=some o')->Rep K H' w' o' q d v F:=by
 intro q d v F r
 refine Rep.rec (motive_1:=fun q d v F _=>(∀ a∈F,H' a=H a/\w' a=some o')->Rep K H' w' o' q d v F) (motive_2:=fun q ds vs F _=>(∀ a∈F,H' a=H a/\w' a=some o')->Reps K H' w' o' q ds vs F) ?_ ?_ ?_ ?_ ?_ ?_ ?_ ?_ ?_ ?_ ?_ ?_ ?_ r
 ·intro q _;exact .non
 ·intro q b _;exact .bl b
 ·intro q i _;exact .int i
 ·intro q x _;exact .str x
 ·intro q a vs ds h r ih _;exact .tup (st _ _ h (wl.rdT h (fun _ z=>by cases z))).1 (ih (fun _ z=>(List.not_mem_nil z).elim))
 ·intro q a ks vs ds h r ih _;exact .dic (st _ _ h (wl.rdT h (fun _ z=>by cases z))).1 (ih (fun _ z=>(List.not_mem_nil z).elim))
 ·intro q a nm ob u h x n _;exact .exc (st _ _ h (wl.rdT h (fun _ z=>by cases z))).1 x n
 ·intro q f c fo oc u u' vs ds h1 h2 x r ih _;exact .ob (st _ _ h1 (wl.rdT h1 (fun _ z=>by cases z))).1 (st _ _ h2 (wl.rdT h2 (fun _ z=>by cases z))).1 x (ih (fun _ z=>(List.not_mem_nil z).elim))
 ·intro a vs ds h r ih _;exact .kl h (ih (fun _ z=>(List.not_mem_nil z).elim))
 ·intro a vs ds h n r ih _;exact .shr (RdL.go st n h).1 (RdL.go st n h).2 (ih (fun _ z=>(List.not_mem_nil z).elim))
 ·intro q a vs ds F h e r ne ih k;exact .own ((k _ List.mem_cons_self).1.trans h) (k _ List.mem_cons_self).2 (ih fun a m=>k a (List.mem_cons_of_mem _ m)) ne
 ·intro q _;exact .nil
 ·intro q d v ds vs F G r s ne ih1 ih2 k;exact .cons (ih1 fun a m=>k a (List.mem_append_left _ m)) (ih2 fun a m=>k a (List.mem_append_right _ m)) ne
theorem Reps.go {K:PySem.W.Frag}{H H':Hp}{w w':Wn}{o o':Ow}(wl:WL K w H)(st:x71 H w H' w'):∀ {q:Nat} {ds:List D} {vs:List V} {F:List Addr},Reps K H w o q ds vs F->(∀ a∈F,H' a=H a/\w' a=some o')->Reps K H' w' o' q ds vs F:=by
 intro q ds vs F r
 refine Reps.rec (motive_1:=fun q d v F _=>(∀ a∈F,H' a=H a/\w' a=some o')->Rep K H' w' o' q d v F) (motive_2:=fun q ds vs F _=>(∀ a∈F,H' a=H a/\w' a=some o')->Reps K H' w' o' q ds vs F) ?_ ?_ ?_ ?_ ?_ ?_ ?_ ?_ ?_ ?_ ?_ ?_ ?_ r
 ·intro q _;exact .non
 ·intro q b _;exact .bl b
 ·intro q i _;exact .int i
 ·intro q x _;exact .str x
 ·intro q a vs ds h r ih _;exact .tup (st _ _ h (wl.rdT h (fun _ z=>by cases z))).1 (ih (fun _ z=>(List.not_mem_nil z).elim))
 ·intro q a ks vs ds h r ih _;exact .dic (st _ _ h (wl.rdT h (fun _ z=>by cases z))).1 (ih (fun _ z=>(List.not_mem_nil z).elim))
 ·intro q a nm ob u h x n _;exact .exc (st _ _ h (wl.rdT h (fun _ z=>by cases z))).1 x n
 ·intro q f c fo oc u u' vs ds h1 h2 x r ih _;exact .ob (st _ _ h1 (wl.rdT h1 (fun _ z=>by cases z))).1 (st _ _ h2 (wl.rdT h2 (fun _ z=>by cases z))).1 x (ih (fun _ z=>(List.not_mem_nil z).elim))
 ·intro a vs ds h r ih _;exact .kl h (ih (fun _ z=>(List.not_mem_nil z).elim))
 ·intro a vs ds h n r ih _;exact .shr (RdL.go st n h).1 (RdL.go st n h).2 (ih (fun _ z=>(List.not_mem_nil z).elim))
 ·intro q a vs ds F h e r ne ih k;exact .own ((k _ List.mem_cons_self).1.trans h) (k _ List.mem_cons_self).2 (ih fun a m=>k a (List.mem_cons_of_mem _ m)) ne
 ·intro q _;exact .nil
 ·intro q d v ds vs F G r s ne ih1 ih2 k;exact .cons (ih1 fun a m=>k a (List.mem_append_left _ m)) (ih2 fun a m=>k a (List.mem_append_right _ m)) ne
theorem Rep.freeze {K:PySem.W.Frag}{H:Hp}{w w':Wn}{o o':Ow}(n:∀ a,w a=none->w' a=none):∀ {q:Nat} {d:D} {v:V} {F:List Addr},Rep K H w o q d v F->(∀ a∈F,w' a=none)->Rep K H w' o' 0 d v []:=by
 intro q d v F r
 refine Rep.rec (motive_1:=fun q d v F _=>(∀ a∈F,w' a=none)->Rep K H w' o' 0 d v []) (motive_2:=fun q ds vs F _=>(∀ a∈F,w' a=none)->Reps K H w' o' 0 ds vs []) ?_ ?_ ?_ ?_ ?_ ?_ ?_ ?_ ?_ ?_ ?_ ?_ ?_ r
 ·intro q _;exact .non
 ·intro q b _;exact .bl b
 ·intro q i _;exact .int i
 ·intro q x _;exact .str x
 ·intro q a vs ds h r ih _;exact .tup h (ih (fun _ z=>(List.not_mem_nil z).elim))
 ·intro q a ks vs ds h r ih _;exact .dic h (ih (fun _ z=>(List.not_mem_nil z).elim))
 ·intro q a nm ob u h x n _;exact .exc h x n
 ·intro q f c fo oc u u' vs ds h1 h2 x r ih _;exact .ob h1 h2 x (ih (fun _ z=>(List.not_mem_nil z).elim))
 ·intro a vs ds h r ih _;exact .kl h (ih (fun _ z=>(List.not_mem_nil z).elim))
 ·intro a vs ds h e r ih _;exact .shr h (n _ e) (ih (fun _ z=>(List.not_mem_nil z).elim))
 ·intro q a vs ds F h e r ne ih k;exact .shr (Rd.of h) (k _ List.mem_cons_self) (ih fun a m=>k a (List.mem_cons_of_mem _ m))
 ·intro q _;exact .nil
 ·intro q d v ds vs F G r s ne ih1 ih2 k;exact .cons (F:=[]) (G:=[]) (ih1 fun a m=>k a (List.mem_append_left _ m)) (ih2 fun a m=>k a (List.mem_append_right _ m)) (fun _ z=>(List.not_mem_nil z).elim)
theorem Reps.freeze {K:PySem.W.Frag}{H:Hp}{w w':Wn}{o o':Ow}(n:∀ a,w a=none->w' a=none):∀ {q:Nat} {ds:List D} {vs:List V} {F:List Addr},Reps K H w o q ds vs F->(∀ a∈F,w' a=none)->Reps K H w' o' 0 ds vs []:=by
 intro q ds vs F r
 refine Reps.rec (motive_1:=fun q d v F _=>(∀ a∈F,w' a=none)->Rep K H w' o' 0 d v []) (motive_2:=fun q ds vs F _=>(∀ a∈F,w' a=none)->Reps K H w' o' 0 ds vs []) ?_ ?_ ?_ ?_ ?_ ?_ ?_ ?_ ?_ ?_ ?_ ?_ ?_ r
 ·intro q _;exact .non
 ·intro q b _;exact .bl b
 ·intro q i _;exact .int i
 ·intro q x _;exact .str x
 ·intro q a vs ds h r ih _;exact .tup h (ih (fun _ z=>(List.not_mem_nil z).elim))
 ·intro q a ks vs ds h r ih _;exact .dic h (ih (fun _ z=>(List.not_mem_nil z).elim))
 ·intro q a nm ob u h x n _;exact .exc h x n
 ·intro q f c fo oc u u' vs ds h1 h2 x r ih _;exact .ob h1 h2 x (ih (fun _ z=>(List.not_mem_nil z).elim))
 ·intro a vs ds h r ih _;exact .kl h (ih (fun _ z=>(List.not_mem_nil z).elim))
 ·intro a vs ds h e r ih _;exact .shr h (n _ e) (ih (fun _ z=>(List.not_mem_nil z).elim))
 ·intro q a vs ds F h e r ne ih k;exact .shr (Rd.of h) (k _ List.mem_cons_self) (ih fun a m=>k a (List.mem_cons_of_mem _ m))
 ·intro q _;exact .nil
 ·intro q d v ds vs F G r s ne ih1 ih2 k;exact .cons (F:=[]) (G:=[]) (ih1 fun a m=>k a (List.mem_append_left _ m)) (ih2 fun a m=>k a (List.mem_append_right _ m)) (fun _ z=>(List.not_mem_nil z).elim)
theorem Rep.owns {K:PySem.W.Frag}{H:Hp}{w:Wn}{o:Ow}:∀ {q:Nat} {d:D} {v:V} {F:List Addr},Rep K H w o q d v F->∀ a∈F,w a=some o:=by
 intro q d v F r
 refine Rep.rec (motive_1:=fun q d v F _=>∀ a∈F,w a=some o) (motive_2:=fun q ds vs F _=>∀ a∈F,w a=some o) ?_ ?_ ?_ ?_ ?_ ?_ ?_ ?_ ?_ ?_ ?_ ?_ ?_ r
 ·intro q a m;exact(List.not_mem_nil m).elim
 ·intro q b a m;exact(List.not_mem_nil m).elim
 ·intro q i a m;exact(List.not_mem_nil m).elim
 ·intro q x a m;exact(List.not_mem_nil m).elim
 ·intro q a vs ds h r ih b m;exact(List.not_mem_nil m).elim
 ·intro q a ks vs ds h r ih b m;exact(List.not_mem_nil m).elim
 ·intro q a nm ob u h x n b m;exact(List.not_mem_nil m).elim
 ·intro q f c fo oc u u' vs ds h1 h2 x r ih b m;exact(List.not_mem_nil m).elim
 ·intro a vs ds h r ih b m;exact(List.not_mem_nil m).elim
 ·intro a vs ds h e r ih b m;exact(List.not_mem_nil m).elim
 ·intro q a vs ds F h e r ne ih b m
  rcases List.mem_cons.mp m with z|z
  ·rw[z];exact e
  ·exact ih b z
 ·intro q a m;exact(List.not_mem_nil m).elim
 ·intro q d v ds vs F G r s ne ih1 ih2 a m
  rcases List.mem_append.mp m with z|z
  ·exact ih1 a z
  ·exact ih2 a z
theorem Reps.owns {K:PySem.W.Frag}{H:Hp}{w:Wn}{o:Ow}:∀ {q:Nat} {ds:List D} {vs:List V} {F:List Addr},Reps K H w o q ds vs F->∀ a∈F,w a=some o:=by
 intro q ds vs F r
 refine Reps.rec (motive_1:=fun q d v F _=>∀ a∈F,w a=some o) (motive_2:=fun q ds vs F _=>∀ a∈F,w a=some o) ?_ ?_ ?_ ?_ ?_ ?_ ?_ ?_ ?_ ?_ ?_ ?_ ?_ r
 ·intro q a m;exact(List.not_mem_nil m).elim
 ·intro q b a m;exact(List.not_mem_nil m).elim
 ·intro q i a m;exact(List.not_mem_nil m).elim
 ·intro q x a m;exact(List.not_mem_nil m).elim
 ·intro q a vs ds h r ih b m;exact(List.not_mem_nil m).elim
 ·intro q a ks vs ds h r ih b m;exact(List.not_mem_nil m).elim
 ·intro q a nm ob u h x n b m;exact(List.not_mem_nil m).elim
 ·intro q f c fo oc u u' vs ds h1 h2 x r ih b m;exact(List.not_mem_nil m).elim
 ·intro a vs ds h r ih b m;exact(List.not_mem_nil m).elim
 ·intro a vs ds h e r ih b m;exact(List.not_mem_nil m).elim
 ·intro q a vs ds F h e r ne ih b m
  rcases List.mem_cons.mp m with z|z
  ·rw[z];exact e
  ·exact ih b z
 ·intro q a m;exact(List.not_mem_nil m).elim
 ·intro q d v ds vs F G r s ne ih1 ih2 a m
  rcases List.mem_append.mp m with z|z
  ·exact ih1 a z
  ·exact ih2 a z
def D.isL:D->Bool
 | .lst _=>true
 | _=>false
@[simp] theorem D.isL_non:D.isL .non=false:=rfl
@[simp] theorem D.isL_bl (b:Bool):D.isL (.bl b)=false:=rfl
@[simp] theorem D.isL_int (i:Int):D.isL (.int i)=false:=rfl
@[simp] theorem D.isL_str (x:Str):D.isL (.str x)=false:=rfl
@[simp] theorem D.isL_tup (ds:List D):D.isL (.tup ds)=false:=rfl
@[simp] theorem D.isL_dic (ks:List Str)(ds:List D):D.isL (.dic ks ds)=false:=rfl
@[simp] theorem D.isL_exc (nm:Str):D.isL (.exc nm)=false:=rfl
@[simp] theorem D.isL_ob (f:Addr)(fo:Obj)(vs:List V)(ds:List D):D.isL (.ob f fo vs ds)=false:=rfl
@[simp] theorem D.isL_lst (ds:List D):D.isL (.lst ds)=true:=rfl
theorem Rep.nolist {K:PySem.W.Frag}{H:Hp}{w:Wn}{o:Ow}{q:Nat}{d:D}{v:V}{F:List Addr}(r:Rep K H w o q d v F)(h:d.isL=false):F=[]/\∀ q',Rep K H w o q' d v []:=by
 cases r with
 | non=>exact⟨rfl,fun _=>.non⟩
 | bl b=>exact⟨rfl,fun _=>.bl b⟩
 | int i=>exact⟨rfl,fun _=>.int i⟩
 | str x=>exact⟨rfl,fun _=>.str x⟩
 | tup h' r'=>exact⟨rfl,fun _=>.tup h' r'⟩
 | dic h' r'=>exact⟨rfl,fun _=>.dic h' r'⟩
 | exc h' x n=>exact⟨rfl,fun _=>.exc h' x n⟩
 | ob h1 h2 x r=>exact⟨rfl,fun _=>.ob h1 h2 x r⟩
 | kl=>cases h
 | shr=>cases h
 | own=>cases h
theorem Rep.zero {K:PySem.W.Frag}{H:Hp}{w:Wn}{o:Ow}{d:D}{v:V}{F:List Addr}(r:Rep K H w o 0 d v F):F=[]:=by
 cases r<;>rfl
theorem Reps.zero {K:PySem.W.Frag}{H:Hp}{w:Wn}{o:Ow}:∀ {ds:List D} {vs:List V} {F:List Addr},Reps K H w o 0 ds vs F->F=[]
 | _,_,_,.nil=>rfl
 | _,_,_,.cons r s _=>by rw[r.zero,s.zero];rfl
theorem Reps.length {K:PySem.W.Frag}{H:Hp}{w:Wn}{o:Ow}{q:Nat}:∀ {ds:List D} {vs:List V} {F:List Addr},Reps K H w o q ds vs F->ds.length=vs.length
 | _,_,_,.nil=>rfl
 | _,_,_,.cons _ s _=>by simp[s.length]
theorem Rep.any {K:PySem.W.Frag}{H:Hp}{w:Wn}{o o':Ow}{q:Nat}{d:D}{v:V}(r:Rep K H w o q d v [])(wl:WL K w H):Rep K H w o' q d v []:=
 Rep.go wl (fun a x h n=>⟨sm h,n⟩) r (fun _ z=>nomatch z)
theorem Reps.any {K:PySem.W.Frag}{H:Hp}{w:Wn}{o o':Ow}{q:Nat}{d:List D}{v:List V}(r:Reps K H w o q d v [])(wl:WL K w H):Reps K H w o' q d v []:=
 Reps.go wl (fun a x h n=>⟨sm h,n⟩) r (fun _ z=>nomatch z)
theorem Reps.get {K:PySem.W.Frag}{H:Hp}{w:Wn}{o:Ow}:∀ {ds:List D} {vs:List V} {i:Nat} {d:D},Reps K H w o 0 ds vs []->ds[i]? = some d->∃ v,vs[i]? = some v/\Rep K H w o 0 d v []
 | ds,vs,i,d,r,e=>by
  generalize hF:([]:List Addr)=F at r
  cases r with
  | nil=>simp at e
  | @cons _ d' v' ds' vs' F' G' r s _=>
   have h1:F'=[]:=r.zero
   have h2:G'=[]:=s.zero
   subst h1 h2
   cases i with
   | zero=>simp at e;subst e;exact⟨v',rfl,r⟩
   | succ j=>
    obtain⟨v,h1,h2⟩:=Reps.get (i:=j) (d:=d) s (by simpa using e)
    exact⟨v,by simpa using h1,h2⟩
theorem Reps.snoc {K:PySem.W.Frag}{H:Hp}{w:Wn}{o:Ow}{q:Nat}{d:D}{v:V}{G:List Addr}(r':Rep K H w o q d v G):∀ {ds:List D} {vs:List V} {F:List Addr},Reps K H w o q ds vs F->(∀ a∈F,a ∉ G)->Reps K H w o q (ds++[d]) (vs++[v]) (F++G)
 | _,_,_,.nil,_=>by
  have:Reps K H w o q [d] [v] (G++[]):=.cons r' .nil (fun a _ z=>nomatch z)
  simpa using this
 | _,_,_,.cons (F:=F) (G:=F') r s ne,k=>by
  rw[List.append_assoc]
  refine .cons r (Reps.snoc r' s fun a m=>k a (List.mem_append_right _ m)) fun a m z=>?_
  rcases List.mem_append.mp z with z|z
  ·exact ne a m z
  ·exact k a (List.mem_append_left _ m) z
abbrev OD:=Option (D×Nat)
abbrev Rho:=List (OD)
structure Good (K:PySem.W.Frag) (ρ:Rho) (σ:St) (H:Hp) (w:Wn) (t:Nat):Prop where
 wl:WL K w H
 ws:∀ a i,w a=some (.s i)->i<σ.length
 wt:∀ a i,w a=some (.t i)->i<t
 len:ρ.length=σ.length
 slot:∀ (i:Nat) d q,ρ[i]? = some (some (d,q))->∃ v F,σ[i]? = some (some v)/\Rep K H w (.s i) q d v F
structure Go (H:Hp) (w:Wn) (H':Hp) (w':Wn):Prop where
 stab:x71 H w H' w'
 keep:∀ a o,w a=some o->(∀ i,o ≠ .s i)->H' a=H a/\w' a=some o
theorem Go.refl {H:Hp}{w:Wn}:Go H w H w:=⟨fun a x h n=>⟨sm h,n⟩,fun a o e _=>⟨rfl,e⟩⟩
theorem Go.trans {H H1 H2:Hp}{w w1 w2:Wn}(a:Go H w H1 w1)(b:Go H1 w1 H2 w2):Go H w H2 w2:=
 ⟨a.stab.trans b.stab,fun c o e h=>by
   obtain⟨h1,w1⟩:=a.keep c o e h
   obtain⟨h2,w2⟩:=b.keep c o w1 h
   exact⟨h2.trans h1,w2⟩⟩
theorem Rep.gone {K:PySem.W.Frag}{H H':Hp}{w w':Wn}{q:Nat}{d:D}{v:V}{F:List Addr}{i:Nat}(r:Rep K H w (.t i) q d v F)(wl:WL K w H)(g:Go H w H' w'):Rep K H' w' (.t i) q d v F:=
 Rep.go wl g.stab r fun a m=>g.keep a _ (r.owns a m) (fun _ z=>nomatch z)
theorem Reps.gone {K:PySem.W.Frag}{H H':Hp}{w w':Wn}{q:Nat}{d:List D}{v:List V}{F:List Addr}{i:Nat}(r:Reps K H w (.t i) q d v F)(wl:WL K w H)(g:Go H w H' w'):Reps K H' w' (.t i) q d v F:=
 Reps.go wl g.stab r fun a m=>g.keep a _ (r.owns a m) (fun _ z=>nomatch z)
def x1q (t:Nat)(w:Wn):Wn:=fun a=>match w a with
 | some (.t i)=>if t<=i then none else some (.t i)
 | x=>x
theorem x6x {t:Nat}{w:Wn}{a:Addr}(h:w a=none):x1q t w a=none:=by unfold x1q;rw[h]
theorem z7e {t:Nat}{w:Wn}{a:Addr}{i:Nat}(h:w a=some (.s i)):x1q t w a=some (.s i):=by unfold x1q;rw[h]
theorem z9b {t:Nat}{w:Wn}{a:Addr}(h:w a=some .f):x1q t w a=some .f:=by unfold x1q;rw[h]
theorem z4d {t:Nat}{w:Wn}{a:Addr}{i:Nat}(h:w a=some (.t i))(hi:i<t):x1q t w a=some (.t i):=by unfold x1q;rw[h];exact if_neg (by omega)
theorem z50 {t:Nat}{w:Wn}{a:Addr}{i:Nat}(h:w a=some (.t i))(hi:t<=i):x1q t w a=none:=by unfold x1q;rw[h];exact if_pos hi
theorem x8o {t:Nat}{w:Wn}{a:Addr}{o:Ow}(h:x1q t w a=some o):w a=some o/\∀ i,o=.t i->i<t:=by
 unfold x1q at h
 cases e:w a with
 | none=>rw[e]at h;cases h
 | some o'=>
  rw[e]at h
  cases o' with
  | s i=>cases h;exact⟨rfl,fun i z=>nomatch z⟩
  | f=>cases h;exact⟨rfl,fun i z=>nomatch z⟩
  | t i=>
   dsimp only at h
   split at h
   ·cases h
   ·cases h;exact⟨rfl,fun j z=>by cases z;omega⟩
theorem Good.drop {K:PySem.W.Frag}{ρ:Rho}{σ:St}{H:Hp}{w:Wn}{t t':Nat}(g:Good K ρ σ H w t):Good K ρ σ H (x1q t' w) t':=by
 refine⟨⟨fun a o e=>g.wl a o (x8o e).1,g.wl.tb⟩,fun a i e=>g.ws a i (x8o e).1,fun a i e=>(x8o e).2 i rfl,g.len,fun i d q e=>?_⟩
 obtain⟨v,F,h1,h2⟩:=g.slot i d q e
 exact⟨v,F,h1,Rep.go g.wl (fun a x h n=>⟨sm h,x6x n⟩) h2 fun a m=>⟨rfl,z7e (h2.owns a m)⟩⟩
theorem Go.drop {H H':Hp}{w w':Wn}{t:Nat}(g:Go H w H' w')(wt:∀ a i,w a=some (.t i)->i<t):Go H w H' (x1q t w'):=
 ⟨fun a x h n=>⟨(g.stab a x h n).1,x6x (g.stab a x h n).2⟩,fun a o e h=>by
   obtain⟨h1,h2⟩:=g.keep a o e h
   refine⟨h1,?_⟩
   cases o with
   | s i=>exact absurd rfl (h i)
   | f=>exact z9b h2
   | t i=>exact z4d h2 (wt a i e)⟩
theorem Rep.drop {K:PySem.W.Frag}{H:Hp}{w:Wn}{q:Nat}{d:D}{v:V}{F:List Addr}{t:Nat}{o:Ow}(r:Rep K H w (.t t) q d v F){t':Nat}(h:t'<=t):Rep K H (x1q t' w) o 0 d v []:=
 Rep.freeze (fun a n=>x6x n) r fun a m=>z50 (r.owns a m) h
abbrev Den:=Rho->Option (D×Nat×Rho)
def tD (K:PySem.W.Frag)(f:Den):TE:=fun σ H Q=>∃ ρ w t r q ρ',Good K ρ σ H w t/\f ρ=some (r,q,ρ')/\∀ v H' w' F,Good K ρ' σ H' w' (t+1)->Go H w H' w'->Rep K H' w' (.t t) q r v F->Q v H'
theorem PE.imp {X:Cx}{e:Expr}{t t':TE}(h:PE X e t)(i:∀ σ H Q,t' σ H Q->t σ H Q):PE X e t':=fun pins s σ H Q I q=>h pins s σ H Q I (i σ H Q q)
abbrev PD (X:Cx)(e:Expr)(f:Den):Prop:=PE X e (tD X.K f)
theorem Good.up {K:PySem.W.Frag}{ρ:Rho}{σ:St}{H:Hp}{w:Wn}{t:Nat}(g:Good K ρ σ H w t):Good K ρ σ H w (t+1):=⟨g.wl,g.ws,fun a i e=>Nat.lt_succ_of_lt (g.wt a i e),g.len,g.slot⟩
@[simp] def y1e (d:D):Nat:=if d.isL then 0 else 9
theorem Rep.dep {K:PySem.W.Frag}{H:Hp}{w:Wn}{o:Ow}{d:D}{v:V}(r:Rep K H w o 0 d v []):Rep K H w o (y1e d) d v []:=by
 unfold y1e
 cases e:d.isL with
 | true=>exact r
 | false=>exact(r.nolist e).2 9
section
variable {K:PySem.W.Frag}{σ:St}{H:Hp}{ρ ρ' ρ1 ρ2:Rho}{w:Wn}{t:Nat}{Q:VK}
theorem j05 {fa fb:Den}{R:V->V->Hp->Prop}(g:Good K ρ σ H w t){d1 d2:D}{q1 q2:Nat}(e1:fa ρ=some (d1,q1,ρ1))(e2:fb ρ1=some (d2,q2,ρ2))
  (k:∀ x y H2 w2 F1 F2,Good K ρ2 σ H2 w2 (t+2)->Go H w H2 w2->Rep K H2 w2 (.t t) q1 d1 x F1->Rep K H2 w2 (.t (t+1)) q2 d2 y F2->R x y H2) :
  tD K fa σ H fun x H1=>tD K fb σ H1 fun y H2=>R x y H2:=
 ⟨ρ,w,t,d1,q1,ρ1,g,e1,fun x H1 w1 F1 g1 go1 r1=>⟨ρ1,w1,t+1,d2,q2,ρ2,g1,e2,fun y H2 w2 F2 g2 go2 r2=>k x y H2 w2 F1 F2 g2 (go1.trans go2) (r1.gone g1.wl go2) r2⟩⟩
theorem z9j {r:D}{q:Nat}{v:V}{H2:Hp}{w2:Wn}{t2:Nat}(k:∀ v H' w' F,Good K ρ' σ H' w' (t+1)->Go H w H' w'->Rep K H' w' (.t t) q r v F->Q v H')(g:Good K ρ σ H w t)(g2:Good K ρ' σ H2 w2 t2)(go:Go H w H2 w2)
  (rr:Rep K H2 (x1q t w2) (.t t) q r v []):Q v H2:=k v H2 (x1q t w2) [] g2.drop.up (go.drop g.wt) rr
def z1u (p:Addr)(o:Ow)(w:Wn):Wn:=fun a=>if a=p then some o else w a
theorem x5e {p:Addr}{o:Ow}{w:Wn}:z1u p o w p=some o:=if_pos rfl
theorem x46 {p a:Addr}{o:Ow}{w:Wn}(h:a≠p):z1u p o w a=w a:=if_neg h
theorem y85 {H1:Hp}{p:Addr}{vs:List V}{ds:List D}{w1:Wn}(g:Good K ρ σ H1 w1 t)(hp:H1 p=none)(r:Reps K H1 w1 .f 0 ds vs []) :
  Good K ρ σ (upd H1 p (.lst vs)) (z1u p (.t t) w1) (t+1)/\Go H1 w1 (upd H1 p (.lst vs)) (z1u p (.t t) w1)/\Rep K (upd H1 p (.lst vs)) (z1u p (.t t) w1) (.t t) 1 (.lst ds) (.ref p) [p]:=by
 have ne:∀ a x,H1 a=some x->a≠p:=fun a x e=>x0u e hp
 have nw:∀ a o,w1 a=some o->a≠p:=fun a o e=>by obtain⟨vs,q⟩:=g.wl a o e;exact ne a _ q
 have st:x71 H1 w1 (upd H1 p (.lst vs)) (z1u p (.t t) w1):=fun a x e n=>⟨sm (by rw[x0i (ne a x e)];exact e),by rw[x46 (ne a x e)];exact n⟩
 refine⟨⟨⟨fun a o e=>?_,g.wl.tb.upd rfl (.inl hp)⟩,fun a i e=>?_,fun a i e=>?_,g.len,fun i d q e=>?_⟩,⟨st,fun a o e _=>⟨x0i (nw a o e),(x46 (nw a o e)).trans e⟩⟩,?_⟩
 ·by_cases h:a=p
  ·subst h;exact⟨vs,x0w⟩
  ·rw[x46 h]at e
   obtain⟨us,q⟩:=g.wl a o e
   exact⟨us,by rw[x0i h];exact q⟩
 ·by_cases h:a=p
  ·subst h;rw[x5e]at e;cases e
  ·rw[x46 h]at e;exact g.ws a i e
 ·by_cases h:a=p
  ·subst h;rw[x5e]at e;cases e;exact Nat.lt_succ_self _
  ·rw[x46 h]at e;exact Nat.lt_succ_of_lt (g.wt a i e)
 ·obtain⟨v,F,h1,h2⟩:=g.slot i d q e
  exact⟨v,F,h1,Rep.go g.wl st h2 fun a m=>⟨x0i (nw a _ (h2.owns a m)),(x46 (nw a _ (h2.owns a m))).trans (h2.owns a m)⟩⟩
 ·exact .own x0w x5e (Reps.go g.wl st r (fun _ z=>nomatch z)) (fun z=>nomatch z)
theorem y1p {H1:Hp}{p:Addr}{vs:List V}{ds:List D}{w1:Wn}(g:Good K ρ σ H1 w1 t)(hp:H1 p=none)(r:Reps K H1 w1 .f 0 ds vs []) :
  Good K ρ σ (upd H1 p (.tup vs)) w1 (t+1)/\Go H1 w1 (upd H1 p (.tup vs)) w1/\Rep K (upd H1 p (.tup vs)) w1 (.t t) 9 (.tup ds) (.ref p) []:=by
 have ne:∀ a x,H1 a=some x->a≠p:=fun a x e=>x0u e hp
 have nw:∀ a o,w1 a=some o->a≠p:=fun a o e=>by obtain⟨vs,q⟩:=g.wl a o e;exact ne a _ q
 have st:x71 H1 w1 (upd H1 p (.tup vs)) w1:=fun a x e n=>⟨sm (by rw[x0i (ne a x e)];exact e),n⟩
 refine⟨⟨⟨fun a o e=>?_,g.wl.tb.upd rfl (.inl hp)⟩,g.ws,fun a i e=>Nat.lt_succ_of_lt (g.wt a i e),g.len,fun i d q e=>?_⟩,⟨st,fun a o e _=>⟨x0i (nw a o e),e⟩⟩,?_⟩
 ·obtain⟨us,q⟩:=g.wl a o e
  exact⟨us,by rw[x0i (nw a o e)];exact q⟩
 ·obtain⟨v,F,h1,h2⟩:=g.slot i d q e
  exact⟨v,F,h1,Rep.go g.wl st h2 fun a m=>⟨x0i (nw a _ (h2.owns a m)),h2.owns a m⟩⟩
 ·exact .tup x0w (Reps.go g.wl st r (fun _ z=>nomatch z))
end
@[simp] def eC (d:D):Den:=fun ρ=>some (d,9,ρ)
@[simp] def x05 (i:Nat):Den:=fun ρ=>match ρ[i]? with
 | some (some (d,q))=>if d.isL=false then some (d,9,ρ)else if q=0 then some (d,0,ρ)else some (d,0,ρ.set i (some (d,0)))
 | _=>none
section
variable {X:Cx}{a b c e:Expr}{fa fb fc f:Den}{pos:Pos}
theorem x9z {v:V}{d:D}(h:PE X e (tC v))(r:∀ K H w o q,Rep K H w o q d v []):PD X e (eC d):=PE.imp h fun σ H Q hh0=>by
 obtain⟨ρ,w,t,r',q,ρ',g,ee,k⟩:=hh0
 cases ee
 exact k v H w [] g.up Go.refl (r _ _ _ _ _)
theorem j3a {i j}:PD X (.Constant (.int i) j pos) (eC (.int i)):=x9z z5c fun _ _ _ _ _=>.int i
theorem j5c {i j}:PD X (.Constant (.bool i) j pos) (eC (.bl i)):=x9z j5b fun _ _ _ _ _=>.bl i
theorem j2c {j}:PD X (.Constant .none j pos) (eC .non):=x9z j41 fun _ _ _ _ _=>.non
theorem j3o {x j}:PD X (.Constant (.str x) j pos) (eC (.str x)):=x9z y6x fun _ _ _ _ _=>.str x
def x5t (i:Nat)(w:Wn):Wn:=fun a=>if w a=some (.s i)then none else w a
theorem x5b {i:Nat}{w:Wn}{a:Addr}(h:w a=none):x5t i w a=none:=by unfold x5t;rw[h];rfl
theorem y1v {i:Nat}{w:Wn}{a:Addr}(h:w a=some (.s i)):x5t i w a=none:=by unfold x5t;rw[if_pos h]
theorem x6u {i:Nat}{w:Wn}{a:Addr}{o:Ow}(h:w a=some o)(n:o ≠ .s i):x5t i w a=some o:=by unfold x5t;rw[if_neg (by rw[h];exact fun z=>n (Option.some.inj z))];exact h
theorem x34 {i:Nat}{w:Wn}{a:Addr}{o:Ow}(h:x5t i w a=some o):w a=some o/\o ≠ .s i:=by
 unfold x5t at h
 split at h
 ·cases h
 ·rename_i n;exact⟨h,fun z=>n (by rw[h,z])⟩
theorem Good.give {K:PySem.W.Frag}{ρ:Rho}{σ:St}{H:Hp}{w:Wn}{t i:Nat}{d:D}{q:Nat}(g:Good K ρ σ H w t)(e:ρ[i]? = some (some (d,q))):Good K (ρ.set i (some (d,0))) σ H (x5t i w) t/\Go H w H (x5t i w):=by
 have st:x71 H w H (x5t i w):=fun a x h n=>⟨sm h,x5b n⟩
 refine⟨⟨⟨fun a o h=>g.wl a o (x34 h).1,g.wl.tb⟩,fun a j h=>g.ws a j (x34 h).1,fun a j h=>g.wt a j (x34 h).1,by rw[List.length_set];exact g.len,fun j d' q' e'=>?_⟩,⟨st,fun a o h n=>⟨rfl,x6u h (n i)⟩⟩⟩
 by_cases hj:i=j
 ·subst hj
  rw[List.getElem?_set_self (List.getElem?_eq_some_iff.mp e).1]at e'
  cases e'
  obtain⟨v,F,h1,h2⟩:=g.slot i d q e
  exact⟨v,[],h1,Rep.freeze (fun a n=>x5b n) h2 fun a m=>y1v (h2.owns a m)⟩
 ·rw[List.getElem?_set_ne hj]at e'
  obtain⟨v,F,h1,h2⟩:=g.slot j d' q' e'
  exact⟨v,F,h1,Rep.go g.wl st h2 fun a m=>⟨rfl,x6u (h2.owns a m) (fun z=>hj (by cases z;rfl))⟩⟩
theorem j3m {i:Nat}{x:Str}(h:PE X (.Name x pos) (x9r i)):PD X (.Name x pos) (x05 i):=PE.imp h fun σ H Q hh0=>by
 obtain⟨ρ,w,t,r',q,ρ',g,ee,k⟩:=hh0
 unfold x05 at ee
 split at ee
 ·rename_i d q0 e0
  obtain⟨v,F,h1,h2⟩:=g.slot i d q0 e0
  refine⟨v,h1,?_⟩
  split at ee
  ·rename_i hl
   cases ee
   obtain⟨hF,hr⟩:=h2.nolist hl
   exact k v H w [] g.up Go.refl ((hr 9).any g.wl)
  ·split at ee
   ·rename_i hq
    subst hq
    cases ee
    have:=h2.zero
    subst this
    exact k v H w [] g.up Go.refl (h2.any g.wl)
   ·cases ee
    obtain⟨g',go'⟩:=g.give e0
    refine k v H (x5t i w) [] g'.up go' ?_
    exact Rep.freeze (fun a n=>x5b n) h2 fun a m=>y1v (h2.owns a m)
 ·cases ee
def y35:D->Option V
 | .non=>some .non
 | .bl b=>some (.bl b)
 | .int i=>some (.int i)
 | .str x=>some (.str x)
 | _=>none
theorem y3l {K:PySem.W.Frag}{H:Hp}{w:Wn}{o:Ow}{q:Nat}{d:D}{v:V}(h:y35 d=some v):Rep K H w o q d v []:=by
 cases d<;>cases h
 ·exact .non
 ·exact .bl _
 ·exact .int _
 ·exact .str _
@[simp] def e2 (g:D->D->Option D)(fa fb:Den):Den:=fun ρ=>match fa ρ with
 | some (x,_,ρ1)=>match fb ρ1 with
  | some (y,_,ρ2)=>match g x y with
   | some d=>some (d,9,ρ2)
   | none=>none
  | none=>none
 | none=>none
theorem z97 {g:D->D->Option D}{ρ ρ':Rho}{r:D}{q:Nat}(h:e2 g fa fb ρ=some (r,q,ρ')):∃ x q1 ρ1 y q2,fa ρ=some (x,q1,ρ1)/\fb ρ1=some (y,q2,ρ')/\g x y=some r/\q=9:=by
 unfold e2 at h
 split at h
 ·rename_i x q1 ρ1 h1
  split at h
  ·rename_i y q2 ρ2 h2
   split at h
   ·rename_i d hd
    cases h
    exact⟨x,q1,ρ1,y,q2,h1,h2,hd,rfl⟩
   ·cases h
  ·cases h
 ·cases h
theorem y22 {K:PySem.W.Frag}{g:D->D->Option D}{r:R2}(hg:∀ x y d,g x y=some d->∃ v,y35 d=some v/\∀ H w o o' q q' u u' F F',Rep K H w o q x u F->Rep K H w o' q' y u' F'->WL K w H->∀ Q:VK,Q v H->r u u' H Q) :
  ∀ σ H Q,tD K (e2 g fa fb) σ H Q->tOp r (tD K fa) (tD K fb) σ H Q:=fun σ H Q hh0=>by
 obtain⟨ρ,w,t,r',q,ρ',gd,ee,k⟩:=hh0
 obtain⟨x,q1,ρ1,y,q2,h1,h2,h3,rfl⟩:=z97 ee
 obtain⟨v,hv,hr⟩:=hg x y r' h3
 exact j05 gd h1 h2 fun u u' H2 w2 F1 F2 g2 go r1 r2=>hr H2 w2 _ _ _ _ u u' F1 F2 r1 r2 g2.wl Q (z9j k gd g2 go (y3l hv))
@[simp] def gI (f:Int->Int->Option D):D->D->Option D
 | .int i,.int j=>f i j
 | _,_=>none
theorem y0n {f:Int->Int->Option D}{x y d:D}(h:gI f x y=some d):∃ i j,x=.int i/\y=.int j/\f i j=some d:=by
 unfold gI at h
 split at h
 ·exact⟨_,_,rfl,rfl,h⟩
 ·cases h
theorem x4h {K:PySem.W.Frag}{H:Hp}{w:Wn}{o:Ow}{q:Nat}{i:Int}{v:V}{F:List Addr}(r:Rep K H w o q (.int i) v F):v=.int i:=by cases r;rfl
theorem y5v {K:PySem.W.Frag}{f:Int->Int->Option D}{C:Int->Int->Prop}{h:Int->Int->V}(hf:∀ i j d,f i j=some d->C i j/\y35 d=some (h i j)) :
  ∀ σ H Q,tD K (e2 (gI f) fa fb) σ H Q->tOp (rI C h) (tD K fa) (tD K fb) σ H Q:=
 y22 fun x y d e=>by
  obtain⟨i,j,rfl,rfl,e⟩:=y0n e
  obtain⟨c,s⟩:=hf i j d e
  exact⟨_,s,fun H w o o' q q' u u' F F' r1 r2 _ Q hq=>⟨i,j,x4h r1,x4h r2,c,hq⟩⟩
theorem y78 {K:PySem.W.Frag}{f:Int->Int->Option D}{h:Int->Int->V}(hf:∀ i j d,f i j=some d->y35 d=some (h i j)) :
  ∀ σ H Q,tD K (e2 (gI f) fa fb) σ H Q->tOp (rI0 h) (tD K fa) (tD K fb) σ H Q:=
 y22 fun x y d e=>by
  obtain⟨i,j,rfl,rfl,e⟩:=y0n e
  exact⟨_,hf i j d e,fun H w o o' q q' u u' F F' r1 r2 _ Q hq=>⟨i,j,x4h r1,x4h r2,hq⟩⟩
@[simp] def x41:D->D->Option D:=gI fun i j=>some (.int (i+j))
@[simp] def y5d:D->D->Option D:=gI fun i j=>if(-(2 ^ 64)<i/\i<2 ^ 64)\/(-(2 ^ 64)<j/\j<2 ^ 64)then some (.int (i*j))else none
@[simp] def j2x:D->D->Option D:=gI fun i j=>if 0<j/\j<1073741824 then some (.int (i / j))else none
@[simp] def z5q:D->D->Option D:=gI fun i j=>if 0<j then some (.int (i % j))else none
theorem j35 (ha:PD X a fa)(hb:PD X b fb):PD X (.BinOp a .Add b pos) (e2 x41 fa fb):=PE.imp (y4r j30 ha hb) (y78 fun i j d h=>by cases h;rfl)
theorem j36 (ha:PD X a fa)(hb:PD X b fb):PD X (.BinOp a .Mult b pos) (e2 y5d fa fb):=PE.imp (y4r j1b ha hb) (y5v fun i j d h=>by
 split at h
 ·cases h;exact⟨by assumption,rfl⟩
 ·cases h)
theorem j1z (ha:PD X a fa)(hb:PD X b fb):PD X (.BinOp a .FloorDiv b pos) (e2 j2x fa fb):=PE.imp (y4r z6o ha hb) (y5v fun i j d h=>by
 split at h
 ·cases h;exact⟨by assumption,rfl⟩
 ·cases h)
theorem j26 (ha:PD X a fa)(hb:PD X b fb):PD X (.BinOp a .Mod b pos) (e2 z5q fa fb):=PE.imp (y4r j3x ha hb) (y5v fun i j d h=>by
 split at h
 ·cases h;exact⟨by assumption,rfl⟩
 ·cases h)
def atD:D->Int->Option D
 | .lst ds,i=>atI ds i
 | .tup ds,i=>atI ds i
 | _,_=>none
@[simp] def eIx (fa fb:Den):Den:=fun ρ=>match fa ρ with
 | some (x,_,ρ1)=>match fb ρ1 with
  | some (.int i,_,ρ2)=>match atD x i with
   | some d=>some (d,y1e d,ρ2)
   | none=>none
  | _=>none
 | none=>none
theorem Rep.seqL {K:PySem.W.Frag}{H:Hp}{w:Wn}{o:Ow}{q:Nat}{ds:List D}{v:V}{F:List Addr}(r:Rep K H w o q (.lst ds) v F):∃ a vs q' G,v=.ref a/\SqL K H a vs/\Reps K H w o q' ds vs G:=by
 cases r with
 | kl h r=>exact⟨_,_,_,_,rfl,h.sq,r⟩
 | shr h n r=>exact⟨_,_,_,_,rfl,.inl h,r⟩
 | own h n r _=>exact⟨_,_,_,_,rfl,SqL.of h,r⟩
theorem Rep.seqL0 {K:PySem.W.Frag}{H:Hp}{w:Wn}{o:Ow}{ds:List D}{v:V}{F:List Addr}(r:Rep K H w o 0 (.lst ds) v F):∃ a vs,v=.ref a/\SqL K H a vs/\Reps K H w o 0 ds vs []:=by
 cases r with
 | kl h r=>exact⟨_,_,rfl,h.sq,r⟩
 | shr h n r=>exact⟨_,_,rfl,.inl h,r⟩
theorem Rep.seqT {K:PySem.W.Frag}{H:Hp}{w:Wn}{o:Ow}{q:Nat}{ds:List D}{v:V}{F:List Addr}(r:Rep K H w o q (.tup ds) v F):∃ a vs,v=.ref a/\SqT K H a vs/\Reps K H w o 0 ds vs []:=by
 cases r with
 | tup h r=>exact⟨_,_,rfl,SqT.of h,r⟩
theorem Rep.tupAt {K:PySem.W.Frag}{H:Hp}{w:Wn}{o:Ow}{q:Nat}{ds:List D}{v:V}{F:List Addr}(r:Rep K H w o q (.tup ds) v F):∃ a vs,v=.ref a/\H a=some (.tup vs)/\Reps K H w o 0 ds vs []:=by
 cases r with
 | tup h r=>exact⟨_,_,rfl,h,r⟩
theorem Reps.atI {K:PySem.W.Frag}{H:Hp}{w:Wn}{o:Ow}{ds:List D}{vs:List V}{i:Int}{d:D}(r:Reps K H w o 0 ds vs [])(h:L2.atI ds i=some d):∃ v,L2.atI vs i=some v/\Rep K H w o 0 d v []:=by
 unfold L2.atI at h ⊢
 rw[<- r.length]
 cases e:ixN ds.length i with
 | none=>rw[e]at h;cases h
 | some j=>
  rw[e]at h
  exact r.get h
theorem j64 (ha:PD X a fa)(hb:PD X b fb)(hs:x4t b:=by exact fun _ _=>rfl):PD X (.Subscript a b pos) (eIx fa fb):=PE.imp (z0o y53 ha hb hs) fun σ H Q hh0=>by
 obtain⟨ρ,w,t,r',q,ρ',gd,ee,k⟩:=hh0
 unfold eIx at ee
 split at ee
 ·rename_i x q1 ρ1 h1
  split at ee
  ·rename_i i q2 ρ2 h2
   split at ee
   ·rename_i d hd
    cases ee
    refine j05 gd h1 h2 fun u u' H2 w2 F1 F2 g2 go r1 r2=>?_
    have hu':=x4h r2
    subst hu'
    have r0:=r1.drop (o:=.t t) (Nat.le_refl t)
    cases x with
    | lst ds=>
     obtain⟨p,vs,rfl,hq,rs⟩:=r0.seqL0
     obtain⟨v,hv,rv⟩:=rs.atI hd
     exact .inl ⟨p,vs,i,v,rfl,rfl,hq,hv,z9j k gd g2 go rv.dep⟩
    | tup ds=>
     obtain⟨p,vs,rfl,hq,rs⟩:=r0.seqT
     obtain⟨v,hv,rv⟩:=rs.atI hd
     exact .inr (.inl ⟨p,vs,i,v,rfl,rfl,hq,hv,z9j k gd g2 go rv.dep⟩)
    | _=>cases hd
   ·cases ee
  ·cases ee
 ·cases ee
abbrev x1o:=Rho->Option (List D×Rho)
def tDA (K:PySem.W.Frag)(f:x1o):TA:=fun σ H Q=>∃ ρ w t ds ρ',Good K ρ σ H w t/\f ρ=some (ds,ρ')/\∀ vs H' w',Good K ρ' σ H' w' t->Go H w H' w'->Reps K H' w' .f 0 ds vs []->Q vs H'
abbrev PDA (X:Cx)(es:List Expr)(f:x1o):Prop:=PA X es (tDA X.K f)
theorem PA.imp {X:Cx}{e:List Expr}{t t':TA}(h:PA X e t)(i:∀ σ H Q,t' σ H Q->t σ H Q):PA X e t':=fun pos pins s σ H Q I q=>h pos pins s σ H Q I (i σ H Q q)
@[simp] def x0f:x1o:=fun ρ=>some ([],ρ)
@[simp] def x01 (f:Den)(g:x1o):x1o:=fun ρ=>match f ρ with
 | some (d,_,ρ1)=>match g ρ1 with
  | some (ds,ρ2)=>some (d::ds,ρ2)
  | none=>none
 | none=>none
theorem z7l:PDA X [] x0f:=PA.imp x7x fun σ H Q hh0=>by
 obtain⟨ρ,w,t,ds,ρ',gd,ee,k⟩:=hh0
 cases ee
 exact k [] H w gd Go.refl .nil
theorem z2x {es:List Expr}{g:x1o}(ha:PD X e f)(hr:PDA X es g)(hs:starEach (e::es) X.env=(false,eval e X.env)::starEach es X.env:=by rfl):PDA X (e::es) (x01 f g):=PA.imp (x3x ha hr hs) fun σ H Q hh0=>by
 obtain⟨ρ,w,t,ds,ρ',gd,ee,k⟩:=hh0
 unfold x01 at ee
 split at ee
 ·rename_i d q ρ1 h1
  split at ee
  ·rename_i ds' ρ2 h2
   cases ee
   refine⟨ρ,w,t,d,q,ρ1,gd,h1,fun x H1 w1 F1 g1 go1 r1=>⟨ρ1,x1q t w1,t,ds',_,g1.drop,h2,fun vs H2 w2 g2 go2 r2=>?_⟩⟩
   have gl:=(g1.drop (t':=t)).wl
   have r0:Rep X.K H2 w2 .f 0 d x []:=Rep.go gl go2.stab (r1.drop (o:=.f) (Nat.le_refl t)) (fun _ z=>nomatch z)
   exact k (x::vs) H2 w2 g2 ((go1.drop gd.wt).trans go2) (.cons (F:=[]) (G:=[]) r0 r2 (fun _ z=>nomatch z))
  ·cases ee
 ·cases ee
@[simp] def x5j (g:x1o):Den:=fun ρ=>match g ρ with
 | some (ds,ρ1)=>if ds.length<=1000 then some (.lst ds,1,ρ1)else none
 | none=>none
@[simp] def x4i (g:x1o):Den:=fun ρ=>match g ρ with
 | some (ds,ρ1)=>if ds.length<=1000 then some (.tup ds,9,ρ1)else none
 | none=>none
theorem x9d {n:Nat}(h:n<=1000):n<=sizeLine:=Nat.le_of_lt (x4b h)
theorem j2f {es:List Expr}{g:x1o}(h:PDA X es g):PD X (.List es pos) (x5j g):=PE.imp (j1c h) fun σ H Q hh0=>by
 obtain⟨ρ,w,t,r',q,ρ',gd,ee,k⟩:=hh0
 unfold x5j at ee
 split at ee
 ·rename_i ds ρ1 h1
  split at ee
  ·rename_i hl
   cases ee
   refine⟨ρ,w,t,ds,_,gd,h1,fun vs H1 w1 g1 go1 r1=>⟨by rw[<- r1.length];exact x9d hl,fun p hp=>?_⟩⟩
   obtain⟨a1,a2,a3⟩:=y85 g1 hp r1
   exact k _ _ _ _ a1 (go1.trans a2) a3
  ·cases ee
 ·cases ee
theorem j0y {es:List Expr}{g:x1o}{x1}(h:PDA X es g):PD X (.Tuple es x1 pos) (x4i g):=PE.imp (z5f h) fun σ H Q hh0=>by
 obtain⟨ρ,w,t,r',q,ρ',gd,ee,k⟩:=hh0
 unfold x4i at ee
 split at ee
 ·rename_i ds ρ1 h1
  split at ee
  ·rename_i hl
   cases ee
   refine⟨ρ,w,t,ds,_,gd,h1,fun vs H1 w1 g1 go1 r1=>⟨by rw[<- r1.length];exact x9d hl,fun p hp=>?_⟩⟩
   obtain⟨a1,a2,a3⟩:=y1p g1 hp r1
   exact k _ _ _ _ a1 (go1.trans a2) a3
  ·cases ee
 ·cases ee
def spD (K:PySem.W.Frag)(n:Nat)(F:List D->OD):Sp:=fun vs H Q _=>vs.length=n/\∃ ds w r q,(∀ a o,w a=some o->o=.f)/\WL K w H/\Reps K H w .f 0 ds vs []/\F ds=some (r,q) /\
 ∀ v H' w' Fo,Go H w H' w'->WL K w' H'->Rep K H' w' (.t 0) q r v Fo->Q v H'
@[simp] def x0l (F:List D->OD)(n:Nat)(g:x1o):Den:=fun ρ=>match g ρ with
 | some (ds,ρ1)=>if ds.length=n then match F ds with
  | some (r,q)=>some (r,q,ρ1)
  | none=>none
  else none
 | none=>none
theorem j54 {K:PySem.W.Frag}{ρ:Rho}{σ:St}{H H':Hp}{w w':Wn}{t q:Nat}{d:D}{v:V}{Fo:List Addr}(g:Good K ρ σ H w t)
  (go:Go H (fun a=>(w a).map fun _=>Ow.f) H' w') (wl':WL K w' H') (r:Rep K H' w' (.t 0) q d v Fo) :
  Good K ρ σ H' (fun a=>if a∈Fo then some (.t t)else w a) (t+1)/\Go H w H' (fun a=>if a∈Fo then some (.t t)else w a)/\Rep K H' (fun a=>if a∈Fo then some (.t t)else w a) (.t t) q d v Fo:=by
 have kf:∀ a o,w a=some o->H' a=H a/\w' a=some .f:=fun a o e=>go.keep a .f (by show(w a).map _=_;rw[e];rfl) (fun _ z=>nomatch z)
 have nf:∀ a x,H a=some x->a ∉ Fo:=fun a x e m=>by
  have h1:=r.owns a m
  cases ew:w a with
  | none=>
   have:=(go.stab a x e (by show(w a).map _=_;rw[ew];rfl)).2
   rw[h1]at this;cases this
  | some o=>rw[(kf a o ew).2]at h1;cases h1
 have nw:∀ a o,w a=some o->a ∉ Fo:=fun a o e=>by obtain⟨vs,q⟩:=g.wl a o e;exact nf a _ q
 have st:x71 H w H' (fun a=>if a∈Fo then some (.t t)else w a):=fun a x e n=>⟨(go.stab a x e (by show(w a).map _=_;rw[n];rfl)).1,by show(if a∈Fo then _ else _)=_;rw[if_neg (nf a x e)];exact n⟩
 have wv:∀ a o,(if a∈Fo then some (Ow.t t)else w a)=some o->(a∈Fo/\o=.t t)\/w a=some o:=fun a o e=>by
  split at e
  ·cases e;exact .inl ⟨by assumption,rfl⟩
  ·exact .inr e
 refine⟨⟨⟨fun a o e=>?_,wl'.tb⟩,fun a i e=>?_,fun a i e=>?_,g.len,fun i d q e=>?_⟩,⟨st,fun a o e _=>⟨(kf a o e).1,by show(if a∈Fo then _ else _)=_;rw[if_neg (nw a o e)];exact e⟩⟩,?_⟩
 ·rcases wv a o e with⟨m,_⟩|z
  ·exact wl' a _ (r.owns a m)
  ·obtain⟨vs,h⟩:=g.wl a o z
   exact⟨vs,(kf a o z).1.trans h⟩
 ·rcases wv a _ e with⟨_,z⟩|z
  ·cases z
  ·exact g.ws a i z
 ·rcases wv a _ e with⟨_,z⟩|z
  ·cases z;exact Nat.lt_succ_self _
  ·exact Nat.lt_succ_of_lt (g.wt a i z)
 ·obtain⟨v,F,h1,h2⟩:=g.slot i d q e
  refine⟨v,F,h1,Rep.go g.wl st h2 fun a m=>⟨(kf a _ (h2.owns a m)).1,?_⟩⟩
  show(if a∈Fo then _ else _)=_
  rw[if_neg (nw a _ (h2.owns a m))]
  exact h2.owns a m
 ·refine Rep.go wl' (fun a x e n=>⟨sm e,?_⟩) r fun a m=>⟨rfl,if_pos m⟩
  show(if a∈Fo then _ else _)=_
  rw[if_neg (fun m=>by have:=r.owns a m;rw[n]at this;cases this)]
  cases ew:w a with
  | none=>rfl
  | some o=>have:=(kf a o ew).2;rw[n]at this;cases this
theorem z43 {CX:CXT}{k n:Nat}{fn:Addr}{fd:FuncData}{ps:List Str}{x:Str}{p:Pos}{es:List Expr}{F:List D->OD}{g:x1o}{E:XK}(Fk:FnOk X.prog X.w X.K X.mg X.base CX k fn fd ps (spD X.K n F))(hr:Room k X.A)(hm:X.mg x=some (.ref fn))(hk:PySem.W.keepIn X.K (.ref fn)=true)(hb:y3h X.K fd ps [])
  (hx:y6m CX X E) (ha:PDA X (e::es) g) (hg:Gl X x:=by rfl) (hdb:(x==("__debug__":Str))=false:=by decide) (he:starEach (e::es) X.env=(false,eval e X.env)::starEach es X.env:=by rfl) (hpl:(backTo pos (starEach es X.env)).any (·.1)=false:=by rfl) :
  PD X (.Call (.Name x p) (e::es) [] pos) (x0l F n g):=PE.imp (y5r Fk hr hg hm hk hb .nil hx ha hdb he hpl) fun σ H Q hh0=>by
 obtain⟨ρ,w,t,r',q,ρ',gd,ee,k⟩:=hh0
 unfold x0l at ee
 split at ee
 ·rename_i ds ρ1 h1
  split at ee
  ·rename_i hn
   split at ee
   ·rename_i r0 q0 h2
    cases ee
    refine⟨ρ,w,t,ds,_,gd,h1,fun vs H1 w1 g1 go1 r1=>?_⟩
    show spD X.K n F (vs++[]) H1 Q E
    rw[List.append_nil]
    refine⟨by rw[<- r1.length];exact hn,ds,fun a=>(w1 a).map fun _=>Ow.f,r',q,fun a o e=>?_,⟨fun a o e=>?_,g1.wl.tb⟩,?_,h2,fun v H2 w2 Fo go2 wl2 rr=>?_⟩
    ·dsimp only at e
     cases ew:w1 a with
     | none=>rw[ew]at e;cases e
     | some o'=>rw[ew]at e;cases e;rfl
    ·try dsimp only at e
     cases ew:w1 a with
     | none=>rw[ew]at e;cases e
     | some o'=>exact g1.wl a o' ew
    ·exact Reps.freeze (fun a n=>by show(w1 a).map _=_;rw[n];rfl) r1 (fun _ z=>nomatch z)
    ·obtain⟨b1,b2,b3⟩:=j54 g1 go2 wl2 rr
     exact k _ _ _ _ b1 (go1.trans b2) b3
   ·cases ee
  ·cases ee
 ·cases ee
end
abbrev x1p:=Rho->Option (Bool×Rho)
def tDT (K:PySem.W.Frag)(f:x1p):TT:=fun σ H Q=>∃ ρ w t b ρ',Good K ρ σ H w t/\f ρ=some (b,ρ')/\∀ H' w',Good K ρ' σ H' w' t->Go H w H' w'->Q b H'
theorem PT.imp {X:Cx}{e:Expr}{t t':TT}(h:PT X e t)(i:∀ σ H Q,t' σ H Q->t σ H Q):PT X e t':=fun pins s σ H Q I q=>h pins s σ H Q I (i σ H Q q)
theorem PW.imp {X:Cx}{e:Expr}{t t':TT}(h:PW X e t)(i:∀ σ H Q,t' σ H Q->t σ H Q):PW X e t':=fun whole pins s σ H Q I q=>h whole pins s σ H Q I (i σ H Q q)
abbrev PDT (X:Cx)(e:Expr)(f:x1p):Prop:=PT X e (tDT X.K f)
abbrev PDW (X:Cx)(e:Expr)(f:x1p):Prop:=PW X e (tDT X.K f)
@[simp] def j6u:D->Option Bool
 | .non=>some false
 | .bl b=>some b
 | .int i=>some (i != 0)
 | .tup ds=>some (!ds.isEmpty)
 | .lst ds=>some (!ds.isEmpty)
 | .str _=>none
 | .dic _ _=>none
 | .exc _=>none
 | .ob _ _ _ _=>none
@[simp] def y2c (f:Den):x1p:=fun ρ=>match f ρ with
 | some (d,_,ρ1)=>match j6u d with
  | some b=>some (b,ρ1)
  | none=>none
 | none=>none
section
variable {X:Cx}{a b c e:Expr}{fa fb fc f:Den}{ga gb gc:x1p}{pos:Pos}
theorem x9u {α β:Type}{l:List α}{l':List β}(h:l.length=l'.length):(!l.isEmpty) = !l'.isEmpty:=by
 cases l<;>cases l'<;>first|rfl|cases h
theorem z8r (ha:PD X a fa)(he:∀ whole,isTrue a X.env whole=(do let v <- whole;standAt a.pos;holding [v] (truthy v)):=by exact fun _=>rfl):PDT X a (y2c fa):=PT.imp (z3k ha he) fun σ H Q hh0=>by
 obtain⟨ρ,w,t,b,ρ',gd,ee,k⟩:=hh0
 unfold y2c at ee
 split at ee
 ·rename_i d q ρ1 h1
  split at ee
  ·rename_i b' hb
   cases ee
   refine⟨ρ,w,t,d,q,_,gd,h1,fun v H1 w1 F g1 go1 r1=>⟨b,?_,k H1 (x1q t w1) g1.drop (go1.drop gd.wt)⟩⟩
   cases r1 with
   | non=>cases hb;rfl
   | bl x=>cases hb;rfl
   | int i=>cases hb;rfl
   | str x=>cases hb
   | tup h r=>cases hb;exact .inr (.inl ⟨_,SqT.of h,x9u r.length⟩)
   | dic h r=>cases hb
   | exc h x n=>cases hb
   | ob h1 h2 x r=>cases hb
   | kl h r=>cases hb;exact .inl ⟨_,h.sq,x9u r.length⟩
   | shr h _ r=>cases hb;exact .inl ⟨_,.inl h,x9u r.length⟩
   | own h _ r _=>cases hb;exact .inl ⟨_,SqL.of h,x9u r.length⟩
  ·cases ee
 ·cases ee
@[simp] def x3m (f:Den):x1p:=fun ρ=>match f ρ with
 | some (.bl b,_,ρ1)=>some (b,ρ1)
 | _=>none
theorem z2i {K:PySem.W.Frag}{te:TE}(h:∀ σ H Q,tD K f σ H Q->te σ H Q):∀ σ H Q,tDT K (x3m f) σ H Q->j33 te σ H Q:=fun σ H Q hh0=>by
 obtain⟨ρ,w,t,b,ρ',gd,ee,k⟩:=hh0
 unfold x3m at ee
 split at ee
 ·rename_i b' q ρ1 h1
  cases ee
  refine h σ H _ ⟨ρ,w,t,.bl b,q,_,gd,h1,fun v H1 w1 F g1 go1 r1=>?_⟩
  cases r1
  exact⟨b,rfl,k H1 (x1q t w1) g1.drop (go1.drop gd.wt)⟩
 ·cases ee
theorem y0v {op:CmpOp}{g:D->D->Option D}{r:R2}(ho:OpR X (compareOp op) r)(hr:∀ σ H Q,tD X.K (e2 g fa fb) σ H Q->tOp r (tD X.K fa) (tD X.K fb) σ H Q)(ha:PD X a fa)(hb:PD X b fb)(hm:behindInMarks op b=false) :
  PDT X (.Compare a [op] [b] pos) (x3m (e2 g fa fb)):=PT.imp (z8e ho ha hb hm) (z2i hr)
theorem z5x {op:CmpOp}{g:D->D->Option D}{r:R2}(ho:OpR X (compareOp op) r)(hr:∀ σ H Q,tD X.K (e2 g fa fb) σ H Q->tOp r (tD X.K fa) (tD X.K fb) σ H Q)(ha:PD X a fa)(hb:PD X b fb)(hm:behindInMarks op b=false) :
  PD X (.Compare a [op] [b] pos) (e2 g fa fb):=PE.imp (z85 ho ha hb hm) hr
@[simp] def dLt:D->D->Option D:=gI fun i j=>some (.bl (decide (i<j)))
@[simp] def dLe:D->D->Option D:=gI fun i j=>some (.bl (decide (i<=j)))
theorem hLt {K:PySem.W.Frag}:∀ σ H Q,tD K (e2 dLt fa fb) σ H Q->tOp (rI0 fun i j=>.bl (decide (i<j))) (tD K fa) (tD K fb) σ H Q:=y78 fun i j d h=>by cases h;rfl
theorem j46 (ha:PD X a fa)(hb:PD X b fb):PDT X (.Compare a [.Lt] [b] pos) (x3m (e2 dLt fa fb)):=y0v j1r hLt ha hb (y4t _)
@[simp] def x8b (g:x1p):x1p:=fun ρ=>match g ρ with
 | some (b,ρ1)=>some (!b,ρ1)
 | none=>none
theorem z8m (ha:PDT X a ga):PDT X (.UnaryOp .Not a pos) (x8b ga):=PT.imp (j37 ha) fun σ H Q hh0=>by
 obtain⟨ρ,w,t,b,ρ',gd,ee,k⟩:=hh0
 unfold x8b at ee
 split at ee
 ·rename_i b' ρ1 h1
  cases ee
  exact⟨ρ,w,t,b',_,gd,h1,fun H1 w1 g1 go1=>k H1 w1 g1 go1⟩
 ·cases ee
@[simp] def z1t (g h:x1p):x1p:=fun ρ=>match g ρ with
 | some (b,ρ1)=>if b=true then some (true,ρ1)else h ρ1
 | none=>none
variable {x1w:List Expr}
theorem z8q (ha:PDT X a ga):PDW X (.BoolOp .Or [a] pos) ga:=j3h ha
theorem j29 (ha:PDT X a ga)(hb:PDW X (.BoolOp .Or (b::x1w) pos) gb):PDW X (.BoolOp .Or (a::b::x1w) pos) (z1t ga gb):=PW.imp (j5m ha hb) fun σ H Q hh0=>by
 obtain⟨ρ,w,t,b,ρ',gd,ee,k⟩:=hh0
 unfold z1t at ee
 split at ee
 ·rename_i b' ρ1 h1
  refine⟨ρ,w,t,b',ρ1,gd,h1,fun H1 w1 g1 go1=>?_⟩
  split at ee
  ·rename_i hb;rw[if_pos hb]
   cases ee
   exact k H1 w1 g1 go1
  ·rename_i hb;rw[if_neg hb]
   exact⟨ρ1,w1,t,b,ρ',g1,ee,fun H2 w2 g2 go2=>k H2 w2 g2 (go1.trans go2)⟩
 ·cases ee
@[simp] def eIf (g:x1p)(fa fb:Den):Den:=fun ρ=>match g ρ with
 | some (b,ρ1)=>if b=true then fa ρ1 else fb ρ1
 | none=>none
theorem z2y (hc:PDT X c gc)(ha:PD X a fa)(hb:PD X b fb):PD X (.IfExp c a b pos) (eIf gc fa fb):=PE.imp (z2k hc ha hb) fun σ H Q hh0=>by
 obtain⟨ρ,w,t,r',q,ρ',gd,ee,k⟩:=hh0
 unfold eIf at ee
 split at ee
 ·rename_i b' ρ1 h1
  refine⟨ρ,w,t,b',ρ1,gd,h1,fun H1 w1 g1 go1=>?_⟩
  split at ee
  ·rename_i hb;rw[if_pos hb]
   exact⟨ρ1,w1,t,r',q,ρ',g1,ee,fun v H2 w2 F g2 go2=>k v H2 w2 F g2 (go1.trans go2)⟩
  ·rename_i hb;rw[if_neg hb]
   exact⟨ρ1,w1,t,r',q,ρ',g1,ee,fun v H2 w2 F g2 go2=>k v H2 w2 F g2 (go1.trans go2)⟩
 ·cases ee
end
inductive Out where
 | nx (ρ:Rho)|rt (d:D) (q:Nat)|bk (ρ:Rho)|ct (ρ:Rho)
abbrev x16:=Rho->Option Out
def y1i (K:PySem.W.Frag)(Dn:Ends)(n:Nat)(H:Hp)(w:Wn):Out->Prop
 | .nx ρ'=>∀ σ' H' w',σ'.length=n->Good K ρ' σ' H' w' 0->Go H w H' w'->Dn.nx σ' H'
 | .bk ρ'=>∀ σ' H' w',σ'.length=n->Good K ρ' σ' H' w' 0->Go H w H' w'->Dn.bk σ' H'
 | .ct ρ'=>∀ σ' H' w',σ'.length=n->Good K ρ' σ' H' w' 0->Go H w H' w'->Dn.ct σ' H'
 | .rt d q=>∀ v H' w' F,WL K w' H'->Go H w H' w'->Rep K H' w' (.t 0) q d v F->Dn.rt v H'
def tDS (K:PySem.W.Frag)(f:x16):TS:=fun Dn σ H=>∃ ρ w o,Good K ρ σ H w 0/\f ρ=some o/\y1i K Dn σ.length H w o
theorem PS.imp {X:Cx}{e:Stmt}{t t':TS}(h:PS X e t)(i:∀ D σ H,t' D σ H->t D σ H):PS X e t':=fun pins s σ H D I q=>h pins s σ H D I (i D σ H q)
theorem PSs.imp {X:Cx}{e:List Stmt}{t t':TS}(h:PSs X e t)(i:∀ D σ H,t' D σ H->t D σ H):PSs X e t':=fun pins s σ H D I q=>h pins s σ H D I (i D σ H q)
abbrev PDS (X:Cx)(st:Stmt)(f:x16):Prop:=PS X st (tDS X.K f)
abbrev y7m (X:Cx)(st:List Stmt)(f:x16):Prop:=PSs X st (tDS X.K f)
@[simp] def x6i:x16:=fun ρ=>some (.nx ρ)
@[simp] def x17 (f g:x16):x16:=fun ρ=>match f ρ with
 | some (.nx ρ1)=>g ρ1
 | o=>o
theorem y1i.trans {K:PySem.W.Frag}{Dn:Ends}{n:Nat}{H H1:Hp}{w w1:Wn}(go:Go H w H1 w1):∀ {o:Out},y1i K Dn n H w o->y1i K Dn n H1 w1 o
 | .nx _,h=>fun σ' H' w' e g go'=>h σ' H' w' e g (go.trans go')
 | .bk _,h=>fun σ' H' w' e g go'=>h σ' H' w' e g (go.trans go')
 | .ct _,h=>fun σ' H' w' e g go'=>h σ' H' w' e g (go.trans go')
 | .rt _ _,h=>fun v H' w' F wl go'=>h v H' w' F wl (go.trans go')
section
variable {X:Cx}{a b c e:Expr}{fa fb fc f:Den}{ga gb gc:x1p}{pos:Pos}{st:Stmt}{x1w sa sb:List Stmt}{s s':x16}
theorem z6p:y7m X [] x6i:=PSs.imp z9c fun D σ H hh0=>by
 obtain⟨ρ,w,o,g,ee,k⟩:=hh0
 cases ee
 exact k σ H w rfl g Go.refl
theorem z48 (h1:PDS X st s)(h2:y7m X x1w s'):y7m X (st::x1w) (x17 s s'):=PSs.imp (y7l h1 h2) fun D σ H hh0=>by
 obtain⟨ρ,w,o,g,ee,k⟩:=hh0
 unfold x17 at ee
 split at ee
 ·rename_i ρ1 h1
  exact⟨ρ,w,.nx ρ1,g,h1,fun σ' H' w' e g' go'=>⟨ρ1,w',o,g',ee,by rw[e];exact k.trans go'⟩⟩
 ·rename_i hne
  refine⟨ρ,w,o,g,ee,?_⟩
  cases o with
  | nx ρ1=>exact absurd ee (hne ρ1)
  | bk ρ1=>exact k
  | ct ρ1=>exact k
  | rt d q=>exact k
theorem z77 (h1:PDS X st s):y7m X [st] s:=z1n h1
@[simp] def x36 (f:Den):x16:=fun ρ=>match f ρ with
 | some (d,q,_)=>some (.rt d q)
 | none=>none
theorem z7g (h:PD X e f):PDS X (.Return (some e) pos) (x36 f):=PS.imp (j0o h) fun D σ H hh0=>by
 obtain⟨ρ,w,o,g,ee,k⟩:=hh0
 unfold x36 at ee
 split at ee
 ·rename_i d q ρ1 h1
  cases ee
  exact⟨ρ,w,0,d,q,ρ1,g,h1,fun v H' w' F g' go' r=>k v H' w' F g'.wl go' r⟩
 ·cases ee
@[simp] def sIf (g:x1p)(s s':x16):x16:=fun ρ=>match g ρ with
 | some (b,ρ1)=>if b=true then s ρ1 else s' ρ1
 | none=>none
theorem j0r (hc:PDT X c gc)(ha:y7m X sa s)(hb:y7m X sb s'):PDS X (.If c sa sb pos) (sIf gc s s'):=PS.imp (j0z hc ha hb) fun D σ H hh0=>by
 obtain⟨ρ,w,o,g,ee,k⟩:=hh0
 unfold sIf at ee
 split at ee
 ·rename_i b' ρ1 h1
  refine⟨ρ,w,0,b',ρ1,g,h1,fun H1 w1 g1 go1=>?_⟩
  split at ee
  ·rename_i hb;rw[if_pos hb]
   exact⟨ρ1,w1,o,g1,ee,k.trans go1⟩
  ·rename_i hb;rw[if_neg hb]
   exact⟨ρ1,w1,o,g1,ee,k.trans go1⟩
 ·cases ee
def x8q (t i:Nat)(w:Wn):Wn:=fun a=>if w a=some (.t t)then some (.s i)else if w a=some (.s i)then none else w a
theorem Good.set {K:PySem.W.Frag}{ρ:Rho}{σ:St}{H:Hp}{w:Wn}{i q:Nat}{d:D}{v:V}{F:List Addr}(g:Good K ρ σ H w 1)(hi:i<σ.length)(r:Rep K H w (.t 0) q d v F) :
  Good K (ρ.set i (some (d,q))) (σ.set i (some v)) H (x8q 0 i w) 0/\∀ H₀ w₀,Go H₀ w₀ H w->(∀ a j,w₀ a=some (.t j)->j<0)->Go H₀ w₀ H (x8q 0 i w):=by
 have mN:∀ a,w a=none->x8q 0 i w a=none:=fun a e=>by unfold x8q;rw[e];rfl
 have mT:∀ a,w a=some (.t 0)->x8q 0 i w a=some (.s i):=fun a e=>by unfold x8q;rw[if_pos e]
 have mS:∀ a j,w a=some (.s j)->j≠i->x8q 0 i w a=some (.s j):=fun a j e n=>by
  unfold x8q
  rw[if_neg (by rw[e];exact fun z=>nomatch z),if_neg (by rw[e];intro z;cases z;exact n rfl)]
  exact e
 have mF:∀ a,w a=some .f->x8q 0 i w a=some .f:=fun a e=>by
  unfold x8q
  rw[if_neg (by rw[e];exact fun z=>nomatch z),if_neg (by rw[e];exact fun z=>nomatch z)]
  exact e
 have mI:∀ a o,x8q 0 i w a=some o->(w a=some (.t 0)/\o=.s i)\/(w a=some o/\o ≠ .s i/\o ≠ .t 0):=fun a o e=>by
  unfold x8q at e
  split at e
  ·cases e;exact .inl ⟨by assumption,rfl⟩
  ·rename_i n1
   split at e
   ·cases e
   ·rename_i n2;exact .inr ⟨e,fun z=>n2 (by rw[e,z]),fun z=>n1 (by rw[e,z])⟩
 have st:x71 H w H (x8q 0 i w):=fun a x h n=>⟨sm h,mN a n⟩
 refine⟨⟨⟨fun a o e=>?_,g.wl.tb⟩,fun a j e=>?_,fun a j e=>?_,by rw[List.length_set,List.length_set];exact g.len,fun j d' q' e'=>?_⟩,fun H₀ w₀ go hw=>⟨fun a x h n=>⟨(go.stab a x h n).1,mN a (go.stab a x h n).2⟩,fun a o e n=>?_⟩⟩
 ·rcases mI a o e with⟨z,_⟩|⟨z,_⟩
  ·exact g.wl a _ z
  ·exact g.wl a _ z
 ·rw[List.length_set]
  rcases mI a _ e with⟨_,z⟩|⟨z,_⟩
  ·cases z;exact hi
  ·exact g.ws a j z
 ·rcases mI a _ e with⟨_,z⟩|⟨z,_,n⟩
  ·cases z
  ·have:=g.wt a j z
   have:j=0:=by omega
   subst this
   exact absurd rfl n
 ·by_cases hj:i=j
  ·subst hj
   rw[List.getElem?_set_self (by rw[g.len];exact hi)]at e'
   cases e'
   exact⟨v,F,List.getElem?_set_self hi,Rep.go g.wl st r fun a m=>⟨rfl,mT a (r.owns a m)⟩⟩
  ·rw[List.getElem?_set_ne hj]at e'
   obtain⟨v',F',h1,h2⟩:=g.slot j d' q' e'
   exact⟨v',F',by rw[List.getElem?_set_ne hj];exact h1,Rep.go g.wl st h2 fun a m=>⟨rfl,mS a j (h2.owns a m) (fun z=>hj z.symm)⟩⟩
 ·obtain⟨h1,h2⟩:=go.keep a o e n
  refine⟨h1,?_⟩
  cases o with
  | s j=>exact absurd rfl (n j)
  | f=>exact mF a h2
  | t j=>exact absurd (hw a j e) (Nat.not_lt_zero _)
@[simp] def x20 (i:Nat)(f:Den):x16:=fun ρ=>match f ρ with
 | some (d,q,ρ1)=>some (.nx (ρ1.set i (some (d,q))))
 | none=>none
theorem y9h {K:PySem.W.Frag}{i:Nat}{D:Ends}{σ:St}{H:Hp}{te:TE}(hi:i<σ.length)(he:∀ Q,tD K f σ H Q->te σ H Q)(h:tDS K (x20 i f) D σ H):te σ H fun x H1=>D.nx (σ.set i (some x)) H1:=by
 obtain⟨ρ,w,o,g,ee,k⟩:=h
 unfold x20 at ee
 split at ee
 ·rename_i d q ρ1 h1
  cases ee
  refine he _ ⟨ρ,w,0,d,q,ρ1,g,h1,fun v H' w' F g' go' r=>?_⟩
  obtain⟨a1,a2⟩:=g'.set hi r
  exact k _ _ _ (by rw[List.length_set]) a1 (a2 _ _ go' g.wt)
 ·cases ee
theorem z7d {i:Nat}{x:Str}{pos':Pos}(hN:X.N.Nodup)(hi:X.N[i]? = some x)(hx:Loc X.env.scope x)(he:PD X e f)(hs:swapsWith e (some (.Name x pos')) pos.line X.env=pure false:=by rfl)(hf:X.fn x=true\/X.env.scope.names.lookup x=some .local:=by first|exact .inl rfl|exact .inr rfl) :
  PDS X (.Assign [.Name x pos'] e pos) (x20 i f):=by
 intro pins s σ H D I h
 have hl:i<σ.length:=by rw[I.len];exact(List.getElem?_eq_some_iff.mp hi).1
 exact z64 (te:=tD X.K f) hN hi hx he hs hf pins s σ H D I (y9h hl (fun _ z=>z) h)
@[simp] def x3k (f:Den):x16:=fun ρ=>match f ρ with
 | some (_,_,ρ1)=>some (.nx ρ1)
 | none=>none
theorem z30 (he:PD X e f)(hs:swapsWith e none pos.line X.env=pure false:=by rfl):PDS X (.Expr e pos) (x3k f):=PS.imp (y9z he hs) fun D σ H hh0=>by
 obtain⟨ρ,w,o,g,ee,k⟩:=hh0
 unfold x3k at ee
 split at ee
 ·rename_i d q ρ1 h1
  cases ee
  exact⟨ρ,w,0,d,q,ρ1,g,h1,fun v H' w' F g' go' r=>k σ H' (x1q 0 w') rfl g'.drop (go'.drop g.wt)⟩
 ·cases ee
end
structure Mo (K:PySem.W.Frag) (H H':Hp):Prop where
 mo:∀ a o,H a=some o->H' a=some o
 tb:TB K H->TB K H'
theorem Mo.rfl' {K:PySem.W.Frag}{H:Hp}:Mo K H H:=⟨fun _ _ e=>e,fun t=>t⟩
structure ItOk (K:PySem.W.Frag) (J:It) (ds:List D) (P:Hp->Wn->Prop):Prop where
 go:∀ i H w,P H w->i<ds.length->J.go i H
 yld:∀ i H w x H' d,P H w->WL K w H->ds[i]? = some d->J.yld i H x H'->Mo K H H'/\Rep K H' w .f 0 d x []/\P H' w
 stop:∀ H w,P H w->J.stop ds.length H
 st:∀ H w H' w',P H w->WL K w H->x71 H w H' w'->P H' w'
abbrev x9w:=Rho->Option (List D×Rho)
def tDI (K:PySem.W.Frag)(f:x9w):TI:=fun σ H R=>∃ ρ w t ds ρ',Good K ρ σ H w t/\f ρ=some (ds,ρ') /\
 ∀ J P H' w',Good K ρ' σ H' w' t->Go H w H' w'->ItOk K J ds P->P H' w'->ds.length<sizeLine->R J H'
theorem PI.imp {X:Cx}{tg e:Expr}{t t':TI}(h:PI X tg e t)(i:∀ σ H R,t' σ H R->t σ H R):PI X tg e t':=fun pins s σ H R I q=>h pins s σ H R I (i σ H R q)
abbrev PDI (X:Cx)(tg e:Expr)(f:x9w):Prop:=PI X tg e (tDI X.K f)
theorem It.list {K:PySem.W.Frag}{a:Addr}{vs:List V}{ds:List D}(hl:ds.length=vs.length):ItOk K (Itl K a) ds fun H w=>(KL K a vs\/(Rd H a (.lst vs)/\w a=none))/\Reps K H w .f 0 ds vs []:=by
 have sq:∀ {H:Hp} {w:Wn},KL K a vs\/(Rd H a (.lst vs)/\w a=none)->SqL K H a vs:=fun h=>h.elim (fun z=>z.sq) fun z=>.inl z.1
 refine⟨fun i H w p hi=>⟨vs,vs[i],sq p.1,by simp[hl ▸ hi]⟩,fun i H w x H' d p wl hd y=>?_,fun H w p=>⟨vs,sq p.1,by omega⟩,fun H w H' w' p wl st=>?_⟩
 ·obtain⟨rfl,hx⟩:=y
  obtain⟨v,hv,rv⟩:=p.2.get hd
  have:=hx vs (sq p.1)
  rw[hv]at this
  cases this
  exact⟨Mo.rfl',rv,p⟩
 ·refine⟨?_,Reps.go wl st p.2 (fun _ z=>nomatch z)⟩
  rcases p.1 with p|⟨p,n⟩
  ·exact .inl p
  ·exact .inr (RdL.go st n p)
theorem It.tup {K:PySem.W.Frag}{a:Addr}{vs:List V}{ds:List D}(hl:ds.length=vs.length):ItOk K (Itt K a) ds fun H w=>SqT K H a vs/\Reps K H w .f 0 ds vs []:=
 ⟨fun i H w p hi=>⟨vs,vs[i],p.1,by simp[hl ▸ hi]⟩,fun i H w x H' d p wl hd y=>by
   obtain⟨rfl,hx⟩:=y
   obtain⟨v,hv,rv⟩:=p.2.get hd
   have:=hx vs p.1
   rw[hv]at this
   cases this
   exact⟨Mo.rfl',rv,p⟩,fun H w p=>⟨vs,p.1,by omega⟩,fun H w H' w' p wl st=>⟨SqT.go wl st p.1,Reps.go wl st p.2 (fun _ z=>nomatch z)⟩⟩
def x9b (n:Nat):List V:=(List.range n).map fun i=>.int (Int.ofNat i)
def x10 (n:Nat):List D:=(List.range n).map fun i=>.int (Int.ofNat i)
theorem x0s (n:Nat):(x10 n).length=n:=by simp[x10]
theorem y2m (n:Nat):(x9b n).length=n:=by simp[x9b]
theorem It.range {K:PySem.W.Frag}{n:Nat}:ItOk K (Itr 0 n) (x10 n) fun _ _=>True:=by
 refine⟨fun i H w _ hi=>by rw[x0s]at hi;exact hi,fun i H w x H' d _ _ hd y=>?_,fun H w _=>by rw[x0s];exact Nat.le_refl _,fun _ _ _ _ _ _ _=>trivial⟩
 have hi:i<n:=by have:=(List.getElem?_eq_some_iff.mp hd).1;rw[x0s]at this;exact this
 have e:x=.int (0+(i:Int)):=y.2
 have ed:d=.int (Int.ofNat i):=by
  have:(x10 n)[i]? = some (.int (Int.ofNat i)):=by simp[x10,hi]
  rw[hd]at this
  exact Option.some.inj this
 obtain⟨rfl,_⟩:=y
 subst ed
 rw[e,Int.zero_add]
 exact⟨Mo.rfl',.int _,trivial⟩
theorem x8e {K:PySem.W.Frag}{H:Hp}{w:Wn}{o:Ow}:∀ (ns:List Int),Reps K H w o 0 (ns.map D.int) (ns.map V.int) []
 | []=>.nil
 | n::r=>.cons (F:=[]) (G:=[]) (.int n) (x8e r) (fun _ z=>nomatch z)
theorem y80 {K:PySem.W.Frag}{H:Hp}{w:Wn}{o:Ow}(n:Nat):Reps K H w o 0 (x10 n) (x9b n) []:=by
 have:=x8e (K:=K) (H:=H) (w:=w) (o:=o) ((List.range n).map Int.ofNat)
 rw[List.map_map,List.map_map]at this
 exact this
section
variable {X:Cx}{tg a b c e:Expr}{fa fb fc f:Den}{ga gb gc:x1p}{pos p:Pos}
@[simp] def x0z (g:x1o):x9w:=fun ρ=>match g ρ with
 | some ([.int n],ρ1)=>if -1000<=n/\n<=1000 then some (x10 n.toNat,ρ1)else none
 | _=>none
theorem y7t {g:x1o}(hm:X.mg "range" = none)(ha:PDA X [a] g)(hg:Gl X "range":=by rfl)(hs:starEach [a] X.env=[(false,eval a X.env)]:=by rfl):PDI X tg (.Call (.Name "range" p) [a] [] pos) (x0z g):=PI.imp (z1d hg hm ha hs) fun σ H R hh0=>by
 obtain⟨ρ,w,t,ds,ρ',gd,ee,k⟩:=hh0
 unfold x0z at ee
 split at ee
 ·rename_i n ρ1 h1
  split at ee
  ·rename_i hn
   cases ee
   refine⟨ρ,w,t,[.int n],_,gd,h1,fun vs H1 w1 g1 go1 r1=>?_⟩
   have hv:vs=[.int n]:=by
    have l:=r1.length
    match vs,l with
    | [v],_=>
     obtain⟨v',h1,h2⟩:=r1.get (i:=0) rfl
     cases h1
     rw[x4h h2]
   subst hv
   refine⟨n,rfl,by omega,by omega,k _ _ H1 w1 g1 go1 It.range trivial ?_⟩
   rw[x0s]
   exact x4b (by omega)
  ·cases ee
 ·cases ee
def j74 (K:PySem.W.Frag)(tl:TE):TI:=fun σ H R=>tl σ H fun x H1=>∃ a,x=.ref a/\(((∃ xs,SqL K H1 a xs)/\R (Itl K a) H1)\/((∃ xs,SqT K H1 a xs)/\R (Itt K a) H1))
theorem j3e {l:Expr}{tl:TE}(hl:PE X l tl):PI X tg l (j74 X.K tl):=by
 intro pins s σ H R I h
 refine thn (hl pins s σ H _ I h) fun v s1 ⟨x,H1,I1,r1,q1⟩=>?_
 obtain⟨a,e,q⟩:=q1
 subst e
 cases r1
 rcases q with⟨⟨xs,hq⟩,q⟩|⟨⟨xs,hq⟩,q⟩
 ·obtain⟨its,rv,p,hz⟩:=I1.list hq
  refine wpAny_pyIter_list p.isList ?_
  refine⟨s1.heap.objs.size,[s1.heap.objs.size],_,_,H1,rfl,I1.kept (t':=s1.toks) fun b o e=>Heap.get?_push_of_some _ e,z0h a _,⟨_,Heap.get?_push_size _ rfl,rfl,rfl⟩,fun b hb=>?_,q⟩
  have e:b=s1.heap.objs.size:=by simpa using hb
  subst e
  exact I1.fpOk (Nat.le_refl _) (I1.hok.fresh (Nat.le_refl _))
 ·obtain⟨its,rv,p,hz⟩:=I1.tuple hq
  refine wpAny_pyIter_tuple (show s1.heap.IsTuple a its.toArray from p) ?_
  refine⟨s1.heap.objs.size,[s1.heap.objs.size],_,_,H1,rfl,I1.kept (t':=s1.toks) fun b o e=>Heap.get?_push_of_some _ e,y8f a _,⟨_,Heap.get?_push_size _ rfl,rfl,rfl⟩,fun b hb=>?_,q⟩
  have e:b=s1.heap.objs.size:=by simpa using hb
  subst e
  exact I1.fpOk (Nat.le_refl _) (I1.hok.fresh (Nat.le_refl _))
@[simp] def x9m (f:Den):x9w:=fun ρ=>match f ρ with
 | some (.lst ds,_,ρ1)=>if ds.length<=1000 then some (ds,ρ1)else none
 | some (.tup ds,_,ρ1)=>if ds.length<=1000 then some (ds,ρ1)else none
 | _=>none
theorem z9e (ha:PD X a fa):PDI X tg a (x9m fa):=PI.imp (j3e ha) fun σ H R hh0=>by
 obtain⟨ρ,w,t,ds,ρ',gd,ee,k⟩:=hh0
 unfold x9m at ee
 split at ee
 ·rename_i ds' q ρ1 h1
  split at ee
  ·rename_i hl
   cases ee
   refine⟨ρ,w,t,.lst ds,q,ρ',gd,h1,fun v H1 w1 F g1 go1 r1=>?_⟩
   have r0:=r1.drop (o:=.f) (Nat.le_refl t)
   cases r0 with
   | kl h r=>exact⟨_,rfl,.inl ⟨⟨_,h.sq⟩,k _ _ H1 (x1q t w1) g1.drop (go1.drop gd.wt) (It.list r.length) ⟨.inl h,r⟩ (x4b hl)⟩⟩
   | shr h n r=>exact⟨_,rfl,.inl ⟨⟨_,.inl h⟩,k _ _ H1 (x1q t w1) g1.drop (go1.drop gd.wt) (It.list r.length) ⟨.inr ⟨h,n⟩,r⟩ (x4b hl)⟩⟩
  ·cases ee
 ·rename_i ds' q ρ1 h1
  split at ee
  ·rename_i hl
   cases ee
   refine⟨ρ,w,t,.tup ds,q,ρ',gd,h1,fun v H1 w1 F g1 go1 r1=>?_⟩
   have r0:=r1.drop (o:=.f) (Nat.le_refl t)
   cases r0 with
   | tup h r=>exact⟨_,rfl,.inr ⟨⟨_,SqT.of h⟩,k _ _ H1 (x1q t w1) g1.drop (go1.drop gd.wt) (It.tup r.length) ⟨SqT.of h,r⟩ (x4b hl)⟩⟩
  ·cases ee
 ·cases ee
end
abbrev x54:=D->Rho->Option Rho
def tDG (K:PySem.W.Frag)(b:Nat)(pt:x54):TG:=fun v σ H Q=>∃ d ρ w t ρ',Good K ρ σ H w t/\Rep K H w .f 0 d v []/\pt d ρ=some ρ'/\∀ σ' H' w',σ'.length=σ.length->(∀ i,i<b->σ'[i]? = σ[i]?)->Good K ρ' σ' H' w' t->Go H w H' w'->Q σ' H'
theorem PG.imp {X:Cx}{tg:Expr}{t t':TG}(h:PG X tg t)(i:∀ v σ H Q,t' v σ H Q->t v σ H Q):PG X tg t':=fun pins s σ H v u Q I r q=>h pins s σ H v u Q I r (i v σ H Q q)
abbrev PDG (X:Cx)(b:Nat)(tg:Expr)(pt:x54):Prop:=PG X tg (tDG X.K b pt)
@[simp] def x0q (i:Nat):x54:=fun d ρ=>if i<ρ.length then some (ρ.set i (some (d,y1e d)))else none
theorem Good.setV {K:PySem.W.Frag}{ρ:Rho}{σ:St}{H:Hp}{w:Wn}{t i:Nat}{d:D}{v:V}(g:Good K ρ σ H w t)(hi:i<σ.length)(r:Rep K H w .f 0 d v []) :
  Good K (ρ.set i (some (d,y1e d))) (σ.set i (some v)) H (x5t i w) t/\Go H w H (x5t i w):=by
 have st:x71 H w H (x5t i w):=fun a x h n=>⟨sm h,x5b n⟩
 refine⟨⟨⟨fun a o h=>g.wl a o (x34 h).1,g.wl.tb⟩,fun a j h=>by rw[List.length_set];exact g.ws a j (x34 h).1,fun a j h=>g.wt a j (x34 h).1,by rw[List.length_set,List.length_set];exact g.len,fun j d' q' e'=>?_⟩,⟨st,fun a o h n=>⟨rfl,x6u h (n i)⟩⟩⟩
 by_cases hj:i=j
 ·subst hj
  rw[List.getElem?_set_self (by rw[g.len];exact hi)]at e'
  cases e'
  exact⟨v,[],List.getElem?_set_self hi,(Rep.go g.wl st r (fun _ z=>nomatch z):Rep K H (x5t i w) (.s i) 0 d v []).dep⟩
 ·rw[List.getElem?_set_ne hj]at e'
  obtain⟨v',F,h1,h2⟩:=g.slot j d' q' e'
  exact⟨v',F,by rw[List.getElem?_set_ne hj];exact h1,Rep.go g.wl st h2 fun a m=>⟨rfl,x6u (h2.owns a m) (fun z=>hj (by cases z;rfl))⟩⟩
theorem z55 {X:Cx}{b i:Nat}{x:Str}{pos:Pos}(hb:b<=i)(hN:X.N.Nodup)(hi:X.N[i]? = some x)(hx:Loc X.env.scope x)(hf:X.fn x=true\/X.env.scope.names.lookup x=some .local:=by first|exact .inl rfl|exact .inr rfl):PDG X b (.Name x pos) (x0q i):=PG.imp (z9a hN hi hx hf) fun v σ H Q hh0=>by
 obtain⟨d,ρ,w,t,ρ',g,r,e,k⟩:=hh0
 unfold x0q at e
 split at e
 ·rename_i hl
  cases e
  obtain⟨a1,a2⟩:=g.setV (by rw[<- g.len];exact hl) r
  exact k _ _ _ (by rw[List.length_set]) (fun j hj=>List.getElem?_set_ne (by omega)) a1 a2
 ·cases e
def x9g (pt:x54)(body:x16):List D->Rho->Option Out
 | [],ρ=>some (.nx ρ)
 | d::ds,ρ=>match pt d ρ with
  | none=>none
  | some ρ1=>match body ρ1 with
   | some (.nx ρ2)=>x9g pt body ds ρ2
   | some (.ct ρ2)=>x9g pt body ds ρ2
   | some (.bk ρ2)=>some (.nx ρ2)
   | o=>o
@[simp] def x80 (it:x9w)(pt:x54)(body:x16):x16:=fun ρ=>match it ρ with
 | some (ds,ρ1)=>x9g pt body ds ρ1
 | none=>none
theorem Reps.go0 {K:PySem.W.Frag}{H H':Hp}{w w':Wn}{ds:List D}{vs:List V}(r:Reps K H w .f 0 ds vs [])(wl:WL K w H)(st:x71 H w H' w'):Reps K H' w' .f 0 ds vs []:=Reps.go wl st r (fun _ z=>nomatch z)
theorem Rep.go0 {K:PySem.W.Frag}{H H':Hp}{w w':Wn}{ds:D}{vs:V}(r:Rep K H w .f 0 ds vs [])(wl:WL K w H)(st:x71 H w H' w'):Rep K H' w' .f 0 ds vs []:=Rep.go wl st r (fun _ z=>nomatch z)
theorem Reps.drop0 {K:PySem.W.Frag}{H:Hp}{w:Wn}:∀ {ds:List D} {vs:List V} (i:Nat),Reps K H w .f 0 ds vs []->Reps K H w .f 0 (ds.drop i) (vs.drop i) []
 | _,_,0,r=>r
 | ds,vs,i+1,r=>by
  generalize hF:([]:List Addr)=F at r
  cases r with
  | nil=>exact .nil
  | cons r s _=>
   have h2:=s.zero
   have h1:=r.zero
   subst h2
   subst h1
   exact Reps.drop0 i s
theorem Good.more {K:PySem.W.Frag}{ρ:Rho}{σ:St}{H H':Hp}{w:Wn}{t:Nat}(g:Good K ρ σ H w t)(hm:Mo K H H'):Good K ρ σ H' w t/\Go H w H' w:=by
 have h:=hm.mo
 have st:x71 H w H' w:=fun a x e n=>⟨sm (h a x e),n⟩
 have kp:∀ a o,w a=some o->H' a=H a:=fun a o e=>by
  obtain⟨vs,q⟩:=g.wl a o e
  rw[q,h a _ q]
 refine⟨⟨⟨fun a o e=>?_,hm.tb g.wl.tb⟩,g.ws,g.wt,g.len,fun i d q e=>?_⟩,st,fun a o e _=>⟨kp a o e,e⟩⟩
 ·obtain⟨vs,q⟩:=g.wl a o e
  exact⟨vs,h a _ q⟩
 ·obtain⟨v,F,h1,h2⟩:=g.slot i d q e
  exact⟨v,F,h1,Rep.go g.wl st h2 fun a m=>⟨kp a _ (h2.owns a m),h2.owns a m⟩⟩
theorem z74 {X:Cx}{tg iter:Expr}{body:List Stmt}{it:x9w}{pt:x54}{s:x16}{pos:Pos}(hp:PassesOwn (model X.prog X.w) X.A X.env X.xe)(hc:X.calm=true)(hi:PDI X tg iter it)(hg:PDG X 0 tg pt)(hb:y7m X body s)
  (hs:∀ x,foldedSetIterable iter X.env x=pure x:=by intro _;rfl):PDS X (.For tg iter body [] pos) (x80 it pt s):=PS.imp (j2e hp hc hi hg hb hs) fun D σ H hh0=>by
 obtain⟨ρ,w,o,g,ee,k⟩:=hh0
 unfold x80 at ee
 split at ee
 ·rename_i ds ρ1 h1
  refine⟨ρ,w,0,ds,ρ1,g,h1,fun J P H1 w1 g1 go1 ok p1 hl=>?_⟩
  refine⟨fun i m σ' H'=>m=ds.length-i/\i<=ds.length/\σ'.length=σ.length/\∃ ρ' w',Good X.K ρ' σ' H' w' 0/\P H' w'/\x9g pt s (ds.drop i) ρ'=some o/\y1i X.K D σ.length H' w' o,
   ⟨ds.length,by simp,Nat.zero_le _,rfl,ρ1,w1,g1,p1,ee,k.trans go1⟩,?_⟩
  rintro i m σ' H' ⟨rfl,hile,hσ,ρ',w',g',p',e',k'⟩
  by_cases hlt:i<ds.length
  ·refine .inr ⟨ok.go i H' w' p' hlt,fun σ2 H2=>ds.length-(i+1)=ds.length-(i+1)/\i+1<=ds.length/\σ2.length=σ.length/\∃ ρ2 w2,Good X.K ρ2 σ2 H2 w2 0/\P H2 w2/\x9g pt s (ds.drop (i+1)) ρ2=some o/\y1i X.K D σ.length H2 w2 o,
    fun σ2 H2 n2=>⟨ds.length-(i+1),by omega,n2⟩,fun x H2 hy=>?_⟩
   obtain⟨mo,rx,p2⟩:=ok.yld i H' w' x H2 ds[i] p' g'.wl (List.getElem?_eq_getElem hlt) hy
   obtain⟨g2,go2⟩:=g'.more mo
   have ed:ds.drop i=ds[i]::ds.drop (i+1):=List.drop_eq_getElem_cons hlt
   rw[ed]at e'
   unfold x9g at e'
   split at e'
   ·cases e'
   ·rename_i ρ3 h3
    refine⟨ds[i],ρ',w',0,ρ3,g2,rx,h3,fun σ4 H4 w4 l4 _ g4 go4=>?_⟩
    have p4:=ok.st _ _ _ _ p2 g2.wl go4.stab
    have nx:∀ {ρ5:Rho},x9g pt s (ds.drop (i+1)) ρ5=some o->∀ σ5 H5 w5,σ5.length=σ4.length->Good X.K ρ5 σ5 H5 w5 0->Go H4 w4 H5 w5->ds.length-(i+1)=ds.length-(i+1)/\i+1<=ds.length/\σ5.length=σ.length/\∃ ρ2 w2,Good X.K ρ2 σ5 H5 w2 0/\P H5 w2/\x9g pt s (ds.drop (i+1)) ρ2=some o/\y1i X.K D σ.length H5 w2 o:=fun {ρ5} e5 σ5 H5 w5 l5 g5 go5=>
     ⟨rfl,hlt,by rw[l5,l4,hσ],ρ5,w5,g5,ok.st _ _ _ _ p4 g4.wl go5.stab,e5,k'.trans ((go2.trans go4).trans go5)⟩
    cases h6:s ρ3 with
    | none=>rw[h6]at e';cases e'
    | some o6=>
     rw[h6]at e'
     refine⟨ρ3,w4,o6,g4,h6,?_⟩
     cases o6 with
     | nx ρ5=>exact nx e'
     | ct ρ5=>exact nx e'
     | bk ρ5=>
      cases e'
      exact fun σ5 H5 w5 l5 g5 go5=>k' σ5 H5 w5 (by rw[l5,l4,hσ]) g5 ((go2.trans go4).trans go5)
     | rt d q=>
      cases e'
      exact fun v H5 w5 F wl5 go5 r5=>k' v H5 w5 F wl5 ((go2.trans go4).trans go5) r5
  ·have hi':i=ds.length:=Nat.le_antisymm hile (Nat.not_lt.mp hlt)
   subst hi'
   refine .inl ⟨ok.stop H' w' p',?_⟩
   have ed:ds.drop ds.length=[]:=by simp
   rw[ed]at e'
   cases e'
   exact k' σ' H' w' hσ g' Go.refl
 ·cases ee
@[simp] def x42 (n:Nat)(ds:List D):Rho:=ds.map (fun d=>some (d,y1e d))++List.replicate (n-ds.length) none
@[simp] def fnD (n:Nat)(body:x16):List D->OD:=fun ds=>match body (x42 n ds)with
 | some (.rt d q)=>some (d,q)
 | some (.nx _)=>some (.non,9)
 | _=>none
theorem x6o {K:PySem.W.Frag}{H:Hp}{w:Wn}{N:List Str}{ds:List D}{vs:List V}(hw:∀ a o,w a=some o->o=.f)(wl:WL K w H)(r:Reps K H w .f 0 ds vs []):Good K (x42 N.length ds) (y1o N vs) H w 0:=by
 refine⟨wl,(fun a i e=>by cases (hw a _ e)),(fun a i e=>by cases (hw a _ e)),?_,fun i d q e=>?_⟩
 ·unfold x42 L2.y1o
  rw[List.length_append,List.length_append,List.length_map,List.length_map,List.length_replicate,List.length_replicate,r.length]
 ·unfold x42 at e
  by_cases hi:i<ds.length
  ·rw[List.getElem?_append_left (by simpa using hi),List.getElem?_map]at e
   cases h:ds[i]? with
   | none=>rw[h]at e;cases e
   | some d'=>
    rw[h]at e
    cases e
    obtain⟨v,hv,rv⟩:=r.get h
    refine⟨v,[],?_,(rv.any wl:Rep K H w (.s i) 0 d v []).dep⟩
    unfold L2.y1o
    rw[List.getElem?_append_left (by rw[List.length_map,<- r.length];exact hi),List.getElem?_map,hv]
    rfl
  ·rw[List.getElem?_append_right (by simpa using hi),List.getElem?_replicate]at e
   split at e<;>cases e
theorem y79 {K:PySem.W.Frag}{N:List Str}{n:Nat}{body:x16}{vs:List V}{H:Hp}{Q:VK}{E:XK}(h:spD K n (fnD N.length body) vs H Q E):tDS K body { nx:=fun _ H'=>Q .non H',rt:=Q } (y1o N vs) H:=by
 obtain⟨hn,ds,w,r,q,hw,wl,rs,e,k⟩:=h
 unfold fnD at e
 split at e
 ·rename_i d q' h1
  cases e
  exact⟨_,w,_,x6o hw wl rs,h1,fun v H' w' F wl' go' r'=>k v H' w' F go' wl' r'⟩
 ·rename_i ρ' h1
  cases e
  exact⟨_,w,_,x6o hw wl rs,h1,fun σ' H' w' _ g' go'=>k .non H' w' [] go' g'.wl .non⟩
 ·cases e
theorem j2s {P:Program}{wd:World}{K:PySem.W.Frag}{mg:Str->Option Value}{base:Heap}{x qual:Str}{st:Stmt}{f:Addr}{fd:FuncData}{N ps:List Str}{k:Nat}{body:x16}(F:Fun K x qual st f fd)(S:FnScope N ps (x0a st))
  (h:∀ (cdv:Value) (A:Around) (outer:List Env) (s:Shared) (H:Hp) (E:XK),Room k (A.deeper (envOfC qual (x0a st) s.heap.objs.size f cdv))->y7m (y2h CX0 P wd K mg base N qual (x0a st) f cdv A outer s H E).nox (x32 st) body) :
  FnOk P wd K mg base CX0 (k+1) f fd ps (spD K ps.length (fnD N.length body)):=
 F.ok S (fun vs H Q E h=>h.1) fun cdv A outer s H vs Q E hr hsp=>⟨_,h cdv A outer s H E hr,y79 hsp⟩
def x66 (k:Nat)(pt:x54)(tt:x1p)(te:Den)(deep:Bool):List D->Rho->Option (List D×Rho)
 | [],ρ=>some ([],ρ)
 | d::ds,ρ=>match pt d (ρ++List.replicate k none)with
  | none=>none
  | some ρ1=>match tt ρ1 with
   | none=>none
   | some (b,ρ2)=>if b=true then(match te ρ2 with
     | none=>none
     | some (v,q,ρ3)=>if deep=true/\v.isL=true/\q≠1 then none else match x66 k pt tt te deep ds (ρ3.take ρ.length)with
      | none=>none
      | some (vs,ρ4)=>some (v::vs,ρ4))
    else x66 k pt tt te deep ds (ρ2.take ρ.length)
@[simp] def x2x (k:Nat)(it:x9w)(pt:x54)(tt:x1p)(te:Den)(deep:Bool):Den:=fun ρ=>match it ρ with
 | some (ds,ρ1)=>match x66 k pt tt te deep ds ρ1 with
  | some (vs,ρ2)=>some (.lst vs,if deep=true then 2 else 1,ρ2)
  | none=>none
 | none=>none
@[simp] def x27:x1p:=fun ρ=>some (true,ρ)
theorem Good.ext {K:PySem.W.Frag}{ρ:Rho}{σ:St}{H:Hp}{w:Wn}{t:Nat}(g:Good K ρ σ H w t)(k:Nat):Good K (ρ++List.replicate k none) (σ++List.replicate k none) H w t:=by
 refine⟨g.wl,fun a i e=>by rw[List.length_append];exact Nat.lt_of_lt_of_le (g.ws a i e) (Nat.le_add_right _ _),g.wt,by rw[List.length_append,List.length_append,List.length_replicate,List.length_replicate,g.len],fun i d q e=>?_⟩
 by_cases hi:i<ρ.length
 ·rw[List.getElem?_append_left hi]at e
  obtain⟨v,F,h1,h2⟩:=g.slot i d q e
  exact⟨v,F,by rw[List.getElem?_append_left (by rw[<- g.len];exact hi)];exact h1,h2⟩
 ·rw[List.getElem?_append_right (by omega),List.getElem?_replicate]at e
  split at e<;>cases e
def x3v (n:Nat)(w:Wn):Wn:=fun a=>match w a with
 | some (.s i)=>if n<=i then none else some (.s i)
 | x=>x
theorem y34 {n:Nat}{w:Wn}{a:Addr}(h:w a=none):x3v n w a=none:=by unfold x3v;rw[h]
theorem y63 {n:Nat}{w:Wn}{a:Addr}{i:Nat}(h:w a=some (.s i))(hi:i<n):x3v n w a=some (.s i):=by unfold x3v;rw[h];exact if_neg (by omega)
theorem y6e {n:Nat}{w:Wn}{a:Addr}{o:Ow}(h:w a=some o)(hn:∀ i,o ≠ .s i):x3v n w a=some o:=by
 unfold x3v;rw[h]
 cases o with
 | s i=>exact absurd rfl (hn i)
 | t i=>rfl
 | f=>rfl
theorem x5m {n:Nat}{w:Wn}{a:Addr}{o:Ow}(h:x3v n w a=some o):w a=some o/\∀ i,o=.s i->i<n:=by
 unfold x3v at h
 cases e:w a with
 | none=>rw[e]at h;cases h
 | some o'=>
  rw[e]at h
  cases o' with
  | t i=>cases h;exact⟨rfl,fun i z=>nomatch z⟩
  | f=>cases h;exact⟨rfl,fun i z=>nomatch z⟩
  | s i=>
   dsimp only at h
   split at h
   ·cases h
   ·cases h;exact⟨rfl,fun j z=>by cases z;omega⟩
theorem Good.cut {K:PySem.W.Frag}{ρ:Rho}{σ τ:St}{H:Hp}{w:Wn}{t:Nat}(g:Good K ρ (σ++τ) H w t):Good K (ρ.take σ.length) σ H (x3v σ.length w) t/\Go H w H (x3v σ.length w):=by
 have st:x71 H w H (x3v σ.length w):=fun a x h n=>⟨sm h,y34 n⟩
 refine⟨⟨⟨fun a o e=>g.wl a o (x5m e).1,g.wl.tb⟩,fun a i e=>(x5m e).2 i rfl,fun a i e=>g.wt a i (x5m e).1,?_,fun i d q e=>?_⟩,⟨st,fun a o e n=>⟨rfl,y6e e n⟩⟩⟩
 ·rw[List.length_take,g.len,List.length_append]
  omega
 ·by_cases hi:i<σ.length
  ·rw[List.getElem?_take_of_lt hi]at e
   obtain⟨v,F,h1,h2⟩:=g.slot i d q e
   rw[List.getElem?_append_left hi]at h1
   exact⟨v,F,h1,Rep.go g.wl st h2 fun a m=>⟨rfl,y63 (h2.owns a m) hi⟩⟩
  ·rw[List.getElem?_take_eq_none (by omega)]at e
   cases e
theorem j3d {σ σ' τ:St}(l:σ'.length=(σ++τ).length)(h:∀ i,i<σ.length->σ'[i]? = (σ++τ)[i]?):∃ τ',σ'=σ++τ'/\τ'.length=τ.length:=by
 refine⟨σ'.drop σ.length,?_,by rw[List.length_drop,l,List.length_append];omega⟩
 have e:σ'.take σ.length=σ:=by
  apply List.ext_getElem?
  intro i
  by_cases hi:i<σ.length
  ·rw[List.getElem?_take_of_lt hi,h i hi,List.getElem?_append_left hi]
  ·rw[List.getElem?_take_eq_none (by omega),List.getElem?_eq_none (by omega)]
 conv=>lhs;rw[<- List.take_append_drop σ.length σ',e]
def dq (deep:Bool):Nat:=if deep=true then 1 else 0
def x70 (deep:Bool)(t:Nat)(w:Wn):Wn:=fun a=>if w a=some (.t (t+1))then(if deep=true then some (.t t)else none)else w a
theorem j7g {K:PySem.W.Frag}{ρ:Rho}{σ:St}{H:Hp}{w:Wn}{t q:Nat}{d:D}{v:V}{F:List Addr}{deep:Bool}(g:Good K ρ σ H w (t+2))(r:Rep K H w (.t (t+1)) q d v F)(hq:¬ (deep=true/\d.isL=true/\q≠1)) :
  Good K ρ σ H (x70 deep t w) (t+1)/\(∃ F',Rep K H (x70 deep t w) (.t t) (dq deep) d v F'/\∀ a∈F',w a=some (.t (t+1)))/\x71 H w H (x70 deep t w)/\(∀ a o,w a=some o->o ≠ .t (t+1)->x70 deep t w a=some o):=by
 have hN:∀ a,w a=none->x70 deep t w a=none:=fun a e=>by unfold x70;rw[e];rfl
 have hO:∀ a o,w a=some o->o ≠ .t (t+1)->x70 deep t w a=some o:=fun a o e n=>by
  unfold x70
  rw[if_neg (by rw[e];exact fun z=>n (Option.some.inj z))]
  exact e
 have hI:∀ a o,x70 deep t w a=some o->(w a=some (.t (t+1))/\o=.t t)\/(w a=some o/\o ≠ .t (t+1)):=fun a o e=>by
  unfold x70 at e
  split at e
  ·split at e
   ·cases e;exact .inl ⟨by assumption,rfl⟩
   ·cases e
  ·rename_i n;exact .inr ⟨e,fun z=>n (by rw[e,z])⟩
 have st:x71 H w H (x70 deep t w):=fun a x h n=>⟨sm h,hN a n⟩
 refine⟨⟨⟨fun a o e=>?_,g.wl.tb⟩,fun a i e=>?_,fun a i e=>?_,g.len,fun i d' q' e'=>?_⟩,?_,st,hO⟩
 ·rcases hI a o e with⟨z,_⟩|⟨z,_⟩<;>exact g.wl a _ z
 ·rcases hI a _ e with⟨_,z⟩|⟨z,_⟩
  ·cases z
  ·exact g.ws a i z
 ·rcases hI a _ e with⟨_,z⟩|⟨z,n⟩
  ·cases z;exact Nat.lt_succ_self _
  ·have:=g.wt a i z
   have:i≠t+1:=fun z=>n (by rw[z])
   omega
 ·obtain⟨v',F',h1,h2⟩:=g.slot i d' q' e'
  exact⟨v',F',h1,Rep.go g.wl st h2 fun a m=>⟨rfl,hO a _ (h2.owns a m) (fun z=>nomatch z)⟩⟩
 ·cases deep with
  | false=>
   refine⟨[],Rep.freeze hN r fun a m=>?_,fun _ z=>nomatch z⟩
   unfold x70
   rw[if_pos (r.owns a m)]
   rfl
  | true=>
   have hT:∀ a,w a=some (.t (t+1))->x70 true t w a=some (.t t):=fun a e=>by unfold x70;rw[if_pos e];rfl
   cases hl:d.isL with
   | false=>
    obtain⟨_,hr⟩:=r.nolist hl
    exact⟨[],Rep.go g.wl st (hr 1) (fun _ z=>nomatch z),fun _ z=>nomatch z⟩
   | true=>
    have:q=1:=by
     by_cases h:q=1
     ·exact h
     ·exact absurd ⟨rfl,hl,h⟩ hq
    subst this
    exact⟨F,Rep.go g.wl st r fun a m=>⟨rfl,hT a (r.owns a m)⟩,r.owns⟩
theorem j1e {K:PySem.W.Frag}{ρ:Rho}{σ:St}{H1:Hp}{w1:Wn}{t q:Nat}{p:Addr}{vs:List V}{ds:List D}{F:List Addr}(g:Good K ρ σ H1 w1 (t+1))(hp:H1 p=none)(r:Reps K H1 w1 (.t t) q ds vs F) :
  Good K ρ σ (upd H1 p (.lst vs)) (z1u p (.t t) w1) (t+1)/\Go H1 w1 (upd H1 p (.lst vs)) (z1u p (.t t) w1)/\Rep K (upd H1 p (.lst vs)) (z1u p (.t t) w1) (.t t) (q+1) (.lst ds) (.ref p) (p::F):=by
 have ne:∀ a x,H1 a=some x->a≠p:=fun a x e=>x0u e hp
 have nw:∀ a o,w1 a=some o->a≠p:=fun a o e=>by obtain⟨vs,q⟩:=g.wl a o e;exact ne a _ q
 have st:x71 H1 w1 (upd H1 p (.lst vs)) (z1u p (.t t) w1):=fun a x e n=>⟨sm (by rw[x0i (ne a x e)];exact e),by rw[x46 (ne a x e)];exact n⟩
 refine⟨⟨⟨fun a o e=>?_,g.wl.tb.upd rfl (.inl hp)⟩,fun a i e=>?_,fun a i e=>?_,g.len,fun i d q e=>?_⟩,⟨st,fun a o e _=>⟨x0i (nw a o e),(x46 (nw a o e)).trans e⟩⟩,?_⟩
 ·by_cases h:a=p
  ·subst h;exact⟨vs,x0w⟩
  ·rw[x46 h]at e
   obtain⟨us,q⟩:=g.wl a o e
   exact⟨us,by rw[x0i h];exact q⟩
 ·by_cases h:a=p
  ·subst h;rw[x5e]at e;cases e
  ·rw[x46 h]at e;exact g.ws a i e
 ·by_cases h:a=p
  ·subst h;rw[x5e]at e;cases e;exact Nat.lt_succ_self _
  ·rw[x46 h]at e;exact g.wt a i e
 ·obtain⟨v,F,h1,h2⟩:=g.slot i d q e
  exact⟨v,F,h1,Rep.go g.wl st h2 fun a m=>⟨x0i (nw a _ (h2.owns a m)),(x46 (nw a _ (h2.owns a m))).trans (h2.owns a m)⟩⟩
 ·exact .own x0w x5e (Reps.go g.wl st r fun a m=>⟨x0i (nw a _ (r.owns a m)),(x46 (nw a _ (r.owns a m))).trans (r.owns a m)⟩) fun m=>absurd rfl (nw p _ (r.owns p m))
theorem y23 {K:PySem.W.Frag}{k:Nat}{it:x9w}{pt:x54}{tt:x1p}{te:Den}{deep:Bool}:∀ σ H Q,tD K (x2x k it pt tt te deep) σ H Q->y8b k (tDI K it) (tDG K σ.length pt) (tDT K tt) (tD K te) σ H Q:=fun σ H Q hh0=>by
 obtain⟨ρ,w,t,r',q,ρ',g,ee,kk⟩:=hh0
 unfold x2x at ee
 split at ee
 ·rename_i ds ρ1 h1
  split at ee
  ·rename_i all ρ2 h2
   cases ee
   refine⟨ρ,w,t,ds,ρ1,g,h1,fun J P H1 w1 g1 go1 ok p1 hl=>?_⟩
   refine⟨fun i m ys H'=>m=ds.length-i/\i<=ds.length/\ys.length<=i/\∃ ρ3 w3 zs F x1w,Good K ρ3 σ H' w3 (t+1)/\Go H w H' w3/\P H' w3/\Reps K H' w3 (.t t) (dq deep) zs ys F /\
     x66 k pt tt te deep (ds.drop i) ρ3=some (x1w,ρ')/\zs++x1w=all,
    ⟨ds.length,by simp,Nat.zero_le _,Nat.le_refl _,ρ1,w1,[],[],all,g1.up,go1,p1,.nil,h2,rfl⟩,?_⟩
   rintro i m ys H' ⟨rfl,hile,hys,ρ3,w3,zs,F,x1w,g0,go0,p0,rz0,e3,ez⟩
   have hsz:ys.length<sizeLine:=by omega
   refine⟨Nat.le_of_lt hsz,?_⟩
   by_cases hlt:i<ds.length
   ·refine .inr ⟨ok.go i H' w3 p0 hlt,hsz,fun x H2 hy=>?_⟩
    obtain⟨mo,rx,p3⟩:=ok.yld i H' w3 x H2 ds[i] p0 g0.wl (List.getElem?_eq_getElem hlt) hy
    obtain⟨g3,go2⟩:=g0.more mo
    have go3:=go0.trans go2
    have rz:=rz0.gone g0.wl go2
    have ed:ds.drop i=ds[i]::ds.drop (i+1):=List.drop_eq_getElem_cons hlt
    rw[ed]at e3
    unfold x66 at e3
    split at e3
    ·cases e3
    ·rename_i ρ4 h4
     split at e3
     ·cases e3
     ·rename_i b ρ5 h5
      have gx:=g3.ext k
      have lρ:ρ3.length=σ.length:=g3.len
      refine⟨ds[i],_,w3,t+1,ρ4,gx,rx,h4,fun σ4 H4 w4 l4 s4 g4 go4=>?_⟩
      obtain⟨τ,rfl,lτ⟩:=j3d l4 s4
      refine⟨⟨τ,rfl,by rw[lτ,List.length_replicate]⟩,ρ4,w4,t+1,b,ρ5,g4,h5,fun H5 w5 g5 go5=>?_⟩
      have p5:=ok.st _ _ _ _ (ok.st _ _ _ _ p3 g3.wl go4.stab) g4.wl go5.stab
      have z5:Reps K H5 w5 (.t t) (dq deep) zs ys F:=(rz.gone g3.wl go4).gone g4.wl go5
      cases b with
      | false=>
       rw[if_neg (by decide)]at e3
       dsimp only
       rw[if_neg (by decide)]
       obtain⟨gc,goc⟩:=g5.cut
       rw[lρ]at e3
       refine⟨ds.length-(i+1),by omega,rfl,hlt,by omega,_,_,zs,F,x1w,gc,(go3.trans go4).trans (go5.trans goc),ok.st _ _ _ _ p5 g5.wl goc.stab,z5.gone g5.wl goc,e3,ez⟩
      | true=>
       rw[if_pos rfl]at e3
       dsimp only
       rw[if_pos rfl]
       split at e3
       ·cases e3
       ·rename_i d6 q6 ρ6 h6
        split at e3
        ·cases e3
        ·rename_i hq6
         split at e3
         ·cases e3
         ·rename_i vs7 ρ7 h7
          cases e3
          refine⟨ρ5,w5,t+1,d6,q6,ρ6,g5,h6,fun v H6 w6 F6 g6 go6 r6=>?_⟩
          obtain⟨gs,⟨F',rs,hF'⟩,sts,hOs⟩:=j7g g6 r6 hq6
          obtain⟨gc,goc⟩:=gs.cut
          rw[lρ]at h7
          have zs6:=z5.gone g5.wl go6
          have zF:∀ a∈F,w6 a=some (.t t):=zs6.owns
          have zs7:Reps K H6 (x70 deep t w6) (.t t) (dq deep) zs ys F:=Reps.go g6.wl sts zs6 fun a m=>⟨rfl,hOs a _ (zF a m) (by intro z;cases z)⟩
          have gos:Go H w H6 (x70 deep t w6):=by
           have go:Go H w H6 w6:=(go3.trans go4).trans (go5.trans go6)
           refine⟨go.stab.trans sts,fun a o h n=>⟨(go.keep a o h n).1,hOs a o (go.keep a o h n).2 fun z=>?_⟩⟩
           subst z
           have:=g.wt a _ h
           omega
          refine⟨ds.length-(i+1),by omega,rfl,hlt,by rw[List.length_append];simp;omega,_,_,zs++[d6],F++F',vs7,gc,gos.trans goc,ok.st _ _ _ _ (ok.st _ _ _ _ p5 g5.wl go6.stab |> fun q=>ok.st _ _ _ _ q g6.wl sts) gs.wl goc.stab,
           ?_,h7,by rw[List.append_assoc];exact ez⟩
          refine(Reps.snoc rs zs7 fun a m m'=>?_).gone gs.wl goc
          have h1:=zF a m
          rw[hF' a m']at h1
          cases h1
   ·have hi':i=ds.length:=Nat.le_antisymm hile (Nat.not_lt.mp hlt)
    subst hi'
    refine .inl ⟨ok.stop H' w3 p0,fun p hp=>?_⟩
    have ed:ds.drop ds.length=[]:=by simp
    rw[ed]at e3
    cases e3
    rw[List.append_nil]at ez
    subst ez
    obtain⟨a1,a2,a3⟩:=j1e g0 hp rz0
    refine kk _ _ _ (p::F) a1 (go0.trans a2) ?_
    cases deep<;>exact a3
  ·cases ee
 ·cases ee
section
variable {X:Cx}{k:Nat}{N':List Str}{scope:Scope}{elt tg iter:Expr}{ifs:List Expr}{pos:Pos}{it:x9w}{pt:x54}{tt:x1p}{te:Den}
abbrev j0g (X:Cx)(ifs:List Expr)(f:x1p):Prop:=PTs X ifs (tDT X.K f)
theorem z51:j0g X [] x27:=fun pins s σ H Q I hh0=>by
 obtain⟨ρ,w,t,b,ρ',gd,ee,k⟩:=hh0
 cases ee
 exact z9p pins s σ H Q I (k H w gd Go.refl)
theorem z57 {c:Expr}{g:x1p}(h:PDT X c g):j0g X [c] g:=z6i h
theorem z9o (deep:Bool)(hc:X.calm=true)(S:CompOk X k N' scope)(hi:PDI X tg iter it)(hg:∀ C s H fp,PDG (x11 X N' scope C s H fp) X.N.length tg pt)(ht:∀ C s H fp,j0g (x11 X N' scope C s H fp) ifs tt)(he:∀ C s H fp,PD (x11 X N' scope C s H fp) elt te)
  (hs:∀ x,foldedSetIterable iter X.env x=pure x:=by intro _;rfl):PD X (.ListComp elt [⟨tg,iter,ifs,0⟩] scope pos) (x2x k it pt tt te deep):=by
 intro pins s σ H Q I h
 have:=y23 σ H Q h
 rw[I.len]at this
 exact z78 (N':=N') hc S hi hg ht he hs pins s σ H Q I this
theorem z41 {i:Nat}{y:Str}{py spos:Pos}(deep:Bool)(hN:X.N.Nodup)(hy:X.N[i]? = some y)(hx:Loc X.env.scope y)(hsw:swapsWith (.ListComp elt [⟨tg,iter,ifs,0⟩] scope pos) (some (.Name y py)) spos.line X.env=pure true)
  (hc:X.calm=true) (S:CompOk X k N' scope) (hi:PDI X tg iter it) (hg:∀ C s H fp,PDG (x11 X N' scope C s H fp) X.N.length tg pt) (ht:∀ C s H fp,j0g (x11 X N' scope C s H fp) ifs tt) (he:∀ C s H fp,PD (x11 X N' scope C s H fp) elt te)
  (hs:∀ x,foldedSetIterable iter X.env x=pure x:=by intro _;rfl) (hf:X.fn y=true\/X.env.scope.names.lookup y=some .local:=by first|exact .inl rfl|exact .inr rfl|assumption) :
  PDS X (.Assign [.Name y py] (.ListComp elt [⟨tg,iter,ifs,0⟩] scope pos) spos) (x20 i (x2x k it pt tt te deep)):=by
 intro pins s σ H D I h
 have hl:i<σ.length:=by rw[I.len];exact(List.getElem?_eq_some_iff.mp hy).1
 refine z7j (N':=N') (te:=tD X.K te) (tt:=tDT X.K tt) (g:=tDG X.K X.N.length pt) (wi:=tDI X.K it) hN hy hx hsw hc S hi hg ht he hs hf pins s σ H D I ?_
 have z:=y9h (te:=y8b k (tDI X.K it) (tDG X.K σ.length pt) (tDT X.K tt) (tD X.K te)) hl (fun Q q=>y23 σ H Q q) h
 rw[I.len]at z
 exact z
end
mutual
def toP:D->PyData
 | .non=>.none
 | .bl b=>.bool b
 | .int i=>.int i
 | .str x=>.str x
 | .tup ds=>.tuple (x73 ds)
 | .lst ds=>.list (x73 ds)
 | .dic _ _=>.none
 | .exc _=>.none
 | .ob _ _ _ _=>.none
def x73:List D->List PyData
 | []=>[]
 | d::ds=>toP d::x73 ds
end
mutual
def x88:D->Bool
 | .dic _ _=>false
 | .exc _=>false
 | .ob _ _ _ _=>false
 | .tup ds=>y06 ds
 | .lst ds=>y06 ds
 | _=>true
def y06:List D->Bool
 | []=>true
 | d::ds=>x88 d&&y06 ds
end
def okD (d:D):Bool:=x88 d&&SeqAt.shaped (toP d)
theorem x9o {d:D}(h:okD d=true):x88 d=true:=(Bool.and_eq_true_iff.mp h).1
theorem x9p {d:D}(h:okD d=true):SeqAt.shaped (toP d)=true:=(Bool.and_eq_true_iff.mp h).2
def eqD (d e:D):Bool:=PyData.eqv (toP d) (toP e)
section
variable {X:Cx}{pins:List (Addr×Obj)}{σ:St}{H:Hp}{s:Shared}
theorem Rep.reads (I:Inv X pins σ H s){w:Wn}{o:Ow}:∀ {q:Nat} {d:D} {v:V} {F:List Addr} {u:Value},Rep X.K H w o q d v F->x3t v u->x88 d=true->∃ as,Reads s.heap u (toP d) as:=by
 intro q d v F u r
 refine(Rep.rec (motive_1:=fun q d v F _=>∀ u,x3t v u->x88 d=true->∃ as,Reads s.heap u (toP d) as) (motive_2:=fun q ds vs F _=>∀ us,x2i vs us->y06 ds=true->∃ as,ReadsAll s.heap us (x73 ds) as) ?_ ?_ ?_ ?_ ?_ ?_ ?_ ?_ ?_ ?_ ?_ ?_ ?_ r:∀ u,x3t v u->x88 d=true->∃ as,Reads s.heap u (toP d) as) u
 ·intro q u ru hn;cases ru;exact⟨_,by unfold toP;exact .none⟩
 ·intro q b u ru hn;cases ru;exact⟨_,by unfold toP;exact .bool b⟩
 ·intro q i u ru hn;obtain⟨t,rfl⟩:=ru;exact⟨_,by unfold toP;exact .int i t⟩
 ·intro q x u ru hn;obtain⟨t,rfl⟩:=ru;exact⟨_,by unfold toP;exact .str x t⟩
 ·intro q a vs ds h r ih u ru hn
  cases ru
  obtain⟨its,rv,p,hz⟩:=I.tuple (SqT.of h)
  obtain⟨as,ra⟩:=ih its rv (by unfold x88 at hn;exact hn)
  obtain⟨ob,ho,hc,n,hd⟩:=p
  exact⟨_,by unfold toP;exact .tuple ho hc hd ra⟩
 ·intro q a ks vs ds h r ih u ru hn;cases hn
 ·intro q a nm ob v h x n u ru hn;cases hn
 ·intro q f c fo oc u1 u2 vs ds h1 h2 x r ih u ru hn;cases hn
 ·intro a vs ds h r ih u ru hn
  cases ru
  obtain⟨its,rv,p,hz⟩:=I.list h.sq
  obtain⟨as,ra⟩:=ih its rv (by unfold x88 at hn;exact hn)
  obtain⟨ob,ho,hc,n,hd⟩:=p.isList
  exact⟨_,by unfold toP;exact .list ho hc hd ra⟩
 ·intro a vs ds h n0 r ih u ru hn
  cases ru
  obtain⟨its,rv,p,hz⟩:=I.list (.inl h)
  obtain⟨as,ra⟩:=ih its rv (by unfold x88 at hn;exact hn)
  obtain⟨ob,ho,hc,n,hd⟩:=p.isList
  exact⟨_,by unfold toP;exact .list ho hc hd ra⟩
 ·intro q a vs ds F h e r ne ih u ru hn
  cases ru
  obtain⟨its,rv,p,hz⟩:=I.list (SqL.of h)
  obtain⟨as,ra⟩:=ih its rv (by unfold x88 at hn;exact hn)
  obtain⟨ob,ho,hc,n,hd⟩:=p.isList
  exact⟨_,by unfold toP;exact .list ho hc hd ra⟩
 ·intro q us ru hn;cases ru;exact⟨_,by unfold x73;exact .nil⟩
 ·intro q d v ds vs F G r s' ne ih1 ih2 us ru hn
  cases ru with
  | cons rv rvs=>
   unfold y06 at hn
   obtain⟨as,ra⟩:=ih1 _ rv (Bool.and_eq_true_iff.mp hn).1
   obtain⟨bs,rb⟩:=ih2 _ rvs (Bool.and_eq_true_iff.mp hn).2
   exact⟨_,by unfold x73;exact .cons ra rb⟩
end
def Is (K:PySem.W.Frag)(H:Hp)(d:D)(v:V):Prop:=∃ w o q F,Rep K H w o q d v F
def j6g (K:PySem.W.Frag):R2:=fun x y H Q=>∃ d e,Is K H d x/\Is K H e y/\okD d=true/\okD e=true/\Q (.bl (eqD d e)) H
def j6e (K:PySem.W.Frag):R2:=fun x y H Q=>∃ d e,Is K H d x/\Is K H e y/\okD d=true/\okD e=true/\Q (.bl (!eqD d e)) H
def inD (d:D):D->Option Bool
 | .lst ds=>some ((x73 ds).any fun y=>PyData.eqv y (toP d))
 | .tup ds=>some ((x73 ds).any fun y=>PyData.eqv y (toP d))
 | _=>none
def j6k (K:PySem.W.Frag)(neg:Bool):R2:=fun x y H Q=>∃ d e b,Is K H d x/\Is K H e y/\okD d=true/\okD e=true/\inD d e=some b/\Q (.bl (if neg then !b else b)) H
section
variable {X:Cx}{a b c e:Expr}{fa fb fc f:Den}{pos:Pos}
theorem z63 (hu:X.A.units+64<cLine):OpR X (compareOp .Eq) (j6g X.K):=by
 intro pins s σ H x y v u Q I rx ry ⟨d,e,⟨w,o,q,F,h1⟩,⟨w',o',q',F',h2⟩,k1,k2,hq⟩
 obtain⟨as,ra⟩:=h1.reads I rx (x9o k1)
 obtain⟨bs,rb⟩:=h2.reads I ry (x9o k2)
 exact eq_dataH ra rb (x9p k1) (x9p k2) hu ⟨.bl _,H,I,rfl,hq⟩
theorem j44 (hu:X.A.units+64<cLine):OpR X (compareOp .NotEq) (j6e X.K):=by
 intro pins s σ H x y v u Q I rx ry ⟨d,e,⟨w,o,q,F,h1⟩,⟨w',o',q',F',h2⟩,k1,k2,hq⟩
 obtain⟨as,ra⟩:=h1.reads I rx (x9o k1)
 obtain⟨bs,rb⟩:=h2.reads I ry (x9o k2)
 exact ne_dataH ra rb (x9p k1) (x9p k2) hu ⟨.bl _,H,I,rfl,hq⟩
theorem z5h (hu:X.A.units+65<cLine):OpR X (compareOp .In) (j6k X.K false):=by
 intro pins s σ H x y v u Q I rx ry ⟨d,e,b,⟨w,o,q,F,h1⟩,⟨w',o',q',F',h2⟩,k1,k2,hb,hq⟩
 obtain⟨as,ra⟩:=h1.reads I rx (x9o k1)
 obtain⟨bs,rb⟩:=h2.reads I ry (x9o k2)
 replace k1:=x9p k1
 replace k2:=x9p k2
 cases e with
 | lst ds=>
  cases hb
  unfold toP at rb k2
  exact SeqAt.in_list_reads rb ra (SeqAt.canLay_of_shaped k2) (SeqAt.canLay_of_shaped k1) (room_in_shaped k1 hu) ⟨.bl _,H,I,rfl,hq⟩
 | tup ds=>
  cases hb
  unfold toP at rb k2
  exact SeqAt.in_tuple_reads rb ra (SeqAt.canLay_of_shaped k2) (SeqAt.canLay_of_shaped k1) (room_in_shaped k1 hu) ⟨.bl _,H,I,rfl,hq⟩
 | _=>cases hb
def dEq (x y:D):Option D:=if okD x=true/\okD y=true then some (.bl (eqD x y))else none
def dNe (x y:D):Option D:=if okD x=true/\okD y=true then some (.bl (!eqD x y))else none
def dIn (x y:D):Option D:=if okD x=true/\okD y=true then(inD x y).map fun b=>.bl b else none
theorem hEq {K:PySem.W.Frag}:∀ σ H Q,tD K (e2 dEq fa fb) σ H Q->tOp (j6g K) (tD K fa) (tD K fb) σ H Q:=y22 fun x y d h=>by
 unfold dEq at h
 split at h
 ·rename_i hk
  cases h
  exact⟨_,rfl,fun H w o o' q q' u u' F F' r1 r2 _ Q hq=>⟨x,y,⟨_,_,_,_,r1⟩,⟨_,_,_,_,r2⟩,hk.1,hk.2,hq⟩⟩
 ·cases h
theorem hNe {K:PySem.W.Frag}:∀ σ H Q,tD K (e2 dNe fa fb) σ H Q->tOp (j6e K) (tD K fa) (tD K fb) σ H Q:=y22 fun x y d h=>by
 unfold dNe at h
 split at h
 ·rename_i hk
  cases h
  exact⟨_,rfl,fun H w o o' q q' u u' F F' r1 r2 _ Q hq=>⟨x,y,⟨_,_,_,_,r1⟩,⟨_,_,_,_,r2⟩,hk.1,hk.2,hq⟩⟩
 ·cases h
theorem hIn {K:PySem.W.Frag}:∀ σ H Q,tD K (e2 dIn fa fb) σ H Q->tOp (j6k K false) (tD K fa) (tD K fb) σ H Q:=y22 fun x y d h=>by
 unfold dIn at h
 split at h
 ·rename_i hk
  cases hi:inD x y with
  | none=>rw[hi]at h;cases h
  | some b=>
   rw[hi]at h
   cases h
   exact⟨_,rfl,fun H w o o' q q' u u' F F' r1 r2 _ Q hq=>⟨x,y,b,⟨_,_,_,_,r1⟩,⟨_,_,_,_,r2⟩,hk.1,hk.2,hi,hq⟩⟩
 ·cases h
theorem j51 {k:Nat}(hr:Room k X.A)(ha:PD X a fa)(hb:PD X b fb):PD X (.Compare a [.Eq] [b] pos) (e2 dEq fa fb):=z5x (z63 hr.units) hEq ha hb (y4t _)
theorem j1k {k:Nat}(hr:Room k X.A)(ha:PD X a fa)(hb:PD X b fb):PDT X (.Compare a [.Eq] [b] pos) (x3m (e2 dEq fa fb)):=y0v (z63 hr.units) hEq ha hb (y4t _)
theorem j2j {k:Nat}(hr:Room k X.A)(ha:PD X a fa)(hb:PD X b fb):PDT X (.Compare a [.NotEq] [b] pos) (x3m (e2 dNe fa fb)):=y0v (j44 hr.units) hNe ha hb (y4t _)
theorem u65 {k:Nat}{A:Around}(r:Room k A):A.units+65<cLine:=by have:=r.un;omega
theorem j0w {k:Nat}(hr:Room k X.A)(ha:PD X a fa)(hb:PD X b fb)(hm:behindInMarks .In b=false:=by with_unfolding_all rfl):PDT X (.Compare a [.In] [b] pos) (x3m (e2 dIn fa fb)):=y0v (z5h (u65 hr)) hIn ha hb hm
theorem j5l {k:Nat}(hr:Room k X.A)(ha:PD X a fa)(hb:PD X b fb)(hm:behindInMarks .In b=false:=by with_unfolding_all rfl):PD X (.Compare a [.In] [b] pos) (e2 dIn fa fb):=z5x (z5h (u65 hr)) hIn ha hb hm
end
@[simp] def eB (h:List D->Option D)(g:x1o):Den:=fun ρ=>match g ρ with
 | some (ds,ρ1)=>match h ds with
  | some d=>some (d,9,ρ1)
  | none=>none
 | none=>none
section
variable {X:Cx}{a b c e:Expr}{es:List Expr}{fa fb fc f:Den}{g:x1o}{pos p p1 p2:Pos}
theorem y9c {K:PySem.W.Frag}{h:List D->Option D}{r:List V->Hp->VK->Prop}(hh:∀ ds d,h ds=some d->∃ v,y35 d=some v/\∀ H w vs,WL K w H->Reps K H w .f 0 ds vs []->∀ Q:VK,Q v H->r vs H Q) :
  ∀ σ H Q,tD K (eB h g) σ H Q->tCB r (tDA K g) σ H Q:=fun σ H Q hh0=>by
 obtain⟨ρ,w,t,r',q,ρ',gd,ee,k⟩:=hh0
 unfold eB at ee
 split at ee
 ·rename_i ds ρ1 h1
  split at ee
  ·rename_i d hd
   cases ee
   obtain⟨v,hv,hr⟩:=hh ds _ hd
   exact⟨ρ,w,t,ds,_,gd,h1,fun vs H1 w1 g1 go1 r1=>hr H1 w1 vs g1.wl r1 Q (k v H1 w1 [] g1.up go1 (y3l hv))⟩
  ·cases ee
 ·cases ee
theorem one {K:PySem.W.Frag}{H:Hp}{w:Wn}{o:Ow}{d:D}{vs:List V}(r:Reps K H w o 0 [d] vs []):∃ v,vs=[v]/\Rep K H w o 0 d v []:=by
 have l:=r.length
 match vs,l with
 | [v],_=>
  obtain⟨v',h1,h2⟩:=r.get (i:=0) rfl
  cases h1
  exact⟨v,rfl,h2⟩
theorem two {K:PySem.W.Frag}{H:Hp}{w:Wn}{o:Ow}{d d':D}{vs:List V}(r:Reps K H w o 0 [d,d'] vs []):∃ v v',vs=[v,v']/\Rep K H w o 0 d v []/\Rep K H w o 0 d' v' []:=by
 have l:=r.length
 match vs,l with
 | [v,v'],_=>
  obtain⟨u,h1,h2⟩:=r.get (i:=0) rfl
  obtain⟨u',h3,h4⟩:=r.get (i:=1) rfl
  cases h1
  cases h3
  exact⟨v,v',rfl,h2,h4⟩
def x95:D->Option Nat
 | .lst ds=>some ds.length
 | .tup ds=>some ds.length
 | _=>none
@[simp] def z3p:List D->Option D
 | [d]=>(x95 d).map fun n=>.int (Int.ofNat n)
 | _=>none
theorem Rep.len {K:PySem.W.Frag}{H:Hp}{w:Wn}{o:Ow}{q:Nat}{d:D}{v:V}{F:List Addr}{n:Nat}(r:Rep K H w o q d v F)(h:x95 d=some n):∃ p ys,v=.ref p/\(SqL K H p ys\/SqT K H p ys)/\ys.length=n:=by
 cases d with
 | lst ds=>
  cases h
  obtain⟨p,vs,q',G,rfl,hq,rs⟩:=r.seqL
  exact⟨p,vs,rfl,.inl hq,rs.length.symm⟩
 | tup ds=>
  cases h
  obtain⟨p,vs,rfl,hq,rs⟩:=r.seqT
  exact⟨p,vs,rfl,.inr hq,rs.length.symm⟩
 | _=>cases h
theorem j22 (hm:X.mg "len" = none)(ha:PDA X [a] g)(hg:Gl X "len":=by rfl)(he:starEach [a] X.env=(false,eval a X.env)::starEach [] X.env:=by rfl)(hpl:(backTo pos (starEach [] X.env)).any (·.1)=false:=by rfl):PD X (.Call (.Name "len" p) [a] [] pos) (eB z3p g):=
 PE.imp (x4y x6f hg hm PySem.boot_len ha (by decide) (by decide) he hpl) (y9c fun ds d h=>by
  match ds,h with
  | [d0],h=>
   cases hl:x95 d0 with
   | none=>simp only[z3p,hl,Option.map_none]at h;cases h
   | some n=>
    simp only[z3p,hl,Option.map_some,Option.some.injEq]at h
    subst h
    refine⟨_,rfl,fun H w vs wl r Q hq=>?_⟩
    obtain⟨v,rfl,rv⟩:=one r
    obtain⟨p,ys,rfl,hs,hn⟩:=rv.len hl
    exact⟨p,ys,rfl,hs,by rw[hn];exact hq⟩)
@[simp] def x1f (i:Nat):Den:=fun ρ=>match ρ[i]? with
 | some (some (d,_))=>match x95 d with
  | some n=>some (.int (Int.ofNat n),9,ρ)
  | none=>none
 | _=>none
theorem z90 {i:Nat}{x:Str}(hm:X.mg "len" = none)(h:PE X (.Name x p1) (x9r i))(hg:Gl X "len":=by rfl)(he:starEach [.Name x p1] X.env=(false,eval (.Name x p1) X.env)::starEach [] X.env:=by rfl)(hpl:(backTo pos (starEach [] X.env)).any (·.1)=false:=by rfl):PD X (.Call (.Name "len" p) [.Name x p1] [] pos) (x1f i):=
 PE.imp (x4y x6f hg hm PySem.boot_len (x3x h x7x he) (by decide) (by decide) he hpl) fun σ H Q hh0=>by
 obtain⟨ρ,w,t,r',q,ρ',gd,ee,k⟩:=hh0
 unfold x1f at ee
 split at ee
 ·rename_i d q0 e0
  split at ee
  ·rename_i n hn
   cases ee
   obtain⟨v,F,h1,h2⟩:=gd.slot i d q0 e0
   obtain⟨p,ys,rfl,hs,hl⟩:=h2.len hn
   exact⟨_,h1,p,ys,rfl,hs,by rw[hl];exact k _ H w [] gd.up Go.refl (.int _)⟩
  ·cases ee
 ·cases ee
@[simp] def j25:List D->Option D
 | [.int i,.int j]=>some (.int (if j > i then j else i))
 | _=>none
theorem z9l (hc:X.calm=true)(hm:X.mg "max" = none)(hb:bootBuiltins "max" = some (.builtin "max"))(ha:PDA X (a::es) g)(hg:Gl X "max":=by rfl)(he:starEach (a::es) X.env=(false,eval a X.env)::starEach es X.env:=by rfl)(hpl:(backTo pos (starEach es X.env)).any (·.1)=false:=by rfl):PD X (.Call (.Name "max" p) (a::es) [] pos) (eB j25 g):=
 PE.imp (x4y (z0b hc) hg hm hb ha (by decide) (by decide) he hpl) (y9c fun ds d h=>by
  unfold j25 at h
  split at h
  ·rename_i i j
   cases h
   refine⟨_,rfl,fun H w vs wl r Q hq=>?_⟩
   obtain⟨v,v',rfl,r1,r2⟩:=two r
   exact⟨i,j,by rw[x4h r1,x4h r2],hq⟩
  ·cases h)
@[simp] def x8l (g:x1o):Den:=fun ρ=>match g ρ with
 | some ([.lst ds],ρ1)=>some (.lst ds,1,ρ1)
 | some ([.tup ds],ρ1)=>some (.lst ds,1,ρ1)
 | _=>none
theorem y8t (hm:X.mg "list" = none)(hb:bootBuiltins "list" = some (.type "list"))(ha:PDA X [a] g)(hg:Gl X "list":=by rfl)(he:starEach [a] X.env=(false,eval a X.env)::starEach [] X.env:=by rfl)(hpl:(backTo pos (starEach [] X.env)).any (·.1)=false:=by rfl):PD X (.Call (.Name "list" p) [a] [] pos) (x8l g):=
 PE.imp (x68 y52 hg hm hb ha (by decide) (by decide) he hpl) fun σ H Q hh0=>by
 obtain⟨ρ,w,t,r',q,ρ',gd,ee,k⟩:=hh0
 unfold x8l at ee
 split at ee
 ·rename_i ds ρ1 h1
  cases ee
  refine⟨ρ,w,t,_,_,gd,h1,fun vs H1 w1 g1 go1 r1=>?_⟩
  obtain⟨v,rfl,rv⟩:=one r1
  obtain⟨p,ys,rfl,hs,rs⟩:=rv.seqL0
  refine⟨p,ys,rfl,.inl hs,fun l hl=>?_⟩
  obtain⟨a1,a2,a3⟩:=y85 g1 hl rs
  exact k _ _ _ _ a1 (go1.trans a2) a3
 ·rename_i ds ρ1 h1
  cases ee
  refine⟨ρ,w,t,_,_,gd,h1,fun vs H1 w1 g1 go1 r1=>?_⟩
  obtain⟨v,rfl,rv⟩:=one r1
  obtain⟨p,ys,rfl,hs,rs⟩:=rv.seqT
  refine⟨p,ys,rfl,.inr hs,fun l hl=>?_⟩
  obtain⟨a1,a2,a3⟩:=y85 g1 hl rs
  exact k _ _ _ _ a1 (go1.trans a2) a3
 ·cases ee
@[simp] def x2l (g:x1o):Den:=fun ρ=>match g ρ with
 | some ([.lst ds],ρ1)=>some (.tup ds,9,ρ1)
 | some ([.tup ds],ρ1)=>some (.tup ds,9,ρ1)
 | _=>none
theorem z4f (hm:X.mg "tuple" = none)(hb:bootBuiltins "tuple" = some (.type "tuple"))(ha:PDA X [a] g)(hg:Gl X "tuple":=by rfl)(he:starEach [a] X.env=(false,eval a X.env)::starEach [] X.env:=by rfl)(hpl:(backTo pos (starEach [] X.env)).any (·.1)=false:=by rfl):PD X (.Call (.Name "tuple" p) [a] [] pos) (x2l g):=
 PE.imp (x68 y36 hg hm hb ha (by decide) (by decide) he hpl) fun σ H Q hh0=>by
 obtain⟨ρ,w,t,r',q,ρ',gd,ee,k⟩:=hh0
 unfold x2l at ee
 split at ee
 ·rename_i ds ρ1 h1
  cases ee
  refine⟨ρ,w,t,_,_,gd,h1,fun vs H1 w1 g1 go1 r1=>?_⟩
  obtain⟨v,rfl,rv⟩:=one r1
  obtain⟨p,ys,rfl,hs,rs⟩:=rv.seqL0
  refine⟨p,ys,rfl,.inl ⟨hs,fun l hl=>?_⟩⟩
  obtain⟨a1,a2,a3⟩:=y1p g1 hl rs
  exact k _ _ _ _ a1 (go1.trans a2) a3
 ·rename_i ds ρ1 h1
  cases ee
  refine⟨ρ,w,t,_,_,gd,h1,fun vs H1 w1 g1 go1 r1=>?_⟩
  obtain⟨v,rfl,rv⟩:=one r1
  have rr:=rv
  obtain⟨p,ys,rfl,hs,rs⟩:=rv.seqT
  refine⟨p,ys,rfl,.inr ⟨hs,?_⟩⟩
  exact k _ H1 w1 [] g1.up go1 (((rr.nolist rfl).2 9).any g1.wl)
 ·cases ee
def z61 (ta:TA):TE:=fun σ H Q=>ta σ H fun vs H1=>∃ j:Int,vs=[.int j] /\ -(2 ^ 62)<=j/\j<2 ^ 62/\∀ p,H1 p=none->Q (.ref p) (upd H1 p (.rng 0 j))
theorem y7i {ta:TA}(hg:Gl X "range")(hm:X.mg "range" = none)(ha:PA X [a] ta)(hs:starEach [a] X.env=[(false,eval a X.env)]:=by rfl):PE X (.Call (.Name "range" p) [a] [] pos) (z61 ta):=by
 intro pins s σ H Q I h
 refine Call_ (y21 I hg hm boot_range (PyProof.Rows.callWith_type1 (thn (ha pos pins s σ H _ I h) fun us s1 ⟨vs,H1,I1,r1,q1⟩=>?_) hs rfl))
 obtain⟨j,e,q1,q2,q⟩:=q1
 subst e
 cases r1 with
 | cons r rr=>
  cases rr
  obtain⟨t,rfl⟩:=r
  refine call_range_1 ?_
  exact⟨.ref s1.heap.objs.size,upd H1 s1.heap.objs.size (.rng 0 j),I1.laid (fun b u e=>Heap.get?_push_of_some _ e) (Nat.le_refl _) ⟨_,_,_,Heap.get?_push_size _ rfl⟩,rfl,q _ (I1.hok.fresh (Nat.le_refl _))⟩
end
theorem y13 {j:Int}(h1:-(2 ^ 62)<=j)(h2:j<2 ^ 62):Builtin.Range.small 0 j 1=true:=by
 have hs:Builtin.Range.rangeSize 0 j 1=((j.toNat:Nat):Int):=by
  simp[Builtin.Range.rangeSize]<;>split<;>omega
 simp only[Builtin.Range.small,hs,Builtin.Range.rangeFitsLong]
 simp
 omega
theorem y1q (j:Int):Builtin.Range.rangeSize 0 j 1=((j.toNat:Nat):Int):=by
 simp[Builtin.Range.rangeSize]<;>split<;>omega
theorem y24 {n:Nat}{acc:Array Value}(h:ItemsOf (fun i v=>∃ t,v=Value.int (0+(i:Nat)*1) t) acc n):x2i (x9b n) acc.toList:=by
 have key:∀ (us:List Value) (k:Nat),(∀ j v,us[j]? = some v->∃ t,v=Value.int (((k+j:Nat)):Int) t)->x2i ((List.range' k us.length).map fun i=>V.int (Int.ofNat i)) us:=by
  intro us
  induction us with
  | nil=>intro k _;exact .nil
  | cons u r ih=>
   intro k hk
   obtain⟨t,e⟩:=hk 0 u rfl
   refine .cons ⟨t,by rw[e];rfl⟩ (ih (k+1) fun j v hv=>?_)
   obtain⟨t',e'⟩:=hk (j+1) v (by simpa using hv)
   exact⟨t',by rw[e'];congr 2;omega⟩
 have:=key acc.toList 0 fun j v hv=>by
  obtain⟨t,e⟩:=h.2 j v (by simpa using hv)
  exact⟨t,by rw[e];congr 1;omega⟩
 have hl:acc.toList.length=n:=by simpa using h.1
 rw[hl]at this
 unfold x9b
 rw[List.range_eq_range']
 exact this
section
variable {prog:Program}{w:World}{A:Around}{E:Value->Shared->Prop}{s:Shared}
open AutoSeq1 (wpAny_loadPart')
theorem y3d {Q:List Value->Shared->Prop}{r:Addr}{a b c:Int}{t u v:Tok}{n:Nat}(hh:A.handled=none)(hr:IsRange s.heap r a b c t u v)(hsmall:Builtin.Range.small a b c=true)(hn:Builtin.Range.rangeSize a b c=n)(hlen:n<=2 ^ 24)
  (hQ:∀ h' tk acc',(∀ b o',s.heap.get? b=some o'->h'.get? b=some o')->ItemsOf (fun i v=>∃ t,v=.int (a+i*c) t) acc' n->Q acc'.toList { s with heap:=h',toks:=tk }) :
  wpAny (model prog w) A (collect (.ref r)) Q E s:=by
 unfold collect
 refine wpAny_bind (wpAny_runValue (codeAny_builtin F.entry_proto_collect ?_))
 rw[Around.under_plainId F.plain_proto_collect _]
 show wpAny _ A.in1 (newList [] >>= fun l=>again (.builtin "list.__iadd__" ⟨[l,.ref r],[]⟩)) _ _ s
 refine wpAny_bind (wpAny_newObj_type ?_)
 refine wpAny_pure ⟨plainId_quiet F.plain_list_iadd _,codeAny_builtin F.entry_list_iadd ?_⟩
 rw[Around.under_plainId F.plain_list_iadd _]
 show wpAny _ A.in1 (Builtin.List.listExtendWith (.ref s.heap.objs.size) (.ref r) (.ref s.heap.objs.size)) _ _ _
 have hS:(s.heap.push { cls:=.type "list",data:=.seq ([]:List Value).toArray }).get? s.heap.objs.size=some { cls:=.type "list",data:=.seq #[] 0 }:=Heap.get?_push_size _ rfl
 have fin':∀ (h':Heap) (tk:Nat) (acc':Array Value) (c':Nat),(∀ b o,b≠s.heap.objs.size->(s.heap.push { cls:=.type "list",data:=.seq ([]:List Value).toArray }).get? b=some o->h'.get? b=some o)->
   h'.get? s.heap.objs.size=some { cls:=.type "list",dict:=none,data:=.seq acc' c',slots:=#[] }->ItemsOf (fun i v=>∃ t,v=.int (a+i*c) t) acc' n->wpAny (model prog w) A (match Value.ref s.heap.objs.size with
   | Value.ref a=>do
    match (<- load a).data with
     | Data.seq xs _=>pure xs.toList
     | _=>unsupported "internal:collect"
   | _=>unsupported "internal:collect") Q E { s with heap:=h',toks:=tk }:=fun h' tk acc' c' hk hS' hacc=>by
  show wpAny _ A (load s.heap.objs.size >>= _) _ _ _
  refine wpAny_bind (wpAny_load hS' ?_)
  refine wpAny_pure (hQ h' tk acc' (fun b o' hb=>?_) hacc)
  exact hk b o' (Nat.ne_of_lt (Heap.lt_size hb)) (Heap.get?_push_of_some _ hb)
 refine wpAny_mono (wpAny_extend_range (A:=A) (R:=fun rs s'=>rs=.ok (.ret (.ref s.heap.objs.size))/\∃ h' tk acc' c',s'={ s with heap:=h',toks:=tk }/\(∀ b o,b≠s.heap.objs.size->(s.heap.push { cls:=.type "list",data:=.seq ([]:List Value).toArray }).get? b=some o->h'.get? b=some o) /\
   h'.get? s.heap.objs.size=some { cls:=.type "list",dict:=none,data:=.seq acc' c',slots:=#[] }/\ItemsOf (fun i v=>∃ t,v=.int (a+i*c) t) acc' n)
  (s:={ s with heap:=s.heap.push { cls:=.type "list",data:=.seq ([]:List Value).toArray } }) hh (Heap.get?_push_of_some _ hr) hsmall hn hlen s.heap.objs.size (.ref s.heap.objs.size) 0 hS (fun h' tk acc' c' hk hS' hacc=>⟨rfl,h',tk,acc',c',rfl,hk,hS',hacc⟩)) (fun fin s' h=>?_) (fun e s' h=>?_)
 ·cases fin with
  | done f=>
   obtain⟨e,h',tk,acc',c',rfl,hk,hS',hacc⟩:=h
   cases e
   exact fin' h' tk acc' c' hk hS' hacc
  | again c'=>exact⟨h.1,codeAny_mono h.2 fun r s'' hr=>by
    obtain⟨rfl,h',tk,acc',c',rfl,hk,hS',hacc⟩:=hr
    exact fin' h' tk acc' c' hk hS' hacc⟩
 ·exact absurd h.1 (by simp)
end
theorem x6l (r:Addr)(a b c:Int)(t u v:Tok)(n:Nat)(hsmall:Builtin.Range.small a b c=true)(hn:Builtin.Range.rangeSize a b c=n)(hlen:n<=2 ^ 24) :
  Meets (Builtin.«tuple.__new__» ⟨[.type "tuple",.ref r],[]⟩)
   (fun A R s=>A.handled=none/\IsRange s.heap r a b c t u v/\∀ (h':Heap) tk acc',(∀ b o',s.heap.get? b=some o'->h'.get? b=some o')->ItemsOf (fun i v=>∃ t,v=.int (a+i*c) t) acc' n->R (.ok (.ret (.ref h'.objs.size))) { s with heap:=h'.push { cls:=.type "tuple",data:=.seq acc' },toks:=tk }):=
 .of_wp fun prog w A R s h=>by
  obtain⟨hp,g,d,tk,os⟩:=s;obtain⟨hh,hr,h⟩:=h
  have hsub:=sub_tuple_self
  have hinit:=init_tuple_lookup
  have hmh:=madeHere_tuple
  have hT:Shared.TypeIs ⟨hp,g,d,tk,os⟩ (.ref r) "range":=⟨_,hr,rfl⟩
  have hh1:A.in1.handled=none:=hh
  wp_walk using AutoSeq1.wpAny_loadPart' hr,wpAny_typeOf hT,y3d hh1 hr hsmall hn hlen
  intro h' tk' acc' hk hacc
  show wpAny _ _ (Builtin.Tuple.tupleExact acc'.toList.toArray >>= fun v=>ret v) _ _ _
  unfold Builtin.Tuple.tupleExact
  have hsz:acc'.size<=sizeLine:=by rw[hacc.1];exact hlen
  refine wpAny_bind (wpAny_newObj_type ?_ (by show acc'.toList.toArray.size<=sizeLine;simpa using hsz))
  refine wpAny_pure ⟨_,rfl,?_⟩
  have e:acc'.toList.toArray=acc':=by simp
  rw[e]
  exact h h' tk' acc' hk hacc
theorem x9t {prog:Program}{w:World}{A:Around}{E:Value->Shared->Prop}{s:Shared}{r:Addr}{a b c:Int}{t u v:Tok}{n:Nat}{Q:Value->Shared->Prop}(hh:A.handled=none)(hr:IsRange s.heap r a b c t u v)(hsmall:Builtin.Range.small a b c=true)(hn:Builtin.Range.rangeSize a b c=n)(hlen:n<=2 ^ 24)
  (h:∀ (h':Heap) tk acc',(∀ b o',s.heap.get? b=some o'->h'.get? b=some o')->ItemsOf (fun i v=>∃ t,v=.int (a+i*c) t) acc' n->Q (.ref h'.objs.size) { s with heap:=h'.push { cls:=.type "tuple",data:=.seq acc' },toks:=tk }) :
  wpAny (model prog w) A (call (.type "tuple") [.ref r]) Q E s:=
 callType_new F.called_tuple (by decide) (F.typeCall_tuple_1 _) (F.newCall_tuple_1 _) (fun obj=>F.args_object_init_2 obj _) F.entry_tuple_new
  (x6l r a b c t u v n hsmall hn hlen) ⟨hh,hr,fun h' tk acc' hk hacc=>⟨⟨_,Heap.get?_push_size _ rfl,rfl⟩,h h' tk acc' hk hacc⟩⟩
section
variable {X:Cx}
def j5q (mk:List V->HO):List V->Hp->VK->Prop:=fun xs H Q=>∃ a j,xs=[.ref a]/\H a=some (.rng 0 j) /\ -1000<=j/\j<=1000/\∀ p,H p=none->Q (.ref p) (upd H p (mk (x9b j.toNat)))
theorem y2x (hc:X.calm=true):x9q X (.type "list") (j5q .lst):=by
 intro pins s σ H xs us Q I r h
 obtain⟨a,j,rfl,hr,j1,j2,q⟩:=h
 obtain⟨u,rfl,rx⟩:=y33 r
 cases rx
 obtain⟨t,u,v,ho⟩:=(show x2b X.prog X.w H s.heap a (.rng 0 j)from I.hok a _ hr)
 refine call_list_range (I.ok.hd hc) ho (y13 (by omega) (by omega)) (y1q j) (by omega) fun h' tk acc' c' hk hS' hacc=>?_
 refine⟨.ref s.heap.objs.size,_,I.laid (t':=tk) (o:=.lst (x9b j.toNat)) hk (Nat.le_refl _) ⟨by rw[y2m];exact Nat.le_trans (by omega:j.toNat<=1000) (by decide),acc'.toList,c',y24 hacc,by simpa using hS'⟩,rfl,q _ (I.hok.fresh (Nat.le_refl _))⟩
theorem y1n (hc:X.calm=true):x9q X (.type "tuple") (j5q .tup):=by
 intro pins s σ H xs us Q I r h
 obtain⟨a,j,rfl,hr,j1,j2,q⟩:=h
 obtain⟨u,rfl,rx⟩:=y33 r
 cases rx
 obtain⟨t,u,v,ho⟩:=(show x2b X.prog X.w H s.heap a (.rng 0 j)from I.hok a _ hr)
 refine x9t (I.ok.hd hc) ho (y13 (by omega) (by omega)) (y1q j) (by omega) fun h' tk acc' hk hacc=>?_
 have I1:Inv X pins σ H { s with heap:=h',toks:=tk }:=I.kept hk
 have I2:Inv X pins σ (upd H h'.objs.size (.tup (x9b j.toNat))) { s with heap:=h'.push { cls:=.type "tuple",data:=.seq acc' },toks:=tk }:=
  I1.laid (t':=tk) (fun b o e=>Heap.get?_push_of_some _ e) (Nat.le_refl _) (show x2b X.prog X.w _ _ _ (.tup _)from⟨by rw[y2m];exact Nat.le_trans (by omega:j.toNat<=1000) (by decide),acc'.toList,y24 hacc,by simpa using x5h.new h' acc'⟩)
 exact⟨.ref h'.objs.size,_,I2,rfl,q _ (I1.hok.fresh (Nat.le_refl _))⟩
variable {a:Expr}{g:x1o}{pos p p1 pos1:Pos}
@[simp] def x6a (g:x1o):Den:=fun ρ=>match x0z g ρ with
 | some (ds,ρ1)=>some (.lst ds,1,ρ1)
 | none=>none
@[simp] def j04 (g:x1o):Den:=fun ρ=>match x0z g ρ with
 | some (ds,ρ1)=>some (.tup ds,9,ρ1)
 | none=>none
theorem y4o {K:PySem.W.Frag}{mk:List V->HO}{q0:Nat}{md:List D->D}(al:∀ {ρ:Rho} {σ:St} {H1:Hp} {w1:Wn} {t:Nat} {p:Addr} {vs:List V} {ds:List D},Good K ρ σ H1 w1 t->H1 p=none->Reps K H1 w1 .f 0 ds vs []->∃ w' F,Good K ρ σ (upd H1 p (mk vs)) w' (t+1)/\Go H1 w1 (upd H1 p (mk vs)) w'/\Rep K (upd H1 p (mk vs)) w' (.t t) q0 (md ds) (.ref p) F) :
  ∀ σ H Q,tD K (fun ρ=>match x0z g ρ with
   | some (ds,ρ1)=>some (md ds,q0,ρ1)
   | none=>none) σ H Q->tCB (j5q mk) (j1d (z61 (tDA K g)) j6d) σ H Q:=fun σ H Q hh0=>by
 obtain⟨ρ,w,t,r',q,ρ',gd,ee,k⟩:=hh0
 dsimp only at ee
 split at ee
 ·rename_i ds ρ1 h1
  cases ee
  unfold x0z at h1
  split at h1
  ·rename_i n ρ2 h2
   split at h1
   ·rename_i hn
    cases h1
    refine⟨ρ,w,t,_,_,gd,h2,fun vs H1 w1 g1 go1 r1=>?_⟩
    obtain⟨v,rfl,rv⟩:=one r1
    have hv:=x4h rv
    subst hv
    refine⟨n,rfl,by omega,by omega,fun p hp=>⟨p,n,rfl,x0w,hn.1,hn.2,fun l hl=>?_⟩⟩
    have ne:∀ a x,H1 a=some x->a≠p:=fun a x e=>x0u e hp
    have st:x71 H1 w1 (upd H1 p (.rng 0 n)) w1:=fun a x e nn=>⟨sm (by rw[x0i (ne a x e)];exact e),nn⟩
    have nw:∀ a o,w1 a=some o->a≠p:=fun a o e=>by obtain⟨vs,q⟩:=g1.wl a o e;exact ne a _ q
    have g2:Good K ρ' σ (upd H1 p (.rng 0 n)) w1 t:=⟨⟨fun a o e=>by
     obtain⟨us,q⟩:=g1.wl a o e
     exact⟨us,by rw[x0i (nw a o e)];exact q⟩,g1.wl.tb.upd rfl (.inl hp)⟩,g1.ws,g1.wt,g1.len,fun i d q e=>by
     obtain⟨v,F,h1,h2⟩:=g1.slot i d q e
     exact⟨v,F,h1,Rep.go g1.wl st h2 fun a m=>⟨x0i (nw a _ (h2.owns a m)),h2.owns a m⟩⟩⟩
    have go2:Go H1 w1 (upd H1 p (.rng 0 n)) w1:=⟨st,fun a o e _=>⟨x0i (nw a o e),e⟩⟩
    obtain⟨w',F,a1,a2,a3⟩:=al g2 hl (y80 n.toNat)
    exact k _ _ _ _ a1 ((go1.trans go2).trans a2) a3
   ·cases h1
  ·cases h1
 ·cases ee
theorem z4n (hc:X.calm=true)(hm:X.mg "list" = none)(hb:bootBuiltins "list" = some (.type "list"))(hmr:X.mg "range" = none)(ha:PDA X [a] g)(hg:Gl X "list":=by rfl)(hgr:Gl X "range":=by rfl)(hs:starEach [a] X.env=[(false,eval a X.env)]:=by rfl)
  (he:starEach [.Call (.Name "range" p1) [a] [] pos1] X.env=(false,eval (.Call (.Name "range" p1) [a] [] pos1) X.env)::starEach [] X.env:=by rfl) (hpl:(backTo pos (starEach [] X.env)).any (·.1)=false:=by rfl):PD X (.Call (.Name "list" p) [.Call (.Name "range" p1) [a] [] pos1] [] pos) (x6a g):=
 PE.imp (x68 (y2x hc) hg hm hb (x3x (y7i hgr hmr ha hs) x7x he) (by decide) (by decide) he hpl) (y4o fun g hp r=>by
  obtain⟨a1,a2,a3⟩:=y85 g hp r
  exact⟨_,_,a1,a2,a3⟩)
theorem z9i (hc:X.calm=true)(hm:X.mg "tuple" = none)(hb:bootBuiltins "tuple" = some (.type "tuple"))(hmr:X.mg "range" = none)(ha:PDA X [a] g)(hg:Gl X "tuple":=by rfl)(hgr:Gl X "range":=by rfl)(hs:starEach [a] X.env=[(false,eval a X.env)]:=by rfl)
  (he:starEach [.Call (.Name "range" p1) [a] [] pos1] X.env=(false,eval (.Call (.Name "range" p1) [a] [] pos1) X.env)::starEach [] X.env:=by rfl) (hpl:(backTo pos (starEach [] X.env)).any (·.1)=false:=by rfl):PD X (.Call (.Name "tuple" p) [.Call (.Name "range" p1) [a] [] pos1] [] pos) (j04 g):=
 PE.imp (x68 (y1n hc) hg hm hb (x3x (y7i hgr hmr ha hs) x7x he) (by decide) (by decide) he hpl) (y4o fun g hp r=>by
  obtain⟨a1,a2,a3⟩:=y1p g hp r
  exact⟨_,_,a1,a2,a3⟩)
end
end L3
namespace L3
open PySem PySem.Spec PyProof.Rows L2
theorem x9s {M:Model}{A:Around}{E:Value->Shared->Prop}{s:Shared}{β:Type}{n:Nat}(f:Nat->β->Sem (ForInStep β))(I:List Nat->β->Shared->Prop)(Q:β->Shared->Prop)(b:β)
  (turn:∀ x x1w b s,I (x::x1w) b s->wpAny M A (f x b) (fun r s'=>match r with|.yield b'=>I x1w b' s' | .done b'=>Q b' s') E s)
  (fin:∀ b s,I [] b s->Q b s) (h:I (List.range' 0 n 1) b s):wpAny M A (forIn [0:n] b f) Q E s:=by
 rw[Std.Legacy.Range.forIn_eq_forIn_range']
 refine wpAny_forIn_list f I Q turn fin _ b ?_
 have e:(Std.Legacy.Range.size [0:n])=n:=by simp[Std.Legacy.Range.size]
 show I (List.range' 0 (Std.Legacy.Range.size [0:n]) 1) b s
 rw[e]
 exact h
open AutoSeq1 (wpAny_loadPart') in
theorem y3p (l:Addr)(items:Array Value)(n:Nat)(dd:Option Addr)(sl:Array (Option Value))(x:Value)(e:Value->Bool)(j:Nat)(hj:j<items.size)(hit:e items[j]=true)(hno:∀ m (hm:m<items.size),m<j->e items[m]=false) :
  Meets (Builtin.«tuple.index» ⟨[.ref l,x],[]⟩)
   (fun A R s=>s.heap.get? l=some { cls:=.type "tuple",dict:=dd,data:=.seq items n,slots:=sl }/\(∀ y,y∈items->SeqAt.EqAt A.in1 s y x (e y))/\R (.ok (.ret (.int j s.toks))) { s with toks:=s.toks+1 }):=
 .of_wp fun prog w A R s h=>by
  obtain⟨hp,g,d,tk,os⟩:=s;obtain⟨hl,he,h⟩:=h
  wp_walk using wpAny_loadPart' hl,x9s _ (fun x1w b s'=>b.1=none/\s'=⟨hp,g,d,tk,os⟩/\∃ i k,x1w=List.range' i k 1/\i+k=items.size/\i<=j) _
  case turn=>
   rintro y x1w b s' ⟨hb,rfl,i,k,hr,hik,hij⟩
   cases k with
   | zero=>simp at hr
   | succ k=>
    rw[List.range'_succ]at hr
    obtain⟨rfl,rfl⟩:=List.cons.inj hr
    have hlt:y<items.size:=by omega
    have hget:items[y]? = some items[y]:=by simp[hlt]
    rw[hget]
    refine wpAny_bind (he _ (Array.getElem_mem hlt) prog w _ _ ?_)
    by_cases hyj:y=j
    ·subst hyj
     rw[hit]
     wp_walk
     exact⟨_,rfl,h⟩
    ·rw[hno y hlt (by omega)]
     wp_walk
     exact⟨rfl,rfl,y+1,k,rfl,by omega,by omega⟩
  case fin=>
   rintro ⟨b1,b2⟩ s' ⟨hb,rfl,i,k,hr,hik,hij⟩
   cases k with
   | zero=>omega
   | succ k=>simp[List.range'_succ]at hr
  case h=>
   exact⟨rfl,rfl,0,items.size,by simp,by omega,by omega⟩
end L3
namespace L3
open PySem PySem.Spec PyProof.Rows L2
def j07 (d:D)(ds:List D):Option Nat:=(x73 ds).findIdx? fun y=>PyData.eqv y (toP d)
def z9v (K:PySem.W.Frag):V->List V->Hp->VK->Prop:=fun x xs H Q=>∃ ds d y j,xs=[y]/\Is K H (.tup ds) x/\Is K H d y/\okD (.tup ds)=true/\okD d=true/\j07 d ds=some j/\Q (.int (Int.ofNat j)) H
section
variable {X:Cx}{a b c e:Expr}{es:List Expr}{fa fb fc f:Den}{g:x1o}{pos p p1 p2 cpos apos:Pos}
theorem z0m (hu:X.A.units+65<cLine):MtR X "tuple.index" (z9v X.K):=by
 intro pins s σ H x xs v us Q I rx rs ⟨ds,d,y,j,e,⟨w,o,q,F,h1⟩,⟨w',o',q',F',h2⟩,k1,k2,hj,hq⟩
 subst e
 obtain⟨u,rfl,ru⟩:=y33 rs
 obtain⟨as,ra⟩:=h1.reads I rx (x9o k1)
 obtain⟨bs,rb⟩:=h2.reads I ru (x9o k2)
 replace k1:=x9p k1
 replace k2:=x9p k2
 unfold toP at ra k1
 have hc1:PyData.canLayAll0 (x73 ds)=true:=SeqAt.canLay_of_shaped k1
 have hc2:=SeqAt.canLay_of_shaped k2
 cases ra with
 | @tuple a ob vs n _ _ ho hcl hd hrs=>
  obtain⟨cls,dd,data,sl⟩:=ob
  simp only at hcl hd
  subst hcl hd
  have hmap:=SeqAt.readsAll_map _ _ _ hc1 hrs
  have hfi:=List.findIdx?_eq_some_iff_getElem.mp hj
  obtain⟨hjl,hjt,hjf⟩:=hfi
  have hlen:vs.size=(x73 ds).length:=by rw[<- hmap];simp
  have hat:∀ m (hm:m<vs.size) (hm':m<(x73 ds).length),SeqAt.readOf s.heap vs[m]=(x73 ds)[m]:=fun m hm hm'=>by
   have:(vs.toList.map (SeqAt.readOf s.heap))[m]? = (x73 ds)[m]?:=by rw[hmap]
   simpa [hm,hm']using this
  refine call_meets PySem.F.slot_tuple_index ⟨_,ho,rfl⟩ PySem.F.entry_tuple_index (PySem.F.args_tuple_index_2 _ _)
   (y3p a vs n dd sl u (fun y=>PyData.eqv (SeqAt.readOf s.heap y) (toP d)) j (by omega) (by rw[hat j (by omega) hjl];simpa using hjt) (fun m hm hmj=>by rw[hat m hm (by omega)];simpa using hjf m hmj)) ⟨ho,SeqAt.items_eqAt hrs rb hc1 hc2 (room_in_shaped k2 hu),?_⟩
  exact⟨.int (Int.ofNat j),H,I.tok _,⟨_,rfl⟩,hq⟩
@[simp] def y6q (fo:Den)(g:x1o):Den:=fun ρ=>match fo ρ with
 | some (.tup ds,_,ρ1)=>match g ρ1 with
  | some ([d],ρ2)=>if okD (.tup ds)=true/\okD d=true then match j07 d ds with
   | some j=>some (.int (Int.ofNat j),9,ρ2)
   | none=>none
   else none
  | _=>none
 | _=>none
theorem z4t {k:Nat}(hr:Room k X.A)(ho:PD X a fa)(ha:PDA X [e] g)
  (hbase:attributeBase a "index" X.env (eval a X.env)=eval a X.env:=by rfl)
  (hfew:((backTo cpos (starEach [e] X.env)).all (fun x=>!x.1)&&(backToKw cpos (keywordEach [] X.env)).all (fun x=>x.1.isSome)
    && decide ([e].length+([]:List Keyword).length+(if([]:List Keyword).isEmpty then 0 else 1)<30))=true:=by rfl)
  (hline:(apos.endLine==cpos.line)=true:=by rfl) (hs:starEach [e] X.env=(false,eval e X.env)::starEach [] X.env:=by rfl) (hplain:(backTo cpos (starEach [] X.env)).any (·.1)=false:=by rfl) :
  PD X (.Call (.Attribute a "index" apos) [e] [] cpos) (y6q fa g):=
 PE.imp (y8m PySem.F.plainAttrs_tuple PySem.F.slot_tuple_index PySem.F.type_tuple_index (z0m (u65 hr)) ho ha hbase hfew hline hs hplain) fun σ H Q hh0=>by
 obtain⟨ρ,w,t,r',q,ρ',gd,ee,k⟩:=hh0
 unfold y6q at ee
 split at ee
 ·rename_i ds q1 ρ1 h1
  split at ee
  ·rename_i d ρ2 h2
   split at ee
   ·rename_i hok
    split at ee
    ·rename_i j hj
     cases ee
     refine⟨ρ,w,t,_,_,_,gd,h1,fun v H1 w1 F1 g1 go1 r1=>?_⟩
     have r0:=r1.drop (o:=.f) (Nat.le_refl t)
     have gg:=g1.drop (t':=t)
     obtain⟨p0,vs,rfl,hq,rs⟩:=r0.tupAt
     refine⟨?_,ρ1,x1q t w1,t,_,_,gg,h2,fun vs2 H2 w2 g2 go2 r2=>?_⟩
     ·exact .inr (.inl ⟨rfl,.inr ⟨_,hq⟩⟩)
     ·obtain⟨v2,rfl,rv2⟩:=one r2
      have r3:Rep X.K H2 w2 .f 0 (.tup ds) (.ref p0) []:=r0.go0 gg.wl go2.stab
      exact⟨ds,d,v2,j,rfl,⟨_,_,_,_,r3⟩,⟨_,_,_,_,rv2⟩,hok.1,hok.2,hj,k _ H2 w2 [] g2.up ((go1.drop gd.wt).trans go2) (.int _)⟩
    ·cases ee
   ·cases ee
  ·cases ee
 ·cases ee
theorem Good.mut {K:PySem.W.Frag}{ρ:Rho}{σ:St}{H:Hp}{w:Wn}{t i:Nat}{ds:List D}(g:Good K ρ σ H w t)(e:ρ[i]? = some (some (.lst ds,1))) :
  ∃ l vs,σ[i]? = some (some (.ref l))/\H l=some (.lst vs)/\Reps K H w .f 0 ds vs []/\∀ ds' vs',Reps K H w .f 0 ds' vs' []->
   Good K (ρ.set i (some (.lst ds',1))) σ (upd H l (.lst vs')) w t/\Go H w (upd H l (.lst vs')) w:=by
 obtain⟨v,F,h1,h2⟩:=g.slot i _ _ e
 cases h2 with
 | @own _ l vs _ F' hl hw rs ne=>
  have hF:=rs.zero
  subst hF
  refine⟨l,vs,h1,hl,rs.any g.wl,fun ds' vs' r'=>?_⟩
  have nl:∀ a o,w a=some o->o ≠ .s i->a≠l:=fun a o e n z=>by subst z;rw[hw]at e;exact n (Option.some.inj e).symm
  have nn:∀ a,w a=none->a≠l:=fun a e z=>by subst z;rw[hw]at e;cases e
  have st:x71 H w (upd H l (.lst vs')) w:=fun a x h n=>⟨sm (by rw[x0i (nn a n)];exact h),n⟩
  refine⟨⟨⟨fun a o h=>?_,g.wl.tb.upd rfl (.inr (g.wl l _ hw))⟩,g.ws,g.wt,by rw[List.length_set];exact g.len,fun j d' q' e'=>?_⟩,⟨st,fun a o h n=>⟨x0i (nl a o h (n i)),h⟩⟩⟩
  ·by_cases z:a=l
   ·subst z;exact⟨_,x0w⟩
   ·obtain⟨us,q⟩:=g.wl a o h
    exact⟨us,by rw[x0i z];exact q⟩
  ·by_cases hj:i=j
   ·subst hj
    rw[List.getElem?_set_self (List.getElem?_eq_some_iff.mp e).1]at e'
    cases e'
    exact⟨_,_,h1,.own x0w hw (Reps.go g.wl st r' (fun _ z=>nomatch z)) (fun z=>nomatch z)⟩
   ·rw[List.getElem?_set_ne hj]at e'
    obtain⟨v',F',h1',h2'⟩:=g.slot j d' q' e'
    exact⟨v',F',h1',Rep.go g.wl st h2' fun a m=>⟨x0i (nl a _ (h2'.owns a m) (fun z=>hj (by cases z;rfl))),h2'.owns a m⟩⟩
@[simp] def y7s:Option (OD)->Bool
 | some (some (.lst _,_))=>true
 | _=>false
theorem Good.isL {K:PySem.W.Frag}{ρ:Rho}{σ:St}{H:Hp}{w:Wn}{t i:Nat}(g:Good K ρ σ H w t)(h:y7s ρ[i]? = true):∃ l,σ[i]? = some (some (.ref l))/\∃ vs,SqL K H l vs:=by
 unfold y7s at h
 split at h
 ·rename_i ds q e
  obtain⟨v,F,h1,h2⟩:=g.slot i _ _ e
  obtain⟨p,vs,_,_,rfl,hq,_⟩:=h2.seqL
  exact⟨p,h1,vs,hq⟩
 ·cases h
@[simp] def y0w (i:Nat)(g:x1o):Den:=fun ρ=>if y7s ρ[i]? = true then match g ρ with
 | some ([d],ρ1)=>match ρ1[i]? with
  | some (some (.lst ds,1))=>if ds.length<=1000 then some (.non,9,ρ1.set i (some (.lst (ds++[d]),1)))else none
  | _=>none
 | _=>none
 else none
theorem z13 {i:Nat}{x:Str}(h:PE X (.Name x p1) (x9r i))(ha:PDA X [e] g)
  (hbase:attributeBase (.Name x p1) "append" X.env (eval (.Name x p1) X.env)=eval (.Name x p1) X.env:=by rfl)
  (hfew:((backTo cpos (starEach [e] X.env)).all (fun x=>!x.1)&&(backToKw cpos (keywordEach [] X.env)).all (fun x=>x.1.isSome)
    && decide ([e].length+([]:List Keyword).length+(if([]:List Keyword).isEmpty then 0 else 1)<30))=true:=by rfl)
  (hline:(apos.endLine==cpos.line)=true:=by rfl) (hs:starEach [e] X.env=(false,eval e X.env)::starEach [] X.env:=by rfl) (hplain:(backTo cpos (starEach [] X.env)).any (·.1)=false:=by rfl) :
  PD X (.Call (.Attribute (.Name x p1) "append" apos) [e] [] cpos) (y0w i g):=
 PE.imp (y8m PySem.F.plainAttrs_list PySem.F.slot_list_append PySem.F.type_list_append z0a h ha hbase hfew hline hs hplain) fun σ H Q hh0=>by
 obtain⟨ρ,w,t,r',q,ρ',gd,ee,k⟩:=hh0
 unfold y0w at ee
 split at ee
 ·rename_i hl
  obtain⟨l,hσ,us,hq⟩:=gd.isL hl
  split at ee
  ·rename_i d ρ1 h1
   split at ee
   ·rename_i ds e1
    split at ee
    ·rename_i hlen
     cases ee
     refine⟨_,hσ,.inl ⟨rfl,us,hq⟩,ρ,w,t,_,_,gd,h1,fun vs H1 w1 g1 go1 r1=>?_⟩
     obtain⟨v,rfl,rv⟩:=one r1
     obtain⟨l',ws,hσ',hH,rs,mk⟩:=g1.mut e1
     rw[hσ]at hσ'
     cases hσ'
     have r2:Reps X.K H1 w1 .f 0 (ds++[d]) (ws++[v]) []:=Reps.snoc (F:=[]) (G:=[]) rv rs (fun _ z=>nomatch z)
     obtain⟨m1,m2⟩:=mk _ _ r2
     refine⟨l,ws,v,rfl,rfl,hH,by rw[<- rs.length];exact x4b hlen,?_⟩
     exact k .non _ w1 [] m1.up (go1.trans m2) .non
    ·cases ee
   ·cases ee
  ·cases ee
 ·cases ee
theorem Reps.eraseIdx {K:PySem.W.Frag}{H:Hp}{w:Wn}:∀ {ds:List D} {vs:List V} (i:Nat),Reps K H w .f 0 ds vs []->Reps K H w .f 0 (ds.eraseIdx i) (vs.eraseIdx i) []
 | ds,vs,i,r=>by
  generalize hF:([]:List Addr)=F at r
  cases r with
  | nil=>exact .nil
  | @cons _ d v ds vs F G r s _=>
   have h1:F=[]:=r.zero
   have h2:G=[]:=s.zero
   subst h1 h2
   cases i with
   | zero=>exact s
   | succ j=>exact .cons (F:=[]) (G:=[]) r (Reps.eraseIdx j s) (fun _ z=>nomatch z)
@[simp] def j08 (i:Nat)(g:x1o):Den:=fun ρ=>if y7s ρ[i]? = true then match g ρ with
 | some ([.int n],ρ1)=>match ρ1[i]? with
  | some (some (.lst ds,1))=>if -1000<=n/\n<=1000 then match seqIndex? n ds.length with
   | some j=>match ds[j]? with
    | some d=>some (d,y1e d,ρ1.set i (some (.lst (ds.eraseIdx j),1)))
    | none=>none
   | none=>none
   else none
  | _=>none
 | _=>none
 else none
theorem j2o {i:Nat}{x:Str}(h:PE X (.Name x p1) (x9r i))(ha:PDA X [e] g)
  (hbase:attributeBase (.Name x p1) "pop" X.env (eval (.Name x p1) X.env)=eval (.Name x p1) X.env:=by rfl)
  (hfew:((backTo cpos (starEach [e] X.env)).all (fun x=>!x.1)&&(backToKw cpos (keywordEach [] X.env)).all (fun x=>x.1.isSome)
    && decide ([e].length+([]:List Keyword).length+(if([]:List Keyword).isEmpty then 0 else 1)<30))=true:=by rfl)
  (hline:(apos.endLine==cpos.line)=true:=by rfl) (hs:starEach [e] X.env=(false,eval e X.env)::starEach [] X.env:=by rfl) (hplain:(backTo cpos (starEach [] X.env)).any (·.1)=false:=by rfl) :
  PD X (.Call (.Attribute (.Name x p1) "pop" apos) [e] [] cpos) (j08 i g):=
 PE.imp (y8m PySem.F.plainAttrs_list PySem.F.slot_list_pop PySem.F.type_list_pop z2f h ha hbase hfew hline hs hplain) fun σ H Q hh0=>by
 obtain⟨ρ,w,t,r',q,ρ',gd,ee,k⟩:=hh0
 unfold j08 at ee
 split at ee
 ·rename_i hl
  obtain⟨l,hσ,us,hq⟩:=gd.isL hl
  split at ee
  ·rename_i n ρ1 h1
   split at ee
   ·rename_i ds e1
    split at ee
    ·rename_i hn
     split at ee
     ·rename_i j hj
      split at ee
      ·rename_i d hd
       cases ee
       refine⟨_,hσ,.inl ⟨rfl,us,hq⟩,ρ,w,t,_,_,gd,h1,fun vs H1 w1 g1 go1 r1=>?_⟩
       obtain⟨v,rfl,rv⟩:=one r1
       have hv:=x4h rv
       subst hv
       obtain⟨l',ws,hσ',hH,rs,mk⟩:=g1.mut e1
       rw[hσ]at hσ'
       cases hσ'
       obtain⟨y,hy,ry⟩:=rs.get hd
       obtain⟨m1,m2⟩:=mk _ _ (rs.eraseIdx j)
       refine⟨l,ws,n,j,y,rfl,rfl,hH,by omega,by omega,by rw[<- rs.length];exact hj,hy,?_⟩
       have ry':Rep X.K _ w1 (.t t) 0 r' y []:=Rep.go g1.wl m2.stab ry (fun _ z=>nomatch z)
       exact k y _ w1 [] m1.up (go1.trans m2) ry'.dep
      ·cases ee
     ·cases ee
    ·cases ee
   ·cases ee
  ·cases ee
 ·cases ee
end
theorem Reps.getQ {K:PySem.W.Frag}{H:Hp}{w:Wn}{o:Ow}{q:Nat}:∀ {ds:List D} {vs:List V} {F:List Addr} {i:Nat} {d:D},Reps K H w o q ds vs F->ds[i]? = some d->∃ v G,vs[i]? = some v/\Rep K H w o q d v G/\∀ a∈G,a∈F
 | _,_,_,_,_,.nil,e=>by simp at e
 | _,_,_,0,_,.cons r _ _,e=>by
  simp at e;subst e;exact⟨_,_,rfl,r,fun a m=>List.mem_append_left _ m⟩
 | _,_,_,i+1,d,.cons _ s _,e=>by
  obtain⟨v,G,h1,h2,h3⟩:=Reps.getQ (i:=i) (d:=d) s (by simpa using e)
  exact⟨v,G,by simpa using h1,h2,fun a m=>List.mem_append_right _ (h3 a m)⟩
theorem Reps.atQ {K:PySem.W.Frag}{H:Hp}{w:Wn}{o:Ow}{q:Nat}{ds:List D}{vs:List V}{F:List Addr}{i:Int}{d:D}(r:Reps K H w o q ds vs F)(h:L2.atI ds i=some d):∃ v G,L2.atI vs i=some v/\Rep K H w o q d v G/\∀ a∈G,a∈F:=by
 unfold L2.atI at h ⊢
 rw[<- r.length]
 cases e:ixN ds.length i with
 | none=>rw[e]at h;cases h
 | some j=>
  rw[e]at h
  exact r.getQ h
@[simp] def x1k (n:Nat)(fb:Den):Den:=fun ρ=>match ρ[n]? with
 | some (some _)=>match fb ρ with
  | some (.int i,_,ρ2)=>match ρ2[n]? with
   | some (some (x,q))=>match atD x i with
    | some d=>if d.isL=true/\1<q/\x.isL=true then none else some (d,y1e d,ρ2)
    | none=>none
   | _=>none
  | _=>none
 | _=>none
section
variable {X:Cx}{a b c e:Expr}{es:List Expr}{fa fb fc f:Den}{g:x1o}{pos p p1 p2 cpos apos:Pos}
theorem j17 {n:Nat}{x:Str}(h:PE X (.Name x p1) (x9r n))(hb:PD X b fb)(hs:x4t b:=by exact fun _ _=>rfl):PD X (.Subscript (.Name x p1) b pos) (x1k n fb):=PE.imp (z0o y53 h hb hs) fun σ H Q hh0=>by
 obtain⟨ρ,w,t,r',q,ρ',gd,ee,k⟩:=hh0
 unfold x1k at ee
 split at ee
 ·rename_i z0 e0
  obtain⟨d0,q0⟩:=z0
  obtain⟨v,F,hσ,_⟩:=gd.slot n d0 q0 e0
  split at ee
  ·rename_i i q2 ρ2 h2
   split at ee
   ·rename_i x q e2
    split at ee
    ·rename_i d hd
     split at ee
     ·cases ee
     ·rename_i hn
      cases ee
      refine⟨v,hσ,ρ,w,t,_,_,_,gd,h2,fun y H2 w2 F2 g2 go r2=>?_⟩
      have hy:=x4h r2
      subst hy
      have gg:=g2.drop (t':=t)
      obtain⟨v',F',hσ',rr⟩:=gg.slot n x q e2
      rw[hσ]at hσ'
      cases hσ'
      have fin:∀ u,Rep X.K H2 (x1q t w2) (.t t) 0 r' u []->Q u H2:=fun u ru=>k u H2 (x1q t w2) [] gg.up (go.drop gd.wt) ru.dep
      cases x with
      | lst ds=>
       by_cases hq0:q=0
       ·subst hq0
        obtain⟨p0,vs,rfl,hq,rs⟩:=rr.seqL0
        obtain⟨u,hu,ru⟩:=rs.atI hd
        exact .inl ⟨p0,vs,i,u,rfl,rfl,hq,hu,fin u (ru.any gg.wl)⟩
       ·by_cases hq1:q=1
        ·subst hq1
         cases rr with
         | own h0 _ rs _=>
          have z0:=rs.zero
          subst z0
          obtain⟨u,hu,ru⟩:=rs.atI hd
          exact .inl ⟨_,_,i,u,rfl,rfl,SqL.of h0,hu,fin u (ru.any gg.wl)⟩
        ·obtain⟨p0,vs,q',G,rfl,hq,rs⟩:=rr.seqL
         obtain⟨u,G',hu,ru,_⟩:=rs.atQ hd
         refine .inl ⟨p0,vs,i,u,rfl,rfl,hq,hu,fin u ?_⟩
         cases hL:r'.isL with
         | false=>exact((ru.nolist hL).2 0).any gg.wl
         | true=>exact absurd ⟨hL,by omega,rfl⟩ hn
      | tup ds=>
       obtain⟨p0,vs,rfl,hq,rs⟩:=rr.seqT
       obtain⟨u,hu,ru⟩:=rs.atI hd
       exact .inr (.inl ⟨p0,vs,i,u,rfl,rfl,hq,hu,fin u (ru.any gg.wl)⟩)
      | _=>cases hd
    ·cases ee
   ·cases ee
  ·cases ee
 ·cases ee
@[simp] def y65 (fa fb:Den):Den:=fun ρ=>match fa ρ with
 | some (.lst ds,1,ρ1)=>match fb ρ1 with
  | some (.int n,_,ρ2)=>if -1000<=n/\n<=1000/\ds.length*n.toNat<=1000 then some (.lst (List.replicate n.toNat ds).flatten,1,ρ2)else none
  | _=>none
 | _=>none
theorem Reps.app {K:PySem.W.Frag}{H:Hp}{w:Wn}{es:List D}{us:List V}(s:Reps K H w .f 0 es us []):∀ {ds:List D} {vs:List V},Reps K H w .f 0 ds vs []->Reps K H w .f 0 (ds++es) (vs++us) []
 | ds,vs,r=>by
  generalize hF:([]:List Addr)=F at r
  cases r with
  | nil=>rw[<- hF];exact s
  | @cons _ d v ds vs F G r t _=>
   have h1:F=[]:=r.zero
   have h2:G=[]:=t.zero
   subst h1 h2
   exact .cons (F:=[]) (G:=[]) r (Reps.app s t) (fun _ z=>nomatch z)
theorem Reps.times {K:PySem.W.Frag}{H:Hp}{w:Wn}{ds:List D}{vs:List V}(r:Reps K H w .f 0 ds vs []):∀ n:Nat,Reps K H w .f 0 (List.replicate n ds).flatten (List.replicate n vs).flatten []
 | 0=>.nil
 | n+1=>by
  rw[List.replicate_succ,List.replicate_succ,List.flatten_cons,List.flatten_cons]
  exact Reps.app (Reps.times r n) r
theorem z8h (ha:PD X a fa)(hb:PD X b fb):PD X (.BinOp a .Mult b pos) (y65 fa fb):=PE.imp (y4r j48 ha hb) fun σ H Q hh0=>by
 obtain⟨ρ,w,t,r',q,ρ',gd,ee,k⟩:=hh0
 unfold y65 at ee
 split at ee
 ·rename_i ds ρ1 h1
  split at ee
  ·rename_i n q2 ρ2 h2
   split at ee
   ·rename_i hn
    cases ee
    refine j05 gd h1 h2 fun u u' H2 w2 F1 F2 g2 go r1 r2=>?_
    have hu':=x4h r2
    subst hu'
    cases r1 with
    | @own _ l vs _ F hl hw rs ne=>
     have hF:=rs.zero
     subst hF
     have gg:=g2.drop (t':=t)
     have rs':Reps X.K H2 (x1q t w2) .f 0 ds vs []:=Reps.go g2.wl (fun a x h n=>⟨sm h,x6x n⟩) rs (fun _ z=>nomatch z)
     refine⟨l,n,vs,rfl,rfl,hl,by omega,by omega,?_,fun p hp=>?_⟩
     ·rw[<- rs.length];exact x9d hn.2.2
     ·obtain⟨a1,a2,a3⟩:=y85 gg hp (rs'.times n.toNat)
      exact k _ _ _ _ a1 ((go.drop gd.wt).trans a2) a3
   ·cases ee
  ·cases ee
 ·cases ee
end
theorem Reps.row {K:PySem.W.Frag}{H:Hp}{w:Wn}{o:Ow}(wl:WL K w H):∀ {rows:List D} {vs:List V} {F:List Addr} {i:Nat} {row:List D},Reps K H w o 1 rows vs F->rows[i]? = some (.lst row)->
  ∃ b ws,vs[i]? = some (.ref b)/\H b=some (.lst ws)/\w b=some o/\b∈F/\Reps K H w .f 0 row ws [] /\
   ∀ row' ws',Reps K H w .f 0 row' ws' []->Reps K (upd H b (.lst ws')) w o 1 (rows.set i (.lst row')) vs F
 | _,_,_,_,_,.nil,e=>by simp at e
 | _,_,_,0,row,.cons r s ne,e=>by
  simp at e
  subst e
  cases r with
  | @own _ b ws _ F' hb hw rs nb=>
   have hF:=rs.zero
   subst hF
   refine⟨b,ws,rfl,hb,hw,by simp,rs.any wl,fun row' ws' r'=>?_⟩
   have nn:∀ a,w a=none->a≠b:=fun a e z=>by subst z;rw[hw]at e;cases e
   have st:x71 H w (upd H b (.lst ws')) w:=fun a x h n=>⟨sm (by rw[x0i (nn a n)];exact h),n⟩
   refine .cons (.own x0w hw (Reps.go wl st r' (fun _ z=>nomatch z)) (fun z=>nomatch z)) (Reps.go wl st s fun a m=>⟨x0i fun z=>?_,s.owns a m⟩) ne
   subst z
   exact ne a (by simp) m
 | _,_,_,i+1,row,.cons (d:=d) (v:=v) (F:=F) (G:=G) r s ne,e=>by
  obtain⟨b,ws,h1,h2,h3,h4,h5,mk⟩:=Reps.row wl (i:=i) (row:=row) s (by simpa using e)
  refine⟨b,ws,by simpa using h1,h2,h3,List.mem_append_right _ h4,h5,fun row' ws' r'=>?_⟩
  have nn:∀ a,w a=none->a≠b:=fun a e z=>by subst z;rw[h3]at e;cases e
  have st:x71 H w (upd H b (.lst ws')) w:=fun a x h n=>⟨sm (by rw[x0i (nn a n)];exact h),n⟩
  refine .cons (Rep.go wl st r fun a m=>⟨x0i fun z=>?_,r.owns a m⟩) (mk row' ws' r') ne
  subst z
  exact ne a m h4
theorem Good.mut2 {K:PySem.W.Frag}{ρ:Rho}{σ:St}{H:Hp}{w:Wn}{t i m:Nat}{rows row:List D}(g:Good K ρ σ H w t)(e:ρ[i]? = some (some (.lst rows,2)))(em:rows[m]? = some (.lst row)) :
  ∃ l vs b ws,σ[i]? = some (some (.ref l))/\SqL K H l vs/\vs.length=rows.length/\vs[m]? = some (.ref b)/\H b=some (.lst ws)/\Reps K H w .f 0 row ws []/\∀ row' ws',Reps K H w .f 0 row' ws' []->
   Good K (ρ.set i (some (.lst (rows.set m (.lst row')),2))) σ (upd H b (.lst ws')) w t/\Go H w (upd H b (.lst ws')) w:=by
 obtain⟨v,F,h1,h2⟩:=g.slot i _ _ e
 cases h2 with
 | @own _ l vs _ F' hl hw rs nl=>
  obtain⟨b,ws,b1,b2,b3,b4,b5,mk⟩:=Reps.row g.wl rs em
  have hbl:l≠b:=fun z=>by subst z;exact nl b4
  refine⟨l,vs,b,ws,h1,SqL.of hl,rs.length.symm,b1,b2,b5,fun row' ws' r'=>?_⟩
  have nl':∀ a o,w a=some o->o ≠ .s i->a≠b:=fun a o e n z=>by subst z;rw[b3]at e;exact n (Option.some.inj e).symm
  have nn:∀ a,w a=none->a≠b:=fun a e z=>by subst z;rw[b3]at e;cases e
  have st:x71 H w (upd H b (.lst ws')) w:=fun a x h n=>⟨sm (by rw[x0i (nn a n)];exact h),n⟩
  refine⟨⟨⟨fun a o h=>?_,g.wl.tb.upd rfl (.inr (g.wl b _ b3))⟩,g.ws,g.wt,by rw[List.length_set];exact g.len,fun j d' q' e'=>?_⟩,⟨st,fun a o h n=>⟨x0i (nl' a o h (n i)),h⟩⟩⟩
  ·by_cases z:a=b
   ·subst z;exact⟨_,x0w⟩
   ·obtain⟨us,q⟩:=g.wl a o h
    exact⟨us,by rw[x0i z];exact q⟩
  ·by_cases hj:i=j
   ·subst hj
    rw[List.getElem?_set_self (List.getElem?_eq_some_iff.mp e).1]at e'
    cases e'
    exact⟨_,_,h1,.own (by rw[x0i hbl];exact hl) hw (mk row' ws' r') nl⟩
   ·rw[List.getElem?_set_ne hj]at e'
    obtain⟨v',F',h1',h2'⟩:=g.slot j d' q' e'
    exact⟨v',F',h1',Rep.go g.wl st h2' fun a m=>⟨x0i (nl' a _ (h2'.owns a m) (fun z=>hj (by cases z;rfl))),h2'.owns a m⟩⟩
theorem Reps.set0 {K:PySem.W.Frag}{H:Hp}{w:Wn}{d:D}{v:V}(rv:Rep K H w .f 0 d v []):∀ {ds:List D} {vs:List V} (i:Nat),Reps K H w .f 0 ds vs []->Reps K H w .f 0 (ds.set i d) (vs.set i v) []
 | ds,vs,i,r=>by
  generalize hF:([]:List Addr)=F at r
  cases r with
  | nil=>rw[<- hF];exact .nil
  | @cons _ d' v' ds vs F G r s _=>
   have h1:F=[]:=r.zero
   have h2:G=[]:=s.zero
   subst h1 h2
   cases i with
   | zero=>exact .cons (F:=[]) (G:=[]) rv s (fun _ z=>nomatch z)
   | succ j=>exact .cons (F:=[]) (G:=[]) r (Reps.set0 rv j s) (fun _ z=>nomatch z)
abbrev y17:=Rho->Option Int
def tQ (K:PySem.W.Frag)(f:y17):TE:=fun σ H Q=>∃ ρ w t i,Good K ρ σ H w t/\f ρ=some i/\Q (.int i) H
abbrev PQ (X:Cx)(e:Expr)(f:y17):Prop:=PE X e (tQ X.K f)
@[simp] def z68 (n:Nat):y17:=fun ρ=>match ρ[n]? with
 | some (some (.int i,_))=>some i
 | _=>none
@[simp] def qIx (n:Nat)(f:y17):y17:=fun ρ=>match f ρ with
 | some i=>match ρ[n]? with
  | some (some (x,_))=>match atD x i with
   | some (.int j)=>some j
   | _=>none
  | _=>none
 | none=>none
section
variable {X:Cx}{a b c e:Expr}{es:List Expr}{fa fb fc f:Den}{qa qb:y17}{g:x1o}{pos p p1 p2 cpos apos:Pos}
theorem j2d {n:Nat}{x:Str}(h:PE X (.Name x p1) (x9r n)):PQ X (.Name x p1) (z68 n):=PE.imp h fun σ H Q hh0=>by
 obtain⟨ρ,w,t,i,gd,ee,k⟩:=hh0
 unfold z68 at ee
 split at ee
 ·rename_i j q e0
  cases ee
  obtain⟨v,F,h1,h2⟩:=gd.slot n _ _ e0
  rw[x4h h2]at h1
  exact⟨_,h1,k⟩
 ·cases ee
theorem j4t {n:Nat}{x:Str}(h:PE X (.Name x p1) (x9r n))(hb:PQ X b qb)(hs:x4t b:=by exact fun _ _=>rfl):PQ X (.Subscript (.Name x p1) b pos) (qIx n qb):=PE.imp (z0o y53 h hb hs) fun σ H Q hh0=>by
 obtain⟨ρ,w,t,i,gd,ee,k⟩:=hh0
 unfold qIx at ee
 split at ee
 ·rename_i i0 h0
  split at ee
  ·rename_i x q e0
   split at ee
   ·rename_i j hj
    cases ee
    obtain⟨v,F,h1,h2⟩:=gd.slot n _ _ e0
    refine⟨v,h1,ρ,w,t,i0,gd,h0,?_⟩
    cases x with
    | lst ds=>
     obtain⟨p0,vs,q',G,rfl,hq,rs⟩:=h2.seqL
     obtain⟨u,G',hu,ru,_⟩:=rs.atQ hj
     rw[x4h ru]at hu
     exact .inl ⟨p0,vs,i0,_,rfl,rfl,hq,hu,k⟩
    | tup ds=>
     obtain⟨p0,vs,rfl,hq,rs⟩:=h2.seqT
     obtain⟨u,hu,ru⟩:=rs.atI hj
     rw[x4h ru]at hu
     exact .inr (.inl ⟨p0,vs,i0,_,rfl,rfl,hq,hu,k⟩)
    | _=>cases hj
   ·cases ee
  ·cases ee
 ·cases ee
@[simp] def y7r (n:Nat)(qi qj:y17)(fe:Den):x16:=fun ρ=>match fe ρ with
 | some (d,_,ρ1)=>match qi ρ1,qj ρ1,ρ1[n]? with
  | some i,some j,some (some (.lst rows,2))=>match ixN rows.length i with
   | some m=>match rows[m]? with
    | some (.lst row)=>match ixN row.length j with
     | some k=>some (.nx (ρ1.set n (some (.lst (rows.set m (.lst (row.set k d))),2))))
     | none=>none
    | _=>none
   | none=>none
  | _,_,_=>none
 | none=>none
theorem z3x {n:Nat}{x:Str}(h:PE X (.Name x p1) (x9r n))(ha:PQ X a qa)(hb:PQ X b qb)(he:PD X e f)(hi:x4t a:=by exact fun _ _=>rfl)
  (hasg:∀ v,assign (.Subscript (.Subscript (.Name x p1) a p2) b p) X.env v=(do
    let ov <- holding [v] (eval (.Subscript (.Name x p1) a p2) X.env)
    let iv <- holding [v,ov] (eval b X.env)
    standAt p
    holding [v,ov,iv] (setItem ov iv v)
    release [v,ov,iv] []):=by exact fun _=>rfl)
  (hs:swapsWithSole [.Subscript (.Subscript (.Name x p1) a p2) b p] e pos.line X.env=pure false:=by rfl) :
  PDS X (.Assign [.Subscript (.Subscript (.Name x p1) a p2) b p] e pos) (y7r n qa qb f):=by
 refine PS.imp (z5v he (j18 (z0o y53 h ha hi) hb z54 hasg) hs) fun D σ H ⟨ρ,w,o,gd,ee,k⟩=>?_
 unfold y7r at ee
 split at ee
 ·rename_i d q0 ρ1 h1
  split at ee
  ·rename_i i j rows hi hj er
   split at ee
   ·rename_i m hm
    split at ee
    ·rename_i row erow
     split at ee
     ·rename_i kk hk
      cases ee
      refine⟨ρ,w,0,d,q0,ρ1,gd,h1,fun v H1 w1 F1 g1 go1 r1=>?_⟩
      have rv:=r1.drop (o:=.f) (Nat.le_refl 0)
      have gg:=g1.drop (t':=0)
      obtain⟨l,vs,b0,ws,m1,m2,m3,m4,m5,m6,mk⟩:=gg.mut2 er erow
      refine⟨_,m1,ρ1,x1q 0 w1,0,i,gg,hi,.inl ⟨l,vs,i,.ref b0,rfl,rfl,m2,?_,ρ1,x1q 0 w1,0,j,gg,hj,b0,ws,j,kk,rfl,rfl,m5,?_,?_⟩⟩
      ·unfold atI;rw[m3,hm];exact m4
      ·rw[<- m6.length];exact hk
      ·obtain⟨n1,n2⟩:=mk _ _ (m6.set0 rv kk)
       exact k _ _ _ rfl n1 ((go1.drop gd.wt).trans n2)
     ·cases ee
    ·cases ee
   ·cases ee
  ·cases ee
 ·cases ee
end
@[simp] def j1s (fa fb:Den):Den:=fun ρ=>match fa ρ with
 | some (.bl b,_,ρ1)=>if b=true then fb ρ1 else some (.bl false,9,ρ1)
 | _=>none
@[simp] def j4g (fa:Den):Den:=fun ρ=>match fa ρ with
 | some (.bl b,_,ρ1)=>some (.bl (!b),9,ρ1)
 | _=>none
section
variable {X:Cx}{a b c e:Expr}{es x1w:List Expr}{fa fb fc f:Den}{g:x1o}{pos p p1 p2 cpos apos:Pos}
theorem j1x {op}(h:PD X a fa):PD X (.BoolOp op [a] pos) fa:=j11 h
theorem j32 (ha:PD X a fa)(hb:PD X (.BoolOp .And (b::x1w) pos) fb):PD X (.BoolOp .And (a::b::x1w) pos) (j1s fa fb):=PE.imp (j3i ha hb) fun σ H Q hh0=>by
 obtain⟨ρ,w,t,r',q,ρ',gd,ee,k⟩:=hh0
 unfold j1s at ee
 split at ee
 ·rename_i b' q1 ρ1 h1
  refine⟨ρ,w,t,_,_,_,gd,h1,fun v H1 w1 F1 g1 go1 r1=>?_⟩
  cases r1
  refine⟨b',rfl,?_⟩
  split at ee
  ·rename_i hb;rw[if_pos hb]
   exact⟨ρ1,x1q t w1,t,r',q,ρ',g1.drop,ee,fun v H2 w2 F g2 go2=>k v H2 w2 F g2 ((go1.drop gd.wt).trans go2)⟩
  ·rename_i hb;rw[if_neg hb]
   cases ee
   exact k _ H1 w1 [] g1 go1 (.bl false)
 ·cases ee
theorem j1t (ha:PD X a fa):PD X (.UnaryOp .Not a pos) (j4g fa):=PE.imp (j0t ha) fun σ H Q hh0=>by
 obtain⟨ρ,w,t,r',q,ρ',gd,ee,k⟩:=hh0
 unfold j4g at ee
 split at ee
 ·rename_i b' q1 ρ1 h1
  cases ee
  refine⟨ρ,w,t,_,_,_,gd,h1,fun v H1 w1 F1 g1 go1 r1=>?_⟩
  cases r1
  exact⟨b',rfl,k _ H1 w1 [] g1 go1 (.bl _)⟩
 ·cases ee
end
section
variable {es x1w:List Expr}{a b c e:Expr}{pos:Pos}{env:Env}
theorem x1c {op}:starEach (.BinOp a op b pos::x1w) env=(false,eval (.BinOp a op b pos) env)::starEach x1w env:=by simp only[starEach]
theorem y8j {op}:starEach (.UnaryOp op a pos::x1w) env=(false,eval (.UnaryOp op a pos) env)::starEach x1w env:=by simp only[starEach]
theorem y6n:starEach (.IfExp a b c pos::x1w) env=(false,eval (.IfExp a b c pos) env)::starEach x1w env:=by simp only[starEach]
theorem x26 {g sc}:starEach (.ListComp a g sc pos::x1w) env=(false,eval (.ListComp a g sc pos) env)::starEach x1w env:=by simp only[starEach]
theorem x0j {k}:starEach (.Call a es k pos::x1w) env=(false,eval (.Call a es k pos) env)::starEach x1w env:=by simp only[starEach]
theorem x07 {v k}:starEach (.Constant v k pos::x1w) env=(false,eval (.Constant v k pos) env)::starEach x1w env:=by simp only[starEach]
theorem x0y:starEach (.Subscript a b pos::x1w) env=(false,eval (.Subscript a b pos) env)::starEach x1w env:=by simp only[starEach]
theorem x04 {x}:starEach (.Name x pos::x1w) env=(false,eval (.Name x pos) env)::starEach x1w env:=by simp only[starEach]
theorem y12:starEach (.List es pos::x1w) env=(false,eval (.List es pos) env)::starEach x1w env:=by simp only[starEach]
theorem x49 {k}:starEach (.Tuple es k pos::x1w) env=(false,eval (.Tuple es k pos) env)::starEach x1w env:=by simp only[starEach]
theorem y4w {ar sc}:starEach (.Lambda ar b sc pos::x1w) env=(false,eval (.Lambda ar b sc pos) env)::starEach x1w env:=by simp only[starEach]
end
def At (K:PySem.W.Frag)(mg:Str->Option Value)(x:Str)(st:Stmt)(ps:List Str):Prop:=
 ∃ f fd,Fun K x x st f fd/\mg x=some (.ref f)/\y3h K fd ps []
def Cal (P:Program)(w:World)(K:PySem.W.Frag)(mg:Str->Option Value)(base:Heap)(k:Nat)(x:Str)(n:Nat)(F:List D->OD):Prop:=
 ∃ f fd ps,FnOk P w K mg base CX0 k f fd ps (spD K n F)/\mg x=some (.ref f)/\PySem.W.keepIn K (.ref f)=true/\y3h K fd ps []
theorem Cal.mk {P:Program}{w:World}{K:PySem.W.Frag}{mg:Str->Option Value}{base:Heap}{k:Nat}{x:Str}{st:Stmt}{N ps:List Str}{body:x16}(a:At K mg x st ps)(S:FnScope N ps (x0a st))
  (h:∀ (f:Addr) (cdv:Value) (A:Around) (outer:List Env) (s:Shared) (H:Hp) (E:XK),Room k (A.deeper (envOfC x (x0a st) s.heap.objs.size f cdv))->y7m (y2h CX0 P w K mg base N x (x0a st) f cdv A outer s H E).nox (x32 st) body) :
  Cal P w K mg base (k+1) x ps.length (fnD N.length body):=by
 obtain⟨f,fd,F,m,b⟩:=a
 exact⟨f,fd,ps,j2s F S (h f),m,F.kp,b⟩
section
variable {X:Cx}{a b c e:Expr}{es x1w:List Expr}{fa fb fc f:Den}{g:x1o}{pos p p1 p2 cpos apos:Pos}
theorem z21 {j k n:Nat}{x:Str}{F:List D->OD}(C:Cal X.prog X.w X.K X.mg X.base k x n F)(hr:Room j X.A)(hk:k<=j)(ha:PDA X (e::es) g)
  (hg:Gl X x:=by rfl) (hdb:(x==("__debug__":Str))=false:=by decide) (he:starEach (e::es) X.env=(false,eval e X.env)::starEach es X.env:=by rfl) (hpl:(backTo pos (starEach es X.env)).any (·.1)=false:=by rfl) :
  PD X (.Call (.Name x p) (e::es) [] pos) (x0l F n g):=by
 obtain⟨f,fd,ps,G,hm,hkp,hb⟩:=C
 exact z43 G (hr.mono hk) hm hkp hb j5p ha hg hdb he hpl
end
theorem j3s {K:PySem.W.Frag}{F:List D->OD}(h:∀ ns:List Int,ns.length<=63->∃ q,F [.lst (ns.map D.int)]=some (.bl true,q)){H:Hp}{a:Addr}{ns:List Int}(hl:ns.length<=63)(hS:SqL K H a (ns.map V.int))(tb:TB K H){E:XK} :
  spD K 1 F [.ref a] H (fun v _=>v=.bl true) E:=by
 obtain⟨q,e⟩:=h ns hl
 have r:Rep K H (fun _=>none) .f 0 (.lst (ns.map D.int)) (.ref a) []:=by
  rcases SqL.cases hS with z|z
  ·exact .shr z rfl (x8e ns)
  ·exact .kl z (x8e ns)
 exact⟨rfl,[.lst (ns.map D.int)],fun _=>none,.bl true,q,(fun a o z=>nomatch z),⟨(fun a o z=>nomatch z),tb⟩,.cons (F:=[]) (G:=[]) r .nil (fun _ z=>nomatch z),e,fun v H' w' Fo _ _ rr=>by cases rr;rfl⟩
theorem j3z {P:Program}{w:World}{K:PySem.W.Frag}{mg:Str->Option Value}{base:Heap}{k:Nat}{x:Str}{st:Stmt}{N ps:List Str}{body:x16}{f:Addr}{fd:FuncData}(F:Fun K x x st f fd)(S:FnScope N ps (x0a st))
  (h:∀ (f:Addr) (cdv:Value) (A:Around) (outer:List Env) (s:Shared) (H:Hp) (E:XK),Room k (A.deeper (envOfC x (x0a st) s.heap.objs.size f cdv))->y7m (y2h CX0 P w K mg base N x (x0a st) f cdv A outer s H E).nox (x32 st) body) :
  FnOk P w K mg base CX0 (k+1) f fd ps (spD K ps.length (fnD N.length body)):=j2s F S (h f)
section
variable {prog:Program}{w:World}{A:Around}{E:Value->Shared->Prop}{s:Shared}
theorem y86 {j p:Addr}{n:Nat}{vs:Array Value}{v:Value}{Q:Value->Shared->Prop}(a:s.heap.IsTupleIter j p n)(b:s.heap.IsTuple p vs)(c:vs[n]? = some v)
  (k:∀ g:Heap,g.IsTupleIter j p (n+1)->Heap.SameBut j s.heap g->Q v { s with heap:=g }):wpAny (model prog w) A (Builtin.SmallTypes.nextOf (.ref j)) Q E s:=by
 obtain⟨oj,ej,kj,dj⟩:=id a
 obtain⟨op,ep,_,mp,dp⟩:=b
 unfold Builtin.SmallTypes.nextOf
 refine wpAny_bind (wpAny_callSpecial?_slot (name:=Str.ofString "__next__") a.typeIs F.slot_tuple_iterator_next (wpAny_call_entry F.slot_tuple_iterator_next a.typeIs F.entry_tuple_iterator_next ?_ (F.args_tuple_iterator_next_1 _)))
 show wpAny _ _ (field (.ref j) 0 >>= _) _ _ s
 refine wpAny_bind (wpAny_field ej dj (x:=.ref p) rfl ?_)
 show wpAny _ _ (if(Value.ref p==Value.none)=true then _ else _) _ _ s
 rw[if_neg (show ¬ ((Value.ref p==Value.none)=true)from Bool.false_ne_true)]
 show wpAny _ _ (field (.ref j) 1 >>= _) _ _ s
 refine wpAny_bind (wpAny_field ej dj (x:=.int n 0) rfl ?_)
 show wpAny _ _ (seqItems? (.ref p) >>= _) _ _ s
 refine wpAny_bind (wpAny_seqItems ep dp ?_)
 simp only[Int.toNat_natCast,c]
 refine wpAny_bind (wpAny_setField ej dj (by simp) (wpAny_pure ⟨v,rfl,wpAny_pure (k _ ⟨_,Heap.get?_update_self _ ej (Obj.isFreed_of_fields (Obj.data_mapFields dj _)),(Obj.cls_mapFields ..).trans kj,?_⟩ (Heap.SameBut.update ..))⟩))
 rw[Obj.data_mapFields dj]
 simp[rawInt]
theorem y90 {j p:Addr}{n:Nat}{vs:Array Value}{Q:Value->Shared->Prop}(hh:A.handled=none)(a:s.heap.IsTupleIter j p n)(b:s.heap.IsTuple p vs)(c:vs[n]? = none)
  (k:∀ (g:Heap) x,Heap.ExtBut j s.heap g->(∃ o,g.get? x=some o/\o.cls=.type "StopIteration")->E (.ref x) { s with heap:=g }):wpAny (model prog w) A (Builtin.SmallTypes.nextOf (.ref j)) Q E s:=by
 obtain⟨oj,ej,kj,dj⟩:=id a
 obtain⟨op,ep,_,mp,dp⟩:=b
 unfold Builtin.SmallTypes.nextOf
 refine wpAny_bind (wpAny_callSpecial?_slot (name:=Str.ofString "__next__") a.typeIs F.slot_tuple_iterator_next (wpAny_call_entry F.slot_tuple_iterator_next a.typeIs F.entry_tuple_iterator_next ?_ (F.args_tuple_iterator_next_1 _)))
 show wpAny _ _ (field (.ref j) 0 >>= _) _ _ s
 refine wpAny_bind (wpAny_field ej dj (x:=.ref p) rfl ?_)
 show wpAny _ _ (if(Value.ref p==Value.none)=true then _ else _) _ _ s
 rw[if_neg (show ¬ ((Value.ref p==Value.none)=true)from Bool.false_ne_true)]
 show wpAny _ _ (field (.ref j) 1 >>= _) _ _ s
 refine wpAny_bind (wpAny_field ej dj (x:=.int n 0) rfl ?_)
 show wpAny _ _ (seqItems? (.ref p) >>= _) _ _ s
 refine wpAny_bind (wpAny_seqItems ep dp ?_)
 simp only[Int.toNat_natCast,c]
 refine wpAny_bind (wpAny_rule (wpAny_bind (wpAny_setField ej dj (by simp) ?_)))
 show wpAny _ _ (newExc (.type "StopIteration") [] >>= _) _ _ _;refine wpAny_bind ?_;simp only[newExc,newTuple]
 refine wpAny_bind (wpAny_newObj_type ?_ (by size_fits));refine wpAny_bind (m:=firstArgMember _ _) (wpAny_of_eq (a:=Value.none) (by first|rfl|(simp only[firstArgMember];rfl)) (wpAny_newObj_type ?_ (by size_fits)))
 simp only[raiseNew]
 refine wpAny_bind (wpAny_handled ?_);first|rw[show A.in1.handled=none from hh]|rw[hh]
 exact wpAny_bind (wpAny_pure (wpAny_throw (k _ _ (((Heap.SameBut.update ..).extBut.push _).push _) ⟨_,Heap.get?_push_size _ rfl,rfl⟩)))
end
theorem z73 {X:Cx}{pins:List (Addr×Obj)}{σ:St}{H:Hp}{s:Shared}{h':Heap}{t':Nat}{ch:List Addr}(I:Inv X pins σ H s)(k:∀ b o,b ∉ ch->s.heap.get? b=some o->h'.get? b=some o)(hf:∀ b∈ch,y72 X pins H b) :
  Inv X pins σ H { s with heap:=h',toks:=t' }:=by
 have nit:∀ b u,H b=some u->b ∉ ch:=fun b u e z=>by rw[(hf b z).1]at e;cases e
 refine I.step (g':=s.gens) (d':=s.drawn) (ch:=ch) (fun b hb=>?_) (fun b o _ _ hc e _=>k b o hc e) (fun b o _ _ hc e _=>⟨o.slots,k b o hc e⟩) (fun _ _ _ _ n=>n)
  (fun b o hc e=>⟨o,k b o hc e⟩) (fun _ _ e=>e) (fun _ _ _ e=>e) (fun b ps e=>⟨#[],by rw[e];simp⟩) (fun m hm=>?_) (fun b u e=>?_) I.bare
 ·obtain⟨f0,f1,f2,f3,f4,f5⟩:=hf b hb
  exact⟨f3,f1,f4,f5⟩
 ·obtain⟨o,es,ep,ho,r⟩:=hm
  exact⟨o,es,ep,k _ o (fun z=>(hf _ z).2.1 rfl) ho,r⟩
 ·refine(I.hok b u e).stay (fun c v hc q=>k c v ?_ q) (fun _ q=>q) fun _ _ q=>q
  rcases hc with z|z
  ·rw[z];exact nit b u e
  ·exact nit c _ z
section
variable {X:Cx}{a b c e:Expr}{es elts:List Expr}{fa fb fc f:Den}{g:x1o}{pos p p1 p2 tp:Pos}{kt:Nat}
@[simp] def j7e (g:x1o):x9w:=fun ρ=>match g ρ with
 | some ([.tup ds,.tup es],ρ1)=>if ds.length<=1000 then some ((ds.zip es).map fun x=>.tup [x.1,x.2],ρ1)else none
 | _=>none
end
abbrev x8z:=List D->Rho->Option Rho
def j6s (K:PySem.W.Frag)(b:Nat)(pt:x8z):TGs:=fun vs σ H Q=>∃ ds ρ w t ρ',Good K ρ σ H w t/\Reps K H w .f 0 ds vs []/\pt ds ρ=some ρ'/\∀ σ' H' w',σ'.length=σ.length->(∀ i,i<b->σ'[i]? = σ[i]?)->Good K ρ' σ' H' w' t->Go H w H' w'->Q σ' H'
theorem PGs.imp {X:Cx}{tg:List Expr}{t t':TGs}(h:PGs X tg t)(i:∀ v σ H Q,t' v σ H Q->t v σ H Q):PGs X tg t':=fun pins s σ H v u Q I r q=>h pins s σ H v u Q I r (i v σ H Q q)
abbrev j1q (X:Cx)(b:Nat)(tg:List Expr)(pt:x8z):Prop:=PGs X tg (j6s X.K b pt)
@[simp] def x7j:x8z:=fun ds ρ=>match ds with
 | []=>some ρ
 | _=>none
@[simp] def x1d (pt:x54)(ps:x8z):x8z:=fun ds ρ=>match ds with
 | []=>none
 | d::r=>match pt d ρ with
  | some ρ1=>ps r ρ1
  | none=>none
@[simp] def y7p (ps:x8z):x54:=fun d ρ=>match d with
 | .tup ds=>ps ds ρ
 | _=>none
section
variable {X:Cx}{k b:Nat}{e:Expr}{es:List Expr}{pt:x54}{ps:x8z}{pos:Pos}
theorem z2h:j1q X b [] x7j:=PGs.imp z95 fun v σ H Q hh0=>by
 obtain⟨ds,ρ,w,t,ρ',g,r,e,k⟩:=hh0
 unfold x7j at e
 split at e
 ·cases e
  generalize hF:([]:List Addr)=F at r
  cases r
  exact⟨rfl,k σ H w rfl (fun _ _=>rfl) g Go.refl⟩
 ·cases e
theorem z0t (h1:PDG X b e pt)(h2:j1q X b es ps)(hs:(assignEach (e::es) X.env).map (·.2)=assign e X.env::(assignEach es X.env).map (·.2):=by rfl):j1q X b (e::es) (x1d pt ps):=PGs.imp (z4u h1 h2 hs) fun v σ H Q hh0=>by
 obtain⟨ds,ρ,w,t,ρ',g,r,e,k⟩:=hh0
 unfold x1d at e
 split at e
 ·cases e
 ·rename_i d x1w
  split at e
  ·rename_i ρ1 h1
   generalize hF:([]:List Addr)=F at r
   cases r with
   | cons ra rb _=>
    have z1:=ra.zero
    have z2:=rb.zero
    subst z1 z2
    refine⟨_,_,rfl,d,ρ,w,t,ρ1,g,ra,h1,fun σ1 H1 w1 l1 s1 g1 go1=>⟨x1w,ρ1,w1,t,ρ',g1,rb.go0 g.wl go1.stab,e,fun σ2 H2 w2 l2 s2 g2 go2=>k σ2 H2 w2 (l2.trans l1) (fun i hi=>(s2 i hi).trans (s1 i hi)) g2 (go1.trans go2)⟩⟩
  ·cases e
theorem j01 {n:Nat}(hc:X.calm=true)(h:j1q X b es ps)(hl:∀ ds ρ ρ',ps ds ρ=some ρ'->ds.length=n)(hn:(assignEach es X.env).length=n:=by rfl)(hst:(assignEach es X.env).findIdx? (·.1)=none:=by rfl):PDG X b (.Tuple es k pos) (y7p ps):=PG.imp (j27 hc h hn hst) fun v σ H Q hh0=>by
 obtain⟨d,ρ,w,t,ρ',g,r,e,k⟩:=hh0
 unfold y7p at e
 split at e
 ·rename_i ds
  obtain⟨a,vs,rfl,hq,rs⟩:=r.seqT
  exact⟨a,vs,rfl,hq,by rw[<- rs.length];exact hl _ _ _ e,ds,ρ,w,t,ρ',g,rs,e,k⟩
 ·cases e
theorem z7u {p q:x54}:∀ ds ρ ρ',x1d p (x1d q x7j) ds ρ=some ρ'->ds.length=2:=fun ds ρ ρ' h=>by
 match ds with
 | []=>cases h
 | [_]=>unfold x1d at h;simp at h;split at h<;>cases h
 | [_,_]=>rfl
 | _::_::_::_=>
  exfalso
  unfold x1d at h
  simp at h
  split at h
  ·split at h<;>cases h
  ·cases h
end
theorem y48:∀ {bs:List Bool} {us:List Value},x2i (bs.map V.bl) us->LSm.BoolsAre us bs
 | [],_,h=>by cases h;exact .nil
 | b::bs,_,h=>by
  cases h with
  | cons r rr=>
   cases r
   exact .cons b (y48 rr)
section
variable {X:Cx}{a b c e:Expr}{es:List Expr}{fa fb fc f:Den}{g:x1o}{pos p p1 p2:Pos}
theorem z4m (hc:X.calm=true):x9q X (.builtin "all") (fun xs H Q=>∃ (a:Addr) (bs:List Bool),xs=[.ref a]/\SqL X.K H a (bs.map V.bl)/\Q (.bl (bs.all id)) H):=by
 intro pins s σ H xs us Q I r h
 obtain⟨l,bs,rfl,hq,q⟩:=h
 obtain⟨u,rfl,ru⟩:=y33 r
 cases ru
 obtain⟨its,rv,pl,hz⟩:=I.list hq
 have hb:=y48 rv
 have hl:s.heap.IsList l its.toArray:=pl.isList
 have lt:l<s.heap.objs.size:=by obtain⟨_,e,_⟩:=hl;exact Heap.lt_size e
 refine call_all_walk (wpAny_pyIter_list hl ⟨s.heap.objs.size,[s.heap.objs.size,l],[s.heap.objs.size],its.toArray.size,_,_,fun i=>(bs[i]?).getD true,rfl,Walks.list (A:=X.A.in1) (I.ok.hd hc) _ l (Nat.ne_of_lt lt) its.toArray,
  ⟨⟨_,Heap.get?_push_size _ rfl,rfl,rfl⟩,hl.push _⟩,fun i v s' Q' E' hP hQ=>?_,fun h' tk hk=>?_⟩)
 ·obtain⟨b,e,rfl⟩:=hb.get i v (by simpa using hP)
  simp only[e,Option.getD_some]at hQ
  exact wpAny_truthy_bool hQ
 ·have e:((List.range its.toArray.size).all fun i=>(bs[i]?).getD true)=bs.all id:=by
   rw[List.size_toArray,hb.length];exact LSm.range_all bs
  rw[e]
  exact⟨.bl (bs.all id),H,I.kept fun b o z=>hk b o (fun m=>by rw[List.mem_singleton.mp m]at z;exact Nat.lt_irrefl _ (Heap.lt_size z)) (Heap.get?_push_of_some _ z),rfl,q⟩
def z5e:List D->Option (List Bool)
 | []=>some []
 | .bl b::r=>(z5e r).map (b :: ·)
 | _=>none
def z8p:List D->Option D
 | [.lst ds]=>(z5e ds).map fun bs=>.bl (bs.all id)
 | _=>none
theorem y3u {K:PySem.W.Frag}{H:Hp}{w:Wn}{o:Ow}:∀ {ds:List D} {vs:List V} {bs:List Bool},Reps K H w o 0 ds vs []->z5e ds=some bs->vs=bs.map V.bl
 | ds,vs,bs,r,e=>by
  generalize hF:([]:List Addr)=F at r
  cases r with
  | nil=>cases e;rfl
  | @cons _ d v ds' vs' F' G' r1 r2 _=>
   have h2:G'=[]:=r2.zero
   subst h2
   cases r1 with
   | bl b=>
    unfold z5e at e
    cases e':z5e ds' with
    | none=>rw[e']at e;cases e
    | some bs'=>
     rw[e']at e
     cases e
     rw[y3u r2 e']
     rfl
   | _=>cases e
theorem j1y (hc:X.calm=true)(hm:X.mg "all" = none)(ha:PDA X [a] g)(hg:Gl X "all":=by rfl)(he:starEach [a] X.env=(false,eval a X.env)::starEach [] X.env:=by rfl)(hpl:(backTo pos (starEach [] X.env)).any (·.1)=false:=by rfl):PD X (.Call (.Name "all" p) [a] [] pos) (eB z8p g):=
 PE.imp (x4y (z4m hc) hg hm PyProof.Rows.boot_all ha (by decide) (by decide) he hpl) (y9c fun ds d h=>by
  unfold z8p at h
  split at h
  ·rename_i ds0
   cases e:z5e ds0 with
   | none=>rw[e]at h;cases h
   | some bs=>
    rw[e]at h
    cases h
    refine⟨_,rfl,fun H w vs wl r Q hq=>?_⟩
    obtain⟨v,rfl,rv⟩:=one r
    obtain⟨p,ys,rfl,hs,rs⟩:=rv.seqL0
    rw[y3u rs e]at hs
    exact⟨p,bs,rfl,hs,hq⟩
  ·cases h)
theorem z31 {α:Type}(l:List α)(f:α->Bool):z5e (l.map fun i=>.bl (f i))=some (l.map f):=by
 induction l with
 | nil=>rfl
 | cons a l ih=>rw[List.map_cons,z5e,ih];rfl
end
inductive IT where
 | int|bool|tuple|list|str
def IT.nm:IT->String
 | .int=>"int"
 | .bool=>"bool"
 | .tuple=>"tuple"
 | .list=>"list"
 | .str=>"str"
def isD:IT->D->Bool
 | .int,.int _=>true
 | .int,.bl _=>true
 | .bool,.bl _=>true
 | .tuple,.tup _=>true
 | .list,.lst _=>true
 | .str,.str _=>true
 | _,_=>false
def tyD:D->String
 | .non=>"NoneType"
 | .bl _=>"bool"
 | .int _=>"int"
 | .str _=>"str"
 | .tup _=>"tuple"
 | .dic _ _=>"dict"
 | .exc _=>"object"
 | .ob _ _ _ _=>"function"
 | .lst _=>"list"
section
variable {X:Cx}{pins:List (Addr×Obj)}{σ:St}{H:Hp}{s:Shared}
theorem j3b {w:Wn}{o:Ow}{q:Nat}{F:List Addr}{d:D}{x:V}{u c:Value}{b:Bool}{A:Around}{E:Value->Shared->Prop}{Q:Value->Shared->Prop}(I:Inv X pins σ H s)(rx:x3t x u)(r:Rep X.K H w o q d x F)
  (e:PySem.W.kitOne X.K (.type (tyD d)) c=some b) (hx:∀ nm,d ≠ .exc nm) (h:∀ tk,Q (.bool b) { s with toks:=tk }):wpAny (model X.prog X.w) A (call (.builtin "isinstance") [u,c]) Q E s:=by
 cases r with
 | exc _ _ _=>exact absurd rfl (hx _)
 | ob h1 h2 x r=>
  cases rx
  obtain⟨e1,_⟩:=(show x2b X.prog X.w H s.heap _ (.frz _ _)from I.hok _ _ h1)
  exact PySem.W.kia_one z1y I.kIn ⟨_,e1,x.1⟩ e (fun z=>nomatch z) h
 | non=>exact x3y I rx .non e h
 | bl y=>exact x3y I rx (.bl y) e h
 | int i=>exact x3y I rx (.int i) e h
 | str y=>exact x3y I rx (.str y) e h
 | tup ha _=>exact x3y I rx (.tup ha) e h
 | dic ha _=>exact x3y I rx (.dK ha) e h
 | kl ha _=>
  obtain⟨ob,its,n,hk,hc,hd,_⟩:=ha
  cases rx
  exact PySem.W.kia_one PySem.W.kitx_list I.kIn ⟨ob,I.kIn _ _ hk,hc⟩ e (fun z=>nomatch z) h
 | shr ha _ _=>
  rcases ha with ha|⟨ob,ha⟩
  ·exact x3y I rx (.lst ha) e h
  ·exact x3y I rx (.frz ha) e h
 | own ha _ _ _=>exact x3y I rx (.lst ha) e h
theorem z7i {K:PySem.W.Frag}(T:IT)(d:D)(hx:∀ nm,d ≠ .exc nm):PySem.W.kitOne K (.type (tyD d)) (.type T.nm)=some (isD T d):=by
 cases T<;>cases d<;>first|rfl|exact absurd rfl (hx _)
end
section
variable {X:Cx}{a b c e:Expr}{es:List Expr}{fa fb fc f:Den}{ga gb:x1p}{g:x1o}{pos p p1 p2 pT:Pos}
theorem z3b (T:IT):x9q X (.builtin "isinstance") (fun xs H Q=>∃ x w o q F d,xs=[x,.ty T.nm]/\Rep X.K H w o q d x F/\Q (.bl (isD T d)) H):=by
 intro pins s σ H xs us Q I r h
 obtain⟨x,w,o,q,F,d,rfl,rd,hq⟩:=h
 obtain⟨u,v,rfl,ru,rv⟩:=z3f r
 cases rv
 by_cases hx:∃ nm,d=.exc nm
 ·obtain⟨nm,rfl⟩:=hx
  cases rd with
  | exc ha xo _=>
   obtain⟨C,hc,k⟩:=xo
   cases ru
   obtain⟨e1,_⟩:=(show x2b X.prog X.w H s.heap _ (.frz _ _)from I.hok _ _ ha)
   have hT:isD T (.exc nm)=false:=by cases T<;>rfl
   rw[hT]at hq
   refine j2h (x:=_) I.kIn ⟨e1,hc⟩ k.xc (by cases T<;>kernel_rfl) (k.no _ (by cases T<;>simp[IT.nm])) ⟨.bl false,H,I.tok _,rfl,hq⟩
 ·exact j3b I ru rd (z7i T d fun nm z=>hx ⟨nm,z⟩) (fun nm z=>hx ⟨nm,z⟩) fun tk=>⟨.bl (isD T d),H,I.tok _,rfl,hq⟩
@[simp] def z5t (T:IT)(fa:Den):Den:=fun ρ=>match fa ρ with
 | some (d,_,ρ1)=>some (.bl (isD T d),9,ρ1)
 | none=>none
theorem j3f (T:IT){t:Str}(hm:X.mg "isinstance" = none)(hmT:X.mg t=none)(hbT:bootBuiltins t=some (.type T.nm))(ha:PD X a fa)(hg:Gl X "isinstance":=by rfl)(hgT:Gl X t:=by rfl)(hnT:t ≠ "__name__":=by decide)(hdT:(t==("__debug__":Str))=false:=by decide)
  (hs:starEach [a,.Name t pT] X.env=(false,eval a X.env)::starEach [.Name t pT] X.env:=by rfl) (hpl:(backTo pos (starEach [.Name t pT] X.env)).any (·.1)=false:=by rfl):PD X (.Call (.Name "isinstance" p) [a,.Name t pT] [] pos) (z5t T fa):=
 PE.imp (x4y (z3b T) hg hm PyProof.Rows.boot_isinstance (x3x ha (x3x (y9r (v:=.ty T.nm) hgT hmT hbT rfl hnT hdT) x7x x04) hs) (by decide) (by decide) hs hpl) fun σ H Q hh0=>by
 obtain⟨ρ,w,t,r',q,ρ',gd,ee,k⟩:=hh0
 unfold z5t at ee
 split at ee
 ·rename_i d q1 ρ1 h1
  cases ee
  refine⟨ρ,w,t,_,_,_,gd,h1,fun v H1 w1 F1 g1 go1 r1=>?_⟩
  exact⟨v,w1,_,_,F1,d,rfl,r1,k _ H1 (x1q t w1) [] g1.drop.up (go1.drop gd.wt) (.bl _)⟩
 ·cases ee
@[simp] def eCh (g1 g2:D->D->Option D)(fa fb fc:Den):Den:=fun ρ=>match fa ρ with
 | some (x,_,ρ1)=>match fb ρ1 with
  | some (y,_,ρ2)=>match g1 x y with
   | some (.bl true)=>match fc ρ2 with
    | some (z,_,ρ3)=>match g2 y z with
     | some d=>some (d,9,ρ3)
     | none=>none
    | none=>none
   | some (.bl false)=>some (.bl false,9,ρ2)
   | _=>none
  | none=>none
 | none=>none
theorem j2n {op op':CmpOp}{g1 g2:Int->Int->Option D}{h1 h2:Int->Int->V}(ho:OpR X (compareOp op) (rI0 h1))(ho':OpR X (compareOp op') (rI0 h2))(e1:∀ i j d,g1 i j=some d->y35 d=some (h1 i j))(e2':∀ i j d,g2 i j=some d->y35 d=some (h2 i j))
  (ha:PD X a fa) (hb:PD X b fb) (hc:PD X c fc) (hm:lastMarks [op,op'] [b,c]=false:=by with_unfolding_all rfl):PD X (.Compare a [op,op'] [b,c] pos) (eCh (gI g1) (gI g2) fa fb fc):=PE.imp (z3r ho ho' ha hb hc hm) fun σ H Q hh0=>by
 obtain⟨ρ,w,t,r',q,ρ',gd,ee,k⟩:=hh0
 unfold eCh at ee
 split at ee
 ·rename_i x q1 ρ1 a1
  split at ee
  ·rename_i y q2 ρ2 a2
   refine j05 gd a1 a2 fun u v H2 w2 F1 F2 g2' go2 r1 r2=>?_
   have gg:=g2'.drop (t':=t)
   split at ee
   ·rename_i hg
    obtain⟨i,j,rfl,rfl,hg'⟩:=y0n hg
    refine⟨i,j,x4h r1,x4h r2,true,by have:=e1 i j _ hg';simpa [y35]using this.symm,?_⟩
    rw[if_pos rfl]
    split at ee
    ·rename_i z q3 ρ3 a3
     refine⟨ρ2,x1q t w2,t,z,q3,ρ3,gg,a3,fun v3 H3 w3 F3 g3 go3 r3=>?_⟩
     split at ee
     ·rename_i d hd
      cases ee
      obtain⟨j',l,ej,rfl,hd'⟩:=y0n hd
      cases ej
      exact⟨j,l,x4h r2,x4h r3,z9j k gd g3 ((go2.drop gd.wt).trans go3) (y3l (e2' j l _ hd'))⟩
     ·cases ee
    ·cases ee
   ·rename_i hg
    obtain⟨i,j,rfl,rfl,hg'⟩:=y0n hg
    cases ee
    refine⟨i,j,x4h r1,x4h r2,false,by have:=e1 i j _ hg';simpa [y35]using this.symm,?_⟩
    rw[if_neg (by decide)]
    exact z9j k gd g2' go2 (.bl false)
   ·cases ee
  ·cases ee
 ·cases ee
theorem y5b (ha:PD X a fa)(hb:PD X b fb)(hc:PD X c fc)(hm:lastMarks [.LtE,.Lt] [b,c]=false:=by with_unfolding_all rfl):PD X (.Compare a [.LtE,.Lt] [b,c] pos) (eCh dLe dLt fa fb fc):=
 j2n j5x j1r (fun i j d h=>by cases h;rfl) (fun i j d h=>by cases h;rfl) ha hb hc hm
@[simp] def z9g (fa:Den):Den:=fun ρ=>match fa ρ with
 | some (.int i,_,ρ1)=>some (.int (-i),9,ρ1)
 | _=>none
theorem j0k (ha:PD X a fa):PD X (.UnaryOp .USub a pos) (z9g fa):=PE.imp (j4v j2q ha) fun σ H Q hh0=>by
 obtain⟨ρ,w,t,r',q,ρ',gd,ee,k⟩:=hh0
 unfold z9g at ee
 split at ee
 ·rename_i i q1 ρ1 h1
  cases ee
  refine⟨ρ,w,t,_,_,_,gd,h1,fun v H1 w1 F1 g1 go1 r1=>?_⟩
  exact⟨i,x4h r1,k _ H1 (x1q t w1) [] g1.drop.up (go1.drop gd.wt) (.int _)⟩
 ·cases ee
section
variable {prog:Program}{w:World}{A:Around}{E:Value->Shared->Prop}{s:Shared}
theorem z35 (l b:Addr)(us vs:Array Value)(n m:Nat)(d1 d2:Option Addr)(s1 s2:Array (Option Value))(h0:us.isEmpty=true) :
  Meets (Builtin.«tuple.__add__» ⟨[.ref l,.ref b],[]⟩) (fun _ R s=>s.heap.get? l=some { cls:=.type "tuple",dict:=d1,data:=.seq us n,slots:=s1 }/\s.heap.get? b=some { cls:=.type "tuple",dict:=d2,data:=.seq vs m,slots:=s2 }/\R (.ok (.ret (.ref b))) s):=
 .of_wp fun prog w A R s h=>by
  obtain⟨hp,g,d,tk,os⟩:=s
  obtain⟨hl,hb,h⟩:=h
  have f2:=AutoSeq1.sub_tuple_tuple
  wp_walk using wpAny_loadPart' hl,wpAny_loadPart' hb
  exact⟨_,rfl,h⟩
theorem z1e {t b:Addr}{ws:List Value}{Q:Value->Shared->Prop}(ht:IsTup s.heap t #[])(hb:IsTup s.heap b ws.toArray)(h:Q (.ref b) s):wpAny (model prog w) A (binaryOp .Add (.ref t) (.ref b)) Q E s:=by
 obtain⟨⟨c1,d1,a1,s1⟩,e1,hc1,n1,ha1⟩:=id ht
 obtain⟨⟨c2,d2,a2,s2⟩,e2,hc2,n2,ha2⟩:=id hb
 simp only at hc1 ha1 hc2 ha2
 subst hc1 ha1 hc2 ha2
 exact concat_meets ⟨_,e1,rfl⟩ ⟨_,e2,rfl⟩ noFill_tuple_add seq_tuple_add PySem.F.slot_tuple_add PySem.F.entry_tuple_add (PySem.F.args_tuple_add_2 _ _) (z35 t b #[] ws.toArray n1 n2 d1 d2 s1 s2 rfl) ⟨e1,e2,h⟩
end
theorem z87:OpR X (binaryOp .Add) (fun x y H Q=>∃ a b ys,x=.ref a/\y=.ref b/\SqT X.K H a []/\SqT X.K H b ys/\Q (.ref b) H):=by
 intro pins s σ H x y v u Q I rx ry h
 obtain⟨a,b,ys,rfl,rfl,ha,hb,q⟩:=h
 cases rx
 cases ry
 obtain⟨its,r1,p1,_⟩:=I.tuple ha
 obtain⟨its2,r2,p2,_⟩:=I.tuple hb
 cases r1
 exact z1e p1 p2 ⟨.ref b,H,I,rfl,q⟩
theorem OpR.or {f:Value->Value->Sem Value}{r r':R2}(h:OpR X f r)(h':OpR X f r'):OpR X f (fun x y H Q=>r x y H Q\/r' x y H Q):=fun pins s σ H x y v u Q I rx ry q=>q.elim (fun z=>h pins s σ H x y v u Q I rx ry z) fun z=>h' pins s σ H x y v u Q I rx ry z
@[simp] def z5b (fa fb:Den):Den:=fun ρ=>match fa ρ with
 | some (.tup ds,_,ρ1)=>match fb ρ1 with
  | some (.tup es,_,ρ2)=>if ds.length+es.length<=1000 then some (.tup (ds++es),9,ρ2)else none
  | _=>none
 | _=>none
theorem j3u (ha:PD X a fa)(hb:PD X b fb):PD X (.BinOp a .Add b pos) (z5b fa fb):=PE.imp (y4r (OpR.or z87 z7s) ha hb) fun σ H Q hh0=>by
 obtain⟨ρ,w,t,r',q,ρ',gd,ee,k⟩:=hh0
 unfold z5b at ee
 split at ee
 ·rename_i ds q1 ρ1 h1
  split at ee
  ·rename_i es q2 ρ2 h2
   split at ee
   ·rename_i hl
    cases ee
    refine j05 gd h1 h2 fun u u' H2 w2 F1 F2 g2 go r1 r2=>?_
    have r10:=r1.drop (o:=.f) (Nat.le_refl t)
    have r20:=r2.drop (o:=.f) (Nat.le_succ t)
    have gg:=g2.drop (t':=t)
    have gog:=go.drop gd.wt
    obtain⟨p1,vs,rfl,q1',s1⟩:=r10.seqT
    obtain⟨p2,us,rfl,q2',s2⟩:=r20.seqT
    have l1:=s1.length
    have l2:=s2.length
    cases ds with
    | nil=>
     have:vs=[]:=List.length_eq_zero_iff.mp (by rw[<- l1];rfl)
     subst this
     refine .inl ⟨p1,p2,us,rfl,rfl,q1',q2',k _ H2 (x1q t w2) [] gg.up gog ?_⟩
     exact(Rep.go gg.wl (fun a x e n=>⟨sm e,n⟩) r20 (fun _ z=>nomatch z):Rep X.K H2 (x1q t w2) (.t t) 0 _ _ []).nolist rfl |>.2 9
    | cons d ds=>
     refine .inr ⟨p1,p2,vs,us,rfl,rfl,q1',q2',(fun z=>by rw[z]at l1;cases l1),x9d (by rw[<- l1,<- l2];exact hl),fun z=>?_,fun _ p hp=>?_⟩
     ·have:es=[]:=List.length_eq_zero_iff.mp (by rw[l2,z];rfl)
      subst this
      rw[List.append_nil]at k
      exact k _ H2 (x1q t w2) [] gg.up gog ((Rep.go gg.wl (fun a x e n=>⟨sm e,n⟩) r10 (fun _ z=>nomatch z):Rep X.K H2 (x1q t w2) (.t t) 0 _ _ []).nolist rfl |>.2 9)
     ·obtain⟨a1,a2,a3⟩:=y1p gg hp (s2.app s1)
      exact k _ _ _ _ a1 (gog.trans a2) a3
   ·cases ee
  ·cases ee
 ·cases ee
abbrev z5u:=Rho->Option (Option Int×Rho)
def tDO (K:PySem.W.Frag)(f:z5u):TO:=fun σ H Q=>∃ ρ w t o ρ',Good K ρ σ H w t/\f ρ=some (o,ρ')/\∀ H' w',Good K ρ' σ H' w' t->Go H w H' w'->Q o H'
abbrev PDO (X:Cx)(e:Option Expr)(f:z5u):Prop:=PO X e (tDO X.K f)
@[simp] def z4q:z5u:=fun ρ=>some (none,ρ)
@[simp] def z04 (f:Den):z5u:=fun ρ=>match f ρ with
 | some (.int i,_,ρ1)=>some (some i,ρ1)
 | _=>none
theorem PO.imp {e:Option Expr}{t t':TO}(h:PO X e t)(i:∀ σ H Q,t' σ H Q->t σ H Q):PO X e t':=fun pins s σ H Q I q=>h pins s σ H Q I (i σ H Q q)
theorem z1x:PDO X none z4q:=PO.imp z7x fun σ H Q hh0=>by
 obtain⟨ρ,w,t,o,ρ',gd,ee,k⟩:=hh0
 cases ee
 exact k H w gd Go.refl
theorem z2s (h:PD X e f):PDO X (some e) (z04 f):=PO.imp (z7t h) fun σ H Q hh0=>by
 obtain⟨ρ,w,t,o,ρ',gd,ee,k⟩:=hh0
 unfold z04 at ee
 split at ee
 ·rename_i i q1 ρ1 h1
  cases ee
  exact⟨ρ,w,t,_,_,_,gd,h1,fun v H1 w1 F1 g1 go1 r1=>⟨i,x4h r1,k H1 (x1q t w1) g1.drop (go1.drop gd.wt)⟩⟩
 ·cases ee
section
variable {prog:Program}{w:World}{A:Around}{E:Value->Shared->Prop}{s:Shared}
theorem y8p {t sl:Addr}{us:Array Value}{vl vu:Value}{lo hi:Option Int}{Q:Value->Shared->Prop}(ht:IsTup s.heap t us)(hs:s.heap.IsSliceOf sl vl vu .none)(pl:IsPart vl lo)(pu:IsPart vu hi)
  (hw:HT.sIx us.size 0 lo=0/\HT.sIx us.size us.size hi=us.size) (h:Q (.ref t) s):wpAny (model prog w) A (getItem (.ref t) (.ref sl)) Q E s:=by
 obtain⟨os,hos,hcs,hds⟩:=id hs
 have ts:s.TypeIs (.ref sl) "slice":=⟨os,hos,hcs⟩
 unfold getItem
 try with_reducible refine wpAny_holding ?_
 first|refine wpAny_bind (wpAny_pure ?_)|skip
 refine wpAny_bind (wpAny_sequenceKey ht.typeIs (by decide) (wpAny_bind (wpAny_callSpecial?_slot (name:=Str.ofString "__getitem__") ht.typeIs PyProof.Rows.slot_tuple_getitem (wpAny_call_entry PyProof.Rows.slot_tuple_getitem ht.typeIs entry_tuple_getitem ?_ (args_tuple_getitem _ _)))))
 show wpAny _ _ (Builtin.Tuple.tupleItemsOf (.ref t) >>= _) _ _ s
 refine wpAny_bind (tupleItemsOf_ ht (wpAny_bind (wpAny_typeOf ts ?_)))
 rw[if_pos (by decide)]
 refine wpAny_bind (HT.x9l hs pl pu ?_)
 have yes:(((HT.sIx us.size 0 lo:Nat):Int)==0&&(1:Int)==1&&(HT.sIx us.size us.size hi-HT.sIx us.size 0 lo)==us.size)=true:=by rw[hw.1,hw.2];simp
 show wpAny _ _ (if(((HT.sIx us.size 0 lo:Nat):Int)==0&&(1:Int)==1&&(HT.sIx us.size us.size hi-HT.sIx us.size 0 lo)==us.size)=true then _ else _) _ _ s
 rw[if_pos yes]
 refine wpAny_bind (m:=Builtin.Tuple.tupleIsExact _) ?_
 unfold Builtin.Tuple.tupleIsExact
 refine wpAny_bind (wpAny_typeOf ht.typeIs (wpAny_pure ?_))
 rw[if_pos (by decide)]
 exact wpAny_bind (wpAny_rule (wpAny_pure ⟨_,rfl,wpAny_pure h⟩))
end
def j2t (xs:List D)(lo hi:Option Int):List D:=(xs.drop (HT.sIx xs.length 0 lo)).take (HT.sIx xs.length xs.length hi-HT.sIx xs.length 0 lo)
@[simp] def eSl (fa:Den)(fl fh:z5u):Den:=fun ρ=>match fa ρ with
 | some (.tup ds,_,ρ1)=>match fl ρ1 with
  | some (lo,ρ2)=>match fh ρ2 with
   | some (hi,ρ3)=>some (.tup (j2t ds lo hi),9,ρ3)
   | none=>none
  | none=>none
 | _=>none
theorem Reps.take0 {K:PySem.W.Frag}{H:Hp}{w:Wn}:∀ {ds:List D} {vs:List V} (i:Nat),Reps K H w .f 0 ds vs []->Reps K H w .f 0 (ds.take i) (vs.take i) []
 | _,_,0,_=>by rw[List.take_zero,List.take_zero];exact .nil
 | ds,vs,i+1,r=>by
  generalize hF:([]:List Addr)=F at r
  cases r with
  | nil=>exact .nil
  | cons r s _=>
   have h2:=s.zero
   have h1:=r.zero
   subst h2
   subst h1
   exact .cons (F:=[]) (G:=[]) r (Reps.take0 i s) (fun _ z=>nomatch z)
theorem z26:SlR X (fun x lo hi H Q=>∃ a xs,x=.ref a/\SqT X.K H a xs/\(HT.sIx xs.length 0 lo=0/\HT.sIx xs.length xs.length hi=xs.length)/\Q (.ref a) H):=by
 intro pins s σ H x v vl vu lo hi sl Q I rx hs pl pu h
 obtain⟨a,xs,rfl,hx,hw,q⟩:=h
 cases rx
 obtain⟨its,r,ht,hz⟩:=I.tuple hx
 have hlen:its.toArray.size=xs.length:=by rw[List.size_toArray];exact r.length.symm
 exact⟨"tuple",_,PyProof.Rows.slot_tuple_getitem.lookup,ht.typeIs,y8p ht hs pl pu (by rw[hlen];exact hw) ⟨.ref a,H,I,rfl,q⟩⟩
theorem j68 {lo hi:Option Expr}{fl fh:z5u}(ha:PD X a fa)(hl:PDO X lo fl)(hh:PDO X hi fh):PD X (.Subscript a (.Slice lo hi none p2) pos) (eSl fa fl fh):=PE.imp (z3l (z26.or j1u) ha hl hh) fun σ H Q hh0=>by
 obtain⟨ρ,w,t,r',q,ρ',gd,ee,k⟩:=hh0
 unfold eSl at ee
 split at ee
 ·rename_i ds q1 ρ1 h1
  split at ee
  ·rename_i lo ρ2 h2
   split at ee
   ·rename_i hi ρ3 h3
    cases ee
    refine⟨ρ,w,t,_,_,_,gd,h1,fun v H1 w1 F1 g1 go1 r1=>?_⟩
    have gg1:=g1.drop (t':=t)
    have r0:=r1.drop (o:=.f) (Nat.le_refl t)
    refine⟨ρ1,x1q t w1,t,_,_,gg1,h2,fun H2 w2 g2 go2=>⟨ρ2,w2,t,_,_,g2,h3,fun H3 w3 g3 go3=>?_⟩⟩
    have r3:=(r0.go0 gg1.wl go2.stab).go0 g2.wl go3.stab
    obtain⟨p1,vs,rfl,q1',s1⟩:=r3.seqT
    have l1:=s1.length
    by_cases hw:HT.sIx ds.length 0 lo=0/\HT.sIx ds.length ds.length hi=ds.length
    ·have ec:j2t ds lo hi=ds:=by unfold j2t;rw[hw.1,hw.2,List.drop_zero,Nat.sub_zero,List.take_length]
     rw[ec]at k
     refine .inl ⟨p1,vs,rfl,q1',by rw[<- l1];exact hw,?_⟩
     exact k _ H3 w3 [] g3.up (((go1.drop gd.wt).trans go2).trans go3) ((Rep.go g3.wl (fun a x e n=>⟨sm e,n⟩) r3 (fun _ z=>nomatch z):Rep X.K H3 w3 (.t t) 0 _ _ []).nolist rfl |>.2 9)
    ·refine .inr ⟨p1,vs,rfl,q1',by rw[<- l1];exact hw,fun p hp=>?_⟩
     have s4:Reps X.K H3 w3 .f 0 (j2t ds lo hi) (z5i vs lo hi) []:=by
      unfold j2t z5i
      rw[<- l1]
      exact(s1.drop0 _).take0 _
     obtain⟨a1,a2,a3⟩:=y1p g3 hp s4
     exact k _ _ _ _ a1 ((((go1.drop gd.wt).trans go2).trans go3).trans a2) a3
   ·cases ee
  ·cases ee
 ·cases ee
end
section
variable {X:Cx}{k b n:Nat}{a c e tg:Expr}{es:List Expr}{pt:x54}{ps:x8z}{pos:Pos}{fa fb f:Den}
theorem y32 {p q r:x54}:∀ ds ρ ρ',x1d p (x1d q (x1d r x7j)) ds ρ=some ρ'->ds.length=3:=fun ds ρ ρ' h=>by
 match ds with
 | []=>cases h
 | [_]=>unfold x1d at h;simp at h;split at h<;>cases h
 | [_,_]=>unfold x1d at h;simp at h;split at h;(split at h<;>cases h);cases h
 | [_,_,_]=>rfl
 | _::_::_::_::_=>
  exfalso
  unfold x1d at h
  simp at h
  split at h
  ·split at h
   ·split at h<;>cases h
   ·cases h
  ·cases h
@[simp] def j0c (f:Den)(pt:x54):x16:=fun ρ=>match f ρ with
 | some (d,_,ρ1)=>match pt d ρ1 with
  | some ρ2=>some (.nx ρ2)
  | none=>none
 | none=>none
theorem z6e (he:PD X e f)(hg:PDG X 0 tg pt)(hs:swapsWithSole [tg] e pos.line X.env=pure false:=by rfl)(hw:swappedStores [tg] e X.env=pure none:=by rfl)(h1:(assignEach [tg] X.env).map (·.2)=[assign tg X.env]:=by rfl):PDS X (.Assign [tg] e pos) (j0c f pt):=PS.imp (z5v he hg hs hw h1) fun D σ H hh0=>by
 obtain⟨ρ,w,o,g,ee,k⟩:=hh0
 unfold j0c at ee
 split at ee
 ·rename_i d q ρ1 h1
  split at ee
  ·rename_i ρ2 h2
   cases ee
   refine⟨ρ,w,0,d,q,ρ1,g,h1,fun v H1 w1 F1 g1 go1 r1=>?_⟩
   exact⟨d,ρ1,x1q 0 w1,0,ρ2,g1.drop,r1.drop (Nat.le_refl 0),h2,fun σ' H' w' hl _ g' go'=>k σ' H' w' hl g' ((go1.drop g.wt).trans go')⟩
  ·cases ee
 ·cases ee
end
theorem y7x:fillsNumberSlot (.type "tuple") "mul" = pure false:=PySem.fillsNumberSlot_seq (id:="tuple.__mul__") (r:=some (.builtin "tuple.__rmul__")) F.slot_tuple_mul.lookup (by decide +kernel) F.slot_tuple_rmul.lookup (by decide +kernel)
theorem y7o:seqRepeat? (.type "tuple")=pure (some (.builtin "tuple.__mul__")):=by
 unfold seqRepeat?
 rw[PySem.seqSlot_of (T:="tuple") (name:="__mul__") (id:="tuple.__mul__") F.slot_tuple_mul.lookup (by decide +kernel),PySem.seqSlot_of (T:="tuple") (name:="__rmul__") (id:="tuple.__rmul__") F.slot_tuple_rmul.lookup (by decide +kernel)];rfl
theorem y4b (a:Int)(t:Tok)(l:Addr)(us:Array Value)(n:Nat)(dd:Option Addr)(sl:Array (Option Value)) :
  Meets (Builtin.«int.__rmul__» ⟨[.int a t,.ref l],[]⟩) (fun _ R s=>s.heap.get? l=some { cls:=.type "tuple",dict:=dd,data:=.seq us n,slots:=sl }/\R (.ok (.ret Value.notImplemented)) s):=.of_wp fun prog w A R s h=>by
 obtain⟨hp,g,d,tk,os⟩:=s
 obtain⟨hl,h⟩:=h
 wp_walk
 exact⟨_,rfl,h⟩
theorem z45 (t:Tok)(l:Addr)(us:Array Value)(n:Nat)(dd:Option Addr)(sl:Array (Option Value)) :
  Meets (Builtin.«tuple.__mul__» ⟨[.ref l,.int 1 t],[]⟩) (fun _ R s=>s.heap.get? l=some { cls:=.type "tuple",dict:=dd,data:=.seq us n,slots:=sl }/\R (.ok (.ret (.ref l))) s):=.of_wp fun prog w A R s h=>by
 obtain⟨hp,g,d,tk,os⟩:=s
 obtain⟨hl,h⟩:=h
 have f1:=AutoSeq1.idx_int
 wp_walk using wpAny_loadPart' hl
 exact⟨_,rfl,h⟩
theorem z44 (k:Int)(t:Tok)(l:Addr)(us:Array Value)(n:Nat)(dd:Option Addr)(sl:Array (Option Value))(h2:¬ (decide (k < -(2 ^ 63))||decide (k ≥ 2 ^ 63))=true)(h3:¬ (us.isEmpty||k==1)=true)(h4:¬ (decide (k<=0)||us.isEmpty)=true)(h5:¬ (us.size:Int)*k > (2 ^ 63-1) / 8)(h6:¬ Builtin.Tuple.tupleTooMany ((us.size:Int)*k)=true)(hsz:(List.foldl (· ++ ·) #[] (List.replicate k.toNat us)).size<=sizeLine) :
  Meets (Builtin.«tuple.__mul__» ⟨[.ref l,.int k t],[]⟩) (fun _ R s=>s.heap.get? l=some { cls:=.type "tuple",dict:=dd,data:=.seq us n,slots:=sl }/\R (.ok (.ret (.ref s.heap.objs.size))) { s with heap:=s.heap.push { cls:=.type "tuple",data:=.seq (List.foldl (· ++ ·) #[] (List.replicate k.toNat us)) } }):=.of_wp fun prog w A R s h=>by
 obtain⟨hp,g,d,tk,os⟩:=s
 obtain⟨hl,h⟩:=h
 have f1:=AutoSeq1.idx_int
 wp_walk using wpAny_loadPart' hl
 rw[if_neg h2]
 wp_walk using wpAny_loadPart' hl
 rw[if_neg h5]
 wp_walk using wpAny_loadPart' hl
 exact⟨_,rfl,h⟩
section
variable {X:Cx}{a b c e:Expr}{fa fb fc f:Den}{pos:Pos}
theorem z75:OpR X (binaryOp .Mult) (fun x y H Q=>∃ a k xs,x=.ref a/\y=.int k/\SqT X.K H a xs/\xs ≠ []/\1<=k/\xs.length*k.toNat<=1000/\(k=1->Q (.ref a) H)/\(k≠1->∀ p,H p=none->Q (.ref p) (upd H p (.tup (List.replicate k.toNat xs).flatten)))):=by
 intro pins s σ H x y v u Q I rx ry h
 obtain⟨l,k,xs,rfl,rfl,hq,hne,h1,hz,q1,q2⟩:=h
 cases rx
 obtain⟨t,rfl⟩:=ry
 obtain⟨its,r,pt,_⟩:=I.tuple hq
 obtain⟨⟨c1,d1,a1,s1⟩,e,hc1,n1,ha1⟩:=id pt
 simp only at hc1 ha1
 subst hc1 ha1
 have hl:=r.length
 have hpos:0<its.length:=by rw[<- hl];exact List.length_pos_iff.mpr hne
 refine wpAny_binaryOp_repeat_ref (T:="tuple") (U:="int") (by decide) ⟨_,e,rfl⟩ (fun s'=>typeIs_int s' k t) y7x F.fills_int_mul F.slot_int_rmul y7o F.slot_int_index.lookup
  (call_meets F.slot_int_rmul (typeIs_int s k t) F.entry_int_rmul (F.args_int_rmul_2 _ _) (y4b k t l its.toArray n1 d1 s1) ⟨e,rfl,⟨_,e,rfl⟩,?_⟩)
 by_cases hk:k=1
 ·subst hk
  exact call_meets F.slot_tuple_mul ⟨_,e,rfl⟩ F.entry_tuple_mul (F.args_tuple_mul_2 _ _) (z45 t l its.toArray n1 d1 s1) ⟨e,⟨.ref l,H,I,rfl,q1 rfl⟩⟩
 ·have hm:its.length*k.toNat<=1000:=by rw[<- hl];exact hz
  have hk':k.toNat<=1000:=by
   have:=Nat.le_mul_of_pos_left k.toNat hpos
   omega
  have f0:List.foldl (fun x1 x2=>x1++x2) #[] (List.replicate k.toNat its.toArray)=(List.replicate k.toNat its).flatten.toArray:=by
   have:=y0q its k.toNat []
   rw[List.nil_append]at this
   exact this
  have lf:(List.replicate k.toNat its).flatten.length<=1000:=by rw[y68,Nat.mul_comm];exact hm
  have em:((its.toArray.size:Nat):Int)*k=((its.length*k.toNat:Nat):Int):=by
   rw[List.size_toArray,Int.natCast_mul,Int.toNat_of_nonneg (by omega)]
  refine call_meets F.slot_tuple_mul ⟨_,e,rfl⟩ F.entry_tuple_mul (F.args_tuple_mul_2 _ _) (z44 k t l its.toArray n1 d1 s1 (by simp;omega) (by simp[hk];exact List.ne_nil_of_length_pos hpos) (by simp;exact⟨by omega,List.ne_nil_of_length_pos hpos⟩) (by rw[em];omega) (by
   unfold Builtin.Tuple.tupleTooMany
   rw[em]
   simp only[gt_iff_lt,decide_eq_true_eq,Int.not_lt]
   have:(1000:Nat)<=sizeLine:=by decide
   omega) (by rw[f0,List.size_toArray];exact x9d lf)) ⟨e,?_⟩
  rw[f0]
  refine⟨.ref s.heap.objs.size,_,I.laid (t':=s.toks) (o:=.tup (List.replicate k.toNat xs).flatten) (fun b ob q=>Heap.get?_push_of_some _ q) (Nat.le_refl _) ?_,rfl,q2 hk _ (I.hok.fresh (Nat.le_refl _))⟩
  exact⟨x9d (by rw[y68,Nat.mul_comm];exact hz),_,r.rep k.toNat,x5h.new _ _⟩
@[simp] def z0k (fa fb:Den):Den:=fun ρ=>match fa ρ with
 | some (.tup ds,_,ρ1)=>match fb ρ1 with
  | some (.int n,_,ρ2)=>if ds.isEmpty=false/\1<=n/\ds.length*n.toNat<=1000 then some (.tup (List.replicate n.toNat ds).flatten,9,ρ2)else none
  | _=>none
 | _=>none
theorem z96 (ha:PD X a fa)(hb:PD X b fb):PD X (.BinOp a .Mult b pos) (z0k fa fb):=PE.imp (y4r z75 ha hb) fun σ H Q hh0=>by
 obtain⟨ρ,w,t,r',q,ρ',gd,ee,k⟩:=hh0
 unfold z0k at ee
 split at ee
 ·rename_i ds q1 ρ1 h1
  split at ee
  ·rename_i n q2 ρ2 h2
   split at ee
   ·rename_i hl
    cases ee
    obtain⟨hd,hn,hz⟩:=hl
    refine j05 gd h1 h2 fun u u' H2 w2 F1 F2 g2 go r1 r2=>?_
    have r10:=r1.drop (o:=.f) (Nat.le_refl t)
    have gg:=g2.drop (t':=t)
    have gog:=go.drop gd.wt
    obtain⟨p1,vs,rfl,q1',s1⟩:=r10.seqT
    have l1:=s1.length
    refine⟨p1,n,vs,rfl,x4h r2,q1',fun z=>?_,hn,by rw[<- l1];exact hz,fun z=>?_,fun _ p hp=>?_⟩
    ·subst z
     have:ds=[]:=List.length_eq_zero_iff.mp l1
     subst this
     cases hd
    ·subst z
     have e:(List.replicate (Int.toNat 1) ds).flatten=ds:=by show(List.replicate 1 ds).flatten=ds;simp
     rw[e]at k
     exact k _ H2 (x1q t w2) [] gg.up gog ((Rep.go gg.wl (fun a x e n=>⟨sm e,n⟩) r10 (fun _ z=>nomatch z):Rep X.K H2 (x1q t w2) (.t t) 0 _ _ []).nolist rfl |>.2 9)
    ·obtain⟨a1,a2,a3⟩:=y1p gg hp (s1.times n.toNat)
     exact k _ _ _ _ a1 (gog.trans a2) a3
   ·cases ee
  ·cases ee
 ·cases ee
end
section
variable {X:Cx}{a b c e:Expr}{es:List Expr}{fa fb fc f:Den}{ga gb:x1p}{g:x1o}{pos p p1 p2 cpos apos:Pos}
@[simp] def j4c (i:Nat)(f:Den):Den:=fun ρ=>if y7s ρ[i]? = true then match f ρ with
 | some (.lst es,1,ρ1)=>match ρ1[i]? with
  | some (some (.lst ds,1))=>if ds.length+es.length<=1000 then some (.non,9,ρ1.set i (some (.lst (ds++es),1)))else none
  | _=>none
 | _=>none
 else none
theorem y9k {i:Nat}{x:Str}(h:PE X (.Name x p1) (x9r i))(ha:PD X e f)
  (hbase:attributeBase (.Name x p1) "extend" X.env (eval (.Name x p1) X.env)=eval (.Name x p1) X.env:=by rfl)
  (hfew:((backTo cpos (starEach [e] X.env)).all (fun x=>!x.1)&&(backToKw cpos (keywordEach [] X.env)).all (fun x=>x.1.isSome)
    && decide ([e].length+([]:List Keyword).length+(if([]:List Keyword).isEmpty then 0 else 1)<30))=true:=by rfl)
  (hline:(apos.endLine==cpos.line)=true:=by rfl) (hs:starEach [e] X.env=(false,eval e X.env)::starEach [] X.env:=by rfl) (hplain:(backTo cpos (starEach [] X.env)).any (·.1)=false:=by rfl) :
  PD X (.Call (.Attribute (.Name x p1) "extend" apos) [e] [] cpos) (j4c i f):=
 PE.imp (y8m PySem.F.plainAttrs_list PySem.F.slot_list_extend PySem.F.type_list_extend z08 h (x3x ha x7x hs) hbase hfew hline hs hplain) fun σ H Q hh0=>by
 obtain⟨ρ,w,t,r',q,ρ',gd,ee,k⟩:=hh0
 unfold j4c at ee
 split at ee
 ·rename_i hl
  obtain⟨l,hσ,us,hq⟩:=gd.isL hl
  split at ee
  ·rename_i es' ρ1 h1
   split at ee
   ·rename_i ds e1
    split at ee
    ·rename_i hlen
     cases ee
     refine⟨_,hσ,.inl ⟨rfl,us,hq⟩,ρ,w,t,_,_,_,gd,h1,fun v H1 w1 F1 g1 go1 r1=>?_⟩
     obtain⟨l',ws,hσ',hH,rs,mk⟩:=g1.mut e1
     rw[hσ]at hσ'
     cases hσ'
     cases r1 with
     | own hb _ rz _=>
      have z0:=rz.zero
      subst z0
      have rz':Reps X.K H1 w1 .f 0 es' _ []:=rz.any g1.wl
      obtain⟨m1,m2⟩:=mk _ _ (rz'.app rs)
      refine⟨l,_,ws,_,rfl,rfl,hH,hb,x9d (by rw[<- rs.length,<- rz'.length];exact hlen),?_⟩
      exact k .non _ w1 [] m1 (go1.trans m2) .non
    ·cases ee
   ·cases ee
  ·cases ee
 ·cases ee
end
section
variable {X:Cx}{a b c e:Expr}{es:List Expr}{fa fb fc f:Den}{ga gb gc:x1p}{g:x1o}{qa qb:y17}{s:x16}{pos p p1 p2 cpos apos:Pos}
@[simp] def y2a:x16:=fun _=>none
theorem y9e {st:Stmt}:PDS X st y2a:=PS.imp z1z fun D σ H hh0=>by obtain⟨ρ,w,o,g,ee,k⟩:=hh0;cases ee
def x6b (c:x1p)(b:x16):Nat->Rho->Option Out
 | 0,_=>none
 | m+1,ρ=>match c ρ with
  | none=>none
  | some (t,ρ1)=>if t=true then match b ρ1 with
    | none=>none
    | some (.nx ρ2)=>x6b c b m ρ2
    | some (.ct ρ2)=>x6b c b m ρ2
    | some (.bk ρ2)=>some (.nx ρ2)
    | some (.rt d q)=>some (.rt d q)
   else some (.nx ρ1)
def y6w (c:x1p)(b:x16):x16:=x6b c b 1000
theorem y9b {body:List Stmt}(hp:PassesOwn (model X.prog X.w) X.A X.env X.xe)(hc:PDT X c gc)(hb:y7m X body s):PDS X (.While c body [] pos) (y6w gc s):=
 PS.imp (z32 hp hc hb) fun D σ H hh0=>by
 obtain⟨ρ,w,o,g,ee,k⟩:=hh0
 refine⟨fun m σ' H'=>σ'.length=σ.length/\∃ ρ' w',Good X.K ρ' σ' H' w' 0/\x6b gc s m ρ'=some o/\y1i X.K D σ.length H' w' o,⟨1000,rfl,ρ,w,g,ee,k⟩,?_⟩
 rintro m σ' H' ⟨hσ,ρ',w',g',e',k'⟩
 cases m with
 | zero=>cases e'
 | succ m=>
  unfold x6b at e'
  split at e'
  ·cases e'
  ·rename_i t ρ1 h1
   refine⟨ρ',w',0,t,ρ1,g',h1,fun H1 w1 g1 go1=>?_⟩
   cases t with
   | true=>
    rw[if_pos rfl]at e' ⊢
    refine⟨fun σ2 H2=>σ2.length=σ.length/\∃ ρ2 w2,Good X.K ρ2 σ2 H2 w2 0/\x6b gc s m ρ2=some o/\y1i X.K D σ.length H2 w2 o,fun σ2 H2 n2=>⟨m,Nat.lt_succ_self m,n2⟩,?_⟩
    have nx:∀ {ρ5:Rho},x6b gc s m ρ5=some o->∀ σ5 H5 w5,σ5.length=σ'.length->Good X.K ρ5 σ5 H5 w5 0->Go H1 w1 H5 w5->σ5.length=σ.length/\∃ ρ2 w2,Good X.K ρ2 σ5 H5 w2 0/\x6b gc s m ρ2=some o/\y1i X.K D σ.length H5 w2 o:=fun {ρ5} e5 σ5 H5 w5 l5 g5 go5=>⟨by rw[l5,hσ],ρ5,w5,g5,e5,k'.trans (go1.trans go5)⟩
    cases h6:s ρ1 with
    | none=>rw[h6]at e';cases e'
    | some o6=>
     rw[h6]at e'
     refine⟨ρ1,w1,o6,g1,h6,?_⟩
     cases o6 with
     | nx ρ5=>exact nx e'
     | ct ρ5=>exact nx e'
     | bk ρ5=>
      cases e'
      exact fun σ5 H5 w5 l5 g5 go5=>k' σ5 H5 w5 (by rw[l5,hσ]) g5 (go1.trans go5)
     | rt d q=>
      cases e'
      exact fun v H5 w5 F wl5 go5 r5=>k' v H5 w5 F wl5 (go1.trans go5) r5
   | false=>
    rw[if_neg (by decide)]at e' ⊢
    cases e'
    exact k' σ' H1 w1 hσ g1 go1
@[simp] def j6x (n:Nat)(qi:y17)(fe:Den):x16:=fun ρ=>match fe ρ with
 | some (d,_,ρ1)=>match qi ρ1,ρ1[n]? with
  | some i,some (some (.lst ds,1))=>match ixN ds.length i with
   | some m=>some (.nx (ρ1.set n (some (.lst (ds.set m d),1))))
   | none=>none
  | _,_=>none
 | none=>none
def j4y (K:PySem.W.Frag):R2:=fun x y H Q=>∃ l b xs zs,x=.ref l/\y=.ref b/\SqL K H l xs/\SqL K H b zs/\xs.length+zs.length<=sizeLine/\∀ p,H p=none->Q (.ref p) (upd H p (.lst (xs++zs)))
theorem z9f:OpR X (binaryOp .Add) (j4y X.K):=by
 intro pins s σ H x y v u Q I rx ry h
 obtain⟨l,b,xs,zs,rfl,rfl,hH,hB,hz,q⟩:=h
 cases rx
 cases ry
 obtain⟨its,r,pl,z⟩:=I.list hH
 obtain⟨its2,r2,pl2,z2⟩:=I.list hB
 obtain⟨⟨cls,dd,data,sl⟩,n,ho,hc,_,hd⟩:=pl
 obtain⟨⟨cls2,dd2,data2,sl2⟩,n2,ho2,hc2,_,hd2⟩:=pl2
 simp only at hc hd hc2 hd2
 subst hc hd hc2 hd2
 have l1:=r.length
 have l2:=r2.length
 refine concat_meets ⟨_,ho,rfl⟩ ⟨_,ho2,rfl⟩ noFill_list_add seq_list_add PySem.F.slot_list_add PySem.F.entry_list_add (PySem.F.args_list_add_2 _ _) (list_addW l b its.toArray its2.toArray n n2 dd dd2 sl sl2 (by rw[List.size_toArray,List.size_toArray,<- l1,<- l2];exact hz)) ⟨ho,ho2,?_⟩
 have e:its.toArray++its2.toArray=(its++its2).toArray:=by simp
 rw[e]
 exact⟨.ref _,_,I.lnew (t':=s.toks) (r.append r2) (by rw[List.length_append];omega),rfl,q _ I.fresh⟩
@[simp] def z1m (fa fb:Den):Den:=fun ρ=>match fa ρ with
 | some (.lst ds,_,ρ1)=>match fb ρ1 with
  | some (.lst es,_,ρ2)=>if ds.length+es.length<=1000 then some (.lst (ds++es),1,ρ2)else none
  | _=>none
 | _=>none
theorem z71 (ha:PD X a fa)(hb:PD X b fb):PD X (.BinOp a .Add b pos) (z1m fa fb):=PE.imp (y4r z9f ha hb) fun σ H Q hh0=>by
 obtain⟨ρ,w,t,r',q,ρ',gd,ee,k⟩:=hh0
 unfold z1m at ee
 split at ee
 ·rename_i ds q1 ρ1 h1
  split at ee
  ·rename_i es q2 ρ2 h2
   split at ee
   ·rename_i hl
    cases ee
    refine j05 gd h1 h2 fun u u' H2 w2 F1 F2 g2 go r1 r2=>?_
    have r10:=r1.drop (o:=.f) (Nat.le_refl t)
    have r20:=r2.drop (o:=.f) (Nat.le_succ t)
    have gg:=g2.drop (t':=t)
    have gog:=go.drop gd.wt
    obtain⟨p1,vs,rfl,q1',s1⟩:=r10.seqL0
    obtain⟨p2,us,rfl,q2',s2⟩:=r20.seqL0
    refine⟨p1,p2,vs,us,rfl,rfl,q1',q2',x9d (by rw[<- s1.length,<- s2.length];exact hl),fun p hp=>?_⟩
    obtain⟨a1,a2,a3⟩:=y85 gg hp (s2.app s1)
    exact k _ _ _ _ a1 (gog.trans a2) a3
   ·cases ee
  ·cases ee
 ·cases ee
end
section
variable {X:Cx}{a b c e:Expr}{es:List Expr}{fa fb fc f:Den}{ga gb gc:x1p}{g:x1o}{qa qb:y17}{s:x16}{pos p p1 p2 p3 cpos apos:Pos}
@[simp] def x7q (n:Nat)(c:Int):y17:=fun ρ=>match ρ[n]? with
 | some (some (.tup es,_))=>match L2.atI es c with
  | some d=>match x95 d with
   | some m=>some (Int.ofNat m)
   | none=>none
  | none=>none
 | _=>none
theorem z29 {n j:Nat}{c:Int}{x:Str}(hm:X.mg "len" = none)(h:PE X (.Name x p1) (x9r n))(hg:Gl X "len":=by rfl)(hs:x4t (.Constant (.int c) j p2):=by exact fun _ _=>rfl)
  (he:starEach [.Subscript (.Name x p1) (.Constant (.int c) j p2) p3] X.env=(false,eval (.Subscript (.Name x p1) (.Constant (.int c) j p2) p3) X.env)::starEach [] X.env:=by rfl) (hpl:(backTo pos (starEach [] X.env)).any (·.1)=false:=by rfl) :
  PQ X (.Call (.Name "len" p) [.Subscript (.Name x p1) (.Constant (.int c) j p2) p3] [] pos) (x7q n c):=
 PE.imp (x4y x6f hg hm PySem.boot_len (x3x (z0o y53 h z5c hs) x7x he) (by decide) (by decide) he hpl) fun σ H Q hh0=>by
 obtain⟨ρ,w,t,i,gd,ee,k⟩:=hh0
 unfold x7q at ee
 split at ee
 ·rename_i es q e0
  split at ee
  ·rename_i d hd
   split at ee
   ·rename_i m hm'
    cases ee
    obtain⟨v,F,h1,h2⟩:=gd.slot n _ _ e0
    obtain⟨p0,vs,rfl,hq,rs⟩:=h2.seqT
    obtain⟨u,hu,ru⟩:=rs.atI hd
    obtain⟨p',ys,rfl,hs',hl⟩:=ru.len hm'
    exact⟨_,h1,.inr (.inl ⟨p0,vs,c,_,rfl,rfl,hq,hu,p',ys,rfl,hs',by rw[hl];exact k⟩)⟩
   ·cases ee
  ·cases ee
 ·cases ee
@[simp] def y8g (k l:Str)(qa qb:y17):Den:=fun ρ=>match qa ρ,qb ρ with
 | some i,some j=>some (.dic [k,l] [.int i,.int j],9,ρ)
 | _,_=>none
theorem j2v {K:PySem.W.Frag}{ρ:Rho}{σ:St}{t:Nat}{H1:Hp}{p:Addr}{ks:List Str}{vs:List V}{ds:List D}{w1:Wn}(g:Good K ρ σ H1 w1 t)(hp:H1 p=none)(r:Reps K H1 w1 .f 0 ds vs []) :
  Good K ρ σ (upd H1 p (.dK (kvL ks vs))) w1 (t+1)/\Go H1 w1 (upd H1 p (.dK (kvL ks vs))) w1/\Rep K (upd H1 p (.dK (kvL ks vs))) w1 (.t t) 9 (.dic ks ds) (.ref p) []:=by
 have ne:∀ a x,H1 a=some x->a≠p:=fun a x e=>x0u e hp
 have nw:∀ a o,w1 a=some o->a≠p:=fun a o e=>by obtain⟨vs,q⟩:=g.wl a o e;exact ne a _ q
 have st:x71 H1 w1 (upd H1 p (.dK (kvL ks vs))) w1:=fun a x e n=>⟨sm (by rw[x0i (ne a x e)];exact e),n⟩
 refine⟨⟨⟨fun a o e=>?_,g.wl.tb.upd rfl (.inl hp)⟩,g.ws,fun a i e=>Nat.lt_succ_of_lt (g.wt a i e),g.len,fun i d q e=>?_⟩,⟨st,fun a o e _=>⟨x0i (nw a o e),e⟩⟩,?_⟩
 ·obtain⟨us,q⟩:=g.wl a o e
  exact⟨us,by rw[x0i (nw a o e)];exact q⟩
 ·obtain⟨v,F,h1,h2⟩:=g.slot i d q e
  exact⟨v,F,h1,Rep.go g.wl st h2 fun a m=>⟨x0i (nw a _ (h2.owns a m)),h2.owns a m⟩⟩
 ·exact .dic x0w (Reps.go g.wl st r (fun _ z=>nomatch z))
theorem z8g {k l:Str}{j1 j2:Nat}(hkl:k≠l)(ha:PQ X a qa)(hb:PQ X b qb) :
  PD X (.Dict [some (.Constant (.str k) j1 p1),some (.Constant (.str l) j2 p2)] [a,b] pos) (y8g k l qa qb):=
 PE.imp (z8d (y7c y6x ha (y7c y6x hb z9m)) rfl rfl (by simp) (by show 2<=15;decide)) fun σ H Q hh0=>by
 obtain⟨ρ,w,t,r',q,ρ',gd,ee,kk⟩:=hh0
 unfold y8g at ee
 split at ee
 ·rename_i i j hi hj
  cases ee
  intro p0 hp
  have ne:∀ a x,H a=some x->upd H p0 (.dK []) a=some x:=fun a x e=>by rw[x0i (x0u e hp)];exact e
  obtain⟨g1,go1⟩:=gd.more ⟨ne,fun t=>t.upd rfl (.inl hp)⟩
  refine⟨ρ,w,t,i,g1,hi,ρ,w,t,j,g1,hj,x0w,[(.inr k,.int i),(.inr l,.int j)],rfl,by show 2<=15;decide,?_⟩
  have e:y0h [] [((.inr k:Key),V.int i),(.inr l,.int j)]=kvL [k,l] [.int i,.int j]:=by
   have hkl':¬ ((Sum.inr k:Key)=.inr l):=fun z=>hkl (Sum.inr.inj z)
   simp[y0h,z4v,kvL,hkl']
  rw[e,z8b]
  obtain⟨a1,a2,a3⟩:=j2v (ks:=[k,l]) (ds:=[.int i,.int j]) (vs:=[.int i,.int j]) gd hp (.cons (F:=[]) (G:=[]) (.int i) (.cons (F:=[]) (G:=[]) (.int j) .nil (fun _ z=>nomatch z)) (fun _ z=>nomatch z))
  exact kk _ _ _ _ a1 a2 a3
 ·cases ee
def y58:List Str->List D->Str->Option D
 | x::ks,d::ds,k=>if x=k then some d else y58 ks ds k
 | _,_,_=>none
@[simp] def z3o (fo fe ff:Den):Den:=fun ρ=>match fo ρ with
 | some (.dic ks ds,_,ρ1)=>match fe ρ1 with
  | some (.str k,_,ρ2)=>match ff ρ2 with
   | some (z,_,ρ3)=>some ((y58 ks ds k).getD z,y1e ((y58 ks ds k).getD z),ρ3)
   | none=>none
  | _=>none
 | _=>none
theorem y70 {K:PySem.W.Frag}{H:Hp}{w:Wn}{o:Ow}(k:Str):∀ {ks:List Str} {ds:List D} {vs:List V},Reps K H w o 0 ds vs []->
  (∀ d,y58 ks ds k=some d->∃ v,y7d (kvL ks vs) (.inr k)=some v/\Rep K H w o 0 d v [])/\(y58 ks ds k=none->y7d (kvL ks vs) (.inr k)=none)
 | [],ds,vs,r=>by
  refine⟨fun d h=>?_,fun _=>rfl⟩
  unfold y58 at h
  cases h
 | x::ks,ds,vs,r=>by
  generalize hF:([]:List Addr)=F at r
  cases r with
  | nil=>exact⟨(fun d h=>by unfold y58 at h;cases h),fun _=>rfl⟩
  | @cons _ d' v' ds' vs' F' G' r s _=>
   have h1:F'=[]:=r.zero
   have h2:G'=[]:=s.zero
   subst h1 h2
   have ih:=y70 k (ks:=ks) s
   by_cases hx:x=k
   ·subst hx
    refine⟨fun d h=>?_,fun h=>?_⟩
    ·unfold y58 at h
     rw[if_pos rfl]at h
     cases h
     exact⟨v',y3j rfl,r⟩
    ·unfold y58 at h
     rw[if_pos rfl]at h
     cases h
   ·have hk:¬ ((Sum.inr x:Key)=.inr k):=fun z=>hx (Sum.inr.inj z)
    have e:y7d (kvL (x::ks) (v'::vs')) (.inr k)=y7d (kvL ks vs') (.inr k):=y3i hk
    rw[e]
    unfold y58
    rw[if_neg hx]
    exact ih
theorem z7b {k:Nat}(hr:Room k X.A)(ho:PD X a fa)(he:PD X b fb)(hf:PD X c fc)
  (hbase:attributeBase a "get" X.env (eval a X.env)=eval a X.env:=by rfl)
  (hfew:((backTo cpos (starEach [b,c] X.env)).all (fun x=>!x.1)&&(backToKw cpos (keywordEach [] X.env)).all (fun x=>x.1.isSome)
    && decide (([b,c]:List Expr).length+([]:List Keyword).length+(if([]:List Keyword).isEmpty then 0 else 1)<30))=true:=by rfl)
  (hline:(apos.endLine==cpos.line)=true:=by rfl) (htr:backTo cpos (starEach [b,c] X.env)=[(false,eval b X.env),(false,eval c X.env)]:=by rfl) :
  PD X (.Call (.Attribute a "get" apos) [b,c] [] cpos) (z3o fa fb fc):=
 PE.imp (z4y (j5o hr) ho he hf ⟨hbase,hfew,hline,htr⟩) fun σ H Q hh0=>by
 obtain⟨ρ,w,t,r',q,ρ',gd,ee,kk⟩:=hh0
 unfold z3o at ee
 split at ee
 ·rename_i ks ds q1 ρ1 h1
  split at ee
  ·rename_i k0 q2 ρ2 h2
   split at ee
   ·rename_i z q3 ρ3 h3
    cases ee
    refine⟨ρ,w,t,_,_,_,gd,h1,fun x H1 w1 F1 g1 go1 r1=>?_⟩
    have r1':=r1
    cases r1' with
    | @dic _ a0 _ vs0 _ hH0 _=>
     refine⟨a0,rfl,.inl ⟨_,.inl hH0⟩,ρ1,w1,t+1,_,_,_,g1,h2,fun y H2 w2 F2 g2 go2 r2=>⟨ρ2,w2,t+2,_,_,_,g2,h3,fun zv H3 w3 F3 g3 go3 r3=>?_⟩⟩
     have hy:y=kV (.inr k0):=by cases r2;rfl
     subst hy
     have r13:=(r1.gone g1.wl (go2.trans go3)).drop (o:=.t t) (Nat.le_refl t)
     have rz:=r3.drop (o:=.t t) (t':=t) (by omega)
     have go:=(go1.trans go2).trans go3
     cases r13 with
     | @dic _ _ _ vs _ hH rs=>
      obtain⟨v1,v2⟩:=y70 (ks:=ks) k0 rs
      refine⟨_,j2z.k hH,?_⟩
      cases hg:y58 ks ds k0 with
      | none=>
       rw[v2 hg]
       rw[hg]at kk
       exact z9j kk gd g3 go rz.dep
      | some d=>
       obtain⟨v,ev,rv⟩:=v1 d hg
       rw[ev]
       rw[hg]at kk
       exact z9j kk gd g3 go rv.dep
   ·cases ee
  ·cases ee
 ·cases ee
theorem z89 {x1w:List Expr}{env:Env}{ks:List (Option Expr)}{vs:List Expr}:starEach (.Dict ks vs pos::x1w) env=(false,eval (.Dict ks vs pos) env)::starEach x1w env:=by simp only[starEach]
end
theorem j3k {prog:Program}{w:World}{A:Around}(hh:A.handled=none)(it p:Addr)(hne:p≠it)(items:Array Value) :
  Draws prog w A it [it,p] items.size (fun i v=>items[i]? = some v) (fun i h=>h.IsTupleIter it p i/\h.IsTuple p items) where
 live:=fun _ _ st=>by obtain⟨⟨o,ho,_⟩,_⟩:=st;exact⟨o,ho⟩
 frame:=fun _ _ _ st hk=>by
  obtain⟨a,⟨o,e,r⟩⟩:=st
  exact⟨a.at fun o e=>hk it (by simp) o e,⟨o,hk p (by simp) o e,r⟩⟩
 item:=fun i s Q E hi st hQ=>by
  refine y86 st.1 st.2 (v:=items[i]) (by simp[hi]) fun h' hit' hs'=>?_
  exact hQ _ h' s.toks (by simp[hi]) ⟨hit',st.2.extBut hs'.extBut hne⟩ hs'
 done:=fun s Q E st hE=>y90 hh st.1 st.2 (by simp) hE
section
variable {prog:Program}{w:World}{A:Around}{E:Value->Shared->Prop}{s:Shared}
theorem y9f {p:Addr}{xs:Array Value}{Q:Value->Shared->Prop}(t1:s.heap.IsTuple p xs)
  (k:∀ h',IsEnum h' (s.heap.objs.size+1) s.heap.objs.size 0 .none->h'.IsTupleIter s.heap.objs.size p 0->h'.objs.size=s.heap.objs.size+2->
    (∀ b o,s.heap.get? b=some o->h'.get? b=some o)->Q (.ref (s.heap.objs.size+1)) { s with heap:=h' }) :
  wpAny (model prog w) A (call (.type "enumerate") [.ref p]) Q E s:=by
 have mt:Meets (Builtin.«enumerate.__new__» ⟨[.type "enumerate",.ref p],[]⟩) (fun _ R s'=>s'=s /\
   R (.ok (.ret (.ref (s.heap.push { cls:=.type "tuple_iterator",data:=.fields #[.ref p,.int 0 0] }).objs.size)))
    { s with heap:=(s.heap.push { cls:=.type "tuple_iterator",data:=.fields #[.ref p,.int 0 0] }).push { cls:=.type "enumerate",data:=.fields #[.none,.bool false,.ref s.heap.objs.size,rawInt 0,.none,.none] } }):=.of_wp fun prog w A R s' h=>by
  obtain⟨rfl,h⟩:=h
  have hsub:=sub_enumerate
  obtain⟨hp,gn,dr,tk,os⟩:=s'
  have q1:Heap.IsTuple (Shared.heap ⟨hp,gn,dr,tk,os⟩) p xs:=t1
  wp_walk using wpAny_pyIter_tuple q1
  refine wpAny_stack_any fun st=>wpAny_pure ?_
  split
  ·rename_i c _ _ _ _ _
   cases (c==Value.type "enumerate")
   ·wp_walk using wpAny_pyIter_tuple q1
    exact⟨_,rfl,h⟩
   ·wp_walk using wpAny_pyIter_tuple q1
    exact⟨_,rfl,h⟩
  ·wp_walk using wpAny_pyIter_tuple q1
   exact⟨_,rfl,h⟩
 refine callType_new F.called_enumerate (by decide) (F.typeCall_enumerate_1 _) (F.newCall_enumerate_1 _) (fun obj=>F.args_object_init_2 obj _) F.entry_enumerate_new mt ⟨rfl,?_⟩
 have hz:(s.heap.push { cls:=.type "tuple_iterator",data:=.fields #[.ref p,.int 0 0] }).objs.size=s.heap.objs.size+1:=Heap.size_push ..
 show _/\_
 rw[hz]
 have he:IsEnum ((s.heap.push { cls:=.type "tuple_iterator",data:=.fields #[.ref p,.int 0 0] }).push
   { cls:=.type "enumerate",data:=.fields #[.none,.bool false,.ref s.heap.objs.size,rawInt 0,.none,.none] }) (s.heap.objs.size+1) s.heap.objs.size 0 .none:=by
  have:=Heap.get?_push_size (s.heap.push { cls:=.type "tuple_iterator",data:=.fields #[.ref p,.int 0 0] })
   (o:={ cls:=.type "enumerate",data:=.fields #[.none,.bool false,.ref s.heap.objs.size,rawInt 0,.none,.none] }) rfl
  rw[hz]at this;exact this
 exact⟨⟨_,he,rfl⟩,k _ he ⟨_,Heap.get?_push_of_some _ (Heap.get?_push_size _ rfl),rfl,rfl⟩ (by rw[Heap.size_push,hz]) fun b o x=>Heap.get?_push_of_some _ (Heap.get?_push_of_some _ x)⟩
end
structure Src (P:Program) (w:World) (K:PySem.W.Frag) (it p:Addr) (Sq:Hp->List V->Prop) (tn:Nat->Heap->Prop):Prop where
 keep:∀ i h h',tn i h->(∀ o,h.get? it=some o->h'.get? it=some o)->tn i h'
 obj:∀ i h,tn i h->∃ o vs,h.get? it=some o/\o.data=.fields vs
 draw:∀ (X:Cx),X.prog=P->X.w=w->X.K=K->X.calm=true->∀ (pins:List (Addr×Obj)) (s:Shared) (σ:St) (H:Hp) (xs:List V),Inv X pins σ H s->Sq H xs->∃ (us:List Value) (St:Nat->Heap->Prop),x2i xs us /\
  Draws P w X.A.in1 it [it,p] us.length (fun i v=>us[i]? = some v) St/\(∀ i,tn i s.heap->St i s.heap)/\(∀ i h,St i h->tn i h)/\∀ ys,Sq H ys->ys=xs
theorem z2a {P:Program}{w:World}{K:PySem.W.Frag}{it p:Addr}(hne:p≠it):Src P w K it p (fun H xs=>SqL K H p xs) (fun i h=>h.IsListIter it p i) where
 keep:=fun i h h' st k=>st.at k
 obj:=fun i h st=>by obtain⟨o,e,c,d⟩:=st;exact⟨o,_,e,d⟩
 draw:=fun X hP hw hK hc pins s σ H xs I hq=>by
  subst hP hw hK
  obtain⟨its,rv,pl,_⟩:=I.list hq
  have D:=Draws.list (prog:=X.prog) (w:=X.w) (A:=X.A.in1) (I.ok.hd hc) it p hne its.toArray
  rw[List.size_toArray]at D
  exact⟨its,(fun i h=>h.IsListIter it p i/\h.IsList p its.toArray),rv,(by simpa using D),fun i st=>⟨st,pl.isList⟩,fun i h st=>st.1,fun ys hy=>I.list_inj hy hq⟩
theorem j02 {P:Program}{w:World}{K:PySem.W.Frag}{it p:Addr}(hne:p≠it):Src P w K it p (fun H xs=>SqT K H p xs) (fun i h=>h.IsTupleIter it p i) where
 keep:=fun i h h' st k=>st.at k
 obj:=fun i h st=>by obtain⟨o,e,c,d⟩:=st;exact⟨o,_,e,d⟩
 draw:=fun X hP hw hK hc pins s σ H xs I hq=>by
  subst hP hw hK
  obtain⟨its,rv,pl,_⟩:=I.tuple hq
  have D:=j3k (prog:=X.prog) (w:=X.w) (A:=X.A.in1) (I.ok.hd hc) it p hne its.toArray
  rw[List.size_toArray]at D
  exact⟨its,(fun i h=>h.IsTupleIter it p i/\h.IsTuple p its.toArray),rv,(by simpa using D),fun i st=>⟨st,pl⟩,fun i h st=>st.1,fun ys hy=>I.tuple_inj hy hq⟩
def Ite (Sq:Hp->List V->Prop):It:=
 ⟨fun i H=>∃ xs x,Sq H xs/\xs[i]? = some x,
  fun i H v H'=>∃ T x,v=.ref T/\H T=none/\(∀ xs,Sq H xs->xs[i]? = some x)/\H'=upd H T (.tup [.int (Int.ofNat i),x]),
  fun i H=>∃ xs,Sq H xs/\xs.length=i⟩
theorem z16 {P:Program}{w:World}{K:PySem.W.Frag}{elts:List Expr}{kt:Nat}{tp:Pos}{e it p:Addr}{Sq:Hp->List V->Prop}{tn:Nat->Heap->Prop}(S:Src P w K it p Sq tn)(hne:e≠it)(hp:e≠p) :
  Turn P w K (.Tuple elts kt tp) (Ite Sq) [e,it] e (fun i h=>(∃ old,IsEnum h e it i old)/\tn i h) where
 mem:=by simp
 obj:=fun i h st b hb=>by
  obtain⟨⟨old,he⟩,st⟩:=st
  simp only[List.mem_cons,List.not_mem_nil,or_false]at hb
  rcases hb with rfl|rfl
  ·exact⟨_,he,fun v e=>nomatch e⟩
  ·obtain⟨o,vs,e,d⟩:=S.obj i h st
   exact⟨o,e,fun v z=>by rw[d]at z;cases z⟩
 keep:=fun i h h' st k=>by
  obtain⟨⟨old,he⟩,st⟩:=st
  exact⟨⟨old,k e (by simp) _ he⟩,S.keep i h h' st fun o z=>k it (by simp) o z⟩
 item:=by
  intro X hP hw hK hc i pins s σ H E I hf st hg
  obtain⟨⟨old,he⟩,st⟩:=st
  obtain⟨xs,x,hq,hx⟩:=hg
  obtain⟨us,St,rv,D,s1,s2,inj⟩:=S.draw X hP hw hK hc pins s σ H xs I hq
  obtain⟨u,hu,ru⟩:=rv.get hx
  have hlt:i<us.length:=(List.getElem?_eq_some_iff.mp hu).1
  refine wpAny_pyNext_enum_itemD D he (s1 i st) hlt hne (by simp[hne,hp]) fun u' g tk hP' ho hs' hT hsz hk=>?_
  have eu:u'=u:=by rw[hu]at hP';exact(Option.some.inj hP').symm
  subst eu
  refine⟨_,rfl,wpAny_letOwnedTupleGo_enum (s:={ s with heap:=g,toks:=tk+1 }) ho fun g' he' sb=>?_⟩
  have sb':Heap.SameBut e g g':=sb
  have fr:H s.heap.objs.size=none:=I.hok.fresh (Nat.le_refl _)
  have ri:x3t (.int (Int.ofNat i)) (.int i tk):=⟨tk,rfl⟩
  have I1:Inv X pins σ (upd H s.heap.objs.size (.tup [.int (Int.ofNat i),x])) { s with heap:=s.heap.push { cls:=.type "tuple",data:=.seq #[.int i tk,u'] } }:=
   I.laid (t':=s.toks) (fun b q e=>Heap.get?_push_of_some _ e) (Nat.le_refl _) (show x2b X.prog X.w _ _ _ (.tup _)from⟨(by show 2<=sizeLine;decide),[.int i tk,u'],.cons ri (.cons ru .nil),x5h.new _ _⟩)
  have lt:∀ b ∈ [e,it],b<s.heap.objs.size:=fun b hb=>by
   simp only[List.mem_cons,List.not_mem_nil,or_false]at hb
   rcases hb with rfl|rfl
   ·exact Heap.lt_size he
   ·obtain⟨o,_,e,_⟩:=S.obj i _ st;exact Heap.lt_size e
  have hn:∀ b ∈ [e,it],upd H s.heap.objs.size (.tup [.int (Int.ofNat i),x]) b=none:=fun b hb=>by rw[x0i (Nat.ne_of_lt (lt b hb))];exact(hf b hb).1
  have I2:Inv X pins σ (upd H s.heap.objs.size (.tup [.int (Int.ofNat i),x])) { s with heap:=g',toks:=tk+1 }:=z73 (s:={ s with heap:=s.heap.push { cls:=.type "tuple",data:=.seq #[.int i tk,u'] } }) (t':=tk+1) (ch:=[e,it]) I1 (fun b q nb z=>by
   have b1:b≠e:=fun h=>nb (by simp[h])
   have b2:b≠it:=fun h=>nb (by simp[h])
   rcases Heap.get?_push_cases z with⟨rfl,rfl⟩|z'
   ·exact sb'.extBut _ _ b1 hT
   ·exact sb'.extBut _ _ b1 (hk b q b1 b2 z')) fun b hb=>by
     obtain⟨f0,f1,f2,f3,f4,f5⟩:=hf b hb
     exact⟨hn b hb,f1,f2,f3,f4,f5⟩
  refine⟨.ref s.heap.objs.size,_,I2,rfl,⟨s.heap.objs.size,x,rfl,fr,fun zs hz=>?_,rfl⟩,⟨⟨_,he'⟩,?_⟩,hn⟩
  ·rw[inj zs hz];exact hx
  ·exact S.keep _ _ _ (s2 _ _ hs') fun o z=>sb'.extBut _ _ (Ne.symm hne) z
 done:=by
  intro X hP hw hK hc i pins s σ H E I hf st hg
  obtain⟨⟨old,he⟩,st⟩:=st
  obtain⟨xs,hq,hx⟩:=hg
  obtain⟨us,St,rv,D,s1,s2,inj⟩:=S.draw X hP hw hK hc pins s σ H xs I hq
  have hl:us.length=i:=by rw[<- rv.length];exact hx
  subst hl
  refine wpAny_pyNext_enum_endD D he (s1 _ st) fun g kp=>⟨rfl,?_⟩
  obtain⟨f0,f1,f2,f3,f4,f5⟩:=hf it (by simp)
  exact I.turned (t':=s.toks) (fun b o hb z=>kp b o hb z) f0 f1 f3 f4 f5
 self:=fun _ _ _ _ _ st h=>by
  obtain⟨⟨old,he⟩,_⟩:=st
  exact wpAny_pyIter_enum he h
section
variable {X:Cx}{a b c e:Expr}{es elts:List Expr}{fa fb fc f:Den}{g:x1o}{pos p p1 p2 tp:Pos}{kt:Nat}
def j7i (K:PySem.W.Frag)(ta:TA):TI:=fun σ H R=>ta σ H fun vs H1=>∃ p,vs=[.ref p]/\(((∃ xs,SqL K H1 p xs)/\R (Ite fun H xs=>SqL K H p xs) H1)\/((∃ xs,SqT K H1 p xs)/\R (Ite fun H xs=>SqT K H p xs) H1))
theorem z6q {ta:TA}(hg:Gl X "enumerate")(hm:X.mg "enumerate" = none)(ha:PA X [a] ta)(hs:starEach [a] X.env=[(false,eval a X.env)]:=by rfl) :
  PI X (.Tuple elts kt tp) (.Call (.Name "enumerate" p) [a] [] pos) (j7i X.K ta):=by
 intro pins s σ H R I h
 refine Call_ (y21 I hg hm boot_enumerate (PyProof.Rows.callWith_type1 (thn (ha pos pins s σ H _ I h) fun us s1 ⟨vs,H1,I1,r1,q1⟩=>?_) hs rfl))
 obtain⟨q,ee,hq⟩:=q1
 subst ee
 cases r1 with
 | cons r rr=>
  cases rr
  cases r
  have ne1:s1.heap.objs.size+1≠s1.heap.objs.size:=Nat.succ_ne_self _
  have fin:∀ {g:Heap} {Sq:Hp->List V->Prop} {tn:Nat->Heap->Prop},q<s1.heap.objs.size->Src X.prog X.w X.K s1.heap.objs.size q Sq tn->IsEnum g (s1.heap.objs.size+1) s1.heap.objs.size 0 .none->tn 0 g->(∀ b o,s1.heap.get? b=some o->g.get? b=some o)->R (Ite Sq) H1->
    wpAny (model X.prog X.w) X.A (pyIter (.ref (s1.heap.objs.size+1))) (PIE X pins σ (.Tuple elts kt tp) R) X.xe { s1 with heap:=g }:=fun {g Sq tn} lq S he ht kp hR=>by
   have ne2:s1.heap.objs.size+1≠q:=Nat.ne_of_gt (Nat.lt_succ_of_lt lq)
   refine wpAny_pyIter_enum he ⟨s1.heap.objs.size+1,[s1.heap.objs.size+1,s1.heap.objs.size],_,_,H1,rfl,I1.kept (t':=s1.toks) kp,z16 S ne1 ne2,⟨⟨_,he⟩,ht⟩,fun b hb=>?_,hR⟩
   have far:s1.heap.objs.size<=b:=by
    simp only[List.mem_cons,List.not_mem_nil,or_false]at hb
    rcases hb with rfl|rfl
    ·exact Nat.le_add_right _ _
    ·exact Nat.le_refl _
   exact I1.fpOk far (I1.hok.fresh far)
  rcases hq with⟨⟨xs,hx⟩,hR⟩|⟨⟨xs,hx⟩,hR⟩
  ·obtain⟨its,rv,pl,_⟩:=I1.list hx
   have lq:q<s1.heap.objs.size:=by obtain⟨_,e,_⟩:=pl.isList;exact Heap.lt_size e
   exact call_enumerate_list pl.isList fun g he hi _ kp=>fin lq (z2a (Nat.ne_of_lt lq)) he hi kp hR
  ·obtain⟨its,rv,pl,_⟩:=I1.tuple hx
   have lq:q<s1.heap.objs.size:=by obtain⟨_,e,_⟩:=pl;exact Heap.lt_size e
   exact y9f (show s1.heap.IsTuple q its.toArray from pl) fun g he hi _ kp=>fin lq (j02 (Nat.ne_of_lt lq)) he hi kp hR
def y1a (ds:List D):List D:=ds.zipIdx.map fun x=>.tup [.int (Int.ofNat x.2),x.1]
theorem x8d (ds:List D):(y1a ds).length=ds.length:=by simp[y1a]
theorem y4u (ds:List D)(i:Nat):(y1a ds)[i]? = (ds[i]?).map fun d=>.tup [.int (Int.ofNat i),d]:=by
 simp only[y1a,List.getElem?_map,List.getElem?_zipIdx,Option.map_map]
 cases ds[i]? with
 | none=>rfl
 | some d=>simp
@[simp] def y9m (g:x1o):x9w:=fun ρ=>match g ρ with
 | some ([.lst ds],ρ1)=>if ds.length<=1000 then some (y1a ds,ρ1)else none
 | some ([.tup ds],ρ1)=>if ds.length<=1000 then some (y1a ds,ρ1)else none
 | _=>none
theorem It.enum {K:PySem.W.Frag}{Sq:Hp->List V->Prop}{vs:List V}{ds:List D}{P:Hp->Wn->Prop}(hl:ds.length=vs.length)(sq:∀ H w,P H w->Sq H vs/\Reps K H w .f 0 ds vs [])(ps:∀ H w H' w',P H w->WL K w H->x71 H w H' w'->P H' w'):ItOk K (Ite Sq) (y1a ds) P:=by
 refine⟨fun i H w p hi=>⟨vs,vs[i]'(by rw[x8d]at hi;omega),(sq H w p).1,by simp⟩,fun i H w x H' d p wl hd y=>?_,fun H w p=>⟨vs,(sq H w p).1,by rw[x8d];exact hl.symm⟩,ps⟩
 obtain⟨T,v,rfl,hT,hv,rfl⟩:=y
 obtain⟨q1,r1⟩:=sq H w p
 rw[y4u]at hd
 cases hz:ds[i]? with
 | none=>rw[hz]at hd;cases hd
 | some d0=>
  rw[hz]at hd
  cases hd
  obtain⟨v',hv',rv⟩:=r1.get hz
  have ev:v'=v:=by have:=hv vs q1;rw[hv']at this;exact Option.some.inj this
  subst ev
  have mo:∀ a o,H a=some o->upd H T (.tup [.int (Int.ofNat i),v']) a=some o:=fun a o e=>by rw[x0i (x0u e hT)];exact e
  have st:x71 H w (upd H T (.tup [.int (Int.ofNat i),v'])) w:=fun a x e n=>⟨sm (mo a x e),n⟩
  exact⟨⟨mo,fun t=>t.upd rfl (.inl hT)⟩,.tup x0w (.cons (F:=[]) (G:=[]) (.int _) (.cons (F:=[]) (G:=[]) (Rep.go0 rv wl st) .nil (fun _ z=>nomatch z)) (fun _ z=>nomatch z)),ps _ _ _ _ p wl st⟩
theorem z23 (hm:X.mg "enumerate" = none)(ha:PDA X [a] g)(hg:Gl X "enumerate":=by rfl)(hs:starEach [a] X.env=[(false,eval a X.env)]:=by rfl) :
  PDI X (.Tuple elts kt tp) (.Call (.Name "enumerate" p) [a] [] pos) (y9m g):=PI.imp (z6q hg hm ha hs) fun σ H R hh0=>by
 obtain⟨ρ,w,t,ds,ρ',gd,ee,k⟩:=hh0
 unfold y9m at ee
 split at ee
 ·rename_i d1 ρ1 h1
  split at ee
  ·rename_i hl
   cases ee
   refine⟨ρ,w,t,_,_,gd,h1,fun vs H1 w1 g1 go1 r1=>?_⟩
   obtain⟨v,rfl,rv⟩:=one r1
   have hz:(y1a d1).length<sizeLine:=by rw[x8d];exact x4b hl
   cases rv with
   | kl h r=>exact⟨_,rfl,.inl ⟨⟨_,h.sq⟩,k _ _ H1 w1 g1 go1 (It.enum (P:=fun H w=>(KL X.K _ _\/False)/\Reps X.K H w .f 0 d1 _ []) r.length (fun H w p=>⟨p.1.elim (fun z=>z.sq) fun z=>z.elim,p.2⟩) fun H w H' w' p wl st=>⟨p.1,Reps.go wl st p.2 (fun _ z=>nomatch z)⟩) ⟨.inl h,r⟩ hz⟩⟩
   | shr h n r=>exact⟨_,rfl,.inl ⟨⟨_,.inl h⟩,k _ _ H1 w1 g1 go1 (It.enum (P:=fun H w=>(Rd H _ (.lst _)/\w _=none)/\Reps X.K H w .f 0 d1 _ []) r.length (fun H w p=>⟨.inl p.1.1,p.2⟩) fun H w H' w' p wl st=>⟨RdL.go st p.1.2 p.1.1,Reps.go wl st p.2 (fun _ z=>nomatch z)⟩) ⟨⟨h,n⟩,r⟩ hz⟩⟩
  ·cases ee
 ·rename_i d1 ρ1 h1
  split at ee
  ·rename_i hl
   cases ee
   refine⟨ρ,w,t,_,_,gd,h1,fun vs H1 w1 g1 go1 r1=>?_⟩
   obtain⟨v,rfl,rv⟩:=one r1
   have hz:(y1a d1).length<sizeLine:=by rw[x8d];exact x4b hl
   obtain⟨p1,as,rfl,q1,s1⟩:=rv.seqT
   exact⟨p1,rfl,.inr ⟨⟨_,q1⟩,k _ _ H1 w1 g1 go1 (It.enum (P:=fun H w=>SqT X.K H p1 as/\Reps X.K H w .f 0 d1 as []) s1.length (fun H w p=>p) fun H w H' w' p wl st=>⟨SqT.go wl st p.1,Reps.go wl st p.2 (fun _ z=>nomatch z)⟩) ⟨q1,s1⟩ hz⟩⟩
  ·cases ee
 ·cases ee
end
end L3
namespace L3
open PySem PySem.Spec PyProof.Rows PySem.W L2
theorem z4j {P:Program}{w:World}{H:Hp}{h:Heap}{a:Addr}{o:HO}(x:x2b P w H h a o):∃ ob,h.get? a=some ob:=by
 cases o with
 | lst xs=>obtain⟨_,_,_,_,e⟩:=x;exact⟨_,e⟩
 | tup xs=>obtain⟨_,_,_,o,e,_⟩:=x;exact⟨_,e⟩
 | dK kvs=>obtain⟨_,_,_,_,o,_,_,e,_⟩:=x;exact⟨_,e⟩
 | dT kvs=>obtain⟨_,_,_,_,o,_,_,e,_⟩:=x;exact⟨_,e⟩
 | set S n=>obtain⟨o,_,_,_,e,_⟩:=x;exact⟨_,e⟩
 | ins C dx fs=>obtain⟨_,_,_,e,_⟩:=x;exact⟨_,e⟩
 | own y=>obtain⟨_,e⟩:=x;exact⟨_,e⟩
 | xd fs=>obtain⟨_,⟨_,_,_,e,_⟩,_⟩:=x;exact⟨_,e⟩
 | rng lo hi=>obtain⟨_,_,_,e⟩:=x;exact⟨_,e⟩
 | frz ob u=>obtain⟨e,_⟩:=x;exact⟨_,e⟩
 | tbl ps=>exact⟨_,(show h.get? a=some _ from x)⟩
 | met f y=>exact⟨_,(show h.get? a=some _ from x)⟩
 | ext φ=>obtain⟨_,⟨_,e⟩,_⟩:=x;exact⟨_,e⟩
theorem y31 {P:Program}{w:World}{H:Hp}{h h':Heap}(x:HOk P w H h)(k:∀ b u o,H b=some u->h.get? b=some o->h'.get? b=some o):HOk P w H h':=fun b u e=>
 (x b u e).stay (fun c o hc q=>by
  rcases hc with z|z
  ·rw[z]at q ⊢;exact k b u o e q
  ·exact k c _ o z q) (fun _ q=>q) fun _ _ q=>q
structure Fly (P:Program) (w:World) (outer:List Env) (H:Hp) (s:Shared) (a C t:Addr) (B:Heap) (H':Hp) (s':Shared):Prop where
 os:s'.os=s.os
 bare:AllBare s'.gens
 un:Un (frs outer) [] H H' s.heap s'.heap
 hok:HOk P w H' s'.heap
 fl:Heap.FlyingW B outer a (.ref C) (.ref t) s'.heap
 old:∀ b o,s.heap.get? b=some o->H b=none->b ∉ frs outer->B.get? b=some o
 oldT:∀ b o,s.heap.get? b=some o->b ∉ frs outer->∃ o',B.get? b=some o'
 trk:∀ b u o,H' b=some u->s'.heap.get? b=some o->B.get? b=some o
 free:H' a=none
def CXF (P:Program)(w:World):CXT:=fun outer H s E e s'=>∃ (a C t:Addr) (B:Heap) (H':Hp),e=.ref a/\Fly P w outer H s a C t B H' s'/\E (.ref C) none H'
section
variable {P:Program}{w:World}{K:PySem.W.Frag}{mg:Str->Option Value}{base:Heap}{N:List Str}{qual:Str}{scope:Scope}{f:Addr}{cd:Value}{A:Around}{outer:List Env}{s₀:Shared}{H₀:Hp}{E:XK}{pins:List (Addr×Obj)}{σ:St}{H:Hp}{s:Shared}
abbrev cxF (P:Program)(w:World)(K:PySem.W.Frag)(mg:Str->Option Value)(base:Heap)(N:List Str)(qual:Str)(scope:Scope)(f:Addr)(cd:Value)(A:Around)(outer:List Env)(s₀:Shared)(H₀:Hp)(E:XK):Cx:=y2h (CXF P w) P w K mg base N qual scope f cd A outer s₀ H₀ E
theorem y4q (I:Inv (cxF P w K mg base N qual scope f cd A outer s₀ H₀ E) pins σ H s){b:Addr}(hb:b∈frs outer){o:Obj}(e:s.heap.get? b=some o):∀ vs,o.data ≠ .fields vs:=by
 obtain⟨_,o',ho,hd⟩:=I.funs.mem hb
 rw[e]at ho;cases ho
 exact hd
theorem y6g {h':Heap}{e C:Addr}{vs:List Value}(I:Inv (cxF P w K mg base N qual scope f cd A outer s₀ H₀ E) pins σ H s)(hm:Heap.MadeExcOf s.heap h' e (.ref C) vs)(hE:E (.ref C) none H) :
  (cxF P w K mg base N qual scope f cd A outer s₀ H₀ E).xe (.ref e) { s with heap:=h' }:=by
 have nL:∀ b o,s₀.heap.get? b=some o->b≠s₀.heap.objs.size:=fun b o q=>Nat.ne_of_lt (Heap.lt_size q)
 have hid:∀ b o,s.heap.get? b=some o->b≠s₀.heap.objs.size->b ∉ frs outer->(hideAll s.heap (frs (envOfC qual scope s₀.heap.objs.size f cd::outer))).get? b=some o:=fun b o q n1 n2=>hideAll_get _ q fun hm=>by
  rcases List.mem_cons.mp (show b∈s₀.heap.objs.size::frs outer from hm)with z|z
  ·exact n1 z
  ·exact n2 z
 have hin:∀ env∈(envOfC qual scope s₀.heap.objs.size f cd::outer),∀ b,env.frame=some b->b∈frs (envOfC qual scope s₀.heap.objs.size f cd::outer):=fun env he b hb=>List.mem_filterMap.mpr ⟨env,he,hb⟩
 have nstk:∀ b u,H b=some u->b≠s₀.heap.objs.size/\b ∉ frs outer:=fun b u q=>by
  refine⟨fun z=>?_,fun z=>?_⟩
  ·have:=I.free
   rw[z]at q
   have this':H s₀.heap.objs.size=none:=this
   rw[this']at q;cases q
  ·have:=I.stkFree b (List.mem_cons_of_mem _ z)
   rw[this]at q;cases q
 have base0:Un (frs outer) [] H₀ H s₀.heap s.heap:=I.base
 show wpAny _ _ (leaving (envOfC qual scope s₀.heap.objs.size f cd) (.ref e)) _ _ _
 refine wpAny_leaves_madeW (s:={ s with heap:=h' }) (L:=s₀.heap.objs.size) (outer:=outer) I.ok.frames rfl (fun b o q=>of_hideAll _ q) (funFrames_hide I.stack hin) hm fun h2 t fl _ _ up=>?_
 have old:∀ b o,s₀.heap.get? b=some o->H₀ b=none->b ∉ frs outer->(hideAll s.heap (frs (envOfC qual scope s₀.heap.objs.size f cd::outer))).get? b=some o:=fun b o q n hb=>hid b o (base0.keep b o q n hb (by simp)) (nL b o q) hb
 have slot:∀ b o,s.heap.get? b=some o->b∈frs outer->∃ sl,h2.get? b=some { o with slots:=sl }:=fun b o q hb=>up b o (hm.keeps b o q) (y4q I hb q)
 have trk:∀ b u o,H b=some u->s.heap.get? b=some o->(hideAll s.heap (frs (envOfC qual scope s₀.heap.objs.size f cd::outer))).get? b=some o:=fun b u o q e=>hid b o e (nstk b u q).1 (nstk b u q).2
 refine⟨e,C,t,_,H,rfl,⟨I.os,I.bare,⟨fun b o q n hb _=>fl.1 b o (old b o q n hb),fun b o q n hb _=>?_,fun b o q n _=>base0.free b o q n (by simp),fun b o q _=>?_,base0.tups,base0.frzs,base0.tbls⟩,y31 I.hok fun b u o q e=>fl.1 b o (trk b u o q e),fl,old,fun b o q hb=>?_,fun b u o q e=>?_,?_⟩,hE⟩
 ·obtain⟨sl,q1⟩:=base0.slot b o q n hb (by simp)
  obtain⟨sl',q2⟩:=slot b _ q1 hb
  exact⟨sl',q2⟩
 ·obtain⟨o',q1⟩:=base0.there b o q (by simp)
  by_cases hb:b∈frs outer
  ·obtain⟨sl,q2⟩:=slot b o' q1 hb
   exact⟨_,q2⟩
  ·exact⟨o',fl.1 b o' (hid b o' q1 (nL b o q) hb)⟩
 ·obtain⟨o',q1⟩:=base0.there b o q (by simp)
  exact⟨o',hid b o' q1 (nL b o q) hb⟩
 ·obtain⟨o1,q1⟩:=z4j (I.hok b u q)
  have q2:=trk b u o1 q q1
  have q3:=fl.1 b o1 q2
  have e':h2.get? b=some o:=e
  rw[q3]at e';cases e'
  exact q2
 ·cases q:H e with
  | none=>rfl
  | some u=>
   obtain⟨o1,q1⟩:=z4j (I.hok e u q)
   rw[hm.new]at q1;cases q1
theorem j10 {E':XK}(hE:∀ C H',E' (.ref C) none H'->E (.ref C) none H')(I:Inv (cxF P w K mg base N qual scope f cd A outer s₀ H₀ E) pins σ H s){e:Value}{s':Shared}(h:CXF P w (envOfC qual scope s₀.heap.objs.size f cd::outer) H s E' e s') :
  (cxF P w K mg base N qual scope f cd A outer s₀ H₀ E).xe e s':=by
 obtain⟨a,C,t,B,H',rfl,F,hE'⟩:=h
 have nL:∀ b o,s₀.heap.get? b=some o->b≠s₀.heap.objs.size:=fun b o q=>Nat.ne_of_lt (Heap.lt_size q)
 have base0:Un (frs outer) [] H₀ H s₀.heap s.heap:=I.base
 have nst:∀ b o,s₀.heap.get? b=some o->b ∉ frs outer->b ∉ frs (envOfC qual scope s₀.heap.objs.size f cd::outer):=fun b o q n hm=>by
  rcases List.mem_cons.mp (show b∈s₀.heap.objs.size::frs outer from hm)with z|z
  ·exact nL b o q z
  ·exact n z
 show wpAny _ _ (leaving (envOfC qual scope s₀.heap.objs.size f cd) (.ref a)) _ _ _
 refine wpAny_leaves_onW (L:=s₀.heap.objs.size) (outer:=outer) I.ok.frames rfl F.fl fun h2 fl up=>?_
 have old:∀ b o,s₀.heap.get? b=some o->H₀ b=none->b ∉ frs outer->B.get? b=some o:=fun b o q n hb=>F.old b o (base0.keep b o q n hb (by simp)) (base0.free b o q n (by simp)) (nst b o q hb)
 have slot:∀ b o,s.heap.get? b=some o->H b=none->b∈frs outer->∃ sl,h2.get? b=some { o with slots:=sl }:=fun b o q n hb=>by
  obtain⟨sl,q1⟩:=F.un.slot b o q n (List.mem_cons_of_mem _ hb) (by simp)
  obtain⟨sl',q2⟩:=up b _ q1 (fun vs z=>y4q I hb q vs z)
  exact⟨sl',q2⟩
 have fH:∀ b∈frs outer,H b=none:=fun b hb=>I.stkFree b (List.mem_cons_of_mem _ hb)
 refine⟨a,C,t,B,H',rfl,⟨F.os.trans I.os,F.bare,⟨fun b o q n hb _=>fl.1 b o (old b o q n hb),fun b o q n hb _=>?_,fun b o q n _=>?_,fun b o q _=>?_,fun b xs q=>F.un.tups b xs (base0.tups b xs q),fun b o u q=>F.un.frzs b o u (base0.frzs b o u q),fun b ps q=>?_⟩,y31 F.hok fun b u o q e=>fl.1 b o (F.trk b u o q e),fl,old,fun b o q hb=>?_,fun b u o q e=>?_,F.free⟩,hE C H' hE'⟩
 ·obtain⟨sl,q1⟩:=base0.slot b o q n hb (by simp)
  obtain⟨sl',q2⟩:=slot b _ q1 (fH b hb) hb
  exact⟨sl',q2⟩
 ·obtain⟨o',q1⟩:=base0.there b o q (by simp)
  exact F.un.free b o' q1 (base0.free b o q n (by simp)) (by simp)
 ·obtain⟨o',q1⟩:=base0.there b o q (by simp)
  by_cases hb:b∈frs outer
  ·obtain⟨sl,q2⟩:=slot b o' q1 (fH b hb) hb
   exact⟨_,q2⟩
  ·obtain⟨o2,q2⟩:=F.oldT b o' q1 (nst b o q hb)
   exact⟨o2,fl.1 b o2 q2⟩
 ·obtain⟨m1,e1⟩:=base0.tbls b ps q
  obtain⟨m2,e2⟩:=F.un.tbls b _ e1
  exact⟨m1++m2,by rw[e2,Array.append_assoc]⟩
 ·obtain⟨o',q1⟩:=base0.there b o q (by simp)
  exact F.oldT b o' q1 (nst b o q hb)
 ·obtain⟨o1,q1⟩:=z4j (F.hok b u q)
  have q2:=F.trk b u o1 q q1
  have q3:=fl.1 b o1 q2
  have e':h2.get? b=some o:=e
  rw[q3]at e';cases e'
  exact q2
end
structure XNm (K:Frag) (mg:Str->Option Value) (nm:Str) (C:Addr):Prop extends XKls K nm C where
 mg:mg nm=some (.ref C)
theorem z99 {K:Frag}{h:Heap}{C:Addr}{bmB:List Value}{newId:String}(X:K.In h)(q:excIn K C bmB newId=true) :
  ∃ bm N nm q bs hdct sn sub ab col dd k0 k1 k2 k3 k5 mN,h.get? C=some (excClassObj nm q C N bs bm hdct sn sub ab col dd k0 k1 k2 k3 k5 newId)/\h.Ns N mN/\mN "__init__" = none/\OwnTail h bmB bm:=by
 unfold excIn at q
 split at q
 ·rename_i dd cd sl ho
  split at q
  ·rename_i C' bm k0 k1 k2 k3 n k5 hm hs
   simp only[Bool.and_eq_true,beq_iff_eq,Bool.not_eq_true']at q
   obtain⟨⟨⟨⟨⟨rfl,rfl⟩,hdel⟩,ht⟩,hok⟩,hni⟩:=q
   obtain⟨nm,bs,mro,ns,qn,hd,sn,sub,ab,col,del⟩:=cd
   dsimp only at hm hdel hok hni
   subst hm hdel
   have hsl:sl = #[k0,k1,k2,k3,some (.builtin n),k5]:=by
    obtain⟨l⟩:=sl
    simp only at hs
    rw[hs]
   subst hsl
   exact⟨bm,ns,nm,qn,bs,hd,sn,sub,ab,col,dd,k0,k1,k2,k3,k5,_,X _ _ ho,.of_isNs (isNs_of_in X hok),nsMap_none_of_in X hok hni,tail_of_in X ht⟩
  ·cases q
 ·cases q
section
variable {P:Program}{w:World}{K:PySem.W.Frag}{mg:Str->Option Value}{base:Heap}{N:List Str}{qual:Str}{scope:Scope}{f:Addr}{cd:Value}{A:Around}{outer:List Env}{s₀:Shared}{H₀:Hp}{E:XK}{pins:List (Addr×Obj)}{σ:St}{H:Hp}{s:Shared}
theorem z3z {nm txt:Str}{C:Addr}{j:Nat}{np cpos tpos pos:Pos}(hA:A.handled=none)(hC:XNm K mg nm C)(hg:Gl (cxF P w K mg base N qual scope f cd A outer s₀ H₀ E) nm)(hdb:(nm==("__debug__":Str))=false:=by decide) :
  PS (cxF P w K mg base N qual scope f cd A outer s₀ H₀ E) (.Raise (some (.Call (.Name nm np) [.Constant (.str txt) j tpos] [] cpos)) none pos) (fun _ _ H=>E (.ref C) none H):=by
 intro pins s σ H D I h
 obtain⟨tl,Nn,nm',q,bs,hdct,sn,sub,ab,col,dd,k0,k1,k2,k3,k5,mN,hC',hN,hni,T⟩:=z99 I.mod.kin hC.ex
 refine wpAny_Raise_call_subT (C:=C) (nm:=nm') (q:=q) (N:=Nn) (bs:=bs) (bm:=tl) (hdct:=hdct) (sn:=sn) (sub:=sub) (ab:=ab) (col:=col) (dd:=dd) (k0:=k0) (k1:=k1) (k2:=k2) (k3:=k3) (k5:=k5)
  PySem.F.excBase_ValueError (mN:=mN) (T.hasType PySem.F.excBase_ValueError.hasBase) hA rfl hni (x8u I hg hC.mg ⟨rfl,?_⟩ hdb)
 refine Calls.evalArgs_plain (Calls.spliced_cons (thn (y6x (j:=j) (pos:=tpos) pins s σ H (fun v H1=>v=.str txt/\H1=H) I ⟨rfl,rfl⟩) fun u s1 hh0=>?_))
 obtain⟨v,H1,I1,r1,e1,e2⟩:=hh0
 subst e1 e2
 refine Calls.spliced_nil ⟨rfl,by show 1<=sizeLine;decide,I1.bk _ _ hC',hN.keeps I1.bk,T.keeps I1.bk,fun h' e hm=>y6g I1 hm h⟩
end
abbrev x4a:=Rho->Option Str
def tX (K:PySem.W.Frag)(x:x4a)(E:XK):TS:=fun _ σ H=>∃ ρ w nm,Good K ρ σ H w 0/\x ρ=some nm/\∀ C H' w',nsIn K mainGlobals nm=some (some (.ref C))->WL K w' H'->Go H w H' w'->E (.ref C) none H'
def spX (K:PySem.W.Frag)(n:Nat)(F:List D->Option Str):Sp:=fun vs H _ E=>vs.length=n/\∃ ds w nm,(∀ a o,w a=some o->o=.f)/\WL K w H/\Reps K H w .f 0 ds vs []/\F ds=some nm /\
 ∀ C H' w',nsIn K mainGlobals nm=some (some (.ref C))->WL K w' H'->Go H w H' w'->E (.ref C) none H'
def fnX (n:Nat)(x:x4a):List D->Option Str:=fun ds=>x (x42 n ds)
def y27 (P:Program)(w:World)(K:PySem.W.Frag)(mg:Str->Option Value)(base:Heap)(k:Nat)(x:Str)(n:Nat)(F:List D->Option Str):Prop:=
 ∃ f fd ps,FnOk P w K mg base (CXF P w) k f fd ps (spX K n F)/\mg x=some (.ref f)/\PySem.W.keepIn K (.ref f)=true/\y3h K fd ps []
theorem y27.mk {P:Program}{w:World}{K:PySem.W.Frag}{mg:Str->Option Value}{base:Heap}{k:Nat}{x:Str}{st:Stmt}{N ps:List Str}{xb:x4a}(a:At K mg x st ps)(S:FnScope N ps (x0a st))
  (h:∀ (f:Addr) (cdv:Value) (A:Around) (outer:List Env) (s:Shared) (H:Hp) (E:XK),Room k (A.deeper (envOfC x (x0a st) s.heap.objs.size f cdv))->PSs (cxF P w K mg base N x (x0a st) f cdv A outer s H E) (x32 st) (tX K xb E)) :
  y27 P w K mg base (k+1) x ps.length (fnX N.length xb):=by
 obtain⟨f,fd,F,m,b⟩:=a
 refine⟨f,fd,ps,?_,m,F.kp,b⟩
 obtain⟨oc,od,kV,doc,pm,an,cdv,ct,osl,rfl,lk,hcd⟩:=F.ex
 refine z7r lk hcd S (fun vs H Q E h=>h.1) fun A outer s H vs Q E hr hsp=>⟨_,h f cdv A outer s H E hr,?_⟩
 obtain⟨hn,ds,w,nm,hw,wl,rs,e,k⟩:=hsp
 exact⟨_,w,nm,x6o hw wl rs,e,k⟩
def y1m (F:List D->Option Str)(n:Nat)(g:x1o):x4a:=fun ρ=>match g ρ with
 | some (ds,_)=>if ds.length=n then F ds else none
 | none=>none
theorem z2z {M:Model}{A:Around}{E:Value->Shared->Prop}{K:Frag}{s:Shared}{x C R:Addr}{ox:Obj}{Q:Bool->Shared->Prop}(X:K.In s.heap)(I:XAt s.heap x ox C)(hR:XCls K R)(hty:typeIn K (.ref R)=some (.type "type"))
  (hsub:subIn K (.ref C) (.ref R)=some true) (h:Q true s):wpAny M A (excMatches (.ref x) (.ref R)) Q E s:=by
 obtain⟨h0,g,d,tt,os⟩:=s
 have L0:=I.type (M:=M)
 have L1:=looks_typeIn (M:=M) X hty
 have L2:=x6c (M:=M) X hR.ci
 have L3:=looks_mroIn (M:=M) X hR.mb
 have L4:=looks_subIn (M:=M) X hsub
 have f:=tc_notTuple
 have L5:Looks M h0 (isSubtype (.type "type") (.type "tuple")) false:=Looks.of_pure f
 unfold excMatches isInstance isExcClass
 repeat (first|lk|wp_step)
 exact h
section
variable {X:Cx}{pins:List (Addr×Obj)}{σ:St}{H H':Hp}{s s':Shared}{a C t:Addr}{B:Heap}
theorem y9l {M:Model}{A:Around}{E:Value->Shared->Prop}{i:Nat}{x:Str}{pos:Pos}{Q:Unit->Shared->Prop}(I:Inv X pins σ H s)(hN:X.N.Nodup)(hi:X.N[i]? = some x)(hx:X.env.scope.names.lookup x=some .local)
  (h:∀ s',Inv X pins (σ.set i none) H s'->Q () s'):wpAny M A (do bindName X.env x .none;unbindBehindTheSuite X.env x pos) Q E s:=by
 obtain⟨m,hn,hl⟩:=id I.loc
 have hcls:(X.env.scope.kind == .class||(X.env.scope.kind == .module&&X.env.locals != X.env.globals))=false:=by rw[I.ok.kind];rfl
 have hiσ:i<σ.length:=by rw[I.len];exact(List.getElem?_eq_some_iff.mp hi).1
 have cne:=I.cne
 refine wpAny_nameGoes_keeps hx hn hcls fun h' v hn' hs=>?_
 obtain⟨oL,_,_,hoL,_⟩:=id hn
 have tracked:HOk X.prog X.w H h':=fun b ob e=>by
  refine(I.hok b ob e).stay (fun c w' hc q=>(hs.2 c ?_).trans q) (fun _ q=>q) fun _ _ q=>q
  rintro rfl
  rcases hc with rfl|hc
  ·rw[I.free]at e;cases e
  ·rw[I.free]at hc;cases hc
 refine h _ ⟨I.ok,I.os,I.bare,⟨fun b o e n hb hx=>?_,fun b o e n hb hx=>?_,I.base.free,fun b o e hx=>?_,I.base.tups,I.base.frzs,I.base.tbls⟩,⟨_,hn',fun j y v' e1 e2 e3=>?_⟩,fun y c e=>?_,I.free,I.freeC,fun p hp=>?_,tracked,by simpa using I.len⟩
 ·exact(hs.2 b (Nat.ne_of_lt (Nat.lt_of_lt_of_le (Heap.lt_size e) I.ok.above))).trans (I.base.keep b o e n hb hx)
 ·obtain⟨sl,e1⟩:=I.base.slot b o e n hb hx
  exact⟨sl,(hs.2 b (Nat.ne_of_lt (Nat.lt_of_lt_of_le (Heap.lt_size e) I.ok.above))).trans e1⟩
 ·obtain⟨o',e1⟩:=I.base.there b o e hx
  exact⟨o',(hs.2 b (Nat.ne_of_lt (Nat.lt_of_lt_of_le (Heap.lt_size e) I.ok.above))).trans e1⟩
 ·by_cases hj:j=i
  ·subst hj
   rw[List.getElem?_set_self hiσ]at e2
   cases e2
  ·rw[List.getElem?_set_ne (Ne.symm hj)]at e2
   obtain⟨u',r',q⟩:=hl j y v' e1 e2 e3
   refine⟨u',r',?_⟩
   rcases q with⟨k,e⟩|⟨k,c,e,z⟩
   ·refine .inl ⟨k,?_⟩
    have:y≠x:=fun e=>hj (y39 hN e1 (e ▸ hi))
    simp[this,e]
   ·exact .inr ⟨k,c,e,z.sameBut hs (cne y c e)⟩
 ·obtain⟨w',z⟩:=I.cell y c e
  exact⟨w',z.sameBut hs (cne y c e)⟩
 ·obtain⟨e,n,ne,nf,d⟩:=I.pin p hp
  exact⟨(hs.2 p.1 ne).trans e,n,ne,nf,d⟩
def j0b (a:Addr)(oe:Obj):HO:=.frz oe (.ext fun h=>h.get? a=some oe)
theorem Fly.un2 (I:Inv X pins σ H s)(F:Fly X.prog X.w X.stack H s a C t B H' s'){h':Heap}(fl:Heap.FlyingW B X.stack a (.ref C) (.ref t) h')(up:s'.heap.UpToSlots h'):Un (frs X.stack) [] H H' s.heap h'/\HOk X.prog X.w H' h':=by
 have slot:∀ b o,s.heap.get? b=some o->H b=none->b∈frs X.stack->∃ sl,h'.get? b=some { o with slots:=sl }:=fun b o q n hb=>by
  obtain⟨sl,q1⟩:=F.un.slot b o q n hb (by simp)
  obtain⟨_,o',ho,hd⟩:=I.stack.mem hb
  rw[q]at ho;cases ho
  obtain⟨sl',q2⟩:=up b _ q1 hd
  exact⟨sl',q2⟩
 refine⟨⟨fun b o q n hb _=>fl.1 b o (F.old b o q n hb),fun b o q n hb _=>slot b o q n hb,F.un.free,fun b o q _=>?_,F.un.tups,F.un.frzs,F.un.tbls⟩,y31 F.hok fun b u o q e=>fl.1 b o (F.trk b u o q e)⟩
 by_cases hb:b∈frs X.stack
 ·obtain⟨sl,q2⟩:=slot b o q (I.stkFree b hb) hb
  exact⟨_,q2⟩
 ·obtain⟨o2,q2⟩:=F.oldT b o q hb
  exact⟨o2,fl.1 b o2 q2⟩
theorem Fly.inv (I:Inv X pins σ H s)(F:Fly X.prog X.w X.stack H s a C t B H' s'){h':Heap}(fl:Heap.FlyingW B X.stack a (.ref C) (.ref t) h')(up:s'.heap.UpToSlots h'):Inv X pins σ H' { s' with heap:=h' }:=
 I.call' (s':={ s' with heap:=h' }) F.os (F.un2 I fl up).1 (F.un2 I fl up).2 F.bare (fun b hb=>nomatch hb)
theorem Fly.inv2 (I:Inv X pins σ H s)(F:Fly X.prog X.w X.stack H s a C t B H' s'){h':Heap}(fl:Heap.FlyingW B X.stack a (.ref C) (.ref t) h')(up:s'.heap.UpToSlots h'){oe:Obj}{vs:Array Value}(ho:h'.get? a=some oe)(hd:oe.data=.fields vs) :
  Inv X pins σ (upd H' a (j0b a oe)) { s' with heap:=h' }:=by
 obtain⟨u,hk⟩:=F.un2 I fl up
 have na:∀ b x,H' b=some x->upd H' a (j0b a oe) b=some x:=fun b x q=>by
  unfold upd
  rw[if_neg (fun z=>by rw[z,F.free]at q;cases q)]
  exact q
 have nfr:a ∉ frs X.stack:=fun hb=>by
  obtain⟨_,o',ho',hd'⟩:=fl.2.2.1.mem hb
  rw[ho]at ho';cases ho'
  exact hd' vs hd
 refine I.call' (s':={ s' with heap:=h' }) F.os ⟨u.keep,u.slot,fun b o q n e=>?_,u.there,fun b xs q=>na b _ (u.tups b xs q),fun b o' u' q=>na b _ (u.frzs b o' u' q),fun b ps q=>?_⟩ (fun b x q=>?_) F.bare (fun b hb=>nomatch hb)
 ·unfold upd
  rw[if_neg (fun z=>?_)]
  ·exact u.free b o q n e
  ·subst z
   obtain⟨o2,q2⟩:=F.oldT b o q nfr
   rw[fl.2.1]at q2;cases q2
 ·obtain⟨m,q1⟩:=u.tbls b ps q
  exact⟨m,na b _ q1⟩
 ·by_cases hb:b=a
  ·subst hb
   unfold upd at q
   rw[if_pos rfl]at q
   cases q
   exact⟨ho,ho,⟨_,ho⟩,fun h1 h2 q1 q2=>q2 _ q1⟩
  ·have q':=q
   unfold upd at q
   rw[if_neg hb]at q
   exact(hk b x q).stay (fun _ _ _ z=>z) (fun c z=>na c _ z) (fun c xs z=>na c _ z)
abbrev Cx.mark (X:Cx)(e:Value):Cx:={ X with A:=X.A.mark (some e),calm:=false,xe:=fun _ _=>False }
theorem Inv.mark (I:Inv X pins σ H s)(e:Value):Inv (Cx.mark X e) pins σ H s:=
 ⟨⟨I.ok.mod,I.ok.kind,I.ok.glob,I.ok.blt,I.ok.above,I.ok.inj,I.ok.has,I.ok.cab,(fun z=>by cases z),I.ok.frames,I.ok.stk,I.ok.exf,I.ok.bs,I.ok.bsz,I.ok.noex,I.ok.exfs,I.ok.funs,I.ok.frf⟩,I.os,I.bare,I.base,I.loc,I.cell,I.free,I.freeC,I.pin,I.hok,I.len⟩
theorem Inv.unmark {e:Value}(hX:X.Ok)(I:Inv (Cx.mark X e) pins σ H s):Inv X pins σ H s:=⟨hX,I.os,I.bare,I.base,I.loc,I.cell,I.free,I.freeC,I.pin,I.hok,I.len⟩
theorem z49 {R n kx:Str}{RA:Addr}{np kp vp apos pos:Pos}{ie ik:Nat}{Q:Flow->Shared->Prop}{E:Value->Shared->Prop}(I:Inv X pins σ H s)(F:Fly X.prog X.w X.stack H s a C t B H' s')(hst:X.stack=X.env::X.outer)(hfm:X.env.frame=some X.env.locals)
  (hN:X.N.Nodup) (hie:X.N[ie]? = some n) (hik:X.N[ik]? = some kx) (hne:X.env.scope.names.lookup n=some .local) (hnk:X.env.scope.names.lookup kx=some .local) (hR:XCls X.K RA) (hRt:typeIn X.K (.ref RA)=some (.type "type")) (hsub:subIn X.K (.ref C) (.ref RA)=some true) (hmg:X.mg R=some (.ref RA)) (hg:Gl X R)
  (hdb:(R==("__debug__":Str))=false) (hdn:(n==("__debug__":Str))=false) (hcn:(n==("__classdict__":Str))=false) (hsw:swapsWith (.Name n vp) (some (.Name kx kp)) apos.line X.env=pure false)
  (hQ:∀ s5 oe,oe.cls=.ref C->Inv X pins (((σ.set ie (some (.ref a))).set ik (some (.ref a))).set ie none) (upd H' a (j0b a oe)) s5->Q .next s5) :
  wpAny (model X.prog X.w) X.A (noteFrame (.ref a) X.env) (fun _ s₂=>wpAny (model X.prog X.w) X.A (setFlight (.ref a) none) (fun _ s₃=>
   wpAny (model X.prog X.w) X.A (handleBy (.ref a) X.env [.ExceptHandler (some (.Name R np)) (some n) [.Assign [.Name kx kp] (.Name n vp) apos] pos]) Q E s₃) E s₂) E s':=by
 have hiσ:ie<σ.length:=by rw[I.len];exact(List.getElem?_eq_some_iff.mp hie).1
 have fl0:=F.fl
 have hst':=hst
 rw[hst]at fl0
 refine wpAny_looks_onW (L:=X.env.locals) (outer:=X.outer) (by rw[<- hst];exact I.ok.frames) hfm fl0 fun h₄ hheld₄ up₄=>?_
 refine wpAny_landsW hheld₄ fun h₅ fl₅ up₅=>?_
 have fl₅':=fl₅
 rw[<- hst]at fl₅'
 have I5:=F.inv I fl₅' (up₄.trans up₅)
 obtain⟨ob,hob,hobc⟩:=fl₅'.there
 have J5:=Inv.mark I5 (.ref a)
 refine wpAny_handleBy_cons (codeAny_handlers_test (x8u (X:=Cx.mark X (.ref a)) J5 hg hmg ?_ hdb)) (by intro q;cases q)
 refine z2z J5.kIn ⟨hob,hobc⟩ hR hRt hsub ?_
 refine codeAny_handlers_suite_as ?_
 refine lands_againW fl₅ fun h₆ fl₆ up₆=>?_
 have fl₆':=fl₆
 rw[<- hst]at fl₆'
 obtain⟨oe,ws,hoe,hoec,hoed,hoe0⟩:=fl₆'.first
 have I6:=F.inv2 I fl₆' ((up₄.trans up₅).trans up₆) hoe hoed
 refine y2o (v:=.ref a) I6 hN hie (.inl hne) rfl (fun s7 I7=>?_) (.inr hne)
 have J7:=Inv.mark I7 (.ref a)
 have body:=z1n (z64 (X:=Cx.mark X (.ref a)) (i:=ik) (x:=kx) (pos:=apos) (pos':=kp) hN hik (.inl hnk) (pv (X:=Cx.mark X (.ref a)) ie (x:=n) (pos:=vp) hie (.inl hne) hdn hcn) hsw (.inr hnk))
 refine wpAny_mono (body pins s7 _ _ { nx:=fun σ' H1=>σ'=(σ.set ie (some (.ref a))).set ik (some (.ref a))/\H1=upd H' a (j0b a oe),rt:=fun _ _=>False } J7 ⟨.ref a,List.getElem?_set_self hiσ,rfl,rfl⟩) (fun fl s8 q=>?_) (fun _ _ z=>False.elim z)
 cases fl with
 | next=>
  obtain⟨σ8,H8,J8,rfl,rfl⟩:=q
  exact y9l (Inv.unmark I.ok J8) hN hie hne fun s9 I9=>hQ s9 oe hoec I9
 | brk=>obtain⟨_,_,_,z⟩:=q;exact z.elim
 | cont=>obtain⟨_,_,_,z⟩:=q;exact z.elim
 | ret u=>obtain⟨_,_,_,_,_,z⟩:=q;exact z.elim
end
theorem Good.unset {K:PySem.W.Frag}{ρ:Rho}{σ:St}{H:Hp}{w:Wn}{t i:Nat}{v:Option V}(g:Good K ρ σ H w t)(hi:i<σ.length) :
  Good K (ρ.set i none) (σ.set i v) H (x5t i w) t/\Go H w H (x5t i w):=by
 have st:x71 H w H (x5t i w):=fun a x h n=>⟨sm h,x5b n⟩
 refine⟨⟨⟨fun a o h=>g.wl a o (x34 h).1,g.wl.tb⟩,fun a j h=>by rw[List.length_set];exact g.ws a j (x34 h).1,fun a j h=>g.wt a j (x34 h).1,by rw[List.length_set,List.length_set];exact g.len,fun j d' q' e'=>?_⟩,⟨st,fun a o h n=>⟨rfl,x6u h (n i)⟩⟩⟩
 by_cases hj:i=j
 ·subst hj
  rw[List.getElem?_set_self (by rw[g.len];exact hi)]at e'
  cases e'
 ·rw[List.getElem?_set_ne hj]at e'
  obtain⟨v',F,h1,h2⟩:=g.slot j d' q' e'
  exact⟨v',F,by rw[List.getElem?_set_ne hj];exact h1,Rep.go g.wl st h2 fun a m=>⟨rfl,x6u (h2.owns a m) (fun z=>hj (by cases z;rfl))⟩⟩
theorem Good.grow {K:PySem.W.Frag}{ρ:Rho}{σ:St}{H H':Hp}{w:Wn}{t:Nat}(g:Good K ρ σ H w t)(h:∀ b o,H b=some o->Sm o (H' b))(tb:TB K H'):Good K ρ σ H' w t/\Go H w H' w:=by
 have st:x71 H w H' w:=fun a x e n=>⟨h a x e,n⟩
 have kp:∀ a o,w a=some o->H' a=H a:=fun a o e=>by
  obtain⟨vs,q⟩:=g.wl a o e
  rw[q,(h a _ q).eq rfl]
 refine⟨⟨⟨fun a o e=>?_,tb⟩,g.ws,g.wt,g.len,fun i d q e=>?_⟩,st,fun a o e _=>⟨kp a o e,e⟩⟩
 ·obtain⟨vs,q⟩:=g.wl a o e
  exact⟨vs,(h a _ q).eq rfl⟩
 ·obtain⟨v,F,h1,h2⟩:=g.slot i d q e
  exact⟨v,F,h1,Rep.go g.wl st h2 fun a m=>⟨kp a _ (h2.owns a m),h2.owns a m⟩⟩
def y04 (K:Frag)(mg:Str->Option Value)(R:Str)(L:List Str):Prop:=∃ RA,XCls K RA/\typeIn K (.ref RA)=some (.type "type")/\mg R=some (.ref RA) /\
 ∀ nm∈L,∀ C,nsIn K mainGlobals nm=some (some (.ref C))->XKls K nm C/\subIn K (.ref C) (.ref RA)=some true
end L3
namespace L3
open PySem PySem.Spec PyProof.Rows PySem.W L2 PySem.SeqAt
def IsC (K:Frag)(mg:Str->Option Value)(L:List Str)(nm:Str):Prop:=∃ C,mg nm=some (.ref C)/\∀ n∈L,∀ B,nsIn K mainGlobals n=some (some (.ref B))->(n=nm->isIn K (.ref B) C=true)/\(n≠nm->kin_not K B C=true)
section
variable {X:Cx}{a b c e:Expr}{es:List Expr}{fa fb fc f:Den}{ga gb:x1p}{g:x1o}{pos p p1 p2 pT cpos apos:Pos}
theorem z2b {C:Addr}{L:List Str}{nm:Str}(h:∀ n∈L,∀ B,nsIn X.K mainGlobals n=some (some (.ref B))->(n=nm->isIn X.K (.ref B) C=true)/\(n≠nm->kin_not X.K B C=true)) :
  x9q X (.builtin "isinstance") (fun xs H Q=>∃ x w o q F n,xs=[x,.ref C]/\n∈L/\Rep X.K H w o q (.exc n) x F/\Q (.bl (n==nm)) H):=by
 intro pins s σ H xs us Q I r hh
 obtain⟨x,w,o,q,F,n,rfl,hn,rd,hq⟩:=hh
 obtain⟨u,v,rfl,ru,rv⟩:=z3f r
 cases rv
 cases rd with
 | exc ha xo _=>
  obtain⟨B,hc,k⟩:=xo
  cases ru
  obtain⟨e1,_⟩:=(show x2b X.prog X.w H s.heap _ (.frz _ _)from I.hok _ _ ha)
  obtain⟨h1,h2⟩:=h n hn B k.ns
  by_cases z:n=nm
  ·rw[beq_iff_eq.mpr z]at hq
   exact j2k I.kIn ⟨e1,hc⟩ (h1 z) ⟨.bl true,H,I,rfl,hq⟩
  ·rw[beq_eq_false_iff_ne.mpr z]at hq
   exact j5z I.kIn ⟨e1,hc⟩ k.xc (h2 z) ⟨.bl false,H,I.tok _,rfl,hq⟩
def z59 (L:List Str)(nm:Str)(fa:Den):Den:=fun ρ=>match fa ρ with
 | some (.exc n,_,ρ1)=>if n∈L then some (.bl (n==nm),9,ρ1)else none
 | _=>none
theorem j1j {L:List Str}{nm:Str}(hC:IsC X.K X.mg L nm)(hm:X.mg "isinstance" = none)(ha:PD X a fa)(hg:Gl X "isinstance":=by rfl)(hgT:Gl X nm:=by rfl)(hdT:(nm==("__debug__":Str))=false:=by decide)
  (hs:starEach [a,.Name nm pT] X.env=(false,eval a X.env)::starEach [.Name nm pT] X.env:=by rfl) (hpl:(backTo pos (starEach [.Name nm pT] X.env)).any (·.1)=false:=by rfl):PD X (.Call (.Name "isinstance" p) [a,.Name nm pT] [] pos) (z59 L nm fa):=by
 obtain⟨C,hmC,hall⟩:=hC
 refine PE.imp (x4y (z2b hall) hg hm PyProof.Rows.boot_isinstance (x3x ha (x3x (z9w (v:=.ref C) hgT hmC rfl hdT) x7x x04) hs) (by decide) (by decide) hs hpl) fun σ H Q hh0=>?_
 obtain⟨ρ,w,t,r',q,ρ',gd,ee,k⟩:=hh0
 unfold z59 at ee
 split at ee
 ·rename_i n q1 ρ1 h1
  split at ee
  ·rename_i hL
   cases ee
   refine⟨ρ,w,t,_,_,_,gd,h1,fun v H1 w1 F1 g1 go1 r1=>?_⟩
   exact⟨v,w1,_,_,F1,n,rfl,hL,r1,k _ H1 (x1q t w1) [] g1.drop.up (go1.drop gd.wt) (.bl _)⟩
  ·cases ee
 ·cases ee
theorem z3t:x9q X (.builtin "isinstance") (fun xs H Q=>∃ x w o q F n,xs=[x,.ty "ValueError"]/\Rep X.K H w o q (.exc n) x F/\Q (.bl true) H):=by
 intro pins s σ H xs us Q I r hh
 obtain⟨x,w,o,q,F,n,rfl,rd,hq⟩:=hh
 obtain⟨u,v,rfl,ru,rv⟩:=z3f r
 cases rv
 cases rd with
 | exc ha xo _=>
  obtain⟨B,hc,k⟩:=xo
  cases ru
  obtain⟨e1,_⟩:=(show x2b X.prog X.w H s.heap _ (.frz _ _)from I.hok _ _ ha)
  exact z9s I.kIn ⟨e1,hc⟩ (by kernel_rfl) k.ve ⟨.bl true,H,I,rfl,hq⟩
def j4n (fa:Den):Den:=fun ρ=>match fa ρ with
 | some (.exc n,_,ρ1)=>some (.bl true,9,ρ1)
 | _=>none
theorem j1n (hm:X.mg "isinstance" = none)(hmT:X.mg "ValueError" = none)(ha:PD X a fa)(hg:Gl X "isinstance":=by rfl)(hgT:Gl X "ValueError":=by rfl)
  (hs:starEach [a,.Name "ValueError" pT] X.env=(false,eval a X.env)::starEach [.Name "ValueError" pT] X.env:=by rfl) (hpl:(backTo pos (starEach [.Name "ValueError" pT] X.env)).any (·.1)=false:=by rfl):PD X (.Call (.Name "isinstance" p) [a,.Name "ValueError" pT] [] pos) (j4n fa):=by
 refine PE.imp (x4y z3t hg hm PyProof.Rows.boot_isinstance (x3x ha (x3x (y9r (v:=.ty "ValueError") hgT hmT (by kernel_rfl) rfl (by decide) (by decide)) x7x x04) hs) (by decide) (by decide) hs hpl) fun σ H Q hh0=>?_
 obtain⟨ρ,w,t,r',q,ρ',gd,ee,k⟩:=hh0
 unfold j4n at ee
 split at ee
 ·rename_i n q1 ρ1 h1
  cases ee
  refine⟨ρ,w,t,_,_,_,gd,h1,fun v H1 w1 F1 g1 go1 r1=>?_⟩
  exact⟨v,w1,_,_,F1,n,rfl,r1,k _ H1 (x1q t w1) [] g1.drop.up (go1.drop gd.wt) (.bl _)⟩
 ·cases ee
def j1p:D->D->Option D
 | .non,.non=>some (.bl true)
 | .exc _,.non=>some (.bl false)
 | .int _,.non=>some (.bl false)
 | .tup _,.non=>some (.bl false)
 | .str _,.non=>some (.bl false)
 | _,_=>none
def j6i:R2:=fun x y H Q=>y=.non/\((x=.non/\Q (.bl true) H)\/((∃ i,x=.int i)\/(∃ i,x=.str i)\/(∃ i,x=.ref i))/\Q (.bl false) H)
theorem z66:OpR X (compareOp .Is) j6i:=by
 intro pins s σ H x y v u Q I rx ry h
 obtain⟨rfl,h⟩:=h
 cases ry
 rcases h with⟨rfl,q⟩|⟨⟨i,rfl⟩|⟨i,rfl⟩|⟨i,rfl⟩,q⟩
 ·cases rx
  exact wpAny_pure ⟨.bl true,H,I,rfl,q⟩
 ·obtain⟨t,rfl⟩:=rx
  exact wpAny_pure ⟨.bl false,H,I,rfl,q⟩
 ·obtain⟨t,rfl⟩:=rx
  exact wpAny_pure ⟨.bl false,H,I,rfl,q⟩
 ·cases rx
  exact wpAny_pure ⟨.bl false,H,I,rfl,q⟩
theorem j72 {K:PySem.W.Frag}:∀ σ H Q,tD K (e2 j1p fa fb) σ H Q->tOp j6i (tD K fa) (tD K fb) σ H Q:=y22 fun x y d h=>by
 unfold j1p at h
 split at h
 ·cases h
  exact⟨_,rfl,fun H w o o' q q' u u' F F' r1 r2 _ Q hq=>by cases r1;cases r2;exact⟨rfl,.inl ⟨rfl,hq⟩⟩⟩
 ·cases h
  exact⟨_,rfl,fun H w o o' q q' u u' F F' r1 r2 _ Q hq=>by cases r1;cases r2;exact⟨rfl,.inr ⟨.inr (.inr ⟨_,rfl⟩),hq⟩⟩⟩
 ·cases h
  exact⟨_,rfl,fun H w o o' q q' u u' F F' r1 r2 _ Q hq=>by cases r1;cases r2;exact⟨rfl,.inr ⟨.inl ⟨_,rfl⟩,hq⟩⟩⟩
 ·cases h
  exact⟨_,rfl,fun H w o o' q q' u u' F F' r1 r2 _ Q hq=>by cases r1;cases r2;exact⟨rfl,.inr ⟨.inr (.inr ⟨_,rfl⟩),hq⟩⟩⟩
 ·cases h
  exact⟨_,rfl,fun H w o o' q q' u u' F F' r1 r2 _ Q hq=>by cases r1;cases r2;exact⟨rfl,.inr ⟨.inr (.inl ⟨_,rfl⟩),hq⟩⟩⟩
 ·cases h
theorem z7q (ha:PD X a fa)(hb:PD X b fb):PDT X (.Compare a [.Is] [b] pos) (x3m (e2 j1p fa fb)):=y0v z66 j72 ha hb (y4t _)
def z0p (d:D)(ds:List D):Nat:=(x73 ds).countP fun y=>PyData.eqv y (toP d)
def j5j (K:PySem.W.Frag):V->List V->Hp->VK->Prop:=fun x xs H Q=>∃ ds d y,xs=[y]/\Is K H (.lst ds) x/\Is K H d y/\okD (.lst ds)=true/\okD d=true/\Q (.int (Int.ofNat (z0p d ds))) H
theorem z92 (hu:X.A.units+65<cLine):MtR X "list.count" (j5j X.K):=by
 intro pins s σ H x xs v us Q I rx rs ⟨ds,d,y,e,⟨w,o,q,F,h1⟩,⟨w',o',q',F',h2⟩,k1,k2,hq⟩
 subst e
 obtain⟨u,rfl,ru⟩:=y33 rs
 obtain⟨as,ra⟩:=h1.reads I rx (x9o k1)
 obtain⟨bs,rb⟩:=h2.reads I ru (x9o k2)
 replace k1:=x9p k1
 replace k2:=x9p k2
 unfold toP at ra k1
 have hc1:PyData.canLayAll0 (x73 ds)=true:=SeqAt.canLay_of_shaped k1
 have hc2:=SeqAt.canLay_of_shaped k2
 cases ra with
 | @list a ob vs n _ _ ho hcl hd hrs=>
  obtain⟨cls,dd,data,sl⟩:=ob
  simp only at hcl hd
  subst hcl hd
  have hmap:=SeqAt.readsAll_map _ _ _ hc1 hrs
  have hcnt:vs.toList.countP (fun y=>PyData.eqv (SeqAt.readOf s.heap y) (toP d))=z0p d ds:=by
   unfold z0p
   rw[<- hmap,List.countP_map]
   rfl
  refine call_meets PySem.F.slot_list_count ⟨_,ho,rfl⟩ PySem.F.entry_list_count (PySem.F.args_list_count_2 _ _)
   (list_countAt a vs n dd sl u (fun y=>PyData.eqv (SeqAt.readOf s.heap y) (toP d))) ⟨ho,SeqAt.items_eqAt hrs rb hc1 hc2 (room_in_shaped k2 hu),?_⟩
  rw[hcnt]
  exact⟨.int (Int.ofNat (z0p d ds)),H,I.tok _,⟨_,rfl⟩,hq⟩
def j4i (fo:Den)(g:x1o):Den:=fun ρ=>match fo ρ with
 | some (.lst ds,_,ρ1)=>match g ρ1 with
  | some ([d],ρ2)=>if okD (.lst ds)=true/\okD d=true then some (.int (Int.ofNat (z0p d ds)),9,ρ2)else none
  | _=>none
 | _=>none
def z8s (K:PySem.W.Frag):V->List V->Hp->VK->Prop:=fun x xs H Q=>∃ ds d y j,xs=[y]/\Is K H (.lst ds) x/\Is K H d y/\okD (.lst ds)=true/\okD d=true/\j07 d ds=some j/\(j:Int)<1000/\Q (.int (Int.ofNat j)) H
theorem z14 (hu:X.A.units+65<cLine):MtR X "list.index" (z8s X.K):=by
 intro pins s σ H x xs v us Q I rx rs ⟨ds,d,y,j,e,⟨w,o,q,F,h1⟩,⟨w',o',q',F',h2⟩,k1,k2,hj,hsm,hq⟩
 subst e
 obtain⟨u,rfl,ru⟩:=y33 rs
 obtain⟨as,ra⟩:=h1.reads I rx (x9o k1)
 obtain⟨bs,rb⟩:=h2.reads I ru (x9o k2)
 replace k1:=x9p k1
 replace k2:=x9p k2
 unfold toP at ra k1
 have hc1:PyData.canLayAll0 (x73 ds)=true:=SeqAt.canLay_of_shaped k1
 have hc2:=SeqAt.canLay_of_shaped k2
 cases ra with
 | @list a ob vs n _ _ ho hcl hd hrs=>
  obtain⟨cls,dd,data,sl⟩:=ob
  simp only at hcl hd
  subst hcl hd
  have hmap:=SeqAt.readsAll_map _ _ _ hc1 hrs
  have hfi:=List.findIdx?_eq_some_iff_getElem.mp hj
  obtain⟨hjl,hjt,hjf⟩:=hfi
  have hlen:vs.size=(x73 ds).length:=by rw[<- hmap];simp
  have hat:∀ m (hm:m<vs.size) (hm':m<(x73 ds).length),SeqAt.readOf s.heap vs[m]=(x73 ds)[m]:=fun m hm hm'=>by
   have:(vs.toList.map (SeqAt.readOf s.heap))[m]? = (x73 ds)[m]?:=by rw[hmap]
   simpa [hm,hm']using this
  refine call_meets PySem.F.slot_list_index ⟨_,ho,rfl⟩ PySem.F.entry_list_index (PySem.F.args_list_index_2 _ _)
   (list_indexAt a vs n dd sl u (fun y=>PyData.eqv (SeqAt.readOf s.heap y) (toP d)) j (by omega) (by omega) (by rw[hat j (by omega) hjl];simpa using hjt) (fun m hm hmj=>by rw[hat m hm (by omega)];simpa using hjf m hmj)) ⟨ho,SeqAt.items_eqAt hrs rb hc1 hc2 (room_in_shaped k2 hu),?_⟩
  exact⟨.int (Int.ofNat j),H,I.tok _,⟨_,rfl⟩,hq⟩
def y3s (fo:Den)(g:x1o):Den:=fun ρ=>match fo ρ with
 | some (.lst ds,_,ρ1)=>match g ρ1 with
  | some ([d],ρ2)=>if okD (.lst ds)=true/\okD d=true then match j07 d ds with
   | some j=>if(j:Int)<1000 then some (.int (Int.ofNat j),9,ρ2)else none
   | none=>none
   else none
  | _=>none
 | _=>none
theorem Rep.sqL {K:PySem.W.Frag}{H:Hp}{w:Wn}{ds:List D}{v:V}{F:List Addr}(r:Rep K H w .f 0 (.lst ds) v F):∃ a us,v=.ref a/\SqL K H a us:=by
 cases r with
 | kl h _=>exact⟨_,_,rfl,.inr h⟩
 | shr h _ _=>exact⟨_,_,rfl,.inl h⟩
theorem z8z {k:Nat}(hr:Room k X.A)(ho:PD X a fa)(ha:PDA X [e] g)
  (hbase:attributeBase a "count" X.env (eval a X.env)=eval a X.env:=by rfl)
  (hfew:((backTo cpos (starEach [e] X.env)).all (fun x=>!x.1)&&(backToKw cpos (keywordEach [] X.env)).all (fun x=>x.1.isSome)
    && decide ([e].length+([]:List Keyword).length+(if([]:List Keyword).isEmpty then 0 else 1)<30))=true:=by rfl)
  (hline:(apos.endLine==cpos.line)=true:=by rfl) (hs:starEach [e] X.env=(false,eval e X.env)::starEach [] X.env:=by rfl) (hplain:(backTo cpos (starEach [] X.env)).any (·.1)=false:=by rfl) :
  PD X (.Call (.Attribute a "count" apos) [e] [] cpos) (j4i fa g):=
 PE.imp (y8m PySem.F.plainAttrs_list PySem.F.slot_list_count PySem.F.type_list_count (z92 (u65 hr)) ho ha hbase hfew hline hs hplain) fun σ H Q hh0=>by
 obtain⟨ρ,w,t,r',q,ρ',gd,ee,k⟩:=hh0
 unfold j4i at ee
 split at ee
 ·rename_i ds q1 ρ1 h1
  split at ee
  ·rename_i d ρ2 h2
   split at ee
   ·rename_i hok
    cases ee
    refine⟨ρ,w,t,_,_,_,gd,h1,fun v H1 w1 F1 g1 go1 r1=>?_⟩
    have r0:=r1.drop (o:=.f) (Nat.le_refl t)
    have gg:=g1.drop (t':=t)
    obtain⟨p0,us,rfl,hq⟩:=Rep.sqL r0
    refine⟨.inl ⟨rfl,us,hq⟩,ρ1,x1q t w1,t,_,_,gg,h2,fun vs2 H2 w2 g2 go2 r2=>?_⟩
    obtain⟨v2,rfl,rv2⟩:=one r2
    have r3:Rep X.K H2 w2 .f 0 (.lst ds) (.ref p0) []:=r0.go0 gg.wl go2.stab
    exact⟨ds,d,v2,rfl,⟨_,_,_,_,r3⟩,⟨_,_,_,_,rv2⟩,hok.1,hok.2,k _ H2 w2 [] g2.up ((go1.drop gd.wt).trans go2) (.int _)⟩
   ·cases ee
  ·cases ee
 ·cases ee
theorem y9i {k:Nat}(hr:Room k X.A)(ho:PD X a fa)(ha:PDA X [e] g)
  (hbase:attributeBase a "index" X.env (eval a X.env)=eval a X.env:=by rfl)
  (hfew:((backTo cpos (starEach [e] X.env)).all (fun x=>!x.1)&&(backToKw cpos (keywordEach [] X.env)).all (fun x=>x.1.isSome)
    && decide ([e].length+([]:List Keyword).length+(if([]:List Keyword).isEmpty then 0 else 1)<30))=true:=by rfl)
  (hline:(apos.endLine==cpos.line)=true:=by rfl) (hs:starEach [e] X.env=(false,eval e X.env)::starEach [] X.env:=by rfl) (hplain:(backTo cpos (starEach [] X.env)).any (·.1)=false:=by rfl) :
  PD X (.Call (.Attribute a "index" apos) [e] [] cpos) (y3s fa g):=
 PE.imp (y8m PySem.F.plainAttrs_list PySem.F.slot_list_index PySem.F.type_list_index (z14 (u65 hr)) ho ha hbase hfew hline hs hplain) fun σ H Q hh0=>by
 obtain⟨ρ,w,t,r',q,ρ',gd,ee,k⟩:=hh0
 unfold y3s at ee
 split at ee
 ·rename_i ds q1 ρ1 h1
  split at ee
  ·rename_i d ρ2 h2
   split at ee
   ·rename_i hok
    split at ee
    ·rename_i j hj
     split at ee
     ·rename_i hsm
      cases ee
      refine⟨ρ,w,t,_,_,_,gd,h1,fun v H1 w1 F1 g1 go1 r1=>?_⟩
      have r0:=r1.drop (o:=.f) (Nat.le_refl t)
      have gg:=g1.drop (t':=t)
      obtain⟨p0,us,rfl,hq⟩:=Rep.sqL r0
      refine⟨.inl ⟨rfl,us,hq⟩,ρ1,x1q t w1,t,_,_,gg,h2,fun vs2 H2 w2 g2 go2 r2=>?_⟩
      obtain⟨v2,rfl,rv2⟩:=one r2
      have r3:Rep X.K H2 w2 .f 0 (.lst ds) (.ref p0) []:=r0.go0 gg.wl go2.stab
      exact⟨ds,d,v2,j,rfl,⟨_,_,_,_,r3⟩,⟨_,_,_,_,rv2⟩,hok.1,hok.2,hj,hsm,k _ H2 w2 [] g2.up ((go1.drop gd.wt).trans go2) (.int _)⟩
     ·cases ee
    ·cases ee
   ·cases ee
  ·cases ee
 ·cases ee
end
end L3
namespace L3
open PySem PySem.Spec PyProof.Rows L2
end L3
namespace L3
open PySem PySem.Spec PyProof.Rows PySem.W L2
def tXe (K:PySem.W.Frag)(x:x4a)(E:XK):St->Hp->Prop:=fun σ H=>∃ ρ w t nm,Good K ρ σ H w t/\x ρ=some nm/\∀ C H' w',nsIn K mainGlobals nm=some (some (.ref C))->WL K w' H'->Go H w H' w'->E (.ref C) none H'
theorem tX.e {K:PySem.W.Frag}{x:x4a}{E:XK}{D:Ends}{σ:St}{H:Hp}(h:tX K x E D σ H):tXe K x E σ H:=by
 obtain⟨ρ,w,nm,g,e,k⟩:=h
 exact⟨ρ,w,0,nm,g,e,k⟩
def z3i:x4a:=fun _=>none
def xOr (x y:x4a):x4a:=fun ρ=>match x ρ with
 | some nm=>some nm
 | none=>y ρ
def z6b (f:x16)(x:x4a):x4a:=fun ρ=>match f ρ with
 | some (.nx ρ1)=>x ρ1
 | _=>none
def z22 (g:x1p)(x y:x4a):x4a:=fun ρ=>match g ρ with
 | some (b,ρ1)=>if b=true then x ρ1 else y ρ1
 | none=>none
def y7g (nm:Str):x4a:=fun _=>some nm
def xTl (f:Den)(x:x4a):x4a:=fun ρ=>match f ρ with
 | some (_,_,ρ1)=>x ρ1
 | none=>none
abbrev PXE (X:Cx)(E:XK)(e:Expr)(x:x4a):Prop:=PE X e fun σ H _=>tXe X.K x E σ H
abbrev PXA (X:Cx)(E:XK)(es:List Expr)(x:x4a):Prop:=PA X es fun σ H _=>tXe X.K x E σ H
abbrev PXS (X:Cx)(E:XK)(st:Stmt)(x:x4a):Prop:=PS X st (tX X.K x E)
abbrev PXB (X:Cx)(E:XK)(ss:List Stmt)(x:x4a):Prop:=PSs X ss (tX X.K x E)
section
variable {X:Cx}{E:XK}{st:Stmt}{ss x1w a b:List Stmt}{x y:x4a}{f:x16}{g:x1p}{c e:Expr}{es:List Expr}{pos pos' p:Pos}
theorem z4i:PXB X E ss z3i:=fun _ _ _ _ _ _ h=>by
 obtain⟨_,_,_,_,e,_⟩:=h
 cases e
theorem j0u (hx:PXB X E ss x)(hy:PXB X E ss y):PXB X E ss (xOr x y):=fun pins s σ H D I h=>by
 obtain⟨ρ,w,nm,g,e,k⟩:=h
 unfold xOr at e
 split at e
 ·rename_i nm' h1
  cases e
  exact hx pins s σ H D I ⟨ρ,w,_,g,h1,k⟩
 ·exact hy pins s σ H D I ⟨ρ,w,nm,g,e,k⟩
theorem z9x (h1:PDS X st f)(h2:PXB X E x1w x):PXB X E (st::x1w) (z6b f x):=PSs.imp (y7l h1 h2) fun D σ H hh0=>by
 obtain⟨ρ,w,nm,g,e,k⟩:=hh0
 unfold z6b at e
 split at e
 ·rename_i ρ1 h1
  exact⟨ρ,w,.nx ρ1,g,h1,fun σ' H' w' hl g' go'=>⟨ρ1,w',nm,g',e,fun C H2 w2 n wl go2=>k C H2 w2 n wl (go'.trans go2)⟩⟩
 ·cases e
theorem y9g (h:PXS X E st x):PXB X E (st::x1w) x:=by
 intro pins s σ H D I hh
 refine wpAny_execs_cons (thn (h pins s σ H { nx:=fun _ _=>False,rt:=fun _ _=>False } I hh) fun fl s1 q=>?_)
 cases fl with
 | next=>obtain⟨_,_,_,z⟩:=q;exact z.elim
 | brk=>obtain⟨_,_,_,z⟩:=q;exact z.elim
 | cont=>obtain⟨_,_,_,z⟩:=q;exact z.elim
 | ret u=>obtain⟨_,_,_,_,_,z⟩:=q;exact z.elim
theorem z8t (hc:PDT X c g)(ha:PXB X E a x)(hb:PXB X E b y):PXS X E (.If c a b pos) (z22 g x y):=PS.imp (j0z hc ha hb) fun D σ H hh0=>by
 obtain⟨ρ,w,nm,gd,e,k⟩:=hh0
 unfold z22 at e
 split at e
 ·rename_i b' ρ1 h1
  refine⟨ρ,w,0,b',ρ1,gd,h1,fun H1 w1 g1 go1=>?_⟩
  cases b' with
  | true=>exact⟨ρ1,w1,nm,g1,e,fun C H2 w2 n wl go2=>k C H2 w2 n wl (go1.trans go2)⟩
  | false=>exact⟨ρ1,w1,nm,g1,e,fun C H2 w2 n wl go2=>k C H2 w2 n wl (go1.trans go2)⟩
 ·cases e
theorem z6v {z:Str}(he:PXE X E e x)(hs:swapsWith e (some (.Name z pos')) pos.line X.env=pure false:=by rfl):PXS X E (.Assign [.Name z pos'] e pos) x:=by
 intro pins s σ H D I h
 refine wpAny_Assign_Name (thn (he pins s σ H (fun _ _=>False) I h.e) fun v s1 q=>?_) hs
 obtain⟨_,_,_,_,z⟩:=q
 exact z.elim
theorem z47 (he:PXE X E e x)(hs:swapsWith e none pos.line X.env=pure false:=by rfl):PXS X E (.Expr e pos) x:=PS.imp (y9z he hs) fun D σ H hh0=>hh0.e
theorem z5s (he:PXE X E e x)(hs:starEach (e::es) X.env=(false,eval e X.env)::starEach es X.env:=by rfl):PXA X E (e::es) x:=
 PA.imp (x3x (t:=fun _ _ _=>False) he (fun _ _ _ _ _ _ _ h=>h.elim) hs) fun σ H Q h=>h
theorem j24 {fe:Den}(he:PD X e fe)(ha:PXA X E es x)(hs:starEach (e::es) X.env=(false,eval e X.env)::starEach es X.env:=by rfl):PXA X E (e::es) (xTl fe x):=
 PA.imp (x3x he ha hs) fun σ H Q h=>by
  obtain⟨ρ,w,t,nm,g,e,k⟩:=h
  unfold xTl at e
  split at e
  ·rename_i d q ρ1 h1
   exact⟨ρ,w,t,d,q,ρ1,g,h1,fun v H1 w1 F g1 go1 r1=>⟨ρ1,w1,t+1,nm,g1,e,fun C H2 w2 n wl go2=>k C H2 w2 n wl (go1.trans go2)⟩⟩
  ·cases e
theorem z7w {x1}(h:PXA X E es x):PXE X E (.Tuple es x1 pos) x:=PE.imp (z5f h) fun σ H Q h=>h
end
section
variable {P:Program}{w:World}{K:PySem.W.Frag}{mg:Str->Option Value}{base:Heap}{N:List Str}{qual:Str}{scope:Scope}{f:Addr}{cd:Value}{A:Around}{outer:List Env}{s₀:Shared}{H₀:Hp}{E:XK}
theorem z09 {nm txt:Str}{k j:Nat}{np cpos tpos pos:Pos}(hr:Room k (A.deeper (envOfC qual scope s₀.heap.objs.size f cd)))(hC:∃ C,XNm K mg nm C)(hg:Gl (cxF P w K mg base N qual scope f cd A outer s₀ H₀ E) nm:=by rfl)(hdb:(nm==("__debug__":Str))=false:=by decide) :
  PXS (cxF P w K mg base N qual scope f cd A outer s₀ H₀ E) E (.Raise (some (.Call (.Name nm np) [.Constant (.str txt) j tpos] [] cpos)) none pos) (y7g nm):=by
 obtain⟨C,hC⟩:=hC
 refine PS.imp (z3z hr.hd hC hg hdb) fun D σ H hh0=>?_
 obtain⟨ρ,w',nm',g,e,k⟩:=hh0
 cases e
 exact k C H w' hC.ns g.wl Go.refl
theorem z20 {j k n:Nat}{x:Str}{F:List D->Option Str}{e:Expr}{es:List Expr}{g:x1o}{p pos:Pos}(Cx':y27 P w K mg base k x n F)(hr:Room j (A.deeper (envOfC qual scope s₀.heap.objs.size f cd)))(hk:k<=j)(ha:PDA (cxF P w K mg base N qual scope f cd A outer s₀ H₀ E) (e::es) g)
  (hg:Gl (cxF P w K mg base N qual scope f cd A outer s₀ H₀ E) x:=by rfl) (hdb:(x==("__debug__":Str))=false:=by decide) (he:starEach (e::es) (envOfC qual scope s₀.heap.objs.size f cd)=(false,eval e (envOfC qual scope s₀.heap.objs.size f cd))::starEach es (envOfC qual scope s₀.heap.objs.size f cd):=by rfl)
  (hpl:(backTo pos (starEach es (envOfC qual scope s₀.heap.objs.size f cd))).any (·.1)=false:=by rfl) :
  PXE (cxF P w K mg base N qual scope f cd A outer s₀ H₀ E) E (.Call (.Name x p) (e::es) [] pos) (y1m F n g):=by
 obtain⟨fn,fd,ps,G,hm,hkp,hb⟩:=Cx'
 refine PE.imp (y5r (X:=cxF P w K mg base N qual scope f cd A outer s₀ H₀ E) (E:=E) G (hr.mono hk) hg hm hkp hb .nil (fun pins σ H s e s' I h=>j10 (fun _ _ h=>h) I h) ha hdb he hpl) fun σ H Q hh0=>?_
 obtain⟨ρ,w',t,nm,gd,e,k'⟩:=hh0
 unfold y1m at e
 split at e
 ·rename_i ds ρ1 h1
  split at e
  ·rename_i hn
   refine⟨ρ,w',t,ds,ρ1,gd,h1,fun vs H1 w1 g1 go1 r1=>?_⟩
   show spX K n F (vs++[]) H1 Q E
   rw[List.append_nil]
   refine⟨by rw[<- r1.length];exact hn,ds,fun a=>(w1 a).map fun _=>Ow.f,nm,fun a o e=>?_,⟨fun a o e=>?_,g1.wl.tb⟩,?_,e,fun C H2 w2 hns wl2 go2=>k' C H2 w1 hns ⟨fun a o ew=>?_,wl2.tb⟩ (go1.trans ⟨fun a x e n=>?_,fun a o ew no=>?_⟩)⟩
   ·try dsimp only at e
    cases ew:w1 a with
    | none=>rw[ew]at e;cases e
    | some o'=>rw[ew]at e;cases e;rfl
   ·try dsimp only at e
    cases ew:w1 a with
    | none=>rw[ew]at e;cases e
    | some o'=>exact g1.wl a o' ew
   ·exact Reps.freeze (fun a n=>by show(w1 a).map _=_;rw[n];rfl) r1 (fun _ z=>nomatch z)
   ·obtain⟨vs',q⟩:=g1.wl a o ew
    have:=(go2.keep a .f (by show(w1 a).map _=_;rw[ew];rfl) (fun i z=>nomatch z)).1
    exact⟨vs',by rw[this];exact q⟩
   ·exact⟨(go2.stab a x e (by show(w1 a).map _=_;rw[n];rfl)).1,n⟩
   ·exact⟨(go2.keep a .f (by show(w1 a).map _=_;rw[ew];rfl) (fun i z=>nomatch z)).1,ew⟩
  ·cases e
 ·cases e
end
abbrev z1w:=Rho->Option (Str×Rho)
def CE (Y:Cx)(pins:List (Addr×Obj))(σ:St)(H:Hp)(w:Wn)(nm:Str)(ρ1:Rho)(ev:Value)(s':Shared):Prop:=
 ∃ s1 H1 w1 a C t B H',ev=.ref a/\Inv Y.nox pins σ H1 s1/\Good Y.K ρ1 σ H1 w1 0/\Go H w H1 w1/\Fly Y.prog Y.w Y.stack H1 s1 a C t B H' s'/\nsIn Y.K mainGlobals nm=some (some (.ref C))/\(∀ b o,H1 b=some o->Sm o (H' b))/\TB Y.K H'
def PTS (Y:Cx)(st:Stmt)(y:z1w):Prop:=∀ (pins:List (Addr×Obj)) (s:Shared) (σ:St) (H:Hp) (ρ:Rho) (w:Wn) (nm:Str) (ρ1:Rho),Inv Y.nox pins σ H s->Good Y.K ρ σ H w 0->y ρ=some (nm,ρ1)->
 wpAny (model Y.prog Y.w) Y.A (exec st Y.env) (fun _ _=>False) (CE Y pins σ H w nm ρ1) s
def PTB (Y:Cx)(ss:List Stmt)(y:z1w):Prop:=∀ (pins:List (Addr×Obj)) (s:Shared) (σ:St) (H:Hp) (ρ:Rho) (w:Wn) (nm:Str) (ρ1:Rho),Inv Y.nox pins σ H s->Good Y.K ρ σ H w 0->y ρ=some (nm,ρ1)->
 wpAny (model Y.prog Y.w) Y.A (execs ss Y.env) (fun _ _=>False) (CE Y pins σ H w nm ρ1) s
def y88 (Fx:List D->Option Str)(n:Nat)(g:x1o):z1w:=fun ρ=>match g ρ with
 | some (ds,ρ1)=>if ds.length=n then(Fx ds).map fun nm=>(nm,ρ1)else none
 | none=>none
def y7v (L:List Str)(f:x16)(y:z1w)(ie ik:Nat):x16:=fun ρ=>match y ρ with
 | some (nm,ρ1)=>if nm∈L then some (.nx (((ρ1.set ie (some (.exc nm,9))).set ik (some (.exc nm,9))).set ie none))else none
 | none=>f ρ
section
variable {Y:Cx}{c e:Expr}{es:List Expr}{g:x1o}{gt:x1p}{x y:z1w}{a b ss:List Stmt}{st:Stmt}{pos:Pos}
theorem z6j (h:PTS Y st y):PTB Y [st] y:=fun pins s σ H ρ w nm ρ1 I gd e=>
 wpAny_execs_cons (thn (h pins s σ H ρ w nm ρ1 I gd e) fun _ _ z=>z.elim)
theorem z4l {z u:Str}{Fx:List D->Option Str}{j k n:Nat}{yp fp cpos spos:Pos}(CX:y27 Y.prog Y.w Y.K Y.mg Y.base k z n Fx)(hr:Room j Y.A)(hk:k<=j)(ha:PDA Y.nox (e::es) g)
  (hgx:Gl Y z:=by rfl) (hdx:(z==("__debug__":Str))=false:=by decide) (hsc:swapsWith (.Call (.Name z fp) (e::es) [] cpos) (some (.Name u yp)) spos.line Y.env=pure false:=by rfl)
  (he:starEach (e::es) Y.env=(false,eval e Y.env)::starEach es Y.env:=by rfl) (hpl:(backTo cpos (starEach es Y.env)).any (·.1)=false:=by rfl) :
  PTS Y (.Assign [.Name u yp] (.Call (.Name z fp) (e::es) [] cpos) spos) (y88 Fx n g):=by
 intro pins s σ H ρ w nm ρ1 I gd ee
 unfold y88 at ee
 split at ee
 ·rename_i ds ρ2 h1
  split at ee
  ·rename_i hn
   obtain⟨nm',hx,e0⟩:=Option.map_eq_some_iff.mp ee
   cases e0
   obtain⟨fn,fd,ps,G,hm,hkp,hb⟩:=CX
   refine wpAny_Assign_Name ?_ hsc
   refine wpAny_Call_Name_kw (x8u (X:=Y.nox) I hgx hm ?_ hdx)
   refine PySem.W.callWith_K (h₀:=Y.base) I.ok.mod.kin hkp (wpAny_mono (ha cpos pins s σ H (fun vs H1=>∃ w1,Good Y.K ρ1 σ H1 w1 0/\Go H w H1 w1/\Reps Y.K H1 w1 .f 0 ds vs []) I ⟨ρ,w,0,ds,ρ1,gd,h1,fun vs H1 w1 g1 go1 r1=>⟨w1,g1,go1,r1⟩⟩) (fun us s1 hh1=>?_) (fun _ _ z=>False.elim z)) he hpl
   obtain⟨vs,H1,I1,rv,w1,g1,go1,r1⟩:=hh1
   refine⟨I1.kIn,?_⟩
   have hsp:spX Y.K n Fx vs H1 (fun _ _=>False) (fun c _ H'=>∃ C,c=.ref C/\nsIn Y.K mainGlobals nm=some (some (.ref C))/\(∀ b o,H1 b=some o->Sm o (H' b))/\TB Y.K H'):=by
    refine⟨by rw[<- r1.length];exact hn,ds,fun a=>(w1 a).map fun _=>Ow.f,nm,fun a o e=>?_,⟨fun a o e=>?_,g1.wl.tb⟩,?_,hx,fun C H2 w2 hns wl2 go2=>⟨C,rfl,hns,fun b o e=>?_,wl2.tb⟩⟩
    ·try dsimp only at e
     cases ew:w1 a with
     | none=>rw[ew]at e;cases e
     | some o'=>rw[ew]at e;cases e;rfl
    ·try dsimp only at e
     cases ew:w1 a with
     | none=>rw[ew]at e;cases e
     | some o'=>exact g1.wl a o' ew
    ·exact Reps.freeze (fun a n=>by show(w1 a).map _=_;rw[n];rfl) r1 (fun _ z=>nomatch z)
    ·cases ew:w1 b with
     | none=>exact(go2.stab b o e (by show(w1 b).map _=_;rw[ew];rfl)).1
     | some o'=>exact sm (((go2.keep b .f (by show(w1 b).map _=_;rw[ew];rfl) (fun i z=>nomatch z)).1).trans e)
   have hl:us.length=ps.length:=by rw[<- rv.length];exact G.len _ _ _ _ hsp
   have hbb:=hb s1 us I1.kIn (by rw[List.append_nil];exact hl)
   rw[List.append_nil]at hbb
   refine wpAny_call (codeAny_mono (G.run Y.A Y.stack s1 H1 ⟨us,[]⟩ us vs _ _ (hr.mono hk) I1.env0 hbb rv hsp) fun r s' hq=>?_)
   cases r with
   | ok fl=>
    cases fl with
    | ret u=>obtain⟨_,_,_,z⟩:=I1.after hq;exact z.2.elim
    | next=>exact False.elim hq
    | brk=>exact False.elim hq
    | cont=>exact False.elim hq
   | error ev=>
    obtain⟨a,C,t,B,H',rfl,F',C',eC,hns,hext,tb'⟩:=hq
    cases eC
    exact⟨s1,H1,w1,a,C,t,B,H',rfl,I1,g1,go1,F',hns,hext,tb'⟩
  ·cases ee
 ·cases ee
theorem z27 {R nn kx:Str}{L:List Str}{f:x16}{ie ik:Nat}{np kp vp apos hpos:Pos}(hU:y04 Y.K Y.mg R L)(hf:y7m Y.nox ss f)(hx:PTB Y ss y)(hN:Y.N.Nodup)(hie:Y.N[ie]? = some nn)(hik:Y.N[ik]? = some kx)(hst:Y.stack=Y.env::Y.outer:=by rfl)(hfm:Y.env.frame=some Y.env.locals:=by rfl)
  (hne:Y.env.scope.names.lookup nn=some .local:=by rfl) (hnk:Y.env.scope.names.lookup kx=some .local:=by rfl) (hg:Gl Y R:=by rfl)
  (hdb:(R==("__debug__":Str))=false:=by decide) (hdn:(nn==("__debug__":Str))=false:=by decide) (hcn:(nn==("__classdict__":Str))=false:=by decide) (hsw:swapsWith (.Name nn vp) (some (.Name kx kp)) apos.line Y.env=pure false:=by rfl) :
  PDS Y.nox (.Try ss [.ExceptHandler (some (.Name R np)) (some nn) [.Assign [.Name kx kp] (.Name nn vp) apos] hpos] [] [] pos) (y7v L f y ie ik):=by
 intro pins s σ H Dn I hh
 obtain⟨ρ,w,o,gd,ee,K'⟩:=hh
 unfold y7v at ee
 refine wpAny_Try_except ?_
 split at ee
 ·rename_i nm ρ1 h1
  split at ee
  ·rename_i hL
   cases ee
   obtain⟨RA,hR,hRt,hmg,hall⟩:=hU
   refine wpAny_mono (hx pins s σ H ρ w nm ρ1 I gd h1) (fun _ _ z=>z.elim) fun ev s' q=>?_
   obtain⟨s1,H1,w1,a,C,t,B,H',rfl,I1,g1,go1,F',hns,hext,tb'⟩:=q
   obtain⟨hXk,hsub⟩:=hall nm hL C hns
   refine z49 (X:=Y.nox) I1 F' hst hfm hN hie hik hne hnk hR hRt hsub hmg hg hdb hdn hcn hsw fun s5 oe hoc I5=>?_
   have hσe:ie<σ.length:=by rw[I.len];exact(List.getElem?_eq_some_iff.mp hie).1
   have hσk:ik<σ.length:=by rw[I.len];exact(List.getElem?_eq_some_iff.mp hik).1
   have hfr:=F'.free
   obtain⟨g2,go2⟩:=g1.grow (H':=upd H' a (j0b a oe)) (fun b o q=>by
    obtain⟨y,ey,_⟩:=(hext b o q).is
    unfold upd
    rw[if_neg (fun z=>by rw[<- z,ey]at hfr;cases hfr)]
    exact hext b o q) (tb'.upd rfl (.inl hfr))
   have rep:∀ w',Rep Y.K (upd H' a (j0b a oe)) w' .f 0 (.exc nm) (.ref a) []:=fun w'=>.exc (ob:=oe) (u:=.ext fun h=>h.get? a=some oe) (by unfold upd;rw[if_pos rfl];rfl) ⟨C,hoc,hXk⟩ (fun _ z=>nomatch z)
   obtain⟨g3,go3⟩:=g2.setV (i:=ie) hσe (rep _)
   obtain⟨g4,go4⟩:=g3.setV (i:=ik) (by rw[List.length_set];exact hσk) (rep _)
   obtain⟨g5,go5⟩:=g4.unset (i:=ie) (v:=none) (by rw[List.length_set,List.length_set];exact hσe)
   exact⟨_,_,I5,K' _ _ _ (by rw[List.length_set,List.length_set,List.length_set]) g5 ((((go1.trans go2).trans go3).trans go4).trans go5)⟩
  ·cases ee
 ·refine wpAny_mono (hf pins s σ H Dn I ⟨ρ,w,o,gd,ee,K'⟩) (fun fl s1 q=>?_) (fun _ _ z=>False.elim z)
  cases fl with
  | next=>exact wpAny_execs_nil q
  | brk=>exact q
  | cont=>exact q
  | ret u=>exact q
end
def spO (K:PySem.W.Frag)(n:Nat)(ob:D)(G:List D->OD):Sp:=fun vs H Q _=>vs.length=n/\∃ ds w r q,(∀ a o,w a=some o->o=.f)/\WL K w H/\Reps K H w .f 0 ds vs []/\(∃ v,Rep K H w .f 0 ob v [])/\G ds=some (r,q) /\
 ∀ v H' w' Fo,Go H w H' w'->WL K w' H'->Rep K H' w' (.t 0) q r v Fo->Q v H'
def z6h (P:Program)(w:World)(K:PySem.W.Frag)(mg:Str->Option Value)(base:Heap)(k:Nat)(ob:D)(n:Nat)(G:List D->OD):Prop:=
 ∃ f fo vs ds fd ps,ob=.ob f fo vs ds/\fo.data=.func fd/\FnOk P w K mg base CX0 k f fd ps (spO K n ob G)/\∀ us:List Value,us.length=ps.length->bindArgs fd ⟨us,[]⟩=pure (ps.zip us)
open Classical in
noncomputable def y0b (ob:D)(G:List D->OD)(i n:Nat)(g:x1o):Den:=fun ρ=>if ρ[i]? = some (some (ob,9))then x0l G n g ρ else none
section
variable {X:Cx}{e:Expr}{es:List Expr}{g:x1o}{pos p:Pos}
theorem z2m {i j k n:Nat}{x:Str}{ob:D}{G:List D->OD}(h:PE X (.Name x p) (x9r i))(C:z6h X.prog X.w X.K X.mg X.base k ob n G)(hr:Room j X.A)(hk:k<=j)(ha:PDA X (e::es) g)
  (he:starEach (e::es) X.env=(false,eval e X.env)::starEach es X.env:=by rfl) (hpl:(backTo pos (starEach es X.env)).any (·.1)=false:=by rfl):PD X (.Call (.Name x p) (e::es) [] pos) (y0b ob G i n g):=by
 intro pins s σ H Q I hh0
 obtain⟨ρ,w,t,r',q,ρ',gd,ee,k'⟩:=hh0
 unfold y0b at ee
 split at ee
 ·rename_i hs
  unfold x0l at ee
  split at ee
  ·rename_i ds ρ1 h1
   split at ee
   ·rename_i hn
    split at ee
    ·rename_i r0 q0 h2
     cases ee
     obtain⟨f,fo,cvs,cds,fd,ps,rfl,hfd,F,hb⟩:=C
     obtain⟨v,F0,s1,s2⟩:=gd.slot i _ _ hs
     have hrep:=s2.nolist rfl
     obtain rfl:=hrep.1
     cases s2 with
     | ob a1 a2 a3 a4=>
     have fnAt:∀ {H1:Hp} {s1:Shared} {σ1:St} {u:HO},Inv X pins σ1 H1 s1->H1 f=some (.frz fo u)->FnAt f s1.heap:=fun {H1 s1 σ1 u} I1 e1=>by
      obtain⟨e2,_⟩:=(show x2b X.prog X.w H1 s1.heap _ (.frz _ _)from I1.hok _ _ e1)
      obtain⟨oc,od,da,sl⟩:=fo
      cases hfd
      exact⟨_,_,_,_,e2⟩
     refine wpAny_Call_Name_kw (thn (h pins s σ H (fun v' H'=>v'=.ref f/\H'=H) I ⟨_,s1,rfl,rfl⟩) fun u s1 hh1=>?_)
     obtain⟨v',H',I1,rv,e1,e2⟩:=hh1
     subst e1
     obtain rfl:H=H':=e2.symm
     cases rv
     refine callWith_F (fnAt I1 a1) (thn (ha pos pins s1 σ H (fun vs H1=>∃ w1,Good X.K ρ' σ H1 w1 t/\Go H w H1 w1/\Reps X.K H1 w1 .f 0 ds vs []) I1 ⟨ρ,w,t,ds,ρ',gd,h1,fun vs H1 w1 g1 go1 r1=>⟨w1,g1,go1,r1⟩⟩) fun us s2 hh2=>?_) he hpl
     obtain⟨vs,H1,I2,rv2,w1,g1,go1,r1⟩:=hh2
     have rob:Rep X.K H1 w1 .f 0 (.ob f fo cvs cds) (.ref f) []:=Rep.go gd.wl go1.stab (hrep.2 0) (fun _ z=>nomatch z)
     obtain⟨u1,b1⟩:∃ u,H1 f=some (.frz fo u):=by
      cases rob with
      | ob b1 _ _ _=>exact⟨_,b1⟩
     refine⟨fnAt I2 b1,?_⟩
     have hsp:spO X.K n (.ob f fo cvs cds) G vs H1 Q E0:=by
      refine⟨by rw[<- r1.length];exact hn,ds,fun a=>(w1 a).map fun _=>Ow.f,r',q,fun a o e=>?_,⟨fun a o e=>?_,g1.wl.tb⟩,?_,⟨.ref f,?_⟩,h2,fun v H2 w2 Fo go2 wl2 rr=>?_⟩
      ·try dsimp only at e
       cases ew:w1 a with
       | none=>rw[ew]at e;cases e
       | some o'=>rw[ew]at e;cases e;rfl
      ·try dsimp only at e
       cases ew:w1 a with
       | none=>rw[ew]at e;cases e
       | some o'=>exact g1.wl a o' ew
      ·exact Reps.freeze (fun a n=>by show(w1 a).map _=_;rw[n];rfl) r1 (fun _ z=>nomatch z)
      ·exact Rep.freeze (fun a n=>by show(w1 a).map _=_;rw[n];rfl) rob (fun _ z=>nomatch z)
      ·obtain⟨b1,b2,b3⟩:=j54 g1 go2 wl2 rr
       exact k' _ _ _ _ b1 (go1.trans b2) b3
     have hl:us.length=ps.length:=by rw[<- rv2.length];exact F.len _ _ _ _ hsp
     refine wpAny_call (codeAny_mono (F.run X.A X.stack s2 H1 ⟨us,[]⟩ us vs Q E0 (hr.mono hk) I2.env0 (.of_eq (hb us hl)) rv2 hsp) fun r s' hq=>?_)
     cases r with
     | error e=>exact False.elim hq
     | ok fl=>
      cases fl with
      | ret u=>exact I2.after hq
      | next=>exact False.elim hq
      | brk=>exact False.elim hq
      | cont=>exact False.elim hq
    ·cases ee
   ·cases ee
  ·cases ee
 ·cases ee
end
end L3
namespace L3
open PySem PySem.Spec PyProof.Rows PySem.W L2
theorem z0w {x:Str}{u:Value}:∀ {ps:List Str} {us:List Value} {i:Nat},ps.Nodup->ps[i]? = some x->us[i]? = some u->(ps.zip us).reverse.lookup x=some u
 | [],_,_,_,h,_=>by simp at h
 | _::_,[],_,_,_,h=>by simp at h
 | p::ps,v::us,0,nd,h1,h2=>by
  simp at h1 h2
  subst h1
  subst h2
  rw[List.zip_cons_cons,List.reverse_cons,List.lookup_append]
  have:(ps.zip us).reverse.lookup p=none:=List.lookup_eq_none_iff.mpr fun q hq=>by
   have:=(List.of_mem_zip (List.mem_reverse.mp hq)).1
   exact bne_iff_ne.mpr fun z=>(List.nodup_cons.mp nd).1 (z ▸ this)
  rw[this]
  simp
 | p::ps,v::us,i+1,nd,h1,h2=>by
  rw[List.zip_cons_cons,List.reverse_cons,List.lookup_append,z0w (i:=i) (List.nodup_cons.mp nd).2 (by simpa using h1) (by simpa using h2)]
  rfl
theorem j5i {prog:Program}{w:World}{A:Around}{R:Result->Shared->Prop}{s:Shared}{a c:Addr}{args:Args}{o oc:Obj}{fd:FuncData}{body:Expr}{fs:Array Value}{q:Str}{t:Tok}(hroom:A.depth<recursionLimit)(ho:s.heap.get? a=some o)
  (hd':o.data=.func fd) (hco:fd.scope.isCoroutine=false) (hgen:fd.scope.isGenerator=false) (hbody:fd.body=.expr body) (hc:fd.code=.ref c) (hoc:s.heap.get? c=some oc) (hdc:oc.data=.fields fs) (hq:fs[1]? = some (.str q t))
  (h:wpAny (model prog w) A.in1 (bindArgs fd args) (fun binds s₁=>
    wpAny (model prog w) A.in1 (newFunctionEnv fd.scope fd.globals fd.closure binds (q ++ ".<locals>.") (some a) fd.code none fd.builtins)
     (fun env s₂=>s₂.heap.NoLimit/\codeAny (model prog w) A (.expr body env) R s₂) (fun e s'=>R (.error e) s') s₁) (fun e s'=>R (.error e) s') s) :
  codeAny (model prog w) A (.call (.ref a) args) R s:=by
 refine codeAny_of_tree ?_
 show wpAny _ A.in1 (callAny (.ref a) args) _ _ s
 simp only[callAny]
 refine wpAny_bind (wpAny_load ho ?_)
 simp only[hd',callFunction,hco,hgen,hbody,hc]
 rw[hc]at h
 refine wpAny_bind (m:=field (.ref c) 1) (wpAny_field hoc hdc hq (wpAny_bind (wpAny_pure ?_)))
 exact wpAny_bind (wpAny_mono h (fun binds s₁ h₁=>wpAny_bind (wpAny_mono h₁ (fun env s₂ h₂=>wpAny_bind (wpAny_enterFrame h₂.1 hroom
  (wpAny_pure (And.intro rfl h₂.2)))) fun _ _ h'=>h')) fun _ _ h'=>h')
def cxL (P:Program)(w:World)(K:PySem.W.Frag)(mg:Str->Option Value)(base:Heap)(N:List Str)(qual:Str)(scope:Scope)(f:Addr)(cd:Value)(cl:List (Str×Addr))(A:Around)(outer:List Env)(s:Shared)(H:Hp):Cx where
 prog:=P
 w:=w
 K:=K
 mg:=mg
 base:=base
 A:=A.deeper (envX qual scope s.heap.objs.size f cd cl)
 N:=N
 s₀:=s
 H₀:=H
 env:=envX qual scope s.heap.objs.size f cd cl
 outer:=outer
 stack:=envX qual scope s.heap.objs.size f cd cl::outer
 ex:=[]
 calm:=true
 fn:=fun _=>false
 pn:=[]
 xe:=fun _ _=>False
structure LamScope (ps cs:List Str) (sc:Scope):Prop where
 kind:sc.kind=.function
 co:sc.isCoroutine=false
 gen:sc.isGenerator=false
 nd:(ps++cs).Nodup
 par:∀ x∈ps,sc.names.lookup x=some .local
 cap:∀ x∈cs,sc.names.lookup x=some .free
 nocell:∀ y∈sc.names,y.2 ≠ .cell
 free:∀ x,sc.names.lookup x=some .free->x∈cs
structure CellsOk (base:Heap) (cl:List (Str×Addr)) (cs:List Str) (cvs:List V):Prop where
 len:cvs.length=cs.length
 at':∀ (i:Nat) (x:Str) (v:V),cs[i]? = some x->cvs[i]? = some v->∃ c u,cl.lookup x=some c/\x3t v u/\base.IsCell c (some u)
 inj:∀ x y c,cl.lookup x=some c->cl.lookup y=some c->x=y
 all:∀ x c,cl.lookup x=some c->∃ v,base.IsCell c v
theorem y9d {P:Program}{w:World}{K:PySem.W.Frag}{mg:Str->Option Value}{base:Heap}{ps cs:List Str}{qual:Str}{scope:Scope}{f:Addr}{cd:Value}{cl:List (Str×Addr)}{A:Around}{outer:List Env}{s:Shared}{h1:Heap}{tk:Nat}{H:Hp}{us:List Value}{vs cvs:List V}
  (S:LamScope ps cs scope) (C:CellsOk base cl cs cvs) (hd:A.handled=none) (e0:Env0 P w K mg base A outer s H) (hl:vs.length=ps.length) (r:x2i vs us)
  (hns:h1.Ns s.heap.objs.size (fun x=>(ps.zip us).reverse.lookup x)) (hk:∀ b o,s.heap.get? b=some o->h1.get? b=some o) :
  Inv (cxL P w K mg base (ps++cs) qual scope f cd cl A outer s H) [] (L2.y1o (ps++cs) (vs++cvs)) H { s with heap:=h1,toks:=tk }:=by
 have noA:∀ b:Addr,b ∉ (cxL P w K mg base (ps++cs) qual scope f cd cl A outer s H).ex:=fun b z=>absurd (show b∈([]:List Addr)from z) (by simp)
 refine⟨⟨e0.mod,S.kind,rfl,rfl,Nat.le_refl _,C.inj,fun y hy=>?_,(fun y c z=>by cases z),fun _=>hd,Around.frames_deeper e0.frames,.inr ⟨rfl,rfl⟩,fun b z=>absurd z (noA b),e0.bs,e0.bsz,fun b _ _=>noA b,fun b z=>absurd z (noA b),e0.funs,e0.frf⟩,
  rfl,e0.bare,Un.kept hk,⟨_,hns,fun i y v h1 h2 h3=>?_⟩,fun y c h=>?_,e0.hok.fresh (Nat.le_refl _),fun y c h=>?_,fun p hp=>absurd (show p∈([]:List (Addr×Obj))from hp) (by simp),e0.hok.kept hk,?_⟩
 ·have hy:scope.names.lookup y=some .cell\/scope.names.lookup y=some .free:=hy
  rcases hy with hy|hy
  ·exact absurd rfl (S.nocell _ (PySem.mem_of_lookup hy))
  ·obtain⟨i,hi⟩:=List.mem_iff_getElem?.mp (S.free y hy)
   have:i<cvs.length:=by rw[C.len];exact(List.getElem?_eq_some_iff.mp hi).1
   obtain⟨c,u,e,_⟩:=C.at' i y _ hi (List.getElem?_eq_getElem this)
   exact⟨c,e⟩
 ·have hN:(ps++cs)[i]? = some y:=h1
  have h2':(vs++cvs)[i]? = some v:=by
   unfold L2.y1o at h2
   have hl2:(vs++cvs).length=(ps++cs).length:=by rw[List.length_append,List.length_append,hl,C.len]
   rw[hl2,Nat.sub_self,List.replicate_zero,List.append_nil,List.getElem?_map]at h2
   cases e:(vs++cvs)[i]? with
   | none=>rw[e]at h2;cases h2
   | some a=>rw[e]at h2;cases h2;rfl
  by_cases hi:i<ps.length
  ·rw[List.getElem?_append_left hi]at hN
   rw[List.getElem?_append_left (by rw[hl];exact hi)]at h2'
   obtain⟨u,hu,rv⟩:=r.get h2'
   exact⟨u,rv,.inl ⟨S.par y (List.mem_of_getElem? hN),z0w (List.nodup_append.mp S.nd).1 hN hu⟩⟩
  ·rw[List.getElem?_append_right (Nat.le_of_not_lt hi)]at hN
   rw[List.getElem?_append_right (by rw[hl];exact Nat.le_of_not_lt hi),hl]at h2'
   obtain⟨c,u,e,rv,hc⟩:=C.at' _ y v hN h2'
   exact⟨u,rv,.inr ⟨.inr (S.cap y (List.mem_of_getElem? hN)),c,e,(hc.keeps fun b o e=>(e0.bs b o e).1).keeps hk⟩⟩
 ·obtain⟨v,hv⟩:=C.all y c h
  exact⟨v,(hv.keeps fun b o e=>(e0.bs b o e).1).keeps hk⟩
 ·obtain⟨v,o,ho,_⟩:=C.all y c h
  exact(e0.bs c o ho).2
 ·unfold L2.y1o
  show _=(ps++cs).length
  rw[List.length_append,List.length_map,List.length_replicate,List.length_append,List.length_append,hl,C.len]
  omega
def z1s (fb:Den)(cds:List D):List D->OD:=fun ds=>match fb (x42 (ds++cds).length (ds++cds))with
 | some (d,q,_)=>some (d,q)
 | none=>none
theorem j43 {P:Program}{w:World}{K:PySem.W.Frag}{mg:Str->Option Value}{base:Heap}{ps cs:List Str}{nm qual:Str}{params:Arguments}{body:Expr}{scope:Scope}{cl:List (Str×Addr)}{pm ctv:Value}{f c:Addr}{k:Nat}{cvs:List V}{cds:List D}{fb:Den}
  (S:LamScope ps cs scope) (C:CellsOk base cl cs cvs)
  (hbody:∀ (q:Str) (A:Around) (outer:List Env) (s:Shared) (H:Hp),Room k (A.deeper (envX q scope s.heap.objs.size f (.ref c) cl))->PD (cxL P w K mg base (ps++cs) q scope f (.ref c) cl A outer s H) body fb) :
  FnOk P w K mg base CX0 (k+1) f (kla_fn nm qual params body scope cl pm (.ref c) ctv) ps (spO K ps.length (.ob f (kla_obj nm qual params body scope cl pm c ctv) cvs cds) (z1s fb cds)):=by
 refine⟨fun vs H Q E h=>h.1,fun A outer s H args us vs Q E hr e0 hb r hsp=>?_⟩
 obtain⟨hn,ds,wn,r',q',hw,wl,rs,⟨vo,ro⟩,ee,k'⟩:=hsp
 cases ro with
 | ob a1 a2 a3 a4=>
 obtain⟨x1,⟨fd',x2,x3⟩,fs,q,t,x4,x5⟩:=a3
 cases x2
 cases x3
 obtain⟨o1,_⟩:=(show x2b P w H s.heap _ (.frz _ _)from e0.hok _ _ a1)
 obtain⟨o2,_⟩:=(show x2b P w H s.heap _ (.frz _ _)from e0.hok _ _ a2)
 have lim:s.heap.NoLimit:=e0.mod.nolimit.keeps fun b o e=>(e0.bs b o e).1
 refine j5i hr.depth o1 rfl S.co S.gen rfl rfl o2 x4 x5 (hb _ _ _ _ ?_)
 refine wpAny_newFunctionEnv S.nocell (fun y hy=>S.par y.1 (List.of_mem_zip hy).1) (fun h1 hns hsb=>⟨lim.fresh _ hsb,?_⟩) S.kind
 have hk:∀ b o,s.heap.get? b=some o->h1.get? b=some o:=fun b o e=>hsb.extBut b o (Nat.ne_of_lt (Heap.lt_size e)) (Heap.get?_push_of_some _ e)
 show codeAny _ _ (.expr body (envX q scope s.heap.objs.size f (.ref c) cl)) _ _
 have I:=y9d (cd:=.ref c) (f:=f) (qual:=q) (tk:=s.toks+(ps.zip us).length) S C hr.hd e0 hn r hns hk
 unfold z1s at ee
 split at ee
 ·rename_i d q0 ρ' h1
  cases ee
  have gd:Good K (x42 (ds++cds).length (ds++cds)) (L2.y1o (ps++cs) (vs++cvs)) H wn 0:=by
   have e1:(ds++cds).length=(ps++cs).length:=by rw[List.length_append,List.length_append,rs.length,a4.length,hn,C.len]
   rw[e1]
   refine x6o hw wl ?_
   have app:∀ {ds:List D} {vs:List V},Reps K H wn .f 0 ds vs []->Reps K H wn .f 0 (ds++cds) (vs++cvs) []:=by
    intro ds
    induction ds with
    | nil=>intro vs r;cases r;exact a4
    | cons d ds ih=>
     intro vs r
     generalize hF:([]:List Addr)=F at r
     cases r with
     | cons r1 r2 ne=>
      obtain rfl:=r1.zero
      obtain rfl:=r2.zero
      exact .cons (F:=[]) (G:=[]) r1 (ih r2) (fun _ z=>nomatch z)
   exact app rs
  refine kla_codeExpr (wpAny_mono (hbody q A outer s H (hr.deeper _) [] _ _ H Q I ⟨_,wn,0,_,_,_,gd,h1,fun v H' w' F g1 go1 r1=>k' v H' w' F go1 g1.wl r1⟩) (fun v s' hh=>?_) fun e s' z=>False.elim z)
  obtain⟨v',H',J,rv,qq⟩:=hh
  exact⟨v',H',J.os,J.bare,J.base,J.hok,rv,qq⟩
 ·cases ee
structure Lm (K:PySem.W.Frag) (mg:Str->Option Value) (base:Heap):Prop where
 bm:∃ bm o,mg "__builtins__" = some (.ref bm)/\bm≠builtinsNs/\base.get? bm=some o/\o.cls=.type "module" /\ o.dict=some builtinsNs/\o.data=.plain
 cd:∀ x∈x77,∀ c P,tabIn K x=some (c,P)->CodeHd base c P
theorem y8d {pos:Pos}{a b:Int}{c cv:Value}:∀ (l:List Value),TriplesOk l->codeAmong pos (l++[rawInt a,rawInt b,c])=some cv->codeAmong pos l=some cv\/cv=c:=by
 intro l h
 fun_induction TriplesOk l with
 | case1=>
  intro e
  simp only[List.nil_append,rawInt,codeAmong]at e
  split at e
  ·cases e;exact .inr rfl
  ·cases e
 | case2 a1 t1 a2 t2 v x1w ih=>
  intro e
  simp only[List.cons_append,codeAmong]at e ⊢
  split at e
  ·rename_i hc
   rw[if_pos hc]
   exact .inl e
  ·rename_i hc
   rw[if_neg hc]
   exact ih h e
 | case3=>exact h.elim
theorem TB.grow {K:PySem.W.Frag}{H:Hp}(t:TB K H){P c:Addr}{ps:Array Value}{a b:Int}{oc:Obj}{u:HO}{fs:Array Value}{q:Str}{tk:Tok}(hP:H P=some (.tbl ps))(hc:H c=none)(hu:∀ xs,u ≠ .lst xs)(h1:oc.data=.fields fs)(h2:fs[1]? = some (.str q tk)) :
  TB K (L2.upd (L2.upd H P (.tbl (ps ++ #[rawInt a,rawInt b,.ref c]))) c (.frz oc u)):=by
 have hcP:P≠c:=fun z=>by rw[z,hc]at hP;cases hP
 have frz:∀ d o v,H d=some (.frz o v)->L2.upd (L2.upd H P (.tbl (ps ++ #[rawInt a,rawInt b,.ref c]))) c (.frz oc u) d=some (.frz o v):=fun d o v e=>by
  rw[x0i (fun z=>by rw[z,hc]at e;cases e),x0i (fun z=>by rw[z,hP]at e;cases e)]
  exact e
 have get:∀ Q qs,L2.upd (L2.upd H P (.tbl (ps ++ #[rawInt a,rawInt b,.ref c]))) c (.frz oc u) Q=some (.tbl qs)->(Q=P/\qs=ps ++ #[rawInt a,rawInt b,.ref c])\/H Q=some (.tbl qs):=fun Q qs e=>by
  by_cases h1:Q=c
  ·subst h1;rw[x0w]at e;cases e
  ·rw[x0i h1]at e
   by_cases h2:Q=P
   ·subst h2;rw[x0w]at e;cases e;exact .inl ⟨rfl,rfl⟩
   ·rw[x0i h2]at e;exact .inr e
 refine⟨fun Q qs e=>?_,fun Q qs e pos cv hcv=>?_,fun x hx c' P' e=>?_⟩
 ·rcases get Q qs e with⟨_,rfl⟩|e
  ·have:=TriplesOk_snoc a b (.ref c) ps.toList (t.tr P ps hP)
   simpa using this
  ·exact t.tr Q qs e
 ·have old:∀ Q qs,H Q=some (.tbl qs)->codeAmong pos qs.toList=some cv->∃ c' oc' u' vs q t,cv=.ref c'/\L2.upd (L2.upd H P (.tbl (ps ++ #[rawInt a,rawInt b,.ref c]))) c (.frz oc u) c'=some (.frz oc' u')/\oc'.data=.fields vs/\vs[1]? = some (.str q t)/\∀ xs,u' ≠ .lst xs:=fun Q qs e hcv=>by
   obtain⟨c',oc',u',vs,q',t',g1,g2,g3,g4,g5⟩:=t.cd Q qs e pos cv hcv
   exact⟨c',oc',u',vs,q',t',g1,frz _ _ _ g2,g3,g4,g5⟩
  rcases get Q qs e with⟨_,rfl⟩|e
  ·rcases y8d (pos:=pos) (cv:=cv) (c:=.ref c) (a:=a) (b:=b) ps.toList (t.tr P ps hP) (by simpa using hcv)with z|z
   ·exact old P ps hP z
   ·exact⟨c,oc,u,fs,q,tk,z,x0w,h1,h2,hu⟩
  ·exact old Q qs e hcv
 ·obtain⟨qs,e'⟩:=t.is x hx c' P' e
  have n1:P'≠c:=fun z=>by rw[z,hc]at e';cases e'
  by_cases n2:P'=P
  ·subst n2;exact⟨_,by rw[x0i n1,x0w]⟩
  ·exact⟨qs,by rw[x0i n1,x0i n2];exact e'⟩
def kn (a:Addr)(o:Obj):HO:=.frz o (.ext fun h=>h.get? a=some o)
theorem z8j {P:Program}{w:World}{H:Hp}{h:Heap}{a:Addr}{o:Obj}(e:h.get? a=some o):x2b P w H h a (kn a o):=⟨e,e,⟨o,e⟩,fun _ _ p k=>k _ p⟩
section
variable {X:Cx}{pins:List (Addr×Obj)}{σ:St}{H:Hp}{s:Shared}{E:Value->Shared->Prop}{Q:Value->Shared->Prop}
theorem Inv.table {P c f:Addr}{ps ps':Array Value}{oc fo:Obj}{h':Heap}{tk:Nat}(I:Inv X pins σ H s)(hP:H P=some (.tbl ps))(hx:Heap.ExtBut P s.heap h')(hc:s.heap.objs.size<=c)(hf:c<f)(e1:h'.get? c=some oc)(e2:h'.get? P=some (tabObj (ps++ps')))(e3:h'.get? f=some fo) :
  Inv X pins σ (L2.upd (L2.upd (L2.upd H P (.tbl (ps++ps'))) c (kn c oc)) f (kn f fo)) { s with heap:=h',toks:=tk }:=by
 have nc:H c=none:=I.hok.fresh hc
 have nf:H f=none:=I.hok.fresh (Nat.le_trans hc (Nat.le_of_lt hf))
 have keep:∀ b u,H b=some u->b≠P->L2.upd (L2.upd (L2.upd H P (.tbl (ps++ps'))) c (kn c oc)) f (kn f fo) b=some u:=fun b u e n=>by
  rw[x0i (x0u e nf),x0i (x0u e nc),x0i n];exact e
 have PP:L2.upd (L2.upd (L2.upd H P (.tbl (ps++ps'))) c (kn c oc)) f (kn f fo) P=some (.tbl (ps++ps')):=by
  rw[x0i (x0u hP nf),x0i (x0u hP nc),x0w]
 have kp:∀ b o,s.heap.get? b=some o->H b=none->h'.get? b=some o:=fun b o e n=>hx b o (fun z=>by rw[z,hP]at n;cases n) e
 refine I.un ⟨fun b o e n _ _=>kp b o e n,fun b o e n _ _=>⟨o.slots,kp b o e n⟩,fun b o e n _=>?_,fun b o e _=>?_,fun b xs e=>keep b _ e (fun z=>by rw[z,hP]at e;cases e),fun b o u e=>keep b _ e (fun z=>by rw[z,hP]at e;cases e),fun b qs e=>?_⟩ fun a o e=>?_
 ·have lt:=Heap.lt_size e
  rw[x0i (Nat.ne_of_lt (Nat.lt_trans (Nat.lt_of_lt_of_le lt hc) hf)),x0i (Nat.ne_of_lt (Nat.lt_of_lt_of_le lt hc)),x0i (fun z=>by rw[z,hP]at n;cases n)]
  exact n
 ·by_cases hb:b=P
  ·rw[hb];exact⟨_,e2⟩
  ·exact⟨o,hx b o hb e⟩
 ·by_cases hb:b=P
  ·subst hb
   rw[hP]at e;cases e
   exact⟨ps',PP⟩
  ·exact⟨#[],by rw[Array.append_empty];exact keep b _ e hb⟩
 ·by_cases h1:a=f
  ·subst h1;rw[x0w]at e;cases e;exact z8j e3
  ·rw[x0i h1]at e
   by_cases h2:a=c
   ·subst h2;rw[x0w]at e;cases e;exact z8j e1
   ·rw[x0i h2]at e
    by_cases h3:a=P
    ·subst h3;rw[x0w]at e;cases e;exact e2
    ·rw[x0i h3]at e
     refine(I.hok a o e).stay (fun b u hb q=>hx b u (fun z=>?_) q) (fun b q=>keep b _ q (fun z=>by rw[z,hP]at q;cases q)) fun b xs q=>keep b _ q (fun z=>by rw[z,hP]at q;cases q)
     subst z
     rcases hb with hb|hb
     ·exact h3 hb.symm
     ·rw[hP]at hb;cases hb
theorem z37 {params:Arguments}{body:Expr}{scope:Scope}{pos:Pos}{A:Around}{M:Model}{x:Str}{c P:Addr}{clos:List (Str×Addr)}(I:Inv X pins σ H s)(L:Lm X.K X.mg X.base)(tb:TB X.K H)(hx:x∈x77)(ht:tabIn X.K x=some (c,P))(hcode:X.env.code=.ref c)
  (hcl:closureFor scope X.env=pure clos) (hdf:defaultsOf params X.env=([],[]))
  (h:∀ (f c':Addr) (pm ctv:Value) (oc:Obj) (h':Heap) (tk:Nat) (H':Hp) (u u':HO),Inv X pins σ H' { s with heap:=h',toks:=tk }->H' f=some (.frz (kla_obj "<lambda>" (X.env.qual ++ "<lambda>") params body scope clos pm c' ctv) u)->H' c'=some (.frz oc u')->
    Clo (kla_obj "<lambda>" (X.env.qual ++ "<lambda>") params body scope clos pm c' ctv) c' oc->(∀ b o,H b=some o->Sm o (H' b))->TB X.K H'->Q (.ref f) { s with heap:=h',toks:=tk }) :
  wpAny M A (eval (.Lambda params body scope pos) X.env) Q E s:=by
 obtain⟨ps,hP⟩:=tb.is x hx c P ht
 have oP:s.heap.get? P=some (tabObj ps):=I.hok P _ hP
 have C:=(L.cd x hx c P ht).keeps I.bk
 have hg:=I.mod.glob.keeps I.bk
 have hgP:mainGlobals≠P:=fun q=>by
  obtain⟨o,es,ep,e,hd,_⟩:=hg
  rw[q,oP]at e;cases e;cases hd
 have hB:s.heap.BuiltinsAt X.mg P:=by
  obtain⟨bm,ob,b1,b2,b3,b4,b5,b6⟩:=L.bm
  have b3':=I.bk _ _ b3
  refine⟨bm,ob,b1,b2,fun q=>?_,fun q=>?_,b3',b4,b5,b6⟩
  ·obtain⟨o,es,ep,e,hd,_⟩:=hg
   rw[q,e]at b3';cases b3';rw[hd]at b6;cases b6
  ·rw[q,oP]at b3';cases b3';cases b4
 refine kla_eval hdf ?_
 cases hf:codeAmong pos ps.toList with
 | none=>
  refine kla_makeFunction (mg:=X.mg) hcl I.ok.glob hg hcode C oP (tb.tr P ps hP) hf hgP hB fun c' ctv h' tk hxb hge hlt hrec htb=>?_
  obtain⟨c2,oc,vs,t,e2,hoc,hd,hv⟩:=hrec
  cases e2
  have nc:H c'=none:=I.hok.fresh hge
  have nf:H h'.objs.size=none:=I.hok.fresh (Nat.le_trans hge (Nat.le_of_lt hlt))
  refine h h'.objs.size c' _ ctv oc _ tk _ _ _ (Inv.table (ps':=#[rawInt pos.line,rawInt pos.col,.ref c']) (oc:=oc) I hP (fun b o n e=>Heap.get?_push_of_some _ (hxb b o n e)) hge hlt (Heap.get?_push_of_some _ hoc) (Heap.get?_push_of_some _ htb) (Heap.get?_push_size _ rfl)) x0w
   (by rw[x0i (Nat.ne_of_lt hlt),x0w];rfl) ⟨rfl,⟨_,rfl,rfl⟩,vs,_,t,hd,hv⟩ (fun b o e=>?_) ((tb.grow (u:=.ext fun h=>h.get? c'=some oc) hP nc (fun _ z=>nomatch z) hd hv).upd rfl (.inl ?_))
  ·by_cases hb:b=P
   ·subst hb
    rw[hP]at e;cases e
    exact⟨_,by rw[x0i (x0u hP nf),x0i (x0u hP nc),x0w]⟩
   ·exact sm (by rw[x0i (x0u e nf),x0i (x0u e nc),x0i hb];exact e)
  ·rw[x0i (Nat.ne_of_gt hlt),x0i (x0u hP nf).symm];exact nf
 | some cv=>
  obtain⟨c',oc,u',vs,q,t,rfl,hc',hd,hv,_⟩:=tb.cd P ps hP pos cv hf
  refine kla_makeFunctionHit (mg:=X.mg) hcl I.ok.glob hg hcode C oP (tb.tr P ps hP) hf hB fun ctv h' tk hk hsz=>?_
  have nf:H h'.objs.size=none:=I.hok.fresh hsz
  refine h h'.objs.size c' _ ctv oc _ tk _ _ _ (I.laid (o:=kn _ _) (fun b o e=>Heap.get?_push_of_some _ (hk b o e)) hsz (z8j (Heap.get?_push_size _ rfl))) x0w (by rw[x0i (x0u hc' nf)];exact hc') ⟨rfl,⟨_,rfl,rfl⟩,vs,_,t,hd,hv⟩ (fun b o e=>sm (by rw[x0i (x0u e nf)];exact e)) (tb.upd rfl (.inl nf))
end
def y9p (base h:Heap)(ex:List Addr):Heap:=hideAll h ((List.range h.objs.size).filter fun b=>(base.get? b).isNone && !ex.contains b)
theorem y8x {base h:Heap}{ex:List Addr}{b:Addr}{o:Obj}(e:(y9p base h ex).get? b=some o):h.get? b=some o/\((base.get? b).isSome=true\/b∈ex):=by
 have e1:=of_hideAll _ e
 refine⟨e1,?_⟩
 by_cases hb:b∈((List.range h.objs.size).filter fun b=>(base.get? b).isNone && !ex.contains b)
 ·have:=hideAll_none (h:=h) _ hb
  unfold y9p at e
  rw[this]at e;cases e
 ·rw[List.mem_filter]at hb
  have:¬ (((base.get? b).isNone && !ex.contains b)=true):=fun z=>hb ⟨List.mem_range.mpr (Heap.lt_size e1),z⟩
  cases h1:base.get? b with
  | some o'=>exact .inl rfl
  | none=>
   rw[h1]at this
   simp at this
   exact .inr this
theorem y3n {base h:Heap}{ex:List Addr}{b:Addr}{o:Obj}(e:h.get? b=some o)(hb:(base.get? b).isSome=true\/b∈ex):(y9p base h ex).get? b=some o:=
 hideAll_get _ e fun z=>by
  have:=(List.mem_filter.mp z).2
  rw[Bool.and_eq_true_iff]at this
  rcases hb with hb|hb
  ·have t1:=this.1
   cases q:base.get? b with
   | none=>rw[q]at hb;cases hb
   | some o=>rw[q]at t1;cases t1
  ·have t2:=this.2
   simp at t2
   exact t2 hb
def x8j:List Str->List (Str×Addr)->List (Str×Addr)
 | [],_=>[]
 | x::xs,cells=>match cells.lookup x with
  | some c=>(x,c)::x8j xs cells
  | none=>x8j xs cells
theorem y0k {cells:List (Str×Addr)}{x:Str}{c:Addr}:∀ {xs:List Str},(x8j xs cells).lookup x=some c->cells.lookup x=some c
 | [],h=>by cases h
 | y::xs,h=>by
  unfold x8j at h
  split at h
  ·rename_i c' e
   rw[List.lookup_cons]at h
   split at h
   ·rename_i hb
    cases h
    rw[eq_of_beq hb];exact e
   ·exact y0k h
  ·exact y0k h
theorem y5u {cells:List (Str×Addr)}{x:Str}{c:Addr}(e:cells.lookup x=some c):∀ {xs:List Str},x∈xs->(x8j xs cells).lookup x=some c
 | [],h=>by cases h
 | y::xs,h=>by
  unfold x8j
  by_cases hy:x=y
  ·subst hy
   rw[e]
   simp
  ·have hm:x∈xs:=by rcases List.mem_cons.mp h with z|z;exact absurd z hy;exact z
   split
   ·rw[List.lookup_cons,beq_eq_false_iff_ne.mpr hy]
    exact y5u e hm
   ·exact y5u e hm
def j0s:List Nat->Rho->Option (List D)
 | [],_=>some []
 | i::is,ρ=>match ρ[i]? with
  | some (some (d,_))=>if d.isL=false then match j0s is ρ with
   | some ds=>some (d::ds)
   | none=>none
   else none
  | _=>none
theorem z1h {K:PySem.W.Frag}{ρ:Rho}{σ:St}{H:Hp}{w:Wn}{t:Nat}(g:Good K ρ σ H w t):∀ {is:List Nat} {ds:List D},j0s is ρ=some ds->∃ vs,Reps K H w .f 0 ds vs []/\vs.length=is.length/\∀ (j i:Nat),is[j]? = some i->∃ v,vs[j]? = some v/\σ[i]? = some (some v)
 | [],ds,e=>by
  cases e
  exact⟨[],.nil,rfl,fun j i h=>by simp at h⟩
 | i::is,ds,e=>by
  unfold j0s at e
  split at e
  ·rename_i d q h1
   split at e
   ·rename_i hl
    split at e
    ·rename_i ds' h2
     cases e
     obtain⟨vs,r,l,k⟩:=z1h g h2
     obtain⟨v,F,s1,s2⟩:=g.slot i d q h1
     obtain⟨hF,hr⟩:=s2.nolist hl
     refine⟨v::vs,.cons (F:=[]) (G:=[]) ((hr 0).any g.wl) r (fun _ z=>nomatch z),by simp[l],fun j i' hj=>?_⟩
     cases j with
     | zero=>simp at hj;subst hj;exact⟨v,rfl,s1⟩
     | succ j=>exact k j i' (by simpa using hj)
    ·cases e
   ·cases e
  ·cases e
def ob0 (cds:List D):D:=.ob 0 ⟨.none,none,.plain,#[]⟩ [] cds
open Classical in
noncomputable def j0e (F:D->(List D->OD)->List D->OD)(fb:Den)(is:List Nat)(fN:Den):Den:=fun ρ=>match fN ρ with
 | some (.int m,_,ρ1)=>match j0s is ρ1 with
  | some cds=>if ∀ f fo vs,F (.ob f fo vs cds) (z1s fb cds) [.int m,.ob f fo vs cds]=F (ob0 cds) (z1s fb cds) [.int m,ob0 cds]then match F (ob0 cds) (z1s fb cds) [.int m,ob0 cds]with
   | some (r,q)=>some (r,q,ρ1)
   | none=>none
   else none
  | none=>none
 | _=>none
theorem j2m {X:Cx}{x y:Str}{c P fn:Addr}{j k kb:Nat}{ps caps:List Str}{is:List Nat}{params:Arguments}{body eN:Expr}{scope:Scope}{fN fb:Den}{F:D->(List D->OD)->List D->OD}{p lp pos:Pos}
  (hfn:X.fn=fun _=>true) (L:Lm X.K X.mg X.base) (hx:x∈x77) (ht:tabIn X.K x=some (c,P)) (hcode:X.env.code=.ref c) (S:LamScope ps caps scope)
  (hm:X.mg y=some (.ref fn)) (hkp:keepIn X.K (.ref fn)=true) (hr:Room j X.A) (hk:k<=j)
  (hF:∀ base' ob G,z6h X.prog X.w X.K X.mg base' (kb+1) ob ps.length G->Cal X.prog X.w X.K X.mg base' k y 2 (F ob G))
  (hbody:∀ (base':Heap) (f c':Addr) (cl:List (Str×Addr)) (q:Str) (A:Around) (outer:List Env) (s:Shared) (H:Hp),Room kb (A.deeper (envX q scope s.heap.objs.size f (.ref c') cl))->PD (cxL X.prog X.w X.K X.mg base' (ps++caps) q scope f (.ref c') cl A outer s H) body fb)
  (hbind:∀ (cl:List (Str×Addr)) (pm cdv ctv:Value) (us:List Value),us.length=ps.length->bindArgs (kla_fn "<lambda>" (X.env.qual ++ "<lambda>") params body scope cl pm cdv ctv) ⟨us,[]⟩=pure (ps.zip us))
  (hN:∀ (j:Nat) (z:Str),caps[j]? = some z->∃ i,is[j]? = some i/\X.N[i]? = some z/\X.env.scope.names.lookup z=some .cell) (hl:is.length=caps.length) (ha:PD X eN fN)
  (hcl:closureFor scope X.env=pure (x8j caps X.env.cells):=by rfl) (hdf:defaultsOf params X.env=([],[]):=by rfl) (hg:Gl X y:=by rfl) (hdb:(y==("__debug__":Str))=false:=by decide)
  (he:starEach [eN,.Lambda params body scope lp] X.env=(false,eval eN X.env)::starEach [.Lambda params body scope lp] X.env:=by rfl) (hpl:(backTo pos (starEach [.Lambda params body scope lp] X.env)).any (·.1)=false:=by rfl) :
  PD X (.Call (.Name y p) [eN,.Lambda params body scope lp] [] pos) (j0e F fb is fN):=by
 intro pins s σ H Q I hh0
 obtain⟨ρ,w,t,r',q,ρ',gd,ee,k'⟩:=hh0
 unfold j0e at ee
 split at ee
 ·rename_i m q1 ρ1 h1
  split at ee
  ·rename_i cds hc
   split at ee
   ·rename_i hall
    split at ee
    ·rename_i r0 q0 hres
     cases ee
     refine wpAny_Call_Name_kw (x8u I hg hm ?_ hdb)
     refine PySem.W.callWith_K (h₀:=X.base) I.ok.mod.kin hkp ?_ he hpl
     rw[he]
     show wpAny _ _ (spliced ((false,eval eN X.env)::backTo pos (starEach [.Lambda params body scope lp] X.env))) _ _ s
     refine Calls.spliced_cons (thn (ha pins s σ H (fun v H1=>∃ w1 F1,Good X.K ρ' σ H1 w1 (t+1)/\Go H w H1 w1/\Rep X.K H1 w1 (.t t) q1 (.int m) v F1) I ⟨ρ,w,t,_,_,_,gd,h1,fun v H1 w1 F1 g1 go1 r1=>⟨w1,F1,g1,go1,r1⟩⟩) fun u s1 hh1=>?_)
     obtain⟨v,H1,I1,rv,w1,F1,g1,go1,r1⟩:=hh1
     cases r1
     rw[y4w]
     show wpAny _ _ (spliced ((false,eval (.Lambda params body scope lp) X.env)::backTo pos (starEach [] X.env))) _ _ s1
     refine Calls.spliced_cons (z37 I1 L g1.wl.tb hx ht hcode hcl hdf fun f c' pm ctv oc h' tk H2 u1 u2 I2 hf hc' clo sm2 tb2=>Calls.spliced_nil ⟨I2.kIn,?_⟩)
     obtain⟨g2,go2⟩:=g1.drop.grow sm2 tb2
     have go02:=(go1.drop gd.wt).trans go2
     obtain⟨cvs,rc,lc,kc⟩:=z1h g2 hc
     have cl_at:∀ z c,(x8j caps X.env.cells).lookup z=some c->∃ v,h'.IsCell c v:=fun z c e=>I2.cell z c (y0k e)
     have exs:∀ z c,(x8j caps X.env.cells).lookup z=some c->c∈(x8j caps X.env.cells).map (·.2):=fun z c e=>List.mem_map.mpr ⟨(z,c),PySem.mem_of_lookup e,rfl⟩
     have exc:∀ b∈(x8j caps X.env.cells).map (·.2),∃ z,X.env.cells.lookup z=some b:=fun b hb=>by
      have gen:∀ (l:List Str) b,b∈(x8j l X.env.cells).map (·.2)->∃ z,X.env.cells.lookup z=some b:=by
       intro l
       induction l with
       | nil=>intro b hb;cases hb
       | cons z l ih=>
        intro b hb
        unfold x8j at hb
        split at hb
        ·rename_i c0 e0
         rcases List.mem_cons.mp hb with z1|z1
         ·exact⟨z,by rw[z1];exact e0⟩
         ·exact ih b z1
        ·exact ih b hb
      exact gen caps b hb
     have C:CellsOk (y9p X.base h' ((x8j caps X.env.cells).map (·.2))) (x8j caps X.env.cells) caps cvs:=by
      refine⟨lc.trans hl,fun i z v h1 h2=>?_,fun a b c h1 h2=>I2.ok.inj a b c (y0k h1) (y0k h2),fun z c e=>?_⟩
      ·obtain⟨ix,e1,e2,e3⟩:=hN i z h1
       obtain⟨v',e4,e5⟩:=kc i ix e1
       rw[h2]at e4;cases e4
       obtain⟨mm,_,lk⟩:=I2.loc
       obtain⟨u,ru,lk⟩:=lk ix z v e2 e5 (.inr (.inl e3))
       rcases lk with⟨z1,_⟩|⟨_,c,e6,o,e7,e8⟩
       ·have z2:X.env.scope.names.lookup z=some .local:=z1
        rw[e3]at z2;cases z2
       ·have e9:=y5u e6 (List.mem_of_getElem? h1)
        exact⟨c,u,e9,ru,o,y3n e7 (.inr (exs z c e9)),e8⟩
      ·obtain⟨v,o,e1,e2⟩:=cl_at z c e
       exact⟨v,o,y3n e1 (.inr (exs z c e)),e2⟩
     have kb':∀ b o,X.base.get? b=some o->(y9p X.base h' ((x8j caps X.env.cells).map (·.2))).get? b=some o:=fun b o e=>y3n (I2.bk b o e) (.inl (by rw[e];rfl))
     have hM:Mod X.K X.mg (y9p X.base h' ((x8j caps X.env.cells).map (·.2))):=by
      obtain⟨m1,m2,⟨mb,m3,m4⟩,m5⟩:=I.mod
      exact⟨m1.keeps kb',m2.keeps kb',⟨mb,m3.keeps kb',m4⟩,m5.keeps kb'⟩
     have frs':∀ L o,X.base.get? L=none->h'.get? L=some o->(L∈X.fs\/L=X.env.locals)->(y9p X.base h' ((x8j caps X.env.cells).map (·.2))).get? L=none:=fun L o n e hL=>by
      cases q:(y9p X.base h' ((x8j caps X.env.cells).map (·.2))).get? L with
      | none=>rfl
      | some o'=>
       rcases(y8x q).2 with z|z
       ·rw[n]at z;cases z
       ·obtain⟨y,ey⟩:=exc L z
        rcases hL with hL|hL
        ·obtain⟨_,o2,e2,_⟩:=I2.ok.funs.mem hL
         have:=I2.ok.cab y L (by rw[hfn]) ey
         exact absurd (Heap.lt_size e2) (Nat.not_lt.mpr this)
        ·exact absurd hL (I2.cne y L ey)
     have e0:Env0 X.prog X.w X.K X.mg (y9p X.base h' ((x8j caps X.env.cells).map (·.2))) X.A X.stack { s1 with heap:=h',toks:=tk } H2:=by
      refine⟨I2.ok.frames,hM,fun b o e=>?_,Nat.le_of_eq (hideAll_size _ _),?_,I2.stkFree,I2.hok,I2.bare⟩
      ·obtain⟨e1,e2⟩:=y8x e
       refine⟨e1,?_⟩
       rcases e2 with z|z
       ·obtain⟨o',z'⟩:=Option.isSome_iff_exists.mp z
        exact(I2.bs b o' z').2
       ·obtain⟨y,ey⟩:=exc b z
        exact I2.freeC y b ey
      ·have all:∀ l:List Env,(∀ b∈frs l,b∈X.env.locals::X.fs)->h'.FunFrames X.base l->h'.FunFrames (y9p X.base h' ((x8j caps X.env.cells).map (·.2))) l:=by
        intro l
        induction l with
        | nil=>intro _ _;trivial
        | cons env r ih=>
         intro hs hl
         obtain⟨hk,⟨L,o,hf,hn,ho,hd⟩,hr⟩:=hl
         have hL:L∈X.env.locals::X.fs:=hs L (by unfold frs;rw[List.filterMap_cons,hf];exact List.mem_cons_self)
         refine⟨hk,⟨L,o,hf,frs' L o hn ho ?_,ho,hd⟩,ih (fun b hb=>hs b (by unfold frs;rw[List.filterMap_cons,hf];exact List.mem_cons_of_mem _ hb)) hr⟩
         rcases List.mem_cons.mp hL with z|z
         ·exact .inr z
         ·exact .inl z
       exact all X.stack I2.stkSub I2.stack
     have hcal:=hF (y9p X.base h' ((x8j caps X.env.cells).map (·.2))) (.ob f (kla_obj "<lambda>" (X.env.qual ++ "<lambda>") params body scope (x8j caps X.env.cells) pm c' ctv) cvs cds) (z1s fb cds)
      ⟨f,_,cvs,cds,kla_fn "<lambda>" (X.env.qual ++ "<lambda>") params body scope (x8j caps X.env.cells) pm (.ref c') ctv,ps,rfl,rfl,j43 S C (fun q A outer s H hr=>hbody _ f c' _ q A outer s H hr),hbind _ _ _ _⟩
     obtain⟨fn',fd,ps',G,hm',hkp',hb⟩:=hcal
     obtain rfl:fn=fn':=by rw[hm]at hm';cases hm';rfl
     have rob:Rep X.K H2 (x1q t w1) .f 0 (.ob f (kla_obj "<lambda>" (X.env.qual ++ "<lambda>") params body scope (x8j caps X.env.cells) pm c' ctv) cvs cds) (.ref f) []:=.ob hf hc' clo rc
     have hsp:spD X.K 2 (F (.ob f (kla_obj "<lambda>" (X.env.qual ++ "<lambda>") params body scope (x8j caps X.env.cells) pm c' ctv) cvs cds) (z1s fb cds)) [.int m,.ref f] H2 Q E0:=by
      refine⟨rfl,[.int m,.ob f (kla_obj "<lambda>" (X.env.qual ++ "<lambda>") params body scope (x8j caps X.env.cells) pm c' ctv) cvs cds],fun a=>((x1q t w1) a).map fun _=>Ow.f,r',q,fun a o e=>?_,⟨fun a o e=>?_,tb2⟩,?_,(hall _ _ _).trans hres,fun v H3 w3 Fo go3 wl3 rr=>?_⟩
      ·try dsimp only at e
       cases ew:(x1q t w1) a with
       | none=>rw[ew]at e;cases e
       | some o'=>rw[ew]at e;cases e;rfl
      ·try dsimp only at e
       cases ew:(x1q t w1) a with
       | none=>rw[ew]at e;cases e
       | some o'=>exact g2.wl a o' ew
      ·exact .cons (F:=[]) (G:=[]) (.int m) (.cons (F:=[]) (G:=[]) (Rep.freeze (fun a n=>by show((x1q t w1) a).map _=_;rw[n];rfl) rob (fun _ z=>nomatch z)) .nil (fun _ z=>nomatch z)) (fun _ z=>nomatch z)
      ·obtain⟨b1,b2,b3⟩:=j54 g2 go3 wl3 rr
       exact k' _ _ _ _ b1 (go02.trans b2) b3
     have vals:x2i [.int m,.ref f] [u,.ref f]:=.cons rv (.cons rfl .nil)
     have hl2:([u,Value.ref f]++[]).length=ps'.length:=by
      rw[List.append_nil,<- vals.length]
      exact G.len _ _ _ _ hsp
     refine wpAny_call (codeAny_mono (G.run X.A X.stack _ H2 ⟨[u,.ref f],[]⟩ [u,.ref f] [.int m,.ref f] Q E0 (hr.mono hk) e0 ?_ vals hsp) fun r s' hq=>?_)
     ·have:=hb { s1 with heap:=h',toks:=tk } [u,.ref f] I2.kIn hl2
      rw[List.append_nil]at this
      exact this
     ·cases r with
      | error e=>exact False.elim hq
      | ok fl=>
       cases fl with
       | ret u=>exact I2.after hq
       | next=>exact False.elim hq
       | brk=>exact False.elim hq
       | cont=>exact False.elim hq
    ·cases ee
   ·cases ee
  ·cases ee
 ·cases ee
end L3
namespace L3
open PySem PySem.Spec PyProof.Rows L2
end L3
namespace L3
open PySem PySem.Spec PyProof.Rows PySem.W L2
abbrev met (ks:List Int):List Int:=firstMet (fun i=>ks.getD i 0) ks.length
def bl (m:Nat):List Nat:=(List.range 5).filter fun i=>m.testBit i
def bt (m:Nat)(led:Bool):SetTable:={ mask:=if(bl m).length<5 then 7 else 31,place:=(bl m).toArray,dummies:=#[],finger:=0,led:=led,moves:=if(bl m).length<5 then 0 else 1,plain:=true }
def esL (m:Nat)(z:Nat->Tok):Array (Int×Value):=((bl m).map fun v:Nat=>(Int.ofNat v,Value.int (Int.ofNat v) (z v))).toArray
def so (m:Nat)(z:Nat->Tok)(ep:Nat)(led:Bool):Obj:={ cls:=.type "set",dict:=none,data:=.set (esL m z) ep (bt m led) }
def bor (m v:Nat):Nat:=m ||| 1 <<< v
def mb (val:Nat->Nat):Nat->Nat
 | 0=>0
 | i+1=>bor (mb val i) (val i)
theorem x7z:∀ {ks:List Int} {us:List Value},IntsAre us ks->x2i (ks.map V.int) us
 | _,_,.nil=>.nil
 | _,_,.cons k t r=>.cons ⟨t,rfl⟩ (x7z r)
end L3
namespace L3
open PySem PySem.Spec PyProof.Rows L2
end L3
namespace L3
open PySem PySem.Spec PyProof.Rows PySem.W L2
end L3
namespace L3
open PySem PySem.Spec PyProof.Rows L2
end L3
namespace L3
open PySem PySem.Spec PyProof.Rows PySem.W L2
end L3
namespace L3
open PySem PySem.Spec PyProof.Rows L2
end L3
namespace L3
open PySem PySem.Spec PyProof.Rows PySem.W L2
def y2u (base:Heap)(l:List Env)(e:Addr)(cls a0 v:Value)(h:Heap):Prop:=
 base.StaysIn h/\base.get? e=none/\h.FunFrames base l/\h.TracedAtW base e cls a0 v
section
variable {M:Model}{A:Around}{E:Value->Shared->Prop}{s:Shared}{base:Heap}{env:Env}{outer l:List Env}{L e:Addr}{cls a0 v:Value}
theorem z6m {Q:Unit->Shared->Prop}(hfr:A.frames=some (env::outer))(hf:env.frame=some L)(hh:y2u base (env::outer) e cls a0 v s.heap)
  (hQ:∀ h',Heap.FlyingW base outer e cls a0 h'->s.heap.UpToSlots h'->Q () { s with heap:=h' }):wpAny M A (leaving env (.ref e)) Q E s:=by
 by_cases hv:v=rawInt L
 ·subst hv
  unfold leaving
  refine wpAny_bind (wpAny_noteFrame_againW hf hh.2.2.2 ?_)
  refine wpAny_landsW (L:=L) hh fun h' hfl hs=>?_
  obtain⟨k1,k2,⟨_,_,k3⟩,k4⟩:=hfl
  exact hQ h' ⟨k1,k2,k3,k4⟩ hs
 ·obtain⟨f1,f2,f3,oe,vs,T,oT,ts,he,⟨hcls,h0⟩,hd,h1,hnT,hTe,hT,hdT,h3⟩:=hh
  subst hcls
  unfold leaving noteFrame
  simp only[hf]
  refine wpAny_bind (wpAny_bind (wpAny_field he hd h1 ?_))
  rw[if_pos (show(Value.ref T != Value.none)=true from by simp)]
  refine wpAny_bind (wpAny_field hT hdT h3 ?_)
  rw[if_neg (show ¬ ((v==rawInt L)=true)from fun z=>hv (beq_iff_eq.mp z))]
  refine wpAny_bind (wpAny_setField hT hdT (Array.getElem?_eq_some_iff.mp h3).1 ?_)
  have other:∀ b,b≠T->(s.heap.update T (Obj.mapFields (·.setIfInBounds 3 Value.none))).get? b=s.heap.get? b:=fun b hb=>Heap.get?_update_other _ _ (Ne.symm hb)
  have nr:∀ b o,s.heap.get? b=some o->(∀ vs,o.data ≠ .fields vs)->b≠T:=fun b o hb hnf q=>by
   rw[q,hT]at hb;cases hb;exact hnf ts hdT
  refine wpAny_newEntryW hfr (f3.of_keeps fun b o hb hnf=>⟨o,(other b (nr b o hb hnf)).trans hb,rfl⟩) hf ((other e (Ne.symm hTe)).trans he)
   (fun b o hbo=>(other b fun q=>by rw[q,hnT]at hbo;cases hbo).trans (f1 b o hbo)) f2 hd (Array.getElem?_eq_some_iff.mp h1).1 h0 fun h' hL=>?_
  obtain⟨k1,⟨_,_,k2⟩,k3,k4⟩:=hL
  exact hQ h' ⟨k1,f2,k2,k3⟩ fun b o hb hnf=>k4 b o ((other b (nr b o hb hnf)).trans hb) hnf
theorem z7h {α:Type}{Q:α->Shared->Prop}{what:String}{cenv:Env}(hh:y2u base l e cls a0 v s.heap)
  (hQ:∀ v' h',y2u base l e cls a0 v' h'->s.heap.UpToSlots h'->E (.ref e) { s with heap:=h' }):wpAny M A (PySem.passOn what (.ref e) cenv:Sem α) Q E s:=by
 obtain⟨f1,f2,f3,oe,vs,T,oT,ts,he,hcls,hd,h1,hnT,hTe,hT,hdT,h3⟩:=hh
 have hsz3:3<ts.size:=(Array.getElem?_eq_some_iff.mp h3).1
 have nr:∀ b o,s.heap.get? b=some o->(∀ vs,o.data ≠ .fields vs)->b≠T:=fun b o hb hnf q=>by
  rw[q,hT]at hb;cases hb;exact hnf ts hdT
 unfold PySem.passOn
 refine wpAny_bind (wpAny_field he hd h1 ?_)
 rw[if_neg (show ¬ ((Value.ref T==Value.none)=true)from by simp)]
 have go:wpAny M A (setFlight (.ref e) cenv.frame) (fun _ s'=>wpAny M A (throw (.ref e):Sem α) Q E s') E s:=by
  have other:∀ b,b≠T->(s.heap.update T (Obj.mapFields (·.setIfInBounds 3 (cenv.frame.elim Value.none fun f=>rawInt f)))).get? b=s.heap.get? b:=fun b hb=>Heap.get?_update_other _ _ (Ne.symm hb)
  unfold setFlight
  refine wpAny_bind (wpAny_field he hd h1 ?_)
  rw[if_pos (show(Value.ref T != Value.none)=true from by simp)]
  refine wpAny_setField hT hdT hsz3 (wpAny_throw (hQ (cenv.frame.elim Value.none fun f=>rawInt f) _ ⟨fun b o hbo=>(other b fun q=>by rw[q,hnT]at hbo;cases hbo).trans (f1 b o hbo),f2,
   f3.of_keeps fun b o hb hnf=>⟨o,(other b (nr b o hb hnf)).trans hb,rfl⟩,?_⟩ fun b o hb hnf=>⟨o.slots,(other b (nr b o hb hnf)).trans hb⟩))
  exact⟨oe,vs,T,_,_,(other e (Ne.symm hTe)).trans he,hcls,hd,h1,hnT,hTe,Heap.get?_update_self _ hT (Obj.isFreed_of_fields (Obj.data_mapFields hdT _)),Obj.data_mapFields hdT _,by simp[hsz3]⟩
 first
  | exact wpAny_bind (wpAny_pure (wpAny_bind go))
  | exact wpAny_bind go
end
structure FlyV (P:Program) (w:World) (outer l:List Env) (H:Hp) (s:Shared) (a C t:Addr) (B:Heap) (H':Hp) (v:Value) (s':Shared):Prop where
 os:s'.os=s.os
 bare:AllBare s'.gens
 un:Un (frs outer) [] H H' s.heap s'.heap
 hok:HOk P w H' s'.heap
 fl:y2u B l a (.ref C) (.ref t) v s'.heap
 old:∀ b o,s.heap.get? b=some o->H b=none->b ∉ frs outer->B.get? b=some o
 oldT:∀ b o,s.heap.get? b=some o->b ∉ frs outer->∃ o',B.get? b=some o'
 trk:∀ b u o,H' b=some u->s'.heap.get? b=some o->B.get? b=some o
 free:H' a=none
 sub:∀ b∈frs outer,b∈frs l
 frh:∀ b∈frs outer,H b=none
section
variable {P:Program}{w:World}{outer l:List Env}{H:Hp}{s:Shared}{a C t:Addr}{B:Heap}{H':Hp}{v v':Value}{s':Shared}
theorem FlyV.un' (F:FlyV P w outer l H s a C t B H' v s'){h':Heap}(k1:B.StaysIn h')(up:∀ b∈frs outer,∀ o,s'.heap.get? b=some o->(∀ vs,o.data ≠ .fields vs)->∃ sl,h'.get? b=some { o with slots:=sl }) :
  Un (frs outer) [] H H' s.heap h'/\HOk P w H' h'/\∀ b u o,H' b=some u->h'.get? b=some o->B.get? b=some o:=by
 have slot:∀ b o,s.heap.get? b=some o->H b=none->b∈frs outer->∃ sl,h'.get? b=some { o with slots:=sl }:=fun b o q n hb=>by
  obtain⟨sl,q1⟩:=F.un.slot b o q n hb (by simp)
  obtain⟨_,o',ho,hd⟩:=F.fl.2.2.1.mem (F.sub b hb)
  rw[q1]at ho;cases ho
  obtain⟨sl',q2⟩:=up b hb _ q1 hd
  exact⟨sl',q2⟩
 refine⟨⟨fun b o q n hb _=>k1 b o (F.old b o q n hb),fun b o q n hb _=>slot b o q n hb,F.un.free,fun b o q _=>?_,F.un.tups,F.un.frzs,F.un.tbls⟩,y31 F.hok fun b u o q e=>k1 b o (F.trk b u o q e),fun b u o q e=>?_⟩
 ·by_cases hb:b∈frs outer
  ·obtain⟨sl,q2⟩:=slot b o q (F.frh b hb) hb
   exact⟨_,q2⟩
  ·obtain⟨o',q2⟩:=F.oldT b o q hb
   exact⟨o',k1 b o' q2⟩
 ·obtain⟨o1,q1⟩:=z4j (F.hok b u q)
  have q2:=F.trk b u o1 q q1
  have q3:=k1 b o1 q2
  rw[q3]at e;cases e
  exact q2
theorem FlyV.step (F:FlyV P w outer l H s a C t B H' v s'){h':Heap}(fl:y2u B l a (.ref C) (.ref t) v' h')(up:∀ b∈frs outer,∀ o,s'.heap.get? b=some o->(∀ vs,o.data ≠ .fields vs)->∃ sl,h'.get? b=some { o with slots:=sl }) :
  FlyV P w outer l H s a C t B H' v' { s' with heap:=h' }:=by
 obtain⟨u1,u2,u3⟩:=F.un' fl.1 up
 exact⟨F.os,F.bare,u1,u2,fl,F.old,F.oldT,u3,F.free,F.sub,F.frh⟩
end
theorem x8f {h h' base:Heap}{C:Addr}(k:∀ b o,b≠C->h.get? b=some o->h'.get? b=some o):∀ {l:List Env},h.FunFrames base l->C ∉ frs l->h'.FunFrames base l
 | [],_,_=>trivial
 | env::r,⟨hk,⟨L,o,hf,hn,ho,hd⟩,hr⟩,hc=>by
  have e:frs (env::r)=L::frs r:=by
   show List.filterMap (·.frame) (env::r)=_
   rw[List.filterMap_cons,hf]
   rfl
  rw[e]at hc
  exact⟨hk,⟨L,o,hf,hn,k L o (fun z=>hc (z ▸ List.mem_cons_self)) ho,hd⟩,x8f k hr fun z=>hc (List.mem_cons_of_mem _ z)⟩
theorem y2u.but {base h h':Heap}{l:List Env}{e C:Addr}{cls a0 v:Value}{o0:Obj}(x:y2u base l e cls a0 v h)(k:∀ b o,b≠C->h.get? b=some o->h'.get? b=some o)(hb:base.get? C=none)(hc:h.get? C=some o0)(hd0:∀ vs,o0.data ≠ .fields vs)(hl:C ∉ frs l):y2u base l e cls a0 v h':=by
 obtain⟨f1,f2,f3,oe,vs,T,oT,ts,he,hcls,hd,h1,hnT,hTe,hT,hdT,h3⟩:=x
 refine⟨fun b o q=>k b o (fun z=>by rw[z,hb]at q;cases q) (f1 b o q),f2,x8f k f3 hl,oe,vs,T,oT,ts,k e oe (fun z=>?_) he,hcls,hd,h1,hnT,hTe,k T oT (fun z=>?_) hT,hdT,h3⟩
 ·rw[z,hc]at he;cases he;exact hd0 _ hd
 ·rw[z,hc]at hT;cases hT;exact hd0 _ hdT
theorem y1c {e:Value}{env env':Env}(h:env'.frame=env.frame):noteFrame e env'=noteFrame e env:=by
 unfold noteFrame PySem.frameOf
 rw[h]
section
variable {P:Program}{w:World}{K:PySem.W.Frag}{mg:Str->Option Value}{base:Heap}{N N':List Str}{qual:Str}{scope scope':Scope}{f:Addr}{cd:Value}{A:Around}{outer:List Env}{s₀:Shared}{H₀:Hp}{E:XK}{pins:List (Addr×Obj)}{σ:St}{H:Hp}{s:Shared}
theorem z17 {H:Hp}{s':Shared}{a C t:Addr}{B:Heap}{v:Value}(I:Inv (cxF P w K mg base N qual scope f cd A outer s₀ H₀ E) pins σ H s){H':Hp}(F:FlyV P w outer (envOfC qual scope s₀.heap.objs.size f cd::outer) H₀ s₀ a C t B H' v s')(hE:E (.ref C) none H') :
  (cxF P w K mg base N qual scope f cd A outer s₀ H₀ E).xe (.ref a) s':=by
 show wpAny _ _ (leaving (envOfC qual scope s₀.heap.objs.size f cd) (.ref a)) _ _ _
 refine z6m (L:=s₀.heap.objs.size) (outer:=outer) I.ok.frames rfl F.fl fun h2 fl up=>?_
 obtain⟨u1,u2,u3⟩:=F.un' fl.1 fun b _ o q hd=>up b o q hd
 exact⟨a,C,t,B,H',rfl,⟨F.os,F.bare,u1,u2,fl,F.old,F.oldT,u3,F.free⟩,hE⟩
def z05 (X:Cx)(E:XK)(N':List Str)(scope:Scope)(C:Addr)(s2:Shared)(H2:Hp)(fp:List Addr):Value->Shared->Prop:=
 fun e s'=>∃ pins σ H s,Inv (x11 X N' scope C s2 H2 fp) pins σ H s/\CXF X.prog X.w X.stack H s E e s'
abbrev x4e (X:Cx)(E:XK)(N':List Str)(scope:Scope)(C:Addr)(s2:Shared)(H2:Hp)(fp:List Addr):Cx:=(x11 X N' scope C s2 H2 fp).wish (z05 X E N' scope C s2 H2 fp)
theorem z4x {H2 H3 H':Hp}{s2 s3 s':Shared}{fp:List Addr}{C Cc a t:Addr}{B:Heap}{pins':List (Addr×Obj)}{σ':St}(I2:Inv (cxF P w K mg base N qual scope f cd A outer s₀ H₀ E) pins σ H2 s2)(f2:∀ b∈fp,y72 (cxF P w K mg base N qual scope f cd A outer s₀ H₀ E) pins H2 b)
  (Ic:Inv (x11 (cxF P w K mg base N qual scope f cd A outer s₀ H₀ E) N' scope' C s2 H2 fp) pins' σ' H3 s3) (F:Fly P w (envOfC qual scope s₀.heap.objs.size f cd::outer) H3 s3 a Cc t B H' s') :
  FlyV P w outer (envOfC qual scope s₀.heap.objs.size f cd::outer) H₀ s₀ a Cc t (hideAll B [C]) H' .none s'/\(∃ m,s'.heap.Ns C m)/\(hideAll B [C]).get? C=none/\C ∉ frs (envOfC qual scope s₀.heap.objs.size f cd::outer):=by
 have u3:Un (frs (envOfC qual scope s₀.heap.objs.size f cd::outer)) fp H2 H3 s2.heap s3.heap:=Ic.base
 have exn:∀ b∈fp,s₀.heap.objs.size<=b:=fun b hb=>by
  rcases(f2 b hb).2.2.2.1 with z|z
  ·exact(List.not_mem_nil (show b∈([]:List Addr)from z)).elim
  ·exact z
 have ab:s2.heap.objs.size<=C:=Ic.ok.above
 have nC:C ∉ frs (envOfC qual scope s₀.heap.objs.size f cd::outer):=fun hm=>by
  obtain⟨_,o,ho,_⟩:=Ic.ok.funs.mem hm
  exact absurd (Nat.lt_of_lt_of_le (Heap.lt_size ho) ab) (Nat.lt_irrefl _)
 have sz:s₀.heap.objs.size<=s2.heap.objs.size:=I2.sz
 have neC:∀ b o,s₀.heap.get? b=some o->b≠C:=fun b o q z=>absurd (Nat.lt_of_lt_of_le (Heap.lt_size q) (Nat.le_trans sz ab)) (by rw[z];exact Nat.lt_irrefl _)
 have nfp:∀ b o,s₀.heap.get? b=some o->b ∉ fp:=fun b o q z=>absurd (Nat.lt_of_lt_of_le (Heap.lt_size q) (exn b z)) (Nat.lt_irrefl _)
 have nst:∀ b o,s₀.heap.get? b=some o->b ∉ frs outer->b ∉ frs (envOfC qual scope s₀.heap.objs.size f cd::outer):=fun b o q n hm=>by
  rcases List.mem_cons.mp (show b∈s₀.heap.objs.size::frs outer from hm)with z|z
  ·exact absurd (Heap.lt_size q) (by rw[z];exact Nat.lt_irrefl _)
  ·exact n z
 have un2:Un (frs (envOfC qual scope s₀.heap.objs.size f cd::outer)) fp H2 H' s2.heap s'.heap:=
  u3.trans ⟨fun b o q n hb _=>F.un.keep b o q n hb (by simp),fun b o q n hb _=>F.un.slot b o q n hb (by simp),fun b o q n _=>F.un.free b o q n (by simp),fun b o q _=>F.un.there b o q (by simp),F.un.tups,F.un.frzs,F.un.tbls⟩
 have Io:=I2.call' (ch:=fp) (F.os.trans Ic.os) un2 F.hok F.bare fun b hb=>⟨(f2 b hb).2.2.2.1,(f2 b hb).2.1,(f2 b hb).2.2.2.2⟩
 obtain⟨m,hn,_⟩:=Ic.loc
 obtain⟨o0,es,ep,ho0,hd0,hr0⟩:=id hn
 have h3C:H3 C=none:=Ic.free
 have bC:B.get? C=some o0:=F.old C o0 ho0 h3C nC
 have hC':H' C=none:=F.un.free C o0 ho0 h3C (by simp)
 have st:(hideAll B [C]).StaysIn B:=fun b o q=>of_hideAll _ q
 have hid:∀ b o,B.get? b=some o->b≠C->(hideAll B [C]).get? b=some o:=fun b o q n=>hideAll_get _ q fun z=>n (by simpa using z)
 have base0:Un (frs outer) [] H₀ H2 s₀.heap s2.heap:=I2.base
 refine⟨⟨Io.os,F.bare,Io.base,F.hok,flyingW_base st F.fl,fun b o q n hb=>?_,fun b o q hb=>?_,fun b u o q e=>hid b o (F.trk b u o q e) fun z=>?_,F.free,fun b hb=>List.mem_cons_of_mem _ hb,I2.ok.frf⟩,⟨m,o0,es,ep,F.fl.1 C o0 bC,hd0,hr0⟩,hideAll_none _ (by simp),nC⟩
 ·have q2:=base0.keep b o q n hb (by simp)
  have n2:=base0.free b o q n (by simp)
  exact hid b o (F.old b o (u3.keep b o q2 n2 (nst b o q hb) (nfp b o q)) (u3.free b o q2 n2 (nfp b o q)) (nst b o q hb)) (neC b o q)
 ·obtain⟨o1,q1⟩:=base0.there b o q (by simp)
  obtain⟨o2,q2⟩:=u3.there b o1 q1 (nfp b o q)
  obtain⟨o3,q3⟩:=F.oldT b o2 q2 (nst b o q hb)
  exact⟨o3,hid b o3 q3 (neC b o q)⟩
 ·rw[z,hC']at q;cases q
end
theorem y3o {XE:Value->Shared->Prop}{prog:Program}{w:World}{A:Around}{R:Result->Shared->Prop}{s:Shared}{elt target iter:Expr}{ifs:List Expr}{scope:Scope}{pos:Pos}{it acc:Value}{env:Env}(I:Nat->Shared->Prop)(hX:∀ e s,XE e s->notedBy (model prog w) A env (fun x s'=>R (.error x) s') e s)
  (turn:∀ n s,I n s->wpAny (model prog w) A (pyNext it) (fun r s₁=>match r with
    | none=>R (.ok .next) s₁
    | some v=>wpAny (model prog w) A (letOwnedTupleGo target it v) (fun _ s₁'=>wpAny (model prog w) A (assign target env v) (fun _ s₂=>
      wpAny (model prog w) A (forIn ifs true fun c r=>if r=true then do let ok <- isTrue c env (eval c env);pure (ForInStep.yield ok)else pure (ForInStep.yield r)) (fun ok s₃=>
       if ok=true then wpAny (model prog w) A (eval elt env) (fun x s₄=>
        wpAny (model prog w) A (call (.builtin "list.append") [acc,x]) (fun _ s₅=>∃ m,m<n/\I m s₅) (fun _ _=>False) s₄) XE s₃
       else ∃ m,m<n/\I m s₃) (fun _ _=>False) s₂) (fun _ _=>False) s₁') (fun _ _=>False) s₁) (fun _ _=>False) s)
  (n:Nat) (h:I n s):codeAny (model prog w) A (.compLoop (.ListComp elt [⟨target,iter,ifs,0⟩] scope pos) 0 it acc env) R s:=by
 refine codeAny_loop rfl I (fun n s hI=>?_) n h
 show wpAny _ A ((compTurn (.ListComp elt [⟨target,iter,ifs,0⟩] scope pos) 0 it acc env).onRaise (fun x=>do noteFrame x env;theTreesLotGoes x)) _ _ s
 refine wpAny_noted ?_
 rw[compTurn_list]
 refine wpAny_bind (wpAny_standAt (wpAny_bind (wpAny_mono (turn n s hI) (fun r s₁ h₁=>?_) fun _ _ h'=>h'.elim)))
 cases r with
 | none=>exact wpAny_pure h₁
 | some v=>
  refine wpAny_bind (wpAny_mono h₁ (fun _ s₁' h₁'=>?_) fun _ _ h'=>h'.elim)
  refine wpAny_bind (wpAny_mono h₁' (fun _ s₂ h₂=>wpAny_bind (wpAny_mono h₂ (fun ok s₃ h₃=>?_) fun _ _ h'=>h'.elim)) fun _ _ h'=>h'.elim)
  cases ok with
  | false=>exact wpAny_pure ⟨rfl,h₃⟩
  | true=>
   exact wpAny_bind (wpAny_bind (wpAny_mono h₃ (fun x s₄ h₄=>wpAny_bind (wpAny_mono h₄ (fun _ s₅ h₅=>wpAny_pure (wpAny_pure ⟨rfl,h₅⟩)) fun _ _ h'=>h'.elim)) hX))
theorem z0e {E0:XK}{X:Cx}{k:Nat}{N':List Str}{scope:Scope}{pins:List (Addr×Obj)}{σ:St}{H2:Hp}{s2:Shared}{fp:List Addr}{elt tg iter:Expr}{ifs:List Expr}{pos:Pos}{it:Addr}{tn:Nat->Heap->Prop}{J:It}{g:TG}{tt:TT}{te:TE}{Fin:List V->Hp->Prop}{E:Value->Shared->Prop}{RR:Value->Addr->Result->Shared->Prop}
  (hc:X.calm=true) (S:CompOk X k N' scope) (hg:∀ C s H fp,PG (x11 X N' scope C s H fp) tg g) (ht:∀ C s H fp,PTs (x11 X N' scope C s H fp) ifs tt) (he:∀ C s H fp,PE (x4e X E0 N' scope C s H fp) elt te)
  (I2:Inv X pins σ H2 s2) (T:Turn X.prog X.w X.K tg J fp it tn) (st2:tn 0 s2.heap) (f2:∀ b∈fp,y72 X pins H2 b) (R:z80 k g tt te σ J H2 Fin)
  (hRR:∀ C ys H' s' m',Inv X pins σ (upd H' s2.heap.objs.size (.lst ys)) s'->s'.heap.Ns C m'->H' s2.heap.objs.size=none->upd H' s2.heap.objs.size (.lst ys) C=none->C≠X.env.locals->X.s₀.heap.objs.size<=C->s2.heap.objs.size<C->
    Fin ys H'->RR (.ref s2.heap.objs.size) C (.ok .next) s')
  (hXE:∀ e s',z05 X E0 N' scope (s2.heap.objs.size+1) s2 H2 fp e s'->notedBy (model X.prog X.w) X.A (x3p scope X.env (s2.heap.objs.size+1)) (fun x s''=>RR (.ref s2.heap.objs.size) (s2.heap.objs.size+1) (.error x) s'') e s') :
  wpAny (model X.prog X.w) X.A (newList []) (fun acc s₃=>wpAny (model X.prog X.w) X.A (newFunctionEnv scope X.env.globals (x2a X.env.cells scope.names []) [] X.env.qual none .none (some X.env)) (fun cenv s₄=>
   codeAny (model X.prog X.w) X.A (.compStart (.ListComp elt [⟨tg,iter,ifs,0⟩] scope pos) 0 (.ref it) acc { cenv with scope:=relabel scope X.env }) (RR acc cenv.locals) s₄) E s₃) E s2:=by
 refine wpAny_newObj_type (y0z ?_)
 have e1:(s2.heap.push (lsO [] 0)).objs.size=s2.heap.objs.size+1:=Heap.size_push ..
 have hfp:∀ b∈fp,b<s2.heap.objs.size:=fun b hb=>by obtain⟨o,e,_⟩:=T.obj _ _ st2 b hb;exact Heap.lt_size e
 obtain⟨W,⟨m0,w0⟩,turn⟩:=R
 have I3:=y7e S I2 f2 hfp
 have st3:tn 0 (x5x scope s2):=T.keep _ _ _ st2 fun b hb o e=>pushCells_keeps _ _ b o (Heap.get?_push_of_some _ (Heap.get?_push_of_some _ e))
 have hDC:s2.heap.objs.size≠s2.heap.objs.size+1:=by omega
 -- what stays true of the iterator's objects
 have stat:∀ {H':Hp} {us:List Value} {n:Nat},(∀ b∈fp,H' b=none)->∀ b∈fp,y72 (x11 X N' scope (s2.heap.objs.size+1) s2 H2 fp) [(s2.heap.objs.size,lsO us n)] H' b:=fun {H' us n} hn b hb=>by
  have q:=I3.ok.exf b hb
  refine⟨hn b hb,q.1,I3.ok.exfs b hb,.inl hb,q.2,fun p hp z=>?_⟩
  have hp':p ∈ [(s2.heap.objs.size,lsO us n)]:=hp
  have e:p=(s2.heap.objs.size,lsO us n):=by simpa using hp'
  subst e
  have:=hfp b hb
  have z':s2.heap.objs.size=b:=z
  exact absurd this (by rw[z'];exact Nat.lt_irrefl _)
 have loop:∀ it',it'=Value.ref it->codeAny (model X.prog X.w) X.A (.compLoop (.ListComp elt [⟨tg,iter,ifs,0⟩] scope pos) 0 it' (.ref s2.heap.objs.size) (x3p scope X.env (s2.heap.objs.size+1))) (RR (.ref s2.heap.objs.size) (s2.heap.objs.size+1)) { s2 with heap:=x5x scope s2 }:=by
  rintro _ rfl
  refine y3o (XE:=z05 X E0 N' scope (s2.heap.objs.size+1) s2 H2 fp) (fun n s'=>∃ i ys us cnt H',Inv (x11 X N' scope (s2.heap.objs.size+1) s2 H2 fp) [(s2.heap.objs.size,lsO us cnt)] (σ++List.replicate k none) H' s'/\tn i s'.heap/\(∀ b∈fp,H' b=none)/\x2i ys us/\W i n ys H') hXE ?_ m0
   ⟨0,[],[],0,H2,I3,st3,fun b hb=>(f2 b hb).1,.nil,w0⟩
  rintro n s3 ⟨i,ys,us,cnt,H3,J3,st,fr,r3,w3⟩
  obtain⟨hz,hw⟩:=turn i n ys H3 w3
  rcases hw with⟨stop,fin⟩|⟨go,hlt,step⟩
  ·refine thn (T.done (x11 X N' scope (s2.heap.objs.size+1) s2 H2 fp) rfl rfl rfl hc i _ s3 _ H3 _ J3 (stat fr) st stop) fun rr s4 ⟨hr,I4⟩=>?_
   subst hr
   obtain⟨m',hn',_⟩:=id I4.loc
   obtain⟨eD,nD,_⟩:=I4.pin (s2.heap.objs.size,lsO us cnt) (List.mem_append_right _ (List.mem_singleton.mpr rfl))
   refine hRR (s2.heap.objs.size+1) ys H3 s4 m' (y77 I2 f2 I4 r3 hz) hn' nD ?_ ?_ ?_ (Nat.lt_succ_self _) fin
   ·rw[x0i (Ne.symm hDC)];exact I4.free
   ·exact Ne.symm (Nat.ne_of_lt (Nat.lt_of_lt_of_le I2.lt (Nat.le_succ _)))
   ·have:=I2.sz;omega
  ·refine thn (T.item (x11 X N' scope (s2.heap.objs.size+1) s2 H2 fp) rfl rfl rfl hc i _ s3 _ H3 _ J3 (stat fr) st go) fun rr s4 ⟨u,hr,h4⟩=>?_
   subst hr
   refine thn h4 fun _ s5 hh0=>?_
   obtain⟨x,H5,I5,r5,y5,st5,fr5⟩:=hh0
   have I5':=I5.pinned (stat fr5) (T.obj _ _ st5)
   refine thn (hg _ _ _ _ _ s5 _ H5 x u _ I5' r5 (step x H5 y5)) fun _ s6 ⟨σ6,H6,I6,⟨τ,e6,l6⟩,q6⟩=>?_
   subst e6
   refine thn (ht _ _ _ _ _ s6 _ H6 _ I6 q6) fun ok s7 hh0=>?_
   obtain⟨H7,I7,q7⟩:=hh0
   have kept:∀ {s':Shared} {H':Hp} {σ':St},Inv (x11 X N' scope (s2.heap.objs.size+1) s2 H2 fp) ([(s2.heap.objs.size,lsO us cnt)]++x62 fp s5.heap) σ' H' s'->tn (i+1) s'.heap/\∀ b∈fp,H' b=none:=fun {s' H' σ'} I'=>by
    refine⟨T.keep _ _ _ st5 fun b hb o e=>(I'.pin (b,o) (List.mem_append_right _ (List.mem_append_right _ (x4k hb e)))).1,fun b hb=>?_⟩
    obtain⟨o,e,d⟩:=T.obj _ _ st5 b hb
    exact(I'.pin (b,o) (List.mem_append_right _ (List.mem_append_right _ (x4k hb e)))).2.1
   cases ok with
   | false=>
    rw[if_neg (by decide)]at q7 ⊢
    obtain⟨m',hm,w7⟩:=q7
    have:=z2c I7.unpinned
    rw[l6]at this
    exact⟨m',hm,i+1,ys,us,cnt,H7,this,(kept I7).1,(kept I7).2,r3,w7⟩
   | true=>
    rw[if_pos rfl]at q7 ⊢
    refine thn (he _ _ _ _ _ s7 _ H7 _ (I7.wish _) q7) fun u8 s8 hh0=>?_
    obtain⟨v,H8,I8',r8,m',hm,w8⟩:=hh0
    have I8:=I8'.unwish
    obtain⟨eD,nD,neD,nfD,dD⟩:=I8.pin (s2.heap.objs.size,lsO us cnt) (List.mem_append_right _ (List.mem_append_left _ (List.mem_singleton.mpr rfl)))
    refine append_at eD (fun h9 hs9 hD9=>?_) (hsz:=by rw[List.size_toArray,<- r3.length];exact Nat.le_of_lt hlt)
    have Ia:=I8.pins_of (pins':=x62 fp s5.heap) fun p hp=>I8.pin p (List.mem_append_right _ (List.mem_append_right _ hp))
    have nfp:∀ p∈x62 fp s5.heap,p.1≠s2.heap.objs.size:=fun p hp z=>by
     have:=hfp p.1 (y0s hp).1
     exact absurd this (by rw[z];exact Nat.lt_irrefl _)
    have Ib:=Ia.turned (h':=h9) (t':=s8.toks) (it:=s2.heap.objs.size) (fun b o hb e=>hs9.extBut b o hb e) nD neD (.inr (Nat.le_refl _)) (fun y c h z=>by
      obtain⟨vv,o,ho,hd⟩:=I8.cell y c h
      rw[z,eD]at ho
      cases ho
      cases hd) (fun p hp=>nfp p (by
      have hp':p ∈ []++x62 fp s5.heap:=hp
      simpa using hp'))
    have Ic:=Ib.pins_of (pins':=[(s2.heap.objs.size,lsO (us++[u8]) (cnt+1))]) fun p hp=>by
     have e:p=(s2.heap.objs.size,lsO (us++[u8]) (cnt+1)):=by simpa using hp
     subst e
     refine⟨?_,nD,neD,nfD,fun v z=>nomatch z⟩
     show h9.get? s2.heap.objs.size=_
     rw[hD9]
     unfold lsO
     simp
    have Id:=z2c Ic
    rw[l6]at Id
    have kp:=kept I8
    refine⟨m',hm,i+1,ys++[v],us++[u8],cnt+1,H8,Id,T.keep _ _ _ kp.1 fun b hb o e=>hs9.extBut b o (fun z=>by
     have:=hfp b hb
     have z':b=s2.heap.objs.size:=z
     exact absurd this (by rw[z'];exact Nat.lt_irrefl _)) e,kp.2,x2i.append r3 (.cons r8 .nil),w8⟩
 have hC:(s2.heap.push { cls:=.type "list",dict:=none,data:=.seq ([]:List Value).toArray }).objs.size=s2.heap.objs.size+1:=Heap.size_push ..
 have fin:=codeAny_compStart_list (loop _ rfl) (T.self X.A 0 _ _ _ st3 (loop _ rfl))
 dsimp only at fin ⊢
 rw[hC]
 exact fin
section
variable {P:Program}{w:World}{K:PySem.W.Frag}{mg:Str->Option Value}{base:Heap}{N N':List Str}{qual:Str}{scope scope':Scope}{f:Addr}{cd:Value}{A:Around}{outer:List Env}{s₀:Shared}{H₀:Hp}{E:XK}
theorem z3e {k:Nat}{elt tg iter:Expr}{ifs:List Expr}{pos:Pos}{wi:TI}{g:TG}{tt:TT}{te:TE}(hc:(cxF P w K mg base N qual scope f cd A outer s₀ H₀ E).calm=true)(S:CompOk (cxF P w K mg base N qual scope f cd A outer s₀ H₀ E) k N' scope')(hi:PI (cxF P w K mg base N qual scope f cd A outer s₀ H₀ E) tg iter wi)
  (hg:∀ C s H fp,PG (x11 (cxF P w K mg base N qual scope f cd A outer s₀ H₀ E) N' scope' C s H fp) tg g) (ht:∀ C s H fp,PTs (x11 (cxF P w K mg base N qual scope f cd A outer s₀ H₀ E) N' scope' C s H fp) ifs tt) (he:∀ C s H fp,PE (x4e (cxF P w K mg base N qual scope f cd A outer s₀ H₀ E) E N' scope' C s H fp) elt te)
  (hs:∀ x,foldedSetIterable iter (envOfC qual scope s₀.heap.objs.size f cd) x=pure x):PE (cxF P w K mg base N qual scope f cd A outer s₀ H₀ E) (.ListComp elt [⟨tg,iter,ifs,0⟩] scope' pos) (y8b k wi g tt te):=by
 intro pins s σ H Q I h
 rw[eval_ListComp]
 refine wpAny_comprehension_free (use:=none) rfl hs (x5l fun y hy e=>?_) S.kind S.locs (thn (hi pins s σ H _ I h) fun v s1 h1=>thn h1 fun itv s2 h2=>?_)
 ·obtain⟨n,kd⟩:=y
  have e':kd=.free:=e
  subst e'
  exact I.ok.has n (S.free hy)
 ·obtain⟨it,fp,tn,J,H2,e,I2,T,st2,f2,R⟩:=h2
  subst e
  refine z0e (E0:=E) hc S hg ht he I2 T st2 f2 R ?_ ?_
  ·intro C ys H' s' m' I' hn hD hCn hCL hCs hCD fin
   refine⟨m',hn,fun h' hs'=>⟨.ref s2.heap.objs.size,_,I'.turned (h':=h') (t':=s'.toks) (it:=C) (fun b o hb e=>hs'.extBut b o hb e) hCn hCL (.inr hCs) (fun x c h=>?_) (fun p hp z=>?_),rfl,fin _ hD⟩⟩
   ·obtain⟨v,q⟩:=I'.cell x c h
    exact x6s hn q
   ·have:=Heap.lt_size (I2.pin p hp).1
    exact absurd (Nat.lt_trans this hCD) (by rw[z];exact Nat.lt_irrefl _)
  ·rintro e s' ⟨pins',σ',H3,s3,Ic,a,Cc,t,B,H',rfl,F,hE⟩
   obtain⟨V,⟨m,hn⟩,hB,nC⟩:=z4x I2 f2 Ic F
   show wpAny _ _ (noteFrame (.ref a) (x3p scope' (envOfC qual scope s₀.heap.objs.size f cd) (s2.heap.objs.size+1))) _ _ _
   rw[y1c (env':=x3p scope' (envOfC qual scope s₀.heap.objs.size f cd) (s2.heap.objs.size+1)) (env:=envOfC qual scope s₀.heap.objs.size f cd) rfl]
   refine wpAny_looks_onW (L:=s₀.heap.objs.size) (outer:=outer) I2.ok.frames rfl V.fl fun h1 hh up=>?_
   have V1:=V.step (v':=rawInt s₀.heap.objs.size) hh fun b _ o q hd=>up b o q hd
   have n1:=up.ns hn
   refine⟨m,n1,fun h2 sb cenv hcl=>?_⟩
   obtain⟨o0,es,ep,ho0,hd0,_⟩:=id n1
   have nf:∀ vs,o0.data ≠ .fields vs:=fun vs z=>by rw[hd0]at z;cases z
   have V2:=V1.step (h':=h2) (y2u.but (C:=s2.heap.objs.size+1) V1.fl (fun b o n q=>sb.extBut b o n q) hB ho0 nf nC) fun b hb o q _=>⟨o.slots,sb.extBut b o (fun z=>nC (z ▸ List.mem_cons_of_mem _ hb)) q⟩
   refine z7h V2.fl fun v' h3 hh3 up3=>?_
   exact z17 I2 (V2.step hh3 fun b _ o q hd=>up3 b o q hd) hE
end
def y60 (k:Nat)(pt:x54)(tt:x1p)(te:Den)(xe:x4a):List D->Rho->Option Str
 | [],_=>none
 | d::ds,ρ=>match pt d (ρ++List.replicate k none)with
  | none=>none
  | some ρ1=>match tt ρ1 with
   | none=>none
   | some (b,ρ2)=>if b=true then(match xe ρ2 with
     | some nm=>some nm
     | none=>match te ρ2 with
      | none=>none
      | some (_,_,ρ3)=>y60 k pt tt te xe ds (ρ3.take ρ.length))
    else y60 k pt tt te xe ds (ρ2.take ρ.length)
def y8o (k:Nat)(it:x9w)(pt:x54)(tt:x1p)(te:Den)(xe:x4a):x4a:=fun ρ=>match it ρ with
 | some (ds,ρ1)=>y60 k pt tt te xe ds ρ1
 | none=>none
theorem y5h {K:PySem.W.Frag}{k:Nat}{it:x9w}{pt:x54}{tt:x1p}{te:Den}{xe:x4a}{E:XK}:∀ σ H Q,tXe K (y8o k it pt tt te xe) E σ H->y8b k (tDI K it) (tDG K σ.length pt) (tDT K tt) (fun σ H Q=>tD K te σ H Q\/tXe K xe E σ H) σ H Q:=fun σ H Q hh0=>by
 obtain⟨ρ,w,t,nm,g,ee,kk⟩:=hh0
 unfold y8o at ee
 split at ee
 ·rename_i ds ρ1 h1
  refine⟨ρ,w,t,ds,ρ1,g,h1,fun J P H1 w1 g1 go1 ok p1 hl=>?_⟩
  refine⟨fun i m ys H'=>m=ds.length-i/\i<=ds.length/\ys.length<=i/\∃ ρ3 w3,Good K ρ3 σ H' w3 t/\Go H w H' w3/\P H' w3/\y60 k pt tt te xe (ds.drop i) ρ3=some nm,
   ⟨ds.length,by simp,Nat.zero_le _,Nat.le_refl _,ρ1,w1,g1,go1,p1,ee⟩,?_⟩
  rintro i m ys H' ⟨rfl,hile,hys,ρ3,w3,g0,go0,p0,e3⟩
  have hsz:ys.length<sizeLine:=by omega
  refine⟨Nat.le_of_lt hsz,?_⟩
  by_cases hlt:i<ds.length
  ·refine .inr ⟨ok.go i H' w3 p0 hlt,hsz,fun x H2 hy=>?_⟩
   obtain⟨mo,rx,p3⟩:=ok.yld i H' w3 x H2 ds[i] p0 g0.wl (List.getElem?_eq_getElem hlt) hy
   obtain⟨g3,go2⟩:=g0.more mo
   have go3:=go0.trans go2
   have ed:ds.drop i=ds[i]::ds.drop (i+1):=List.drop_eq_getElem_cons hlt
   rw[ed]at e3
   unfold y60 at e3
   split at e3
   ·cases e3
   ·rename_i ρ4 h4
    split at e3
    ·cases e3
    ·rename_i b ρ5 h5
     have gx:=g3.ext k
     have lρ:ρ3.length=σ.length:=g3.len
     refine⟨ds[i],_,w3,t,ρ4,gx,rx,h4,fun σ4 H4 w4 l4 s4 g4 go4=>?_⟩
     obtain⟨τ,rfl,lτ⟩:=j3d l4 s4
     refine⟨⟨τ,rfl,by rw[lτ,List.length_replicate]⟩,ρ4,w4,t,b,ρ5,g4,h5,fun H5 w5 g5 go5=>?_⟩
     have p5:=ok.st _ _ _ _ (ok.st _ _ _ _ p3 g3.wl go4.stab) g4.wl go5.stab
     have go35:=(go3.trans go4).trans go5
     cases b with
     | false=>
      rw[if_neg (by decide)]at e3
      dsimp only
      rw[if_neg (by decide)]
      obtain⟨gc,goc⟩:=g5.cut
      rw[lρ]at e3
      exact⟨ds.length-(i+1),by omega,rfl,hlt,by omega,_,_,gc,go35.trans goc,ok.st _ _ _ _ p5 g5.wl goc.stab,e3⟩
     | true=>
      rw[if_pos rfl]at e3
      dsimp only
      rw[if_pos rfl]
      split at e3
      ·rename_i nm' h6
       cases e3
       exact .inr ⟨ρ5,w5,t,_,g5,h6,fun C H6 w6 n wl go6=>kk C H6 w6 n wl (go35.trans go6)⟩
      ·split at e3
       ·cases e3
       ·rename_i d6 q6 ρ6 h6
        refine .inl ⟨ρ5,w5,t,d6,q6,ρ6,g5,h6,fun v H6 w6 F6 g6 go6 r6=>?_⟩
        have gd:=g6.drop (t':=t)
        have god:=go6.drop g5.wt
        obtain⟨gc,goc⟩:=gd.cut
        rw[lρ]at e3
        exact⟨ds.length-(i+1),by omega,rfl,hlt,by rw[List.length_append];simp;omega,_,_,gc,(go35.trans god).trans goc,ok.st _ _ _ _ (ok.st _ _ _ _ p5 g5.wl god.stab) gd.wl goc.stab,e3⟩
  ·have hi':i=ds.length:=Nat.le_antisymm hile (Nat.not_lt.mp hlt)
   subst hi'
   have ed:ds.drop ds.length=[]:=by simp
   rw[ed]at e3
   cases e3
 ·cases ee
section
variable {P:Program}{w:World}{K:PySem.W.Frag}{mg:Str->Option Value}{base:Heap}{N N':List Str}{qual:Str}{scope scope':Scope}{f:Addr}{cd:Value}{A:Around}{outer:List Env}{s₀:Shared}{H₀:Hp}{E:XK}
theorem z3u {k:Nat}{elt tg iter:Expr}{ifs:List Expr}{pos:Pos}{it:x9w}{pt:x54}{tt:x1p}{te:Den}{xe:x4a}(S:CompOk (cxF P w K mg base N qual scope f cd A outer s₀ H₀ E) k N' scope')(hi:PDI (cxF P w K mg base N qual scope f cd A outer s₀ H₀ E) tg iter it)
  (hg:∀ C s H fp,PDG (x11 (cxF P w K mg base N qual scope f cd A outer s₀ H₀ E) N' scope' C s H fp) N.length tg pt) (ht:∀ C s H fp,j0g (x11 (cxF P w K mg base N qual scope f cd A outer s₀ H₀ E) N' scope' C s H fp) ifs tt) (he:∀ C s H fp,PD (x11 (cxF P w K mg base N qual scope f cd A outer s₀ H₀ E) N' scope' C s H fp) elt te)
  (hx:∀ C s H fp,PXE (x4e (cxF P w K mg base N qual scope f cd A outer s₀ H₀ E) E N' scope' C s H fp) E elt xe)
  (hs:∀ x,foldedSetIterable iter (envOfC qual scope s₀.heap.objs.size f cd) x=pure x:=by intro _;rfl):PXE (cxF P w K mg base N qual scope f cd A outer s₀ H₀ E) E (.ListComp elt [⟨tg,iter,ifs,0⟩] scope' pos) (y8o k it pt tt te xe):=by
 intro pins s σ H Q I h
 have:=y5h σ H Q h
 rw[I.len]at this
 refine z3e (N':=N') rfl S hi hg ht (fun C s H fp=>?_) hs pins s σ H Q I this
 intro pins s σ H Q I h
 rcases h with h|h
 ·exact(PE.nox (X:=x4e (cxF P w K mg base N qual scope f cd A outer s₀ H₀ E) E N' scope' C _ _ fp) (he C _ _ fp)) pins s σ H Q I h
 ·exact hx C _ _ fp pins s σ H Q I h
end
section
variable {X:Cx}{E:XK}{N':List Str}{scope':Scope}{C:Addr}{s2:Shared}{H2:Hp}{fp:List Addr}{a e:Expr}{es:List Expr}{x0:x4a}{p pos:Pos}
theorem y9v {j k n:Nat}{x:Str}{F:List D->Option Str}{g:x1o}(Cx':y27 X.prog X.w X.K X.mg X.base k x n F)(hr:Room j X.A)(hk:k<=j)(ha:PDA (x4e X E N' scope' C s2 H2 fp) (e::es) g)
  (hg:Gl (x4e X E N' scope' C s2 H2 fp) x:=by rfl) (hdb:(x==("__debug__":Str))=false:=by decide) (he:starEach (e::es) (x3p scope' X.env C)=(false,eval e (x3p scope' X.env C))::starEach es (x3p scope' X.env C):=by rfl)
  (hpl:(backTo pos (starEach es (x3p scope' X.env C))).any (·.1)=false:=by rfl) :
  PXE (x4e X E N' scope' C s2 H2 fp) E (.Call (.Name x p) (e::es) [] pos) (y1m F n g):=by
 obtain⟨fn,fd,ps,G,hm,hkp,hb⟩:=Cx'
 refine PE.imp (y5r (X:=x4e X E N' scope' C s2 H2 fp) (CX:=CXF X.prog X.w) (E:=E) G (hr.mono hk) hg hm hkp hb .nil (fun pins σ H s e s' I h=>⟨pins,σ,H,s,I.unwish,h⟩) ha hdb he hpl) fun σ H Q hh0=>?_
 obtain⟨ρ,w',t,nm,gd,e,k'⟩:=hh0
 unfold y1m at e
 split at e
 ·rename_i ds ρ1 h1
  split at e
  ·rename_i hn
   refine⟨ρ,w',t,ds,ρ1,gd,h1,fun vs H1 w1 g1 go1 r1=>?_⟩
   show spX X.K n F (vs++[]) H1 Q E
   rw[List.append_nil]
   refine⟨by rw[<- r1.length];exact hn,ds,fun a=>(w1 a).map fun _=>Ow.f,nm,fun a o e=>?_,⟨fun a o e=>?_,g1.wl.tb⟩,?_,e,fun C H2 w2 hns wl2 go2=>k' C H2 w1 hns ⟨fun a o ew=>?_,wl2.tb⟩ (go1.trans ⟨fun a x e n=>?_,fun a o ew no=>?_⟩)⟩
   ·try dsimp only at e
    cases ew:w1 a with
    | none=>rw[ew]at e;cases e
    | some o'=>rw[ew]at e;cases e;rfl
   ·try dsimp only at e
    cases ew:w1 a with
    | none=>rw[ew]at e;cases e
    | some o'=>exact g1.wl a o' ew
   ·exact Reps.freeze (fun a n=>by show(w1 a).map _=_;rw[n];rfl) r1 (fun _ z=>nomatch z)
   ·obtain⟨vs',q⟩:=g1.wl a o ew
    have:=(go2.keep a .f (by show(w1 a).map _=_;rw[ew];rfl) (fun i z=>nomatch z)).1
    exact⟨vs',by rw[this];exact q⟩
   ·exact⟨(go2.stab a x e (by show(w1 a).map _=_;rw[n];rfl)).1,n⟩
   ·exact⟨(go2.keep a .f (by show(w1 a).map _=_;rw[ew];rfl) (fun i z=>nomatch z)).1,ew⟩
  ·cases e
 ·cases e
theorem z1f (hm:X.mg "tuple" = none)(hb:bootBuiltins "tuple" = some (.type "tuple"))(ha:PXE X E a x0)(hg:Gl X "tuple":=by rfl)(he:starEach [a] X.env=(false,eval a X.env)::starEach [] X.env:=by rfl)(hpl:(backTo pos (starEach [] X.env)).any (·.1)=false:=by rfl) :
  PXE X E (.Call (.Name "tuple" p) [a] [] pos) x0:=
 PE.imp (x68 (r:=fun _ _ _=>False) (fun _ _ _ _ _ _ _ _ _ h=>h.elim) hg hm hb (z5s ha he) (by decide) (by decide) he hpl) fun σ H Q h=>h
end
end L3
namespace L3
open PySem PySem.Spec PyProof.Rows L2
structure QE (X:Cx) (e:Expr) (t:TE):Prop where mk::o:PE X e t
structure QD (X:Cx) (e:Expr) (f:Den):Prop where mk::o:PD X e f
structure QDA (X:Cx) (e:List Expr) (f:x1o):Prop where mk::o:PDA X e f
structure QDT (X:Cx) (e:Expr) (f:x1p):Prop where mk::o:PDT X e f
structure QDW (X:Cx) (e:Expr) (f:x1p):Prop where mk::o:PDW X e f
structure QDS (X:Cx) (e:Stmt) (f:x16):Prop where mk::o:PDS X e f
structure QDSs (X:Cx) (e:List Stmt) (f:x16):Prop where mk::o:y7m X e f
structure QDI (X:Cx) (tg e:Expr) (f:x9w):Prop where mk::o:PDI X tg e f
structure QDG (X:Cx) (b:Nat) (e:Expr) (f:x54):Prop where mk::o:PDG X b e f
structure QDGs (X:Cx) (b:Nat) (e:List Expr) (f:x8z):Prop where mk::o:j1q X b e f
structure QDO (X:Cx) (e:Option Expr) (f:z5u):Prop where mk::o:PDO X e f
structure QDTs (X:Cx) (e:List Expr) (f:x1p):Prop where mk::o:j0g X e f
structure QQ (X:Cx) (e:Expr) (f:y17):Prop where mk::o:PQ X e f
structure QXE (X:Cx) (E:XK) (e:Expr) (x:x4a):Prop where mk::o:PXE X E e x
structure QXA (X:Cx) (E:XK) (e:List Expr) (x:x4a):Prop where mk::o:PXA X E e x
structure QXS (X:Cx) (E:XK) (e:Stmt) (x:x4a):Prop where mk::o:PXS X E e x
structure QXB (X:Cx) (E:XK) (e:List Stmt) (x:x4a):Prop where mk::o:PXB X E e x
structure QTS (Y:Cx) (e:Stmt) (y:z1w):Prop where mk::o:PTS Y e y
structure QTB (Y:Cx) (e:List Stmt) (y:z1w):Prop where mk::o:PTB Y e y
theorem qv {X:Cx}(i:Nat){x:Str}{pos:Pos}(hN:X.N[i]? = some x:=by rfl)(hv:Vis X.env.scope x:=by first|exact Or.inl rfl|exact Or.inr (Or.inl rfl)|exact Or.inr (Or.inr rfl))(hd:(x==("__debug__":Str))=false:=by decide)(hcd:(x==("__classdict__":Str))=false:=by decide):QE X (.Name x pos) (x9r i):=⟨pv i hN hv hd hcd⟩
theorem z2g {X:Cx}{e:Expr}{f:x1p}(h:QDW X e f):QDT X e f:=⟨PW.pt h.o⟩
section
variable {X:Cx}{a b c e:Expr}{fa fb fc f:Den}{pos:Pos}
theorem x0b {i j}:QD X (.Constant (.int i) j pos) (eC (.int i)):=⟨j3a ⟩
theorem y0u {i j}:QD X (.Constant (.bool i) j pos) (eC (.bl i)):=⟨j5c ⟩
theorem x9j {j}:QD X (.Constant .none j pos) (eC .non):=⟨j2c ⟩
theorem x63 {x j}:QD X (.Constant (.str x) j pos) (eC (.str x)):=⟨j3o ⟩
theorem x02 {i:Nat}{x:Str}(h:QE X (.Name x pos) (x9r i)):QD X (.Name x pos) (x05 i):=⟨j3m h.o⟩
theorem x1u (ha:QD X a fa)(hb:QD X b fb):QD X (.BinOp a .Add b pos) (e2 x41 fa fb):=⟨j35 ha.o hb.o⟩
theorem x78 (ha:QD X a fa)(hb:QD X b fb):QD X (.BinOp a .Mult b pos) (e2 y5d fa fb):=⟨j36 ha.o hb.o⟩
theorem z15 (ha:QD X a fa)(hb:QD X b fb):QD X (.BinOp a .FloorDiv b pos) (e2 j2x fa fb):=⟨j1z ha.o hb.o⟩
theorem y1t (ha:QD X a fa)(hb:QD X b fb):QD X (.BinOp a .Mod b pos) (e2 z5q fa fb):=⟨j26 ha.o hb.o⟩
theorem x3z (ha:QD X a fa)(hb:QD X b fb)(hs:x4t b:=by exact fun _ _=>rfl):QD X (.Subscript a b pos) (eIx fa fb):=⟨j64 ha.o hb.o hs⟩
theorem x03:QDA X [] x0f:=⟨z7l ⟩
theorem x00 {es:List Expr}{g:x1o}(ha:QD X e f)(hr:QDA X es g)(hs:starEach (e::es) X.env=(false,eval e X.env)::starEach es X.env:=by rfl):QDA X (e::es) (x01 f g):=⟨z2x ha.o hr.o hs⟩
theorem x2e {es:List Expr}{g:x1o}(h:QDA X es g):QD X (.List es pos) (x5j g):=⟨j2f h.o⟩
theorem x2k {es:List Expr}{g:x1o}{x1}(h:QDA X es g):QD X (.Tuple es x1 pos) (x4i g):=⟨j0y h.o⟩
end
section
variable {X:Cx}{a b c e:Expr}{fa fb fc f:Den}{ga gb gc:x1p}{pos:Pos}
theorem x4d (ha:QD X a fa)(he:∀ whole,isTrue a X.env whole=(do let v <- whole;standAt a.pos;holding [v] (truthy v)):=by exact fun _=>rfl):QDT X a (y2c fa):=⟨z8r ha.o he⟩
theorem y7b (ha:QD X a fa)(hb:QD X b fb):QDT X (.Compare a [.Lt] [b] pos) (x3m (e2 dLt fa fb)):=⟨j46 ha.o hb.o⟩
theorem x7h (ha:QDT X a ga):QDT X (.UnaryOp .Not a pos) (x8b ga):=⟨z8m ha.o⟩
end
section
variable {X:Cx}{a b c e:Expr}{fa fb fc f:Den}{ga gb gc:x1p}{pos:Pos}{x1w:List Expr}
theorem y2w (ha:QDT X a ga):QDW X (.BoolOp .Or [a] pos) ga:=⟨z8q ha.o⟩
theorem y4z (ha:QDT X a ga)(hb:QDW X (.BoolOp .Or (b::x1w) pos) gb):QDW X (.BoolOp .Or (a::b::x1w) pos) (z1t ga gb):=⟨j29 ha.o hb.o⟩
theorem y3m (hc:QDT X c gc)(ha:QD X a fa)(hb:QD X b fb):QD X (.IfExp c a b pos) (eIf gc fa fb):=⟨z2y hc.o ha.o hb.o⟩
end
section
variable {X:Cx}{a b c e:Expr}{fa fb fc f:Den}{ga gb gc:x1p}{pos:Pos}{st:Stmt}{x1w sa sb:List Stmt}{s s':x16}
theorem x1v:QDSs X [] x6i:=⟨z6p ⟩
theorem x08 (h1:QDS X st s)(h2:QDSs X x1w s'):QDSs X (st::x1w) (x17 s s'):=⟨z48 h1.o h2.o⟩
theorem x0e (h1:QDS X st s):QDSs X [st] s:=⟨z77 h1.o⟩
theorem x0p (h:QD X e f):QDS X (.Return (some e) pos) (x36 f):=⟨z7g h.o⟩
theorem x33 (hc:QDT X c gc)(ha:QDSs X sa s)(hb:QDSs X sb s'):QDS X (.If c sa sb pos) (sIf gc s s'):=⟨j0r hc.o ha.o hb.o⟩
theorem x0m {i:Nat}{x:Str}{pos':Pos}(hN:X.N.Nodup)(hi:X.N[i]? = some x)(hx:Loc X.env.scope x)(he:QD X e f)(hs:swapsWith e (some (.Name x pos')) pos.line X.env=pure false:=by rfl)(hf:X.fn x=true\/X.env.scope.names.lookup x=some .local:=by first|exact .inl rfl|exact .inr rfl):QDS X (.Assign [.Name x pos'] e pos) (x20 i f):=⟨z7d hN hi hx he.o hs hf⟩
theorem x2q (he:QD X e f)(hs:swapsWith e none pos.line X.env=pure false:=by rfl):QDS X (.Expr e pos) (x3k f):=⟨z30 he.o hs⟩
end
section
variable {X:Cx}{tg a b c e:Expr}{fa fb fc f:Den}{ga gb gc:x1p}{pos p:Pos}
theorem x0r {g:x1o}(hm:X.mg "range" = none)(ha:QDA X [a] g)(hg:Gl X "range":=by rfl)(hs:starEach [a] X.env=[(false,eval a X.env)]:=by rfl):QDI X tg (.Call (.Name "range" p) [a] [] pos) (x0z g):=⟨y7t hm ha.o hg hs⟩
theorem x4c (ha:QD X a fa):QDI X tg a (x9m fa):=⟨z9e ha.o⟩
end
section
theorem x0k {X:Cx}{b i:Nat}{x:Str}{pos:Pos}(hb:b<=i)(hN:X.N.Nodup)(hi:X.N[i]? = some x)(hx:Loc X.env.scope x)(hf:X.fn x=true\/X.env.scope.names.lookup x=some .local:=by first|exact .inl rfl|exact .inr rfl):QDG X b (.Name x pos) (x0q i):=⟨z55 hb hN hi hx hf⟩
end
section
theorem x2v {X:Cx}{tg iter:Expr}{body:List Stmt}{it:x9w}{pt:x54}{s:x16}{pos:Pos}(hp:PassesOwn (model X.prog X.w) X.A X.env X.xe)(hc:X.calm=true)(hi:QDI X tg iter it)(hg:QDG X 0 tg pt)(hb:QDSs X body s)(hs:∀ x,foldedSetIterable iter X.env x=pure x:=by intro _;rfl):QDS X (.For tg iter body [] pos) (x80 it pt s):=⟨z74 hp hc hi.o hg.o hb.o hs⟩
end
section
variable {X:Cx}{k:Nat}{N':List Str}{scope:Scope}{elt tg iter:Expr}{ifs:List Expr}{pos:Pos}{it:x9w}{pt:x54}{tt:x1p}{te:Den}
theorem x2c:QDTs X [] x27:=⟨z51 ⟩
theorem x6y {c:Expr}{g:x1p}(h:QDT X c g):QDTs X [c] g:=⟨z57 h.o⟩
theorem x2z (deep:Bool)(hc:X.calm=true)(S:CompOk X k N' scope)(hi:QDI X tg iter it)(hg:∀ C s H fp,QDG (x11 X N' scope C s H fp) X.N.length tg pt)(ht:∀ C s H fp,QDTs (x11 X N' scope C s H fp) ifs tt)(he:∀ C s H fp,QD (x11 X N' scope C s H fp) elt te)(hs:∀ x,foldedSetIterable iter X.env x=pure x:=by intro _;rfl):QD X (.ListComp elt [⟨tg,iter,ifs,0⟩] scope pos) (x2x k it pt tt te deep):=⟨z9o deep hc S hi.o (fun C s H fp=>(hg C s H fp).o) (fun C s H fp=>(ht C s H fp).o) (fun C s H fp=>(he C s H fp).o) hs⟩
theorem x9y {i:Nat}{y:Str}{py spos:Pos}(deep:Bool)(hN:X.N.Nodup)(hy:X.N[i]? = some y)(hx:Loc X.env.scope y)(hsw:swapsWith (.ListComp elt [⟨tg,iter,ifs,0⟩] scope pos) (some (.Name y py)) spos.line X.env=pure true)(hc:X.calm=true)(S:CompOk X k N' scope)(hi:QDI X tg iter it)(hg:∀ C s H fp,QDG (x11 X N' scope C s H fp) X.N.length tg pt)(ht:∀ C s H fp,QDTs (x11 X N' scope C s H fp) ifs tt)(he:∀ C s H fp,QD (x11 X N' scope C s H fp) elt te)(hs:∀ x,foldedSetIterable iter X.env x=pure x:=by intro _;rfl)(hf:X.fn y=true\/X.env.scope.names.lookup y=some .local:=by first|exact .inl rfl|exact .inr rfl|assumption):QDS X (.Assign [.Name y py] (.ListComp elt [⟨tg,iter,ifs,0⟩] scope pos) spos) (x20 i (x2x k it pt tt te deep)):=⟨z41 deep hN hy hx hsw hc S hi.o (fun C s H fp=>(hg C s H fp).o) (fun C s H fp=>(ht C s H fp).o) (fun C s H fp=>(he C s H fp).o) hs hf⟩
end
section
variable {X:Cx}{a b c e:Expr}{fa fb fc f:Den}{pos:Pos}
theorem y9j {k:Nat}(hr:Room k X.A)(ha:QD X a fa)(hb:QD X b fb):QD X (.Compare a [.Eq] [b] pos) (e2 dEq fa fb):=⟨j51 hr ha.o hb.o⟩
theorem x96 {k:Nat}(hr:Room k X.A)(ha:QD X a fa)(hb:QD X b fb):QDT X (.Compare a [.Eq] [b] pos) (x3m (e2 dEq fa fb)):=⟨j1k hr ha.o hb.o⟩
theorem x6d {k:Nat}(hr:Room k X.A)(ha:QD X a fa)(hb:QD X b fb):QDT X (.Compare a [.NotEq] [b] pos) (x3m (e2 dNe fa fb)):=⟨j2j hr ha.o hb.o⟩
theorem y73 {k:Nat}(hr:Room k X.A)(ha:QD X a fa)(hb:QD X b fb)(hm:behindInMarks .In b=false:=by with_unfolding_all rfl):QDT X (.Compare a [.In] [b] pos) (x3m (e2 dIn fa fb)):=⟨j0w hr ha.o hb.o hm⟩
theorem j5g {k:Nat}(hr:Room k X.A)(ha:QD X a fa)(hb:QD X b fb)(hm:behindInMarks .In b=false:=by with_unfolding_all rfl):QD X (.Compare a [.In] [b] pos) (e2 dIn fa fb):=⟨j5l hr ha.o hb.o hm⟩
end
section
variable {X:Cx}{a b c e:Expr}{es:List Expr}{fa fb fc f:Den}{g:x1o}{pos p p1 p2:Pos}
theorem y8u (hm:X.mg "len" = none)(ha:QDA X [a] g)(hg:Gl X "len":=by rfl)(he:starEach [a] X.env=(false,eval a X.env)::starEach [] X.env:=by rfl)(hpl:(backTo pos (starEach [] X.env)).any (·.1)=false:=by rfl):QD X (.Call (.Name "len" p) [a] [] pos) (eB z3p g):=⟨j22 hm ha.o hg he hpl⟩
theorem x15 {i:Nat}{x:Str}(hm:X.mg "len" = none)(h:QE X (.Name x p1) (x9r i))(hg:Gl X "len":=by rfl)(he:starEach [.Name x p1] X.env=(false,eval (.Name x p1) X.env)::starEach [] X.env:=by rfl)(hpl:(backTo pos (starEach [] X.env)).any (·.1)=false:=by rfl):QD X (.Call (.Name "len" p) [.Name x p1] [] pos) (x1f i):=⟨z90 hm h.o hg he hpl⟩
theorem y9u (hc:X.calm=true)(hm:X.mg "max" = none)(hb:bootBuiltins "max" = some (.builtin "max"))(ha:QDA X (a::es) g)(hg:Gl X "max":=by rfl)(he:starEach (a::es) X.env=(false,eval a X.env)::starEach es X.env:=by rfl)(hpl:(backTo pos (starEach es X.env)).any (·.1)=false:=by rfl):QD X (.Call (.Name "max" p) (a::es) [] pos) (eB j25 g):=⟨z9l hc hm hb ha.o hg he hpl⟩
theorem z06 (hm:X.mg "list" = none)(hb:bootBuiltins "list" = some (.type "list"))(ha:QDA X [a] g)(hg:Gl X "list":=by rfl)(he:starEach [a] X.env=(false,eval a X.env)::starEach [] X.env:=by rfl)(hpl:(backTo pos (starEach [] X.env)).any (·.1)=false:=by rfl):QD X (.Call (.Name "list" p) [a] [] pos) (x8l g):=⟨y8t hm hb ha.o hg he hpl⟩
theorem x2n (hm:X.mg "tuple" = none)(hb:bootBuiltins "tuple" = some (.type "tuple"))(ha:QDA X [a] g)(hg:Gl X "tuple":=by rfl)(he:starEach [a] X.env=(false,eval a X.env)::starEach [] X.env:=by rfl)(hpl:(backTo pos (starEach [] X.env)).any (·.1)=false:=by rfl):QD X (.Call (.Name "tuple" p) [a] [] pos) (x2l g):=⟨z4f hm hb ha.o hg he hpl⟩
end
section
variable {X:Cx}{a:Expr}{g:x1o}{pos p p1 pos1:Pos}
theorem x9x (hc:X.calm=true)(hm:X.mg "list" = none)(hb:bootBuiltins "list" = some (.type "list"))(hmr:X.mg "range" = none)(ha:QDA X [a] g)(hg:Gl X "list":=by rfl)(hgr:Gl X "range":=by rfl)(hs:starEach [a] X.env=[(false,eval a X.env)]:=by rfl)(he:starEach [.Call (.Name "range" p1) [a] [] pos1] X.env=(false,eval (.Call (.Name "range" p1) [a] [] pos1) X.env)::starEach [] X.env:=by rfl)(hpl:(backTo pos (starEach [] X.env)).any (·.1)=false:=by rfl):QD X (.Call (.Name "list" p) [.Call (.Name "range" p1) [a] [] pos1] [] pos) (x6a g):=⟨z4n hc hm hb hmr ha.o hg hgr hs he hpl⟩
theorem z9t (hc:X.calm=true)(hm:X.mg "tuple" = none)(hb:bootBuiltins "tuple" = some (.type "tuple"))(hmr:X.mg "range" = none)(ha:QDA X [a] g)(hg:Gl X "tuple":=by rfl)(hgr:Gl X "range":=by rfl)(hs:starEach [a] X.env=[(false,eval a X.env)]:=by rfl)(he:starEach [.Call (.Name "range" p1) [a] [] pos1] X.env=(false,eval (.Call (.Name "range" p1) [a] [] pos1) X.env)::starEach [] X.env:=by rfl)(hpl:(backTo pos (starEach [] X.env)).any (·.1)=false:=by rfl):QD X (.Call (.Name "tuple" p) [.Call (.Name "range" p1) [a] [] pos1] [] pos) (j04 g):=⟨z9i hc hm hb hmr ha.o hg hgr hs he hpl⟩
end
section
variable {X:Cx}{a b c e:Expr}{es:List Expr}{fa fb fc f:Den}{g:x1o}{pos p p1 p2 cpos apos:Pos}
theorem z3q {k:Nat}(hr:Room k X.A)(ho:QD X a fa)(ha:QDA X [e] g)(hbase:attributeBase a "index" X.env (eval a X.env)=eval a X.env:=by rfl)(hfew:((backTo cpos (starEach [e] X.env)).all (fun x=>!x.1)&&(backToKw cpos (keywordEach [] X.env)).all (fun x=>x.1.isSome)
   && decide ([e].length+([]:List Keyword).length+(if([]:List Keyword).isEmpty then 0 else 1)<30))=true:=by rfl) (hline:(apos.endLine==cpos.line)=true:=by rfl) (hs:starEach [e] X.env=(false,eval e X.env)::starEach [] X.env:=by rfl) (hplain:(backTo cpos (starEach [] X.env)).any (·.1)=false:=by rfl):QD X (.Call (.Attribute a "index" apos) [e] [] cpos) (y6q fa g):=⟨z4t hr ho.o ha.o hbase hfew hline hs hplain⟩
theorem x30 {i:Nat}{x:Str}(h:QE X (.Name x p1) (x9r i))(ha:QDA X [e] g)(hbase:attributeBase (.Name x p1) "append" X.env (eval (.Name x p1) X.env)=eval (.Name x p1) X.env:=by rfl)(hfew:((backTo cpos (starEach [e] X.env)).all (fun x=>!x.1)&&(backToKw cpos (keywordEach [] X.env)).all (fun x=>x.1.isSome)
   && decide ([e].length+([]:List Keyword).length+(if([]:List Keyword).isEmpty then 0 else 1)<30))=true:=by rfl) (hline:(apos.endLine==cpos.line)=true:=by rfl) (hs:starEach [e] X.env=(false,eval e X.env)::starEach [] X.env:=by rfl) (hplain:(backTo cpos (starEach [] X.env)).any (·.1)=false:=by rfl):QD X (.Call (.Attribute (.Name x p1) "append" apos) [e] [] cpos) (y0w i g):=⟨z13 h.o ha.o hbase hfew hline hs hplain⟩
theorem j3w {i:Nat}{x:Str}(h:QE X (.Name x p1) (x9r i))(ha:QDA X [e] g)(hbase:attributeBase (.Name x p1) "pop" X.env (eval (.Name x p1) X.env)=eval (.Name x p1) X.env:=by rfl)(hfew:((backTo cpos (starEach [e] X.env)).all (fun x=>!x.1)&&(backToKw cpos (keywordEach [] X.env)).all (fun x=>x.1.isSome)
   && decide ([e].length+([]:List Keyword).length+(if([]:List Keyword).isEmpty then 0 else 1)<30))=true:=by rfl) (hline:(apos.endLine==cpos.line)=true:=by rfl) (hs:starEach [e] X.env=(false,eval e X.env)::starEach [] X.env:=by rfl) (hplain:(backTo cpos (starEach [] X.env)).any (·.1)=false:=by rfl):QD X (.Call (.Attribute (.Name x p1) "pop" apos) [e] [] cpos) (j08 i g):=⟨j2o h.o ha.o hbase hfew hline hs hplain⟩
theorem x0t {n:Nat}{x:Str}(h:QE X (.Name x p1) (x9r n))(hb:QD X b fb)(hs:x4t b:=by exact fun _ _=>rfl):QD X (.Subscript (.Name x p1) b pos) (x1k n fb):=⟨j17 h.o hb.o hs⟩
theorem z00 (ha:QD X a fa)(hb:QD X b fb):QD X (.BinOp a .Mult b pos) (y65 fa fb):=⟨z8h ha.o hb.o⟩
end
section
variable {X:Cx}{a b c e:Expr}{es:List Expr}{fa fb fc f:Den}{qa qb:y17}{g:x1o}{pos p p1 p2 cpos apos:Pos}
theorem z5j {n:Nat}{x:Str}(h:QE X (.Name x p1) (x9r n)):QQ X (.Name x p1) (z68 n):=⟨j2d h.o⟩
theorem j39 {n:Nat}{x:Str}(h:QE X (.Name x p1) (x9r n))(hb:QQ X b qb)(hs:x4t b:=by exact fun _ _=>rfl):QQ X (.Subscript (.Name x p1) b pos) (qIx n qb):=⟨j4t h.o hb.o hs⟩
theorem z4w {n:Nat}{x:Str}(h:QE X (.Name x p1) (x9r n))(ha:QQ X a qa)(hb:QQ X b qb)(he:QD X e f)(hi:x4t a:=by exact fun _ _=>rfl)(hasg:∀ v,assign (.Subscript (.Subscript (.Name x p1) a p2) b p) X.env v=(do
   let ov <- holding [v] (eval (.Subscript (.Name x p1) a p2) X.env)
   let iv <- holding [v,ov] (eval b X.env)
   standAt p
   holding [v,ov,iv] (setItem ov iv v)
   release [v,ov,iv] []):=by exact fun _=>rfl) (hs:swapsWithSole [.Subscript (.Subscript (.Name x p1) a p2) b p] e pos.line X.env=pure false:=by rfl):QDS X (.Assign [.Subscript (.Subscript (.Name x p1) a p2) b p] e pos) (y7r n qa qb f):=⟨z3x h.o ha.o hb.o he.o hi hasg hs⟩
end
section
variable {X:Cx}{a b c e:Expr}{es x1w:List Expr}{fa fb fc f:Den}{g:x1o}{pos p p1 p2 cpos apos:Pos}
theorem z67 {op}(h:QD X a fa):QD X (.BoolOp op [a] pos) fa:=⟨j1x h.o⟩
theorem z5z (ha:QD X a fa)(hb:QD X (.BoolOp .And (b::x1w) pos) fb):QD X (.BoolOp .And (a::b::x1w) pos) (j1s fa fb):=⟨j32 ha.o hb.o⟩
theorem j12 (ha:QD X a fa):QD X (.UnaryOp .Not a pos) (j4g fa):=⟨j1t ha.o⟩
theorem x09 {j k n:Nat}{x:Str}{F:List D->OD}(C:Cal X.prog X.w X.K X.mg X.base k x n F)(hr:Room j X.A)(hk:k<=j)(ha:QDA X (e::es) g)(hg:Gl X x:=by rfl)(hdb:(x==("__debug__":Str))=false:=by decide)(he:starEach (e::es) X.env=(false,eval e X.env)::starEach es X.env:=by rfl)(hpl:(backTo pos (starEach es X.env)).any (·.1)=false:=by rfl):QD X (.Call (.Name x p) (e::es) [] pos) (x0l F n g):=⟨z21 C hr hk ha.o hg hdb he hpl⟩
end
section
variable {X:Cx}{k b:Nat}{e:Expr}{es:List Expr}{pt:x54}{ps:x8z}{pos:Pos}
theorem x83:QDGs X b [] x7j:=⟨z2h ⟩
theorem x22 (h1:QDG X b e pt)(h2:QDGs X b es ps)(hs:(assignEach (e::es) X.env).map (·.2)=assign e X.env::(assignEach es X.env).map (·.2):=by rfl):QDGs X b (e::es) (x1d pt ps):=⟨z0t h1.o h2.o hs⟩
theorem y05 {n:Nat}(hc:X.calm=true)(h:QDGs X b es ps)(hl:∀ ds ρ ρ',ps ds ρ=some ρ'->ds.length=n)(hn:(assignEach es X.env).length=n:=by rfl)(hst:(assignEach es X.env).findIdx? (·.1)=none:=by rfl):QDG X b (.Tuple es k pos) (y7p ps):=⟨j01 hc h.o hl hn hst⟩
end
section
variable {X:Cx}{a b c e:Expr}{es:List Expr}{fa fb fc f:Den}{g:x1o}{pos p p1 p2:Pos}
theorem j0n (hc:X.calm=true)(hm:X.mg "all" = none)(ha:QDA X [a] g)(hg:Gl X "all":=by rfl)(he:starEach [a] X.env=(false,eval a X.env)::starEach [] X.env:=by rfl)(hpl:(backTo pos (starEach [] X.env)).any (·.1)=false:=by rfl):QD X (.Call (.Name "all" p) [a] [] pos) (eB z8p g):=⟨j1y hc hm ha.o hg he hpl⟩
end
section
variable {X:Cx}{a b c e:Expr}{es:List Expr}{fa fb fc f:Den}{ga gb:x1p}{g:x1o}{pos p p1 p2 pT:Pos}
theorem y3z (T:IT){t:Str}(hm:X.mg "isinstance" = none)(hmT:X.mg t=none)(hbT:bootBuiltins t=some (.type T.nm))(ha:QD X a fa)(hg:Gl X "isinstance":=by rfl)(hgT:Gl X t:=by rfl)(hnT:t ≠ "__name__":=by decide)(hdT:(t==("__debug__":Str))=false:=by decide)(hs:starEach [a,.Name t pT] X.env=(false,eval a X.env)::starEach [.Name t pT] X.env:=by rfl)(hpl:(backTo pos (starEach [.Name t pT] X.env)).any (·.1)=false:=by rfl):QD X (.Call (.Name "isinstance" p) [a,.Name t pT] [] pos) (z5t T fa):=⟨j3f T hm hmT hbT ha.o hg hgT hnT hdT hs hpl⟩
theorem y5l (ha:QD X a fa)(hb:QD X b fb)(hc:QD X c fc)(hm:lastMarks [.LtE,.Lt] [b,c]=false:=by with_unfolding_all rfl):QD X (.Compare a [.LtE,.Lt] [b,c] pos) (eCh dLe dLt fa fb fc):=⟨y5b ha.o hb.o hc.o hm⟩
theorem j3j (ha:QD X a fa):QD X (.UnaryOp .USub a pos) (z9g fa):=⟨j0k ha.o⟩
theorem z07 (ha:QD X a fa)(hb:QD X b fb):QD X (.BinOp a .Add b pos) (z5b fa fb):=⟨j3u ha.o hb.o⟩
theorem y74:QDO X none z4q:=⟨z1x ⟩
theorem y7j (h:QD X e f):QDO X (some e) (z04 f):=⟨z2s h.o⟩
theorem j19 {lo hi:Option Expr}{fl fh:z5u}(ha:QD X a fa)(hl:QDO X lo fl)(hh:QDO X hi fh):QD X (.Subscript a (.Slice lo hi none p2) pos) (eSl fa fl fh):=⟨j68 ha.o hl.o hh.o⟩
end
section
variable {X:Cx}{k b n:Nat}{a c e tg:Expr}{es:List Expr}{pt:x54}{ps:x8z}{pos:Pos}{fa fb f:Den}
theorem z84 (he:QD X e f)(hg:QDG X 0 tg pt)(hs:swapsWithSole [tg] e pos.line X.env=pure false:=by rfl)(hw:swappedStores [tg] e X.env=pure none:=by rfl)(h1:(assignEach [tg] X.env).map (·.2)=[assign tg X.env]:=by rfl):QDS X (.Assign [tg] e pos) (j0c f pt):=⟨z6e he.o hg.o hs hw h1⟩
end
section
variable {X:Cx}{a b c e:Expr}{fa fb fc f:Den}{pos:Pos}
theorem z9y (ha:QD X a fa)(hb:QD X b fb):QD X (.BinOp a .Mult b pos) (z0k fa fb):=⟨z96 ha.o hb.o⟩
end
section
variable {X:Cx}{a b c e:Expr}{es:List Expr}{fa fb fc f:Den}{ga gb:x1p}{g:x1o}{pos p p1 p2 cpos apos:Pos}
theorem y8y {i:Nat}{x:Str}(h:QE X (.Name x p1) (x9r i))(ha:QD X e f)(hbase:attributeBase (.Name x p1) "extend" X.env (eval (.Name x p1) X.env)=eval (.Name x p1) X.env:=by rfl)(hfew:((backTo cpos (starEach [e] X.env)).all (fun x=>!x.1)&&(backToKw cpos (keywordEach [] X.env)).all (fun x=>x.1.isSome)
   && decide ([e].length+([]:List Keyword).length+(if([]:List Keyword).isEmpty then 0 else 1)<30))=true:=by rfl) (hline:(apos.endLine==cpos.line)=true:=by rfl) (hs:starEach [e] X.env=(false,eval e X.env)::starEach [] X.env:=by rfl) (hplain:(backTo cpos (starEach [] X.env)).any (·.1)=false:=by rfl):QD X (.Call (.Attribute (.Name x p1) "extend" apos) [e] [] cpos) (j4c i f):=⟨y9k h.o ha.o hbase hfew hline hs hplain⟩
end
section
variable {X:Cx}{a b c e:Expr}{es:List Expr}{fa fb fc f:Den}{ga gb gc:x1p}{g:x1o}{qa qb:y17}{s:x16}{pos p p1 p2 cpos apos:Pos}
theorem y09 {st:Stmt}:QDS X st y2a:=⟨y9e ⟩
theorem y9x {body:List Stmt}(hp:PassesOwn (model X.prog X.w) X.A X.env X.xe)(hc:QDT X c gc)(hb:QDSs X body s):QDS X (.While c body [] pos) (y6w gc s):=⟨y9b hp hc.o hb.o⟩
theorem z7a (ha:QD X a fa)(hb:QD X b fb):QD X (.BinOp a .Add b pos) (z1m fa fb):=⟨z71 ha.o hb.o⟩
end
section
variable {X:Cx}{a b c e:Expr}{es:List Expr}{fa fb fc f:Den}{ga gb gc:x1p}{g:x1o}{qa qb:y17}{s:x16}{pos p p1 p2 p3 cpos apos:Pos}
theorem y6y {n j:Nat}{c:Int}{x:Str}(hm:X.mg "len" = none)(h:QE X (.Name x p1) (x9r n))(hg:Gl X "len":=by rfl)(hs:x4t (.Constant (.int c) j p2):=by exact fun _ _=>rfl)(he:starEach [.Subscript (.Name x p1) (.Constant (.int c) j p2) p3] X.env=(false,eval (.Subscript (.Name x p1) (.Constant (.int c) j p2) p3) X.env)::starEach [] X.env:=by rfl)(hpl:(backTo pos (starEach [] X.env)).any (·.1)=false:=by rfl):QQ X (.Call (.Name "len" p) [.Subscript (.Name x p1) (.Constant (.int c) j p2) p3] [] pos) (x7q n c):=⟨z29 hm h.o hg hs he hpl⟩
theorem z7v {k l:Str}{j1 j2:Nat}(hkl:k≠l)(ha:QQ X a qa)(hb:QQ X b qb):QD X (.Dict [some (.Constant (.str k) j1 p1),some (.Constant (.str l) j2 p2)] [a,b] pos) (y8g k l qa qb):=⟨z8g hkl ha.o hb.o⟩
theorem z9n {k:Nat}(hr:Room k X.A)(ho:QD X a fa)(he:QD X b fb)(hf:QD X c fc)(hbase:attributeBase a "get" X.env (eval a X.env)=eval a X.env:=by rfl)(hfew:((backTo cpos (starEach [b,c] X.env)).all (fun x=>!x.1)&&(backToKw cpos (keywordEach [] X.env)).all (fun x=>x.1.isSome)
   && decide (([b,c]:List Expr).length+([]:List Keyword).length+(if([]:List Keyword).isEmpty then 0 else 1)<30))=true:=by rfl) (hline:(apos.endLine==cpos.line)=true:=by rfl) (htr:backTo cpos (starEach [b,c] X.env)=[(false,eval b X.env),(false,eval c X.env)]:=by rfl):QD X (.Call (.Attribute a "get" apos) [b,c] [] cpos) (z3o fa fb fc):=⟨z7b hr ho.o he.o hf.o hbase hfew hline htr⟩
end
section
variable {X:Cx}{a b c e:Expr}{es elts:List Expr}{fa fb fc f:Den}{g:x1o}{pos p p1 p2 tp:Pos}{kt:Nat}
theorem z3v (hm:X.mg "enumerate" = none)(ha:QDA X [a] g)(hg:Gl X "enumerate":=by rfl)(hs:starEach [a] X.env=[(false,eval a X.env)]:=by rfl):QDI X (.Tuple elts kt tp) (.Call (.Name "enumerate" p) [a] [] pos) (y9m g):=⟨z23 hm ha.o hg hs⟩
end
section
variable {X:Cx}{a b c e:Expr}{es:List Expr}{fa fb fc f:Den}{ga gb:x1p}{g:x1o}{pos p p1 p2 pT cpos apos:Pos}
theorem y1u {L:List Str}{nm:Str}(hC:IsC X.K X.mg L nm)(hm:X.mg "isinstance" = none)(ha:QD X a fa)(hg:Gl X "isinstance":=by rfl)(hgT:Gl X nm:=by rfl)(hdT:(nm==("__debug__":Str))=false:=by decide)(hs:starEach [a,.Name nm pT] X.env=(false,eval a X.env)::starEach [.Name nm pT] X.env:=by rfl)(hpl:(backTo pos (starEach [.Name nm pT] X.env)).any (·.1)=false:=by rfl):QD X (.Call (.Name "isinstance" p) [a,.Name nm pT] [] pos) (z59 L nm fa):=⟨j1j hC hm ha.o hg hgT hdT hs hpl⟩
theorem j2g (hm:X.mg "isinstance" = none)(hmT:X.mg "ValueError" = none)(ha:QD X a fa)(hg:Gl X "isinstance":=by rfl)(hgT:Gl X "ValueError":=by rfl)(hs:starEach [a,.Name "ValueError" pT] X.env=(false,eval a X.env)::starEach [.Name "ValueError" pT] X.env:=by rfl)(hpl:(backTo pos (starEach [.Name "ValueError" pT] X.env)).any (·.1)=false:=by rfl):QD X (.Call (.Name "isinstance" p) [a,.Name "ValueError" pT] [] pos) (j4n fa):=⟨j1n hm hmT ha.o hg hgT hs hpl⟩
theorem z7p (ha:QD X a fa)(hb:QD X b fb):QDT X (.Compare a [.Is] [b] pos) (x3m (e2 j1p fa fb)):=⟨z7q ha.o hb.o⟩
theorem z8c {k:Nat}(hr:Room k X.A)(ho:QD X a fa)(ha:QDA X [e] g)(hbase:attributeBase a "count" X.env (eval a X.env)=eval a X.env:=by rfl)(hfew:((backTo cpos (starEach [e] X.env)).all (fun x=>!x.1)&&(backToKw cpos (keywordEach [] X.env)).all (fun x=>x.1.isSome)
   && decide ([e].length+([]:List Keyword).length+(if([]:List Keyword).isEmpty then 0 else 1)<30))=true:=by rfl) (hline:(apos.endLine==cpos.line)=true:=by rfl) (hs:starEach [e] X.env=(false,eval e X.env)::starEach [] X.env:=by rfl) (hplain:(backTo cpos (starEach [] X.env)).any (·.1)=false:=by rfl):QD X (.Call (.Attribute a "count" apos) [e] [] cpos) (j4i fa g):=⟨z8z hr ho.o ha.o hbase hfew hline hs hplain⟩
theorem z0l {k:Nat}(hr:Room k X.A)(ho:QD X a fa)(ha:QDA X [e] g)(hbase:attributeBase a "index" X.env (eval a X.env)=eval a X.env:=by rfl)(hfew:((backTo cpos (starEach [e] X.env)).all (fun x=>!x.1)&&(backToKw cpos (keywordEach [] X.env)).all (fun x=>x.1.isSome)
   && decide ([e].length+([]:List Keyword).length+(if([]:List Keyword).isEmpty then 0 else 1)<30))=true:=by rfl) (hline:(apos.endLine==cpos.line)=true:=by rfl) (hs:starEach [e] X.env=(false,eval e X.env)::starEach [] X.env:=by rfl) (hplain:(backTo cpos (starEach [] X.env)).any (·.1)=false:=by rfl):QD X (.Call (.Attribute a "index" apos) [e] [] cpos) (y3s fa g):=⟨y9i hr ho.o ha.o hbase hfew hline hs hplain⟩
end
section
variable {X:Cx}{E:XK}{st:Stmt}{ss x1w a b:List Stmt}{x y:x4a}{f:x16}{g:x1p}{c e:Expr}{es:List Expr}{pos pos' p:Pos}
theorem y6v:QXB X E ss z3i:=⟨z4i ⟩
theorem j0m (hx:QXB X E ss x)(hy:QXB X E ss y):QXB X E ss (xOr x y):=⟨j0u hx.o hy.o⟩
theorem z0n (h1:QDS X st f)(h2:QXB X E x1w x):QXB X E (st::x1w) (z6b f x):=⟨z9x h1.o h2.o⟩
theorem x5f (h:QXS X E st x):QXB X E (st::x1w) x:=⟨y9g h.o⟩
theorem z0u (hc:QDT X c g)(ha:QXB X E a x)(hb:QXB X E b y):QXS X E (.If c a b pos) (z22 g x y):=⟨z8t hc.o ha.o hb.o⟩
theorem z6g {z:Str}(he:QXE X E e x)(hs:swapsWith e (some (.Name z pos')) pos.line X.env=pure false:=by rfl):QXS X E (.Assign [.Name z pos'] e pos) x:=⟨z6v he.o hs⟩
theorem z53 (he:QXE X E e x)(hs:swapsWith e none pos.line X.env=pure false:=by rfl):QXS X E (.Expr e pos) x:=⟨z47 he.o hs⟩
theorem j0i (he:QXE X E e x)(hs:starEach (e::es) X.env=(false,eval e X.env)::starEach es X.env:=by rfl):QXA X E (e::es) x:=⟨z5s he.o hs⟩
theorem z5n {fe:Den}(he:QD X e fe)(ha:QXA X E es x)(hs:starEach (e::es) X.env=(false,eval e X.env)::starEach es X.env:=by rfl):QXA X E (e::es) (xTl fe x):=⟨j24 he.o ha.o hs⟩
theorem z7z {x1}(h:QXA X E es x):QXE X E (.Tuple es x1 pos) x:=⟨z7w h.o⟩
end
section
variable {P:Program}{w:World}{K:PySem.W.Frag}{mg:Str->Option Value}{base:Heap}{N:List Str}{qual:Str}{scope:Scope}{f:Addr}{cd:Value}{A:Around}{outer:List Env}{s₀:Shared}{H₀:Hp}{E:XK}
theorem y3x {nm txt:Str}{k j:Nat}{np cpos tpos pos:Pos}(hr:Room k (A.deeper (envOfC qual scope s₀.heap.objs.size f cd)))(hC:∃ C,XNm K mg nm C)(hg:Gl (cxF P w K mg base N qual scope f cd A outer s₀ H₀ E) nm:=by rfl)(hdb:(nm==("__debug__":Str))=false:=by decide):QXS (cxF P w K mg base N qual scope f cd A outer s₀ H₀ E) E (.Raise (some (.Call (.Name nm np) [.Constant (.str txt) j tpos] [] cpos)) none pos) (y7g nm):=⟨z09 hr hC hg hdb⟩
theorem z33 {j k n:Nat}{x:Str}{F:List D->Option Str}{e:Expr}{es:List Expr}{g:x1o}{p pos:Pos}(Cx':y27 P w K mg base k x n F)(hr:Room j (A.deeper (envOfC qual scope s₀.heap.objs.size f cd)))(hk:k<=j)(ha:QDA (cxF P w K mg base N qual scope f cd A outer s₀ H₀ E) (e::es) g)(hg:Gl (cxF P w K mg base N qual scope f cd A outer s₀ H₀ E) x:=by rfl)(hdb:(x==("__debug__":Str))=false:=by decide)(he:starEach (e::es) (envOfC qual scope s₀.heap.objs.size f cd)=(false,eval e (envOfC qual scope s₀.heap.objs.size f cd))::starEach es (envOfC qual scope s₀.heap.objs.size f cd):=by rfl)(hpl:(backTo pos (starEach es (envOfC qual scope s₀.heap.objs.size f cd))).any (·.1)=false:=by rfl):QXE (cxF P w K mg base N qual scope f cd A outer s₀ H₀ E) E (.Call (.Name x p) (e::es) [] pos) (y1m F n g):=⟨z20 Cx' hr hk ha.o hg hdb he hpl⟩
end
section
variable {Y:Cx}{c e:Expr}{es:List Expr}{g:x1o}{gt:x1p}{x y:z1w}{a b ss:List Stmt}{st:Stmt}{pos:Pos}
theorem z8y (h:QTS Y st y):QTB Y [st] y:=⟨z6j h.o⟩
theorem z3j {z u:Str}{Fx:List D->Option Str}{j k n:Nat}{yp fp cpos spos:Pos}(CX:y27 Y.prog Y.w Y.K Y.mg Y.base k z n Fx)(hr:Room j Y.A)(hk:k<=j)(ha:QDA Y.nox (e::es) g)(hgx:Gl Y z:=by rfl)(hdx:(z==("__debug__":Str))=false:=by decide)(hsc:swapsWith (.Call (.Name z fp) (e::es) [] cpos) (some (.Name u yp)) spos.line Y.env=pure false:=by rfl)(he:starEach (e::es) Y.env=(false,eval e Y.env)::starEach es Y.env:=by rfl)(hpl:(backTo cpos (starEach es Y.env)).any (·.1)=false:=by rfl):QTS Y (.Assign [.Name u yp] (.Call (.Name z fp) (e::es) [] cpos) spos) (y88 Fx n g):=⟨z4l CX hr hk ha.o hgx hdx hsc he hpl⟩
theorem z4k {R nn kx:Str}{L:List Str}{f:x16}{ie ik:Nat}{np kp vp apos hpos:Pos}(hU:y04 Y.K Y.mg R L)(hf:QDSs Y.nox ss f)(hx:QTB Y ss y)(hN:Y.N.Nodup)(hie:Y.N[ie]? = some nn)(hik:Y.N[ik]? = some kx)(hst:Y.stack=Y.env::Y.outer:=by rfl)(hfm:Y.env.frame=some Y.env.locals:=by rfl)(hne:Y.env.scope.names.lookup nn=some .local:=by rfl)(hnk:Y.env.scope.names.lookup kx=some .local:=by rfl)(hg:Gl Y R:=by rfl)(hdb:(R==("__debug__":Str))=false:=by decide)(hdn:(nn==("__debug__":Str))=false:=by decide)(hcn:(nn==("__classdict__":Str))=false:=by decide)(hsw:swapsWith (.Name nn vp) (some (.Name kx kp)) apos.line Y.env=pure false:=by rfl):QDS Y.nox (.Try ss [.ExceptHandler (some (.Name R np)) (some nn) [.Assign [.Name kx kp] (.Name nn vp) apos] hpos] [] [] pos) (y7v L f y ie ik):=⟨z27 hU hf.o hx.o hN hie hik hst hfm hne hnk hg hdb hdn hcn hsw⟩
end
section
variable {X:Cx}{e:Expr}{es:List Expr}{g:x1o}{pos p:Pos}
theorem z4c {i j k n:Nat}{x:Str}{ob:D}{G:List D->OD}(h:QE X (.Name x p) (x9r i))(C:z6h X.prog X.w X.K X.mg X.base k ob n G)(hr:Room j X.A)(hk:k<=j)(ha:QDA X (e::es) g)(he:starEach (e::es) X.env=(false,eval e X.env)::starEach es X.env:=by rfl)(hpl:(backTo pos (starEach es X.env)).any (·.1)=false:=by rfl):QD X (.Call (.Name x p) (e::es) [] pos) (y0b ob G i n g):=⟨z2m h.o C hr hk ha.o he hpl⟩
end
section
variable {P:Program}{w:World}{K:PySem.W.Frag}{mg:Str->Option Value}{base:Heap}{N N':List Str}{qual:Str}{scope scope':Scope}{f:Addr}{cd:Value}{A:Around}{outer:List Env}{s₀:Shared}{H₀:Hp}{E:XK}
theorem z25 {k:Nat}{elt tg iter:Expr}{ifs:List Expr}{pos:Pos}{it:x9w}{pt:x54}{tt:x1p}{te:Den}{xe:x4a}(S:CompOk (cxF P w K mg base N qual scope f cd A outer s₀ H₀ E) k N' scope')(hi:QDI (cxF P w K mg base N qual scope f cd A outer s₀ H₀ E) tg iter it)(hg:∀ C s H fp,QDG (x11 (cxF P w K mg base N qual scope f cd A outer s₀ H₀ E) N' scope' C s H fp) N.length tg pt)(ht:∀ C s H fp,QDTs (x11 (cxF P w K mg base N qual scope f cd A outer s₀ H₀ E) N' scope' C s H fp) ifs tt)(he:∀ C s H fp,QD (x11 (cxF P w K mg base N qual scope f cd A outer s₀ H₀ E) N' scope' C s H fp) elt te)(hx:∀ C s H fp,QXE (x4e (cxF P w K mg base N qual scope f cd A outer s₀ H₀ E) E N' scope' C s H fp) E elt xe)(hs:∀ x,foldedSetIterable iter (envOfC qual scope s₀.heap.objs.size f cd) x=pure x:=by intro _;rfl):QXE (cxF P w K mg base N qual scope f cd A outer s₀ H₀ E) E (.ListComp elt [⟨tg,iter,ifs,0⟩] scope' pos) (y8o k it pt tt te xe):=⟨z3u S hi.o (fun C s H fp=>(hg C s H fp).o) (fun C s H fp=>(ht C s H fp).o) (fun C s H fp=>(he C s H fp).o) (fun C s H fp=>(hx C s H fp).o) hs⟩
end
section
variable {X:Cx}{E:XK}{N':List Str}{scope':Scope}{C:Addr}{s2:Shared}{H2:Hp}{fp:List Addr}{a e:Expr}{es:List Expr}{x0:x4a}{p pos:Pos}
theorem z0g {j k n:Nat}{x:Str}{F:List D->Option Str}{g:x1o}(Cx':y27 X.prog X.w X.K X.mg X.base k x n F)(hr:Room j X.A)(hk:k<=j)(ha:QDA (x4e X E N' scope' C s2 H2 fp) (e::es) g)(hg:Gl (x4e X E N' scope' C s2 H2 fp) x:=by rfl)(hdb:(x==("__debug__":Str))=false:=by decide)(he:starEach (e::es) (x3p scope' X.env C)=(false,eval e (x3p scope' X.env C))::starEach es (x3p scope' X.env C):=by rfl)(hpl:(backTo pos (starEach es (x3p scope' X.env C))).any (·.1)=false:=by rfl):QXE (x4e X E N' scope' C s2 H2 fp) E (.Call (.Name x p) (e::es) [] pos) (y1m F n g):=⟨y9v Cx' hr hk ha.o hg hdb he hpl⟩
theorem y98 (hm:X.mg "tuple" = none)(hb:bootBuiltins "tuple" = some (.type "tuple"))(ha:QXE X E a x0)(hg:Gl X "tuple":=by rfl)(he:starEach [a] X.env=(false,eval a X.env)::starEach [] X.env:=by rfl)(hpl:(backTo pos (starEach [] X.env)).any (·.1)=false:=by rfl):QXE X E (.Call (.Name "tuple" p) [a] [] pos) x0:=⟨z1f hm hb ha.o hg he hpl⟩
end
theorem Cal.mkQ {P:Program}{w:World}{K:PySem.W.Frag}{mg:Str->Option Value}{base:Heap}{k:Nat}{x:Str}{st:Stmt}{N ps:List Str}{body:x16}(a:At K mg x st ps)(S:FnScope N ps (x0a st))
  (h:∀ (f:Addr) (cdv:Value) (A:Around) (outer:List Env) (s:Shared) (H:Hp) (E:XK),Room k (A.deeper (envOfC x (x0a st) s.heap.objs.size f cdv))->QDSs (y2h CX0 P w K mg base N x (x0a st) f cdv A outer s H E).nox (x32 st) body) :
  Cal P w K mg base (k+1) x ps.length (fnD N.length body):=Cal.mk a S fun f cdv A outer s H E hr=>(h f cdv A outer s H E hr).o
theorem z7y {P:Program}{w:World}{K:PySem.W.Frag}{mg:Str->Option Value}{base:Heap}{k:Nat}{x:Str}{st:Stmt}{N ps:List Str}{body:x16}{f:Addr}{fd:FuncData}(F:Fun K x x st f fd)(S:FnScope N ps (x0a st))
  (h:∀ (f:Addr) (cdv:Value) (A:Around) (outer:List Env) (s:Shared) (H:Hp) (E:XK),Room k (A.deeper (envOfC x (x0a st) s.heap.objs.size f cdv))->QDSs (y2h CX0 P w K mg base N x (x0a st) f cdv A outer s H E).nox (x32 st) body) :
  FnOk P w K mg base CX0 (k+1) f fd ps (spD K ps.length (fnD N.length body)):=j3z F S fun f cdv A outer s H E hr=>(h f cdv A outer s H E hr).o
end L3
namespace L3
open PySem PySem.Spec PyProof.Rows PySem.W L2
theorem j4z {K:Frag}{C:Addr}{v:Value}{b:Bool}(h:mroIn K C v=some b):(clsIn K C).isSome=true:=by
 obtain⟨cd,a,_⟩:=Option.bind_eq_some_iff.mp h
 rw[a];rfl
theorem XKls.of {K:Frag}{nm:Str}{C:Addr}(n:nsIn K mainGlobals nm=some (some (.ref C)))(x:XCls K C)(ex:excIn K C bmV "ValueError.__new__" = true)(v:mroIn K C (.type "ValueError")=some true)
  (a1:mroIn K C (.type "int")=some false) (a2:mroIn K C (.type "bool")=some false) (a3:mroIn K C (.type "tuple")=some false) (a4:mroIn K C (.type "list")=some false) (a5:mroIn K C (.type "str")=some false):XKls K nm C:=
 ⟨n,x,ex,v,fun T hT=>by
   rcases List.mem_cons.mp hT with rfl|hT
   ·exact a1
   rcases List.mem_cons.mp hT with rfl|hT
   ·exact a2
   rcases List.mem_cons.mp hT with rfl|hT
   ·exact a3
   rcases List.mem_cons.mp hT with rfl|hT
   ·exact a4
   rcases List.mem_cons.mp hT with rfl|hT
   ·exact a5
   cases hT⟩
theorem y04.nil {K:Frag}{mg:Str->Option Value}{R:Str}{RA:Addr}(x:XCls K RA)(t:typeIn K (.ref RA)=some (.type "type"))(m:mg R=some (.ref RA)):y04 K mg R []:=⟨RA,x,t,m,fun n hn=>nomatch hn⟩
theorem y04.cons {K:Frag}{mg:Str->Option Value}{R nm:Str}{L:List Str}{C RA:Addr}(U:y04 K mg R L)(m:mg R=some (.ref RA))(k:XKls K nm C)(s:mroIn K C (.ref RA)=some true):y04 K mg R (nm::L):=by
 obtain⟨RB,x,t,m',h⟩:=U
 rw[m]at m'
 cases m'
 refine⟨RA,x,t,m,fun n hn C' e=>?_⟩
 rcases List.mem_cons.mp hn with rfl|hn
 ·have e':=k.ns
  rw[e]at e'
  cases e'
  exact⟨k,s⟩
 ·exact h n hn C' e
theorem IsC.nil {K:Frag}{mg:Str->Option Value}{nm:Str}{C:Addr}(m:mg nm=some (.ref C)):IsC K mg [] nm:=⟨C,m,fun n hn=>nomatch hn⟩
theorem IsC.self {K:Frag}{mg:Str->Option Value}{nm:Str}{L:List Str}{C:Addr}(U:IsC K mg L nm)(n:nsIn K mainGlobals nm=some (some (.ref C)))(m:mg nm=some (.ref C)):IsC K mg (nm::L) nm:=by
 obtain⟨C',m',h⟩:=U
 rw[m]at m'
 cases m'
 refine⟨C,m,fun n' hn B e=>?_⟩
 rcases List.mem_cons.mp hn with rfl|hn
 ·rw[e]at n
  cases n
  exact⟨fun _=>by unfold isIn;simp,fun z=>absurd rfl z⟩
 ·exact h n' hn B e
theorem IsC.other {K:Frag}{mg:Str->Option Value}{nm n2:Str}{L:List Str}{C D:Addr}(U:IsC K mg L n2)(n:nsIn K mainGlobals nm=some (some (.ref C)))(m:mg n2=some (.ref D))(hn:nm≠n2)(ne:C≠D)(t:typeIn K (.ref D)=some (.type "type"))(o:mroIn K D (.type "object")=some true)(s:mroIn K C (.ref D)=some false):IsC K mg (nm::L) n2:=by
 obtain⟨D',m',h⟩:=U
 rw[m]at m'
 cases m'
 refine⟨D,m,fun n' hn' B e=>?_⟩
 rcases List.mem_cons.mp hn' with rfl|hn'
 ·rw[e]at n
  cases n
  have s':subIn K (.ref C) (.ref D)=some false:=s
  exact⟨fun z=>absurd z hn,fun _=>by unfold kin_not;rw[j4z o,t,s'];simp[ne]⟩
 ·exact h n' hn' B e
theorem y27.mkQ {P:Program}{w:World}{K:PySem.W.Frag}{mg:Str->Option Value}{base:Heap}{k:Nat}{x:Str}{st:Stmt}{N ps:List Str}{xb:x4a}(a:At K mg x st ps)(S:FnScope N ps (x0a st))
  (h:∀ (f:Addr) (cdv:Value) (A:Around) (outer:List Env) (s:Shared) (H:Hp) (E:XK),Room k (A.deeper (envOfC x (x0a st) s.heap.objs.size f cdv))->QXB (cxF P w K mg base N x (x0a st) f cdv A outer s H E) E (x32 st) xb) :
  y27 P w K mg base (k+1) x ps.length (fnX N.length xb):=y27.mk a S fun f cdv A outer s H E hr=>(h f cdv A outer s H E hr).o
def y8l (X:Cx):List Str->List Nat->Prop
 | [],[]=>True
 | z::zs,i::is=>X.N[i]? = some z/\X.env.scope.names.lookup z=some .cell/\y8l X zs is
 | _,_=>False
theorem y8l.len {X:Cx}:∀ {zs:List Str} {is:List Nat},y8l X zs is->is.length=zs.length
 | [],[],_=>rfl
 | _::_,_::_,h=>by simp[h.2.2.len]
theorem y8l.at {X:Cx}:∀ {zs:List Str} {is:List Nat},y8l X zs is->∀ (j:Nat) (z:Str),zs[j]? = some z->∃ i,is[j]? = some i/\X.N[i]? = some z/\X.env.scope.names.lookup z=some .cell
 | [],[],_,_,_,e=>by simp at e
 | z::zs,i::is,h,0,_,e=>by simp at e;subst e;exact⟨i,rfl,h.1,h.2.1⟩
 | z::zs,i::is,h,j+1,y,e=>by
  obtain⟨i',a,b⟩:=h.2.2.at j y (by simpa using e)
  exact⟨i',by simpa using a,b⟩
section
variable {P:Program}{w:World}{K:PySem.W.Frag}{mg:Str->Option Value}{base:Heap}{N:List Str}{x:Str}{sc:Scope}{f c:Addr}{A:Around}{outer:List Env}{s₀:Shared}{H₀:Hp}{E:XK}
theorem j0v {y:Str}{Pt:Addr}{j k kb:Nat}{ps caps:List Str}{is:List Nat}{params:Arguments}{body eN:Expr}{scope:Scope}{fN fb:Den}{F:D->(List D->OD)->List D->OD}{p lp pos:Pos}
  (L:Lm K mg base) (hx:x∈x77) (ht:tabIn K x=some (c,Pt)) (S:LamScope ps caps scope) (hy:∃ fn,mg y=some (.ref fn)/\keepIn K (.ref fn)=true) (hr:Room j (A.deeper (envOfC x sc s₀.heap.objs.size f (.ref c)))) (hk:k<=j)
  (hF:∀ base' ob G,z6h P w K mg base' (kb+1) ob ps.length G->Cal P w K mg base' k y 2 (F ob G))
  (hbody:∀ (base':Heap) (f c':Addr) (cl:List (Str×Addr)) (q:Str) (A:Around) (outer:List Env) (s:Shared) (H:Hp),Room kb (A.deeper (envX q scope s.heap.objs.size f (.ref c') cl))->QD (cxL P w K mg base' (ps++caps) q scope f (.ref c') cl A outer s H) body fb)
  (hbind:∀ (q:Str) (cl:List (Str×Addr)) (pm cdv ctv:Value) (us:List Value),us.length=ps.length->bindArgs (kla_fn "<lambda>" q params body scope cl pm cdv ctv) ⟨us,[]⟩=pure (ps.zip us))
  (hN:y8l (y2h CX0 P w K mg base N x sc f (.ref c) A outer s₀ H₀ E).nox caps is) (ha:QD (y2h CX0 P w K mg base N x sc f (.ref c) A outer s₀ H₀ E).nox eN fN)
  (hse:∀ env:Env,starEach [eN,.Lambda params body scope lp] env=(false,eval eN env)::starEach [.Lambda params body scope lp] env)
  (hcl:closureFor scope (y2h CX0 P w K mg base N x sc f (.ref c) A outer s₀ H₀ E).nox.env=pure (x8j caps (y2h CX0 P w K mg base N x sc f (.ref c) A outer s₀ H₀ E).nox.env.cells):=by rfl) (hdf:∀ env,defaultsOf params env=([],[]):=by exact fun _=>rfl) (hg:Gl (y2h CX0 P w K mg base N x sc f (.ref c) A outer s₀ H₀ E).nox y:=by rfl) (hdb:(y==("__debug__":Str))=false:=by decide) :
  QD (y2h CX0 P w K mg base N x sc f (.ref c) A outer s₀ H₀ E).nox (.Call (.Name y p) [eN,.Lambda params body scope lp] [] pos) (j0e F fb is fN):=by
 obtain⟨fn,h1,h2⟩:=hy
 exact⟨j2m (X:=(y2h CX0 P w K mg base N x sc f (.ref c) A outer s₀ H₀ E).nox) (c:=c) (P:=Pt) rfl L hx ht rfl S h1 h2 hr hk hF (fun base' f c' cl q A outer s H hr=>(hbody base' f c' cl q A outer s H hr).o) (hbind _) hN.at hN.len ha.o hcl (hdf _) hg hdb (hse _) (by rw[y4w];rfl)⟩
end
theorem j4o {K:PySem.W.Frag}{mg:Str->Option Value}{h:Heap}{x:Str}{c P f:Addr}{oc:Value}{od:Option Addr}{fd:FuncData}{sl:Array (Option Value)}(X:K.In h)(G:h.Ns mainGlobals mg)(ht:tabIn K x=some (c,P))(hm:mg x=some (.ref f))(lk:K.lookup f=some ⟨oc,od,.func fd,sl⟩):fd.code=.ref c:=
 law_code X G ht hm (X _ _ lk) rfl
theorem Cal.mkL {P:Program}{w:World}{K:PySem.W.Frag}{mg:Str->Option Value}{base:Heap}{k:Nat}{x:Str}{st:Stmt}{N ps:List Str}{body:x16}(KX:K.In base)(G:base.Ns mainGlobals mg)(ht:∃ c Pt,tabIn K x=some (c,Pt))(a:At K mg x st ps)(S:FnScope N ps (x0a st))
  (h:∀ (f c Pt:Addr) (A:Around) (outer:List Env) (s:Shared) (H:Hp) (E:XK),tabIn K x=some (c,Pt)->Room k (A.deeper (envOfC x (x0a st) s.heap.objs.size f (.ref c)))->QDSs (y2h CX0 P w K mg base N x (x0a st) f (.ref c) A outer s H E).nox (x32 st) body) :
  Cal P w K mg base (k+1) x ps.length (fnD N.length body):=by
 obtain⟨f,fd,F,m,b⟩:=a
 obtain⟨c,Pt,ht⟩:=ht
 obtain⟨oc,od,kV,doc,pm,an,cdv,ct,osl,rfl,lk,hcd⟩:=F.ex
 have e:cdv=.ref c:=j4o KX G ht m lk
 subst e
 exact⟨f,_,ps,z7r lk hcd S (fun vs H Q E h=>h.1) fun A outer s H vs Q E hr hsp=>⟨_,(h f c Pt A outer s H E ht hr).o.nox,y79 hsp⟩,m,F.kp,b⟩
theorem j6j {α:Type}:∀ {l:List α},l.length=2->∃ a b,l=[a,b]
 | [a,b],_=>⟨a,b,rfl⟩
theorem LamScope.of {ps cs:List Str}{sc:Scope}(kind:sc.kind=.function)(co:sc.isCoroutine=false)(gen:sc.isGenerator=false)(nd:(ps++cs).Nodup)(par:∀ x∈ps,sc.names.lookup x=some .local)(cap:∀ x∈cs,sc.names.lookup x=some .free)
  (nocell:∀ y∈sc.names,y.2 ≠ .cell) (free:∀ y∈sc.names,y.2=.free->y.1∈cs):LamScope ps cs sc:=⟨kind,co,gen,nd,par,cap,nocell,fun x e=>free _ (PySem.mem_of_lookup e) rfl⟩
theorem j6l {K:PySem.W.Frag}{x:Str}{f c Pt:Addr}{oc o2:Value}{od od2:Option Addr}{fd:FuncData}{sl sl2:Array (Option Value)}{vs:Array Value}(a:nsIn K mainGlobals x=some (some (.ref f)))(l:K.lookup f=some ⟨oc,od,.func fd,sl⟩)(hc:fd.code=.ref c)(m:K.lookup c=some ⟨o2,od2,.fields vs,sl2⟩)(v:vs[11]? = some (.ref Pt)) :
  ∃ c Pt,tabIn K x=some (c,Pt):=⟨c,Pt,by unfold tabIn;rw[a];simp only[l,hc,m,v]⟩
theorem j4d {K:PySem.W.Frag}{x:Str}(a:nsIn K mainGlobals x=some none):tabIn K x=none:=by unfold tabIn;rw[a]
def x69 (K:PySem.W.Frag)(b:Addr):Bool:=x77.any fun x=>match tabIn K x with
 | some (_,P)=>P==b
 | none=>false
theorem z2v {K:PySem.W.Frag}{b:Addr}(h:x69 K b=true):∃ x∈x77,∃ c,tabIn K x=some (c,b):=by
 obtain⟨x,hx,e⟩:=List.any_eq_true.mp h
 split at e
 ·rename_i c P hP
  rw[eq_of_beq e]at hP
  exact⟨x,hx,c,hP⟩
 ·cases e
theorem z4o {K:PySem.W.Frag}{x:Str}{c P:Addr}(hx:x∈x77)(e:tabIn K x=some (c,P)):x69 K P=true:=
 List.any_eq_true.mpr ⟨x,hx,by rw[e];exact beq_self_eq_true P⟩
theorem y92 {P:Program}{w:World}{K:PySem.W.Frag}{mg mb:Str->Option Value}{CX:CXT}{k:Nat}{fa a:Addr}{fd:FuncData}{x:Str}{sp:Sp}{s₁:Shared}{vs:List Value}{ns:List Int}
  (KX:K.In s₁.heap) (hns:s₁.heap.Ns mainGlobals mg) (hb:s₁.heap.Ns builtinsNs mb) (hbb:∀ x:Str,x ≠ "__name__"->mb x=bootBuiltins x) (hlim:s₁.heap.NoLimit) (hg:s₁.gens = #[])
  (hbm:∃ bm o,mg "__builtins__" = some (.ref bm)/\bm≠builtinsNs/\s₁.heap.get? bm=some o/\o.cls=.type "module" /\ o.dict=some builtinsNs/\o.data=.plain)
  (hT:∀ x∈x77,∀ c Pt,tabIn K x=some (c,Pt)->CodeHd s₁.heap c Pt/\s₁.heap.get? Pt=some (tabObj #[])) (hnt:noTabs K=true)
  (ha:s₁.heap.get? a=some { cls:=.type "list",data:=.seq vs.toArray }) (hi:IntsAre vs ns) (hl:ns.length<=sizeLine) (hr:Room k callerA)
  (F:∀ base:Heap,K.In base->base.Ns mainGlobals mg->Lm K mg base->FnOk P w K mg base CX k fa fd [x] sp) (hbind:∀ (s:Shared) (u:Value),BindsTo s fd ⟨[u],[]⟩ [(x,u)])
  (hsp:∀ H:Hp,TB K H->SqL K H a (ns.map V.int)->sp [.ref a] H (fun v _=>v=.bl true) fun _ _ _=>False)
  (hCX:∀ H e s',CX [] H s₁ (fun _ _ _=>False) e s'->False) :
  codeAny (model P w) callerA (.call (.ref fa) ⟨[.ref a],[]⟩) (fun r s'=>r=.ok (.ret (.bool true))/\OldK s₁.heap s'.heap/\s'.os=s₁.os/\AllBare s'.gens) s₁:=by
 have rv:=x7z hi
 have lenV:=hi.length
 have tabO:∀ b,x69 K b=true->(∃ c,CodeHd s₁.heap c b)/\s₁.heap.get? b=some (tabObj #[]):=fun b h=>by
  obtain⟨x,hx,c,e⟩:=z2v h
  obtain⟨h1,h2⟩:=hT x hx c b e
  exact⟨⟨c,h1⟩,h2⟩
 have core:∀ H:Hp,(∀ b,H b=none\/(b=a/\∃ o xs,H b=some (.frz o (.lst xs)))\/(x69 K b=true/\H b=some (.tbl #[])))->(∀ b,x69 K b=true->H b=some (.tbl #[]))->SqL K H a (ns.map V.int)->HOk P w H s₁.heap->(∀ o xs,H a=some (.frz o (.lst xs))->K.lookup a=none)->
   codeAny (model P w) callerA (.call (.ref fa) ⟨[.ref a],[]⟩) (fun r s'=>r=.ok (.ret (.bool true))/\OldK s₁.heap s'.heap/\s'.os=s₁.os/\AllBare s'.gens) s₁:=by
  intro H hO hO2 hS hok hK
  have base_of:∀ {b:Addr} {o:Obj},s₁.heap.get? b=some o->H b=none->(z1v s₁.heap H).get? b=some o:=fun e n=>z2n e n
  have noA:∀ {b:Addr} {o:Obj},s₁.heap.get? b=some o->o.cls ≠ .type "list"->o.cls ≠ .none->H b=none:=fun {b o} e d1 d2=>by
   rcases hO b with z|⟨z,_⟩|⟨z,_⟩
   ·exact z
   ·subst z;rw[ha]at e;cases e;exact absurd rfl d1
   ·rw[(tabO b z).2]at e;cases e;exact absurd rfl d2
  have noD:∀ {b:Addr} {o:Obj} {es:Array DictEntry} {ep:Nat},s₁.heap.get? b=some o->o.data=.dict es ep->H b=none:=fun {b o es ep} e d=>by
   rcases hO b with z|⟨z,_⟩|⟨z,_⟩
   ·exact z
   ·subst z;rw[ha]at e;cases e;exact nomatch (show Data.seq vs.toArray _=Data.dict es ep from d)
   ·rw[(tabO b z).2]at e;cases e;exact nomatch (show Data.fields _=Data.dict es ep from d)
  have nsK:∀ {b:Addr} {m:Str->Option Value},s₁.heap.Ns b m->(z1v s₁.heap H).Ns b m:=fun {b m} hh=>by
   obtain⟨o,es,ep,e,d,r⟩:=hh
   exact⟨o,es,ep,base_of e (noD e d),d,r⟩
  have hKb:K.In (z1v s₁.heap H):=fun b o e=>base_of (KX b o e) (by
   rcases hO b with z|⟨z,o',xs,z2⟩|⟨z,_⟩
   ·exact z
   ·subst z;rw[hK _ _ z2]at e;cases e
   ·have e2:=KX b o e
    rw[(tabO b z).2]at e2
    cases e2
    have h2:=List.all_eq_true.mp hnt (b,tabObj #[]) (mem_of_lookupK e)
    exact absurd (show false=true from h2) Bool.false_ne_true)
  have hM:Mod K mg (z1v s₁.heap H):=by
   obtain⟨mc,h1,h2⟩:=hlim
   exact⟨hKb,nsK hns,⟨mb,nsK hb,hbb⟩,⟨mc,nsK h1,h2⟩⟩
  have hL:Lm K mg (z1v s₁.heap H):=by
   refine⟨?_,fun x hx c Pt e=>?_⟩
   ·obtain⟨bm,o,h1,h2,h3,h4,h5⟩:=hbm
    exact⟨bm,o,h1,h2,base_of h3 (noA h3 (by rw[h4];decide) (by rw[h4];nofun)),h4,h5⟩
   ·obtain⟨o,v1,v2,v3,v4,v5,v6,v7,v8,e1,e2,r⟩:=(hT x hx c Pt e).1
    exact⟨o,v1,v2,v3,v4,v5,v6,v7,v8,base_of e1 (noA e1 (by rw[e2];decide) (by rw[e2];nofun)),e2,r⟩
  have tb:TB K H:=by
   refine⟨fun Q ps e=>?_,fun Q ps e pos cv hc=>?_,fun x hx c Pt e=>⟨_,hO2 Pt (z4o hx e)⟩⟩<;>rcases hO Q with z|⟨_,o',xs,z⟩|⟨_,z⟩<;>rw[e]at z<;>cases z
   ·exact True.intro
   ·cases hc
  have e0:Env0 P w K mg (z1v s₁.heap H) callerA [] s₁ H:=⟨rfl,hM,fun b o e=>z9k e,Nat.le_of_eq (y94 _ _),trivial,fun b hb=>absurd (show b∈([]:List Addr)from hb) (by simp),hok,.of_eq hg⟩
  refine codeAny_mono ((F _ hKb (nsK hns) hL).run callerA [] s₁ H ⟨[.ref a],[]⟩ [.ref a] [.ref a] _ _ hr e0 (hbind s₁ (.ref a)) (.cons rfl .nil) (hsp H tb hS)) fun r s' h=>?_
  cases r with
  | error e=>exact(hCX H e s' h).elim
  | ok fl=>
   cases fl with
   | next=>exact False.elim h
   | brk=>exact False.elim h
   | cont=>exact False.elim h
   | ret u=>
    obtain⟨v,H',os,bare,un,hok',r',q⟩:=h
    have q':v=.bl true:=q
    subst q'
    obtain rfl:u=Value.bool true:=r'
    have kp:∀ b o,s₁.heap.get? b=some o->x69 K b=false->s'.heap.get? b=some o:=fun b o e nt=>by
     rcases hO b with z|⟨_,ob,xs,z⟩|⟨z,_⟩
     ·exact un.keep b o e z (by intro z;exact absurd (show b∈([]:List Addr)from z) (by simp)) (by simp)
     ·have z2:=un.frzs b ob _ z
      obtain⟨e1,_⟩:=hok b _ z
      obtain⟨e2,_⟩:=hok' b _ z2
      rw[e]at e1;cases e1
      exact e2
     ·rw[z]at nt;cases nt
    have gr:∀ b,x69 K b=true->∃ ps,s'.heap.get? b=some (tabObj ps):=fun b t=>by
     obtain⟨more,z⟩:=un.tbls b _ (hO2 b t)
     exact⟨_,hok' b _ z⟩
    refine⟨rfl,⟨fun b o e=>?_,fun b o e=>?_⟩,os,bare⟩
    ·cases t:x69 K b with
     | false=>exact .inl (kp b o e t)
     | true=>
      obtain⟨⟨c,C⟩,e1⟩:=tabO b t
      obtain⟨ps,e2⟩:=gr b t
      rw[e]at e1;cases e1
      exact .inr (.inl ⟨(C.tab e).isCodeTable,rfl,#[],ps,rfl,by rw[Array.empty_append];exact e2⟩)
    ·cases t:x69 K b with
     | false=>exact⟨o,kp b o e t⟩
     | true=>obtain⟨ps,e2⟩:=gr b t;exact⟨_,e2⟩
 have aT:x69 K a=false:=by
  cases t:x69 K a with
  | false=>rfl
  | true=>
   have:=(tabO a t).2
   rw[ha]at this;cases this
 cases hk:K.lookup a with
 | some o=>
  have e:=KX a o hk
  rw[ha]at e
  cases e
  refine core (fun b=>if x69 K b=true then some (.tbl #[])else none) (fun b=>?_) (fun b h=>if_pos h) (.inr ⟨_,vs.toArray,_,hk,rfl,rfl,rfl,by rw[List.size_toArray,lenV];exact hl,by simpa using rv⟩) (fun b u z=>?_) fun o xs z=>?_
  ·by_cases hb:x69 K b=true
   ·exact .inr (.inr ⟨hb,if_pos hb⟩)
   ·exact .inl (if_neg hb)
  ·by_cases hb:x69 K b=true
   ·have z':=(if_pos hb).symm.trans z
    cases z'
    exact(tabO b hb).2
   ·have z':=(if_neg hb).symm.trans z
    cases z'
  ·have z':=(if_neg (by rw[aT];decide)).symm.trans z
   cases z'
 | none=>
  refine core (fun b=>if b=a then some (.frz { cls:=.type "list",data:=.seq vs.toArray } (.lst (ns.map V.int)))else if x69 K b=true then some (.tbl #[])else none) (fun b=>?_) (fun b h=>?_) (.inl (.inr ⟨{ cls:=.type "list",data:=.seq vs.toArray },if_pos rfl⟩)) (fun b u z=>?_) fun _ _ _=>hk
  ·by_cases hb:b=a
   ·exact .inr (.inl ⟨hb,_,_,if_pos hb⟩)
   ·by_cases ht:x69 K b=true
    ·exact .inr (.inr ⟨ht,(if_neg hb).trans (if_pos ht)⟩)
    ·exact .inl ((if_neg hb).trans (if_neg ht))
  ·have hb:b≠a:=fun z=>by rw[z,aT]at h;cases h
   exact(if_neg hb).trans (if_pos h)
  ·by_cases hb:b=a
   ·have z':=(if_pos hb).symm.trans z
    cases z'
    subst hb
    exact⟨ha,by rw[List.length_map];exact hl,vs,_,rv,ha⟩
   ·by_cases ht:x69 K b=true
    ·have z':=((if_neg hb).trans (if_pos ht)).symm.trans z
     cases z'
     exact(tabO b ht).2
    ·have z':=((if_neg hb).trans (if_neg ht)).symm.trans z
     cases z'
def j4m (q:Program)(K:PySem.W.Frag):Prop:=∀ x∈x77,(∃ d,(recsOf q).find? (fun e=>e.name==x)=some d)\/tabIn K x=none
theorem j4m.of {q:Program}{K:PySem.W.Frag}(h1:(∃ d,(recsOf q).find? (fun e=>e.name==("turned":Str))=some d)\/tabIn K "turned" = none)(h2:(∃ d,(recsOf q).find? (fun e=>e.name==("chain_ladder":Str))=some d)\/tabIn K "chain_ladder" = none)
  (h3:(∃ d,(recsOf q).find? (fun e=>e.name==("flat_ladder":Str))=some d)\/tabIn K "flat_ladder" = none) (h4:(∃ d,(recsOf q).find? (fun e=>e.name==("paired":Str))=some d)\/tabIn K "paired" = none):j4m q K:=fun x hx=>by
 rcases List.mem_cons.mp hx with rfl|hx
 ·exact h1
 rcases List.mem_cons.mp hx with rfl|hx
 ·exact h2
 rcases List.mem_cons.mp hx with rfl|hx
 ·exact h3
 rcases List.mem_cons.mp hx with rfl|hx
 ·exact h4
 cases hx
theorem z52 {l:PySem.W.OpenLaw}{n k:Nat}{q:Program}{loose:List Str}{XP:(Str->Option Value)->Heap->Prop}{YP:World->Heap->Prop}{d:DefRec}{K:Params->PySem.W.Frag}{CX:World->CXT}{sp:World->Sp}{x:Str}
  (hn:l.most=some n) (hn2:n<=sizeLine) (hdf:d.params.defaults=[]) (hr:Room k callerA)
  (hY:∀ (w:World) (h:Heap),YP w h->(K w.params).In h)
  (F:∀ (w:World) (mg:Str->Option Value) (fa:Addr) (h:Heap),(K w.params).In h->h.Ns mainGlobals mg->mg d.name=some (.ref fa)->j4m q (K w.params)/\noTabs (K w.params)=true /\
    ∃ fd:FuncData,(∀ (s:Shared) (u:Value),BindsTo s fd ⟨[u],[]⟩ [(x,u)]) /\
     ∀ base:Heap,(K w.params).In base->base.Ns mainGlobals mg->Lm (K w.params) mg base->FnOk l.prog w (K w.params) mg base (CX w) k fa fd [x] (sp w))
  (hsp:∀ (w:World) (H:Hp) (a:Addr) (ns:List Int),ns.length<=n->TB (K w.params) H->SqL (K w.params) H a (ns.map V.int)->sp w [.ref a] H (fun v _=>v=.bl true) fun _ _ _=>False)
  (hCX:∀ (w:World) (H:Hp) (s:Shared) (e:Value) (s':Shared),CX w [] H s (fun _ _ _=>False) e s'->False) :
  PySem.W.WalkO q loose XP YP l.row.toRowW d [] (fun f vs=>PySem.call f vs):=by
 refine Att.z72 hn hdf fun w s₀ s₁ mg mb fa o pm cd doc a vs ns G Y ho hd hcd hmg hobj hints hlen hg=>?_
 have KX:=hY w _ Y
 obtain⟨hrec,hnt,fd,hb,hF⟩:=F w mg fa _ KX G.T.g hmg
 have hbm:=G.T.bmain
 refine y92 KX G.T.g G.T.b G.T.builtins G.T.nolimit hg ?_ (fun x hx c Pt e=>?_) hnt hobj hints (Nat.le_trans hlen hn2) hr hF hb (fun H hO hS=>hsp w H a ns hlen hO hS) fun H e s'=>hCX w H s₁ e s'
 ·obtain⟨bm,ob,b1,b2,b3,b4,b5,b6⟩:=hbm
  exact⟨bm,ob,b1,b2,b3,b4,b5,b6⟩
 ·rcases hrec x hx with⟨dd,hd⟩|z
  ·exact tab_of G.T KX hd e
  ·rw[z]at e;cases e
end L3
namespace L3
open PySem PySem.Spec PyProof.Rows L2
theorem x4g {k:Nat}{pt:x54}{tt:x1p}{te:Den}{deep:Bool}:∀ (ds:List D) (S:Nat->Rho) (b:Nat->Bool) (v:Nat->D),
  (∀ i (h:i<ds.length),∃ ρ1 ρ2,pt ds[i] (S i++List.replicate k none)=some ρ1/\tt ρ1=some (b i,ρ2) /\
    (if b i=true then ∃ q ρ3,te ρ2=some (v i,q,ρ3)/\¬ (deep=true/\(v i).isL=true/\q≠1)/\ρ3.take (S i).length=S (i+1)else ρ2.take (S i).length=S (i+1)))->
  x66 k pt tt te deep ds (S 0)=some (((List.range ds.length).filter b).map v,S ds.length)
 | [],S,b,v,_=>rfl
 | d::ds,S,b,v,h=>by
  obtain⟨ρ1,ρ2,h1,h2,h3⟩:=h 0 (by simp)
  have ih:=x4g ds (fun i=>S (i+1)) (fun i=>b (i+1)) (fun i=>v (i+1)) (fun i hi=>h (i+1) (by simpa using hi))
  have er:((List.range (d::ds).length).filter b).map v=(if b 0=true then [v 0]else [])++((List.range ds.length).filter fun i=>b (i+1)).map fun i=>v (i+1):=by
   rw[List.length_cons,List.range_succ_eq_map,List.filter_cons,List.filter_map]
   split<;>simp[Function.comp_def]
  rw[er]
  unfold x66
  rw[show pt d (S 0++List.replicate k none)=some ρ1 from h1]
  simp only[h2]
  split at h3
  ·rename_i hb
   obtain⟨q,ρ3,h4,h5,h6⟩:=h3
   simp only[hb,if_true,h4,if_neg h5,h6,ih]
   rfl
  ·rename_i hb
   simp only[hb,h3,ih]
   rfl
theorem x3n {pt:x54}{body:x16}:∀ (ds:List D) (I:Nat->Rho->Prop) (ρ:Rho),(∀ i (h:i<ds.length) ρ,I i ρ->∃ ρ1 ρ2,pt ds[i] ρ=some ρ1/\(body ρ1=some (.nx ρ2)\/body ρ1=some (.ct ρ2))/\I (i+1) ρ2)->I 0 ρ->∃ ρ',x9g pt body ds ρ=some (.nx ρ')/\I ds.length ρ'
 | [],I,ρ,_,h0=>⟨ρ,rfl,h0⟩
 | d::ds,I,ρ,h,h0=>by
  obtain⟨ρ1,ρ2,h1,h2,h3⟩:=h 0 (by simp) ρ h0
  obtain⟨ρ',e,h4⟩:=x3n ds (fun i=>I (i+1)) ρ2 (fun i hi=>h (i+1) (by simpa using hi)) h3
  refine⟨ρ',?_,h4⟩
  unfold x9g
  rw[show pt d ρ=some ρ1 from h1]
  rcases h2 with h2|h2<;>(simp only[h2];exact e)
theorem x0g {f g:x16}{ρ ρ1:Rho}(h:f ρ=some (.nx ρ1)):x17 f g ρ=g ρ1:=by unfold x17;rw[h]
theorem y61 {f g:x16}{ρ:Rho}{d:D}{q:Nat}(h:f ρ=some (.rt d q)):x17 f g ρ=some (.rt d q):=by unfold x17;rw[h]
theorem x2g {n:Nat}{body:x16}{ds:List D}{d:D}{q:Nat}(h:body (x42 n ds)=some (.rt d q)):fnD n body ds=some (d,q):=by unfold fnD;rw[h]
theorem x1t {k:Nat}{it:x9w}{pt:x54}{tt:x1p}{te:Den}{deep:Bool}{ρ ρ1 ρ2:Rho}{ds vs:List D}(hi:it ρ=some (ds,ρ1))(hc:x66 k pt tt te deep ds ρ1=some (vs,ρ2)):x2x k it pt tt te deep ρ=some (.lst vs,if deep=true then 2 else 1,ρ2):=by unfold x2x;rw[hi];simp only[hc]
theorem z7o {i:Nat}{f:Den}{ρ ρ1:Rho}{d:D}{q:Nat}(h:f ρ=some (d,q,ρ1)):x20 i f ρ=some (.nx (ρ1.set i (some (d,q)))):=by unfold x20;rw[h]
theorem x37 {f:Den}{ρ ρ1:Rho}{d:D}{q:Nat}(h:f ρ=some (d,q,ρ1)):x36 f ρ=some (.rt d q):=by unfold x36;rw[h]
theorem x3c {it:x9w}{pt:x54}{body:x16}{ρ ρ1:Rho}{ds:List D}(h:it ρ=some (ds,ρ1)):x80 it pt body ρ=x9g pt body ds ρ1:=by unfold x80;rw[h]
theorem j56 {g:x1p}{s s':x16}{ρ ρ1:Rho}(h:g ρ=some (true,ρ1)):sIf g s s' ρ=s ρ1:=by unfold sIf;rw[h];rfl
theorem y2p {g:x1p}{s s':x16}{ρ ρ1:Rho}(h:g ρ=some (false,ρ1)):sIf g s s' ρ=s' ρ1:=by unfold sIf;rw[h];rfl
theorem x21 {i:Nat}{f:Den}{ρ ρ1 ρ2:Rho}{d:D}{q:Nat}(h:f ρ=some (d,q,ρ1))(e:ρ1.set i (some (d,q))=ρ2):x20 i f ρ=some (.nx ρ2):=by rw[z7o h,e]
theorem x18 {f:Den}{ρ ρ1:Rho}{d:D}{q:Nat}(h:f ρ=some (d,q,ρ1)):x01 f x0f ρ=some ([d],ρ1):=by unfold x01;rw[h];rfl
theorem x1a {f:Den}{g:x1o}{ρ ρ1 ρ2:Rho}{d:D}{q:Nat}{ds:List D}(h:f ρ=some (d,q,ρ1))(h':g ρ1=some (ds,ρ2)):x01 f g ρ=some (d::ds,ρ2):=by unfold x01;rw[h];simp only[h']
theorem x2d {g:x1o}{ρ ρ1:Rho}{ds:List D}(h:g ρ=some ([.lst ds],ρ1)):x2l g ρ=some (.tup ds,9,ρ1):=by unfold x2l;rw[h]
theorem x84 {g:x1o}{ρ ρ1:Rho}{ds:List D}(h:x0z g ρ=some (ds,ρ1)):x6a g ρ=some (.lst ds,1,ρ1):=by unfold x6a;rw[h]
theorem x0x {F:List D->OD}{n:Nat}{g:x1o}{ρ ρ1:Rho}{ds:List D}{d:D}{q:Nat}(h:g ρ=some (ds,ρ1))(hl:ds.length=n)(hF:F ds=some (d,q)):x0l F n g ρ=some (d,q,ρ1):=by unfold x0l;rw[h];simp only[hl,if_true,hF]
def x0h (l:List Nat):List D:=l.map fun i=>.int (Int.ofNat i)
def y1k (n:Nat)(f:Nat->Nat->Nat)(i:Nat):D:=.tup (x0h ((List.range n).map fun j=>f i j))
def x0n (n:Nat)(f:Nat->Nat->Nat):D:=.tup ((List.range n).map fun i=>y1k n f i)
def x8c (n:Nat)(f:Nat->Nat->Nat)(i:Nat):D:=.lst (x0h ((List.range n).map fun j=>f i j))
def x40 (n:Nat)(f:Nat->Nat->Nat):D:=.lst ((List.range n).map fun i=>x8c n f i)
@[simp] theorem j4f {n:Nat}{f:Nat->Nat->Nat}:(x0n n f).isL=false:=rfl
@[simp] theorem j4h {n:Nat}{f:Nat->Nat->Nat}{i:Nat}:(y1k n f i).isL=false:=rfl
@[simp] theorem j4b {n:Nat}{f:Nat->Nat->Nat}:(x40 n f).isL=true:=rfl
@[simp] theorem j4j {n:Nat}{f:Nat->Nat->Nat}{i:Nat}:(x8c n f i).isL=true:=rfl
theorem x1b (l:List Nat):(x0h l).length=l.length:=by simp[x0h]
theorem y2t (l:List Nat)(i:Nat):(x0h l)[i]? = (l[i]?).map fun x=>.int (Int.ofNat x):=by simp[x0h]
theorem y2z {n i:Nat}(h:i<n):ixN n (Int.ofNat i)=some i:=by
 unfold ixN
 rw[if_pos (by exact Int.natCast_nonneg i),if_pos (by show(i:Int)<n;omega)]
 rfl
theorem y4n {α:Type}{xs:List α}{i:Nat}{x:α}(h:xs[i]? = some x):L2.atI xs (Int.ofNat i)=some x:=by
 unfold L2.atI
 rw[y2z (List.getElem?_eq_some_iff.mp h).1]
 exact h
theorem z0v {l:List Nat}{i x:Nat}(h:l[i]? = some x):L2.atI (x0h l) (Int.ofNat i)=some (.int (Int.ofNat x)):=y4n (by rw[y2t,h];rfl)
theorem z62 {g:Nat->D}{n i:Nat}(h:i<n):L2.atI ((List.range n).map g) (Int.ofNat i)=some (g i):=y4n (by rw[List.getElem?_map,List.getElem?_range h];rfl)
theorem x2p {g:Nat->Nat}{n i:Nat}(h:i<n):L2.atI (x0h ((List.range n).map g)) (Int.ofNat i)=some (.int (Int.ofNat (g i))):=z0v (by rw[List.getElem?_map,List.getElem?_range h];rfl)
theorem x39 {n:Nat}{f:Nat->Nat->Nat}{i:Nat}(h:i<n):atD (x0n n f) (Int.ofNat i)=some (y1k n f i):=z62 h
theorem x3e {n:Nat}{f:Nat->Nat->Nat}{i j:Nat}(h:j<n):atD (y1k n f i) (Int.ofNat j)=some (.int (Int.ofNat (f i j))):=x2p h
theorem z6w {n:Nat}{f:Nat->Nat->Nat}{i:Nat}(h:i<n):atD (x40 n f) (Int.ofNat i)=some (x8c n f i):=z62 h
theorem z7c {n:Nat}{f:Nat->Nat->Nat}{i j:Nat}(h:j<n):atD (x8c n f i) (Int.ofNat j)=some (.int (Int.ofNat (f i j))):=x2p h
theorem x1j {n:Nat}{f:Nat->Nat->Nat}:x95 (x0n n f)=some n:=by simp[x0n,x95]
theorem x7r {n:Nat}{f:Nat->Nat->Nat}:x95 (x40 n f)=some n:=by simp[x40,x95]
theorem x6t {n:Nat}{f g:Nat->Nat->Nat}(h:∀ a b,a<n->b<n->f a b=g a b):x40 n f=x40 n g:=by
 unfold x40 x8c
 refine congrArg D.lst (List.map_congr_left fun a ha=>?_)
 refine congrArg (fun l=>D.lst (x0h l)) (List.map_congr_left fun b hb=>?_)
 exact h a b (List.mem_range.mp ha) (List.mem_range.mp hb)
theorem x89 {α:Type}{g:Nat->α}{n m:Nat}{x:α}:((List.range n).map g).set m x=(List.range n).map fun a=>if a=m then x else g a:=by
 apply List.ext_getElem?
 intro i
 by_cases hi:i<n
 ·by_cases h:m=i
  ·subst h
   rw[List.getElem?_set_self (by simpa using hi),List.getElem?_map,List.getElem?_range hi]
   simp
  ·rw[List.getElem?_set_ne h,List.getElem?_map,List.getElem?_map,List.getElem?_range hi]
   simp
   exact fun z=>absurd z.symm h
 ·rw[List.getElem?_eq_none (by simp;omega),List.getElem?_eq_none (by simp;omega)]
theorem y2s {g:Nat->Nat}{n:Nat}:x0h ((List.range n).map g)=(List.range n).map fun i=>.int (Int.ofNat (g i)):=by simp[x0h]
theorem z42 {n:Nat}{f:Nat->Nat->Nat}{a b v:Nat}:D.lst (((List.range n).map fun i=>x8c n f i).set a (.lst ((x0h ((List.range n).map fun j=>f a j)).set b (.int (Int.ofNat v)))))=x40 n fun i j=>if i=a/\j=b then v else f i j:=by
 unfold x40
 rw[x89]
 refine congrArg D.lst (List.map_congr_left fun i hi=>?_)
 by_cases h:i=a
 ·subst h
  rw[if_pos rfl,y2s,x89]
  unfold x8c
  rw[y2s]
  refine congrArg D.lst (List.map_congr_left fun j hj=>?_)
  by_cases hj:j=b<;>simp[hj]
 ·rw[if_neg h]
  unfold x8c
  simp[h]
theorem j50 (n:Nat):D.lst (List.replicate n [D.int 0]).flatten=x8c n (fun _ _=>0) 0:=by
 unfold x8c x0h
 congr 1
 simp[List.flatten_replicate_singleton,List.map_const']
theorem y01:∀ ds:List D,x73 ds=ds.map toP
 | []=>rfl
 | d::ds=>by rw[x73,y01 ds];rfl
def lay (d:D):Bool:=x88 d&&(toP d).canLay0
theorem j2i {d:D}(h:lay d=true):x88 d=true:=(Bool.and_eq_true_iff.mp h).1
theorem j2a {d:D}(h:lay d=true):(toP d).canLay0=true:=(Bool.and_eq_true_iff.mp h).2
theorem x8s:∀ {ds:List D},(∀ d∈ds,lay d=true)->y06 ds=true
 | [],_=>rfl
 | d::ds,h=>by
  show(x88 d&&y06 ds)=true
  rw[j2i (h d List.mem_cons_self),x8s fun x m=>h x (List.mem_cons_of_mem _ m)]
  rfl
def dep (d:D):Nat:=(toP d).depth
theorem z19:∀ {ds:List D},(∀ d∈ds,lay d=true)->PyData.canLayAll0 (x73 ds)=true
 | [],_=>rfl
 | d::ds,h=>by
  rw[x73,PyData.canLayAll0,z19 fun x m=>h x (List.mem_cons_of_mem _ m),Bool.and_true]
  exact j2a (h d List.mem_cons_self)
theorem y91 {k:Nat}:∀ {ds:List D},(∀ d∈ds,dep d<=k)->PyData.depthAll (x73 ds)<=k
 | [],_=>Nat.zero_le _
 | d::ds,h=>by
  rw[x73,PyData.depthAll]
  exact Nat.max_le.mpr ⟨h d List.mem_cons_self,y91 fun x m=>h x (List.mem_cons_of_mem _ m)⟩
def Sh (k:Nat)(d:D):Prop:=lay d=true/\dep d<=k
theorem Sh.int {k:Nat}(i:Int):Sh k (.int i):=⟨rfl,Nat.zero_le _⟩
theorem Sh.bl {k:Nat}(i:Bool):Sh k (.bl i):=⟨rfl,Nat.zero_le _⟩
theorem Sh.non {k:Nat}:Sh k .non:=⟨rfl,Nat.zero_le _⟩
theorem Sh.tup {k:Nat}{ds:List D}(h:∀ d∈ds,Sh k d):Sh (k+1) (.tup ds):=⟨Bool.and_eq_true_iff.mpr ⟨x8s fun d m=>(h d m).1,z19 fun d m=>(h d m).1⟩,Nat.succ_le_succ (y91 fun d m=>(h d m).2)⟩
theorem Sh.lst {k:Nat}{ds:List D}(h:∀ d∈ds,Sh k d):Sh (k+1) (.lst ds):=⟨Bool.and_eq_true_iff.mpr ⟨x8s fun d m=>(h d m).1,z19 fun d m=>(h d m).1⟩,Nat.succ_le_succ (y91 fun d m=>(h d m).2)⟩
theorem Sh.ok {k:Nat}{d:D}(h:Sh k d)(hk:k<=64:=by decide):okD d=true:=by
 show(x88 d&&((toP d).canLay0&&decide ((toP d).depth<=64)))=true
 rw[j2i h.1,j2a h.1,Bool.true_and,Bool.true_and]
 exact decide_eq_true (Nat.le_trans h.2 hk)
theorem y8w {l:List Nat}{d:D}(m:d∈x0h l):Sh 0 d:=by
 obtain⟨x,_,rfl⟩:=List.mem_map.mp m
 exact .int _
theorem j4e (l:List Nat):Sh 1 (.lst (x0h l)):=.lst fun _ m=>y8w m
theorem j0d (l:List Nat):Sh 1 (.tup (x0h l)):=.tup fun _ m=>y8w m
theorem z8a (n:Nat)(f:Nat->Nat->Nat):Sh 2 (x0n n f):=.tup fun d m=>by
 obtain⟨x,_,rfl⟩:=List.mem_map.mp m
 exact j0d _
theorem x7i:∀ l l':List Nat,PyData.eqvAll (x73 (x0h l)) (x73 (x0h l'))=decide (l=l')
 | [],[]=>rfl
 | [],_::_=>rfl
 | _::_,[]=>rfl
 | x::l,y::l'=>by
  show(((x:Int)==(y:Int))&&PyData.eqvAll (x73 (x0h l)) (x73 (x0h l')))=_
  rw[x7i l l']
  by_cases h:x=y
  ·subst h;simp
  ·have:((x:Int)==(y:Int))=false:=by simp;omega
   rw[this]
   simp[h]
theorem j57 (l l':List Nat):eqD (.lst (x0h l)) (.lst (x0h l'))=decide (l=l'):=x7i l l'
theorem j1w (l l':List Nat):eqD (.tup (x0h l)) (.tup (x0h l'))=decide (l=l'):=x7i l l'
theorem y5y (i j:Int):eqD (.int i) (.int j)=decide (i=j):=by
 show(i==j)=_
 rw[Bool.beq_eq_decide_eq]
theorem y6c (i j:Nat):eqD (.int (Int.ofNat i)) (.int (Int.ofNat j))=decide (i=j):=by
 rw[y5y]
 exact decide_eq_decide.mpr ⟨fun h=>Int.ofNat.inj h,fun h=>by rw[h]⟩
theorem j40 (i j:Bool):eqD (.bl i) (.bl j)=decide (i=j):=by
 show(i==j)=_
 rw[Bool.beq_eq_decide_eq]
theorem j5s (l l':List Nat):dEq (.lst (x0h l)) (.lst (x0h l'))=some (.bl (decide (l=l'))):=by unfold dEq;rw[if_pos ⟨(j4e l).ok,(j4e l').ok⟩,j57]
theorem z02 (i j:Int):dEq (.int i) (.int j)=some (.bl (decide (i=j))):=by unfold dEq;rw[if_pos ⟨(Sh.int (k:=0) i).ok,(Sh.int (k:=0) j).ok⟩,y5y]
theorem z70 (i j:Int):dNe (.int i) (.int j)=some (.bl (!decide (i=j))):=by unfold dNe;rw[if_pos ⟨(Sh.int (k:=0) i).ok,(Sh.int (k:=0) j).ok⟩,y5y]
theorem y07 (i j:Nat):dEq (.int (Int.ofNat i)) (.int (Int.ofNat j))=some (.bl (decide (i=j))):=by unfold dEq;rw[if_pos ⟨(Sh.int (k:=0) _).ok,(Sh.int (k:=0) _).ok⟩,y6c]
theorem x8k (i j:Nat):dNe (.int (Int.ofNat i)) (.int (Int.ofNat j))=some (.bl (!decide (i=j))):=by unfold dNe;rw[if_pos ⟨(Sh.int (k:=0) _).ok,(Sh.int (k:=0) _).ok⟩,y6c]
theorem z6a (i j:Bool):dNe (.bl i) (.bl j)=some (.bl (!decide (i=j))):=by unfold dNe;rw[if_pos ⟨(Sh.bl (k:=0) i).ok,(Sh.bl (k:=0) j).ok⟩,j40]
theorem x7w {α:Type}{p:α->Bool}:∀ {l:List α} {j:Nat} {x:α},l[j]? = some x->p x=true->(∀ i y,i<j->l[i]? = some y->p y=false)->l.findIdx? p=some j
 | [],j,x,h,_,_=>by simp at h
 | a::l,0,x,h,hp,_=>by
  simp at h;subst h
  simp[List.findIdx?_cons,hp]
 | a::l,j+1,x,h,hp,hn=>by
  have h0:p a=false:=hn 0 a (Nat.succ_pos _) rfl
  have ih:=x7w (l:=l) (j:=j) (x:=x) (by simpa using h) hp fun i y hi hy=>hn (i+1) y (Nat.succ_lt_succ hi) (by simpa using hy)
  simp[List.findIdx?_cons,h0,ih]
structure Lad (n:Nat) (f:Nat->Nat->Nat):Prop where
 lo:0<n
 hi:n<=16
 cl:∀ i j,i<n->j<n->f i j<n
 idem:∀ i,i<n->f i i=i
 comm:∀ i j,i<n->j<n->f i j=f j i
 assoc:∀ i j k,i<n->j<n->k<n->f (f i j) k=f i (f j k)
 bot:∃ z,z<n/\∀ j,j<n->f z j=j
def j5f (n:Nat)(f:Nat->Nat->Nat):Bool:=
 decide (0<n)&&decide (n<=16)&&((List.range n).all fun i=>(List.range n).all fun j=>decide (f i j<n))&&((List.range n).all fun i=>decide (f i i=i))&&((List.range n).all fun i=>(List.range n).all fun j=>decide (f i j=f j i)) &&
 ((List.range n).all fun i=>(List.range n).all fun j=>(List.range n).all fun k=>decide (f (f i j) k=f i (f j k)))&&((List.range n).any fun z=>(List.range n).all fun j=>decide (f z j=j))
theorem z6y {n:Nat}{f:Nat->Nat->Nat}(h:j5f n f=true):Lad n f:=by
 unfold j5f at h
 simp only[Bool.and_eq_true,decide_eq_true_eq,List.all_eq_true,List.any_eq_true,List.mem_range]at h
 obtain⟨⟨⟨⟨⟨⟨h1,h2⟩,h3⟩,h4⟩,h5⟩,h6⟩,z,hz,h7⟩:=h
 exact⟨h1,h2,fun i j hi hj=>h3 i hi j hj,h4,fun i j hi hj=>h5 i hi j hj,fun i j k hi hj hk=>h6 i hi j hj k hk,z,hz,h7⟩
theorem Lad.ren {n:Nat}{f:Nat->Nat->Nat}(L:Lad n f){π ι:Nat->Nat}(h1:∀ i,i<n->π i<n)(h2:∀ i,i<n->ι i<n)(h3:∀ i,i<n->ι (π i)=i)(h4:∀ i,i<n->π (ι i)=i):Lad n fun a b=>π (f (ι a) (ι b)):=by
 obtain⟨l1,l2,cl,idem,comm,assoc,z,hz,bot⟩:=L
 refine⟨l1,l2,fun i j hi hj=>h1 _ (cl _ _ (h2 i hi) (h2 j hj)),fun i hi=>?_,fun i j hi hj=>?_,fun i j k hi hj hk=>?_,π z,h1 z hz,fun j hj=>?_⟩
 ·show π (f (ι i) (ι i))=i
  rw[idem _ (h2 i hi),h4 i hi]
 ·show π (f (ι i) (ι j))=π (f (ι j) (ι i))
  rw[comm _ _ (h2 i hi) (h2 j hj)]
 ·show π (f (ι (π (f (ι i) (ι j)))) (ι k))=π (f (ι i) (ι (π (f (ι j) (ι k)))))
  rw[h3 _ (cl _ _ (h2 i hi) (h2 j hj)),h3 _ (cl _ _ (h2 j hj) (h2 k hk)),assoc _ _ _ (h2 i hi) (h2 j hj) (h2 k hk)]
 ·show π (f (ι (π z)) (ι j))=j
  rw[h3 z hz,bot _ (h2 j hj),h4 j hj]
def x60 (p:Nat->Nat->Nat)(n:Nat):Nat->List Nat
 | 0=>List.range n
 | k+1=>(x60 p n k).eraseIdx (p k (x60 p n k).length)
def drawn (p:Nat->Nat->Nat)(n k:Nat):Nat:=(x60 p n k).getD (p k (x60 p n k).length) 0
theorem y25:∀ (l:List Nat) (j:Nat),(x0h l).eraseIdx j=x0h (l.eraseIdx j)
 | [],_=>rfl
 | _::_,0=>rfl
 | a::l,j+1=>congrArg (D.int (Int.ofNat a) :: ·) (y25 l j)
theorem x7k {p:Nat->Nat->Nat}{n:Nat}(hp:∀ k m,0<m->p k m<m):∀ k,k<=n->(x60 p n k).length=n-k
 | 0,_=>by simp[x60]
 | k+1,h=>by
  have ih:=x7k hp k (Nat.le_of_succ_le h)
  have:=hp k (n-k) (by omega)
  rw[x60,List.length_eraseIdx,ih,if_pos this]
  omega
theorem y2k:∀ {l:List Nat} {j:Nat} (h:j<l.length),(l[j]::l.eraseIdx j).Perm l
 | a::l,0,_=>List.Perm.refl _
 | a::l,j+1,h=>(List.Perm.swap a (l[j]'(by simpa using h)) (l.eraseIdx j)).trans (List.Perm.cons a (y2k (by simpa using h)))
theorem y4y {p:Nat->Nat->Nat}{n:Nat}(hp:∀ k m,0<m->p k m<m):∀ k,k<=n->(((List.range k).map (drawn p n))++x60 p n k).Perm (List.range n)
 | 0,_=>by simp[x60]
 | k+1,h=>by
  have ih:=y4y hp k (Nat.le_of_succ_le h)
  have hl:=x7k hp k (by omega:k<=n)
  have hj:p k (x60 p n k).length<(x60 p n k).length:=by rw[hl];exact hp k _ (by omega)
  refine List.Perm.trans ?_ ih
  rw[List.range_succ,List.map_append,List.append_assoc]
  refine List.Perm.append_left _ ?_
  have e:drawn p n k=(x60 p n k)[p k (x60 p n k).length]:=by unfold drawn;rw[List.getD_eq_getElem?_getD,List.getElem?_eq_getElem hj];rfl
  show(drawn p n k::(x60 p n (k+1))).Perm _
  rw[e,x60]
  exact y2k hj
theorem x6r {p:Nat->Nat->Nat}{n:Nat}(hp:∀ k m,0<m->p k m<m):((List.range n).map (drawn p n)).Perm (List.range n):=by
 have h:=y4y hp n (Nat.le_refl n)
 have hl:=x7k hp n (Nat.le_refl n)
 rw[Nat.sub_self]at hl
 rw[List.length_eq_zero_iff.mp hl,List.append_nil]at h
 exact h
theorem y6p {p:Nat->Nat->Nat}{n:Nat}(hp:∀ k m,0<m->p k m<m){i:Nat}(h:i<n):drawn p n i<n:=by
 have m:drawn p n i∈(List.range n).map (drawn p n):=List.mem_map.mpr ⟨i,List.mem_range.mpr h,rfl⟩
 exact List.mem_range.mp ((x6r hp).mem_iff.mp m)
def x3u (p:Nat->Nat->Nat)(n a:Nat):Nat:=((List.range n).map (drawn p n)).idxOf a
theorem y1x {p:Nat->Nat->Nat}{n:Nat}(hp:∀ k m,0<m->p k m<m){a:Nat}(h:a<n):x3u p n a<n:=by
 have m:a∈(List.range n).map (drawn p n):=(x6r hp).mem_iff.mpr (List.mem_range.mpr h)
 have:=List.idxOf_lt_length_of_mem m
 rw[List.length_map,List.length_range]at this
 exact this
theorem x8i {p:Nat->Nat->Nat}{n:Nat}(hp:∀ k m,0<m->p k m<m){a:Nat}(h:a<n):drawn p n (x3u p n a)=a:=by
 have m:a∈(List.range n).map (drawn p n):=(x6r hp).mem_iff.mpr (List.mem_range.mpr h)
 have:=List.getElem_idxOf (List.idxOf_lt_length_of_mem m)
 rw[List.getElem_map,List.getElem_range]at this
 exact this
theorem x7m {p:Nat->Nat->Nat}{n:Nat}(hp:∀ k m,0<m->p k m<m){i:Nat}(h:i<n):x3u p n (drawn p n i)=i:=by
 have nd:((List.range n).map (drawn p n)).Nodup:=(x6r hp).nodup_iff.mpr List.nodup_range
 have hi:i<((List.range n).map (drawn p n)).length:=by simpa using h
 have:=nd.idxOf_getElem i hi
 rw[List.getElem_map,List.getElem_range]at this
 exact this
theorem y2v {i n:Nat}{tt:x1p}{te:Den}{ρ:Rho}{deep:Bool}(hi:ρ.length=i)(b:Nat->Bool)(v:Nat->D)(q:Nat->Nat)(ht:∀ j,j<n->tt (ρ++[some (.int (Int.ofNat j),9)])=some (b j,ρ++[some (.int (Int.ofNat j),9)]))
  (he:∀ j,j<n->b j=true->te (ρ++[some (.int (Int.ofNat j),9)])=some (v j,q j,ρ++[some (.int (Int.ofNat j),9)])) (hd:deep=true->∀ j,(v j).isL=true->q j=1:=by intro h;cases h) :
  x66 1 (x0q i) tt te deep (x10 n) ρ=some (((List.range n).filter b).map v,ρ):=by
 have h:=x4g (k:=1) (pt:=x0q i) (tt:=tt) (te:=te) (deep:=deep) (x10 n) (fun _=>ρ) b v (fun j hj=>?_)
 ·rw[x0s]at h
  exact h
 ·rw[x0s]at hj
  refine⟨ρ++[some (.int (Int.ofNat j),9)],_,?_,ht j hj,?_⟩
  ·have:(x10 n)[j]'(by rw[x0s];exact hj)=.int (Int.ofNat j):=by simp[x10]
   rw[this]
   unfold x0q
   rw[if_pos (by simp[hi])]
   subst hi
   simp[List.set_append]
  ·by_cases hb:b j=true
   ·rw[if_pos hb]
    exact⟨q j,_,he j hj hb,fun⟨h1,h2,h3⟩=>h3 (hd h1 j h2),by simp⟩
   ·rw[if_neg hb]
    simp
theorem y1s {z:Nat}:∀ n:Nat,(List.range n).filter (fun w=>decide (w=z))=if z<n then [z]else []
 | 0=>by simp
 | n+1=>by
  rw[List.range_succ,List.filter_append,y1s n]
  by_cases h:n=z
  ·subst h;simp
  ·have:¬ (n=z):=h
   by_cases h2:z<n
   ·rw[if_pos h2,if_pos (by omega)];simp[h]
   ·rw[if_neg h2,if_neg (by omega)];simp[h]
theorem y44 {n:Nat}{g:Nat->Nat}:(List.range n).map g=List.range n ↔ ∀ j,j<n->g j=j:=by
 constructor
 ·intro h j hj
  have:=congrArg (fun l=>l[j]?) h
  simpa [hj]using this
 ·intro h
  have e:=List.map_congr_left (l:=List.range n) (f:=g) (g:=id) fun a ha=>h a (List.mem_range.mp ha)
  rw[e,List.map_id]
namespace Lad
variable {n:Nat}{f:Nat->Nat->Nat}(L:Lad n f)
include L
theorem bot_uniq {z x:Nat}(hz:z<n)(bz:∀ j,j<n->f z j=j)(hx:x<n)(bx:∀ j,j<n->f x j=j):x=z:=by
 have h1:=bx z hz
 have h2:=bz x hx
 rw[L.comm x z hx hz]at h1
 omega
theorem fold_lt:∀ {l:List Nat} {a:Nat},a<n->(∀ x∈l,x<n)->l.foldl f a<n
 | [],a,ha,_=>ha
 | y::l,a,ha,h=>fold_lt (l:=l) (L.cl a y ha (h y List.mem_cons_self)) fun x m=>h x (List.mem_cons_of_mem _ m)
theorem z0y:∀ {l:List Nat} {a x:Nat},a<n->x<n->(∀ x∈l,x<n)->f x a=a->f x (l.foldl f a)=l.foldl f a
 | [],a,x,_,_,_,e=>e
 | y::l,a,x,ha,hx,h,e=>by
  have hy:=h y List.mem_cons_self
  refine z0y (l:=l) (L.cl a y ha hy) hx (fun x m=>h x (List.mem_cons_of_mem _ m)) ?_
  rw[<- L.assoc x a y hx ha hy,e]
theorem fold_mem:∀ {l:List Nat} {a x:Nat},a<n->(∀ x∈l,x<n)->x∈l->f x (l.foldl f a)=l.foldl f a
 | y::l,a,x,ha,h,m=>by
  have hy:=h y List.mem_cons_self
  have hl:∀ x∈l,x<n:=fun x m=>h x (List.mem_cons_of_mem _ m)
  rcases List.mem_cons.mp m with rfl|m
  ·refine z0y L (l:=l) (L.cl a x ha hy) hy hl ?_
   rw[L.comm a x ha hy,<- L.assoc x x a hy hy ha,L.idem x hy]
  ·exact fold_mem (l:=l) (L.cl a y ha hy) hl m
theorem fold_out {z:Nat}(hz:z<n)(bz:∀ j,j<n->f z j=j):∀ {l:List Nat} {a:Nat},a<n->(∀ x∈l,x<n)->l.foldl f a=f a (l.foldl f z)
 | [],a,ha,_=>by show a=f a z;rw[L.comm a z ha hz,bz a ha]
 | y::l,a,ha,h=>by
  have hy:=h y List.mem_cons_self
  have hl:∀ x∈l,x<n:=fun x m=>h x (List.mem_cons_of_mem _ m)
  show l.foldl f (f a y)=f a (l.foldl f (f z y))
  rw[bz y hy,fold_out hz bz (L.cl a y ha hy) hl,fold_out hz bz hy hl,L.assoc a y _ ha hy (L.fold_lt hz hl)]
theorem top_uniq {z:Nat}(hz:z<n)(w:Nat)(hw:w<n):(∀ x,x<n->f x w=w) ↔ w=(List.range n).foldl f z:=by
 have hr:∀ x∈List.range n,x<n:=fun x m=>List.mem_range.mp m
 have ht:=L.fold_lt hz hr
 have up:∀ x,x<n->f x ((List.range n).foldl f z)=(List.range n).foldl f z:=fun x hx=>L.fold_mem hz hr (List.mem_range.mpr hx)
 constructor
 ·intro h
  have h1:=h _ ht
  have h2:=up w hw
  rw[L.comm _ _ ht hw]at h1
  omega
 ·intro h x hx
  rw[h];exact up x hx
end Lad
theorem y37 {pt:x54}{body:x16}{d:D}{q:Nat}:∀ (ds:List D) (I:Rho->Prop) (ok:Nat->Bool) (ρ:Rho),
  (∀ i (h:i<ds.length) ρ,I ρ->∃ ρ1,pt ds[i] ρ=some ρ1/\(ok i=true->∃ ρ2,body ρ1=some (.nx ρ2)/\I ρ2)/\(ok i=false->body ρ1=some (.rt d q)))->I ρ->
  ((List.range ds.length).all ok=true->∃ ρ',x9g pt body ds ρ=some (.nx ρ')/\I ρ')/\((List.range ds.length).all ok=false->x9g pt body ds ρ=some (.rt d q))
 | [],I,ok,ρ,_,h0=>⟨fun _=>⟨ρ,rfl,h0⟩,fun h=>by simp at h⟩
 | x::ds,I,ok,ρ,h,h0=>by
  obtain⟨ρ1,h1,h2,h3⟩:=h 0 (by simp) ρ h0
  have e1:pt x ρ=some ρ1:=h1
  have er:(List.range (x::ds).length).all ok=(ok 0&&(List.range ds.length).all fun i=>ok (i+1)):=by
   rw[List.length_cons,List.range_succ_eq_map,List.all_cons,List.all_map];rfl
  rw[er]
  cases hk:ok 0 with
  | false=>
   refine⟨fun z=>by simp at z,fun _=>?_⟩
   unfold x9g
   simp only[e1,h3 hk]
  | true=>
   obtain⟨ρ2,h4,h5⟩:=h2 hk
   obtain⟨i1,i2⟩:=y37 ds I (fun i=>ok (i+1)) ρ2 (fun i hi=>h (i+1) (by simpa using hi)) h5
   rw[Bool.true_and]
   unfold x9g
   simp only[e1,h4]
   exact⟨i1,i2⟩
theorem range_all {n:Nat}{p:Nat->Bool}:(List.range n).all p=true ↔ ∀ i,i<n->p i=true:=by
 rw[List.all_eq_true]
 exact⟨fun h i hi=>h i (List.mem_range.mpr hi),fun h i hi=>h i (List.mem_range.mp hi)⟩
theorem y3w {l:List Nat}{i:Nat}(h:i<(x0h l).length):(x0h l)[i]=.int (Int.ofNat (l.getD i 0)):=by
 have h':i<l.length:=by rw[x1b]at h;exact h
 simp[x0h,h']
theorem y00 {l:List Nat}{i:Nat}(h:i<l.length):l.getD i 0∈l:=by
 rw[List.getD_eq_getElem?_getD,List.getElem?_eq_getElem h]
 exact List.getElem_mem h
theorem j5v {i:Nat}{te:Den}{ρ:Rho}{deep:Bool}(l:List Nat)(hi:ρ.length=i)(v:Nat->D)(q:Nat->Nat)
  (he:∀ x,x∈l->te (ρ++[some (.int (Int.ofNat x),9)])=some (v x,q x,ρ++[some (.int (Int.ofNat x),9)])) (hd:deep=true->∀ j,(v j).isL=true->q j=1:=by intro h;cases h) :
  x66 1 (x0q i) x27 te deep (x0h l) ρ=some (l.map v,ρ):=by
 have h:=x4g (k:=1) (pt:=x0q i) (tt:=x27) (te:=te) (deep:=deep) (x0h l) (fun _=>ρ) (fun _=>true) (fun j=>v (l.getD j 0)) (fun j hj=>?_)
 ·rw[x1b,show(List.range l.length).filter (fun _=>true)=List.range l.length by simp]at h
  rw[h]
  have e:(List.range l.length).map (fun j=>v (l.getD j 0))=l.map v:=by
   apply List.ext_getElem?
   intro k
   by_cases hk:k<l.length
   ·simp[hk]
   ·rw[List.getElem?_eq_none (by simp;omega),List.getElem?_eq_none (by simp;omega)]
  rw[e]
 ·have hj':j<l.length:=by rw[x1b]at hj;exact hj
  refine⟨ρ++[some (.int (Int.ofNat (l.getD j 0)),9)],_,?_,rfl,?_⟩
  ·rw[y3w hj]
   unfold x0q
   rw[if_pos (by simp[hi])]
   subst hi
   simp[List.set_append]
  ·rw[if_pos rfl]
   exact⟨q _,_,he _ (y00 hj'),fun⟨h1,h2,h3⟩=>h3 (hd h1 _ h2),by simp⟩
theorem j3t {i:Nat}{tt:x1p}{te:Den}{ρ:Rho}{deep:Bool}(l:List Nat)(hi:ρ.length=i)(b:Nat->Bool)(v:Nat->D)(q:Nat->Nat)
  (ht:∀ x,x∈l->tt (ρ++[some (.int (Int.ofNat x),9)])=some (b x,ρ++[some (.int (Int.ofNat x),9)]))
  (he:∀ x,x∈l->b x=true->te (ρ++[some (.int (Int.ofNat x),9)])=some (v x,q x,ρ++[some (.int (Int.ofNat x),9)])) (hd:deep=true->∀ j,(v j).isL=true->q j=1:=by intro h;cases h) :
  x66 1 (x0q i) tt te deep (x0h l) ρ=some ((l.filter b).map v,ρ):=by
 have h:=x4g (k:=1) (pt:=x0q i) (tt:=tt) (te:=te) (deep:=deep) (x0h l) (fun _=>ρ) (fun j=>b (l.getD j 0)) (fun j=>v (l.getD j 0)) (fun j hj=>?_)
 ·rw[x1b]at h
  rw[h]
  have e:((List.range l.length).filter fun j=>b (l.getD j 0)).map (fun j=>v (l.getD j 0))=(l.filter b).map v:=by
   have e1:(List.range l.length).map (fun j=>l.getD j 0)=l:=by
    apply List.ext_getElem?
    intro k
    by_cases hk:k<l.length
    ·simp[hk]
    ·rw[List.getElem?_eq_none (by simp;omega),List.getElem?_eq_none (by omega)]
   have e2:=congrArg (fun m=>(List.filter b m).map v) e1
   simp only[List.filter_map,List.map_map]at e2
   exact e2
  rw[e]
 ·have hj':j<l.length:=by rw[x1b]at hj;exact hj
  refine⟨ρ++[some (.int (Int.ofNat (l.getD j 0)),9)],_,?_,ht _ (y00 hj'),?_⟩
  ·rw[y3w hj]
   unfold x0q
   rw[if_pos (by simp[hi])]
   subst hi
   simp[List.set_append]
  ·by_cases hb:b (l.getD j 0)=true
   ·rw[if_pos hb]
    exact⟨q _,_,he _ (y00 hj') hb,fun⟨h1,h2,h3⟩=>h3 (hd h1 _ h2),by simp⟩
   ·rw[if_neg hb]
    simp
theorem x8a {g:D->D->Option D}{fa fb:Den}{ρ ρ1 ρ2:Rho}{x y d:D}{q q':Nat}(ha:fa ρ=some (x,q,ρ1))(hb:fb ρ1=some (y,q',ρ2))(hg:g x y=some d):e2 g fa fb ρ=some (d,9,ρ2):=by unfold e2;rw[ha];simp only[hb,hg]
theorem x5r {f:Den}{ρ ρ1:Rho}{b:Bool}{q:Nat}(h:f ρ=some (.bl b,q,ρ1)):x3m f ρ=some (b,ρ1):=by unfold x3m;rw[h]
theorem y3a {i:Nat}{g:x1o}{ρ ρ1 ρ2:Rho}{ds:List D}{d:D}(hl:y7s ρ[i]? = true)(hg:g ρ=some ([d],ρ1))(h1:ρ1[i]? = some (some (.lst ds,1)))(hn:ds.length<=1000)(e:ρ1.set i (some (.lst (ds++[d]),1))=ρ2):x3k (y0w i g) ρ=some (.nx ρ2):=by
 unfold x3k y0w
 rw[if_pos hl,hg]
 simp only[h1,if_pos hn,e]
theorem j59 {b:List D->Option D}{g:x1o}{ρ ρ1:Rho}{ds:List D}{d:D}(h:g ρ=some (ds,ρ1))(hd:b ds=some d):eB b g ρ=some (d,9,ρ1):=by unfold eB;rw[h];simp only[hd]
def x0d (n:Nat)(r:Nat->Nat):D:=.tup (x0h ((List.range n).map r))
@[simp] theorem j31 {n:Nat}{r:Nat->Nat}:(x0d n r).isL=false:=rfl
theorem x4z {n i:Nat}{r:Nat->Nat}(h:i<n):atD (x0d n r) (Int.ofNat i)=some (.int (Int.ofNat (r i))):=x2p h
theorem z2t (l l':List Nat):dNe (.tup (x0h l)) (.tup (x0h l'))=some (.bl (!decide (l=l'))):=by unfold dNe;rw[if_pos ⟨(j0d l).ok,(j0d l').ok⟩,j1w]
theorem z1j {n:Nat}(g:Nat->Nat):D.tup ((List.range n).map fun i=>.int (Int.ofNat (g i)))=x0d n g:=by unfold x0d;rw[y2s]
theorem j53 {i n:Nat}{tt:x1p}{te:Den}{ρ:Rho}{deep:Bool}(hi:ρ.length=i)(a b:Nat->Nat)(ok:Nat->Bool)(v:Nat->D)(q:Nat->Nat)
  (ht:∀ j,j<n->tt (ρ++[some (.int (Int.ofNat (a j)),9),some (.int (Int.ofNat (b j)),9)])=some (ok j,ρ++[some (.int (Int.ofNat (a j)),9),some (.int (Int.ofNat (b j)),9)]))
  (he:∀ j,j<n->ok j=true->te (ρ++[some (.int (Int.ofNat (a j)),9),some (.int (Int.ofNat (b j)),9)])=some (v j,q j,ρ++[some (.int (Int.ofNat (a j)),9),some (.int (Int.ofNat (b j)),9)]))
  (hd:deep=true->∀ j,(v j).isL=true->q j=1:=by intro h;cases h) :
  x66 2 (y7p (x1d (x0q i) (x1d (x0q (i+1)) x7j))) tt te deep ((List.range n).map fun j=>.tup [.int (Int.ofNat (a j)),.int (Int.ofNat (b j))]) ρ=some (((List.range n).filter ok).map v,ρ):=by
 have h:=x4g (k:=2) (pt:=y7p (x1d (x0q i) (x1d (x0q (i+1)) x7j))) (tt:=tt) (te:=te) (deep:=deep) ((List.range n).map fun j=>.tup [.int (Int.ofNat (a j)),.int (Int.ofNat (b j))]) (fun _=>ρ) ok v (fun j hj=>?_)
 ·rw[List.length_map,List.length_range]at h
  exact h
 ·rw[List.length_map,List.length_range]at hj
  refine⟨ρ++[some (.int (Int.ofNat (a j)),9),some (.int (Int.ofNat (b j)),9)],_,?_,ht j hj,?_⟩
  ·subst hi
   simp[-Int.ofNat_eq_natCast,List.set_append]
  ·by_cases hb:ok j=true
   ·rw[if_pos hb]
    exact⟨q j,_,he j hj hb,fun⟨h1,h2,h3⟩=>h3 (hd h1 j h2),by simp⟩
   ·rw[if_neg hb]
    simp
namespace Lad
variable {n:Nat}{f:Nat->Nat->Nat}(L:Lad n f)
include L
theorem le_trans {x y z:Nat}(hx:x<n)(hy:y<n)(hz:z<n)(h1:f x y=y)(h2:f y z=z):f x z=z:=by
 rw[<- h2,<- L.assoc x y z hx hy hz,h1]
theorem le_anti {x y:Nat}(hx:x<n)(hy:y<n)(h1:f x y=y)(h2:f y x=x):x=y:=by
 rw[L.comm y x hy hx,h1]at h2;exact h2.symm
theorem le_l {x y:Nat}(hx:x<n)(hy:y<n):f x (f x y)=f x y:=by rw[<- L.assoc x x y hx hx hy,L.idem x hx]
theorem le_r {x y:Nat}(hx:x<n)(hy:y<n):f y (f x y)=f x y:=by rw[L.comm x y hx hy];exact L.le_l hy hx
theorem lub {x y z:Nat}(hx:x<n)(hy:y<n)(hz:z<n)(h1:f x z=z)(h2:f y z=z):f (f x y) z=z:=by rw[L.assoc x y z hx hy hz,h2,h1]
theorem sup_least {z:Nat}(hz:z<n)(bz:∀ j,j<n->f z j=j){b:Nat}(hb:b<n):∀ {l:List Nat},(∀ x∈l,x<n)->(∀ x∈l,f x b=b)->f (l.foldl f z) b=b
 | [],_,_=>bz b hb
 | y::l,h,k=>by
  have hy:=h y List.mem_cons_self
  have hl:∀ x∈l,x<n:=fun x m=>h x (List.mem_cons_of_mem _ m)
  have e:(y::l).foldl f z=f y (l.foldl f z):=by
   show l.foldl f (f z y)=_
   rw[bz y hy,L.fold_out hz bz hy hl]
  rw[e]
  exact L.lub hy (L.fold_lt hz hl) hb (k y List.mem_cons_self) (sup_least hz bz hb hl fun x m=>k x (List.mem_cons_of_mem _ m))
omit L
def low (n:Nat)(f:Nat->Nat->Nat)(x:Nat):List Nat:=(List.range n).filter fun y=>decide (f y x=x)
theorem mem_low {x y:Nat}:y∈low n f x ↔ y<n/\f y x=x:=by simp[low]
def lr (n:Nat)(f:Nat->Nat->Nat)(z:Nat)(r:Nat->Nat)(x:Nat):Nat:=((low n f x).map r).foldl f z
include L
variable {z:Nat}(hz:z<n)(bz:∀ j,j<n->f z j=j){r s:Nat->Nat}(hr:∀ i,i<n->r i<n)
include hz bz hr
theorem lr_mem {x:Nat}:∀ y∈(low n f x).map r,y<n:=fun y m=>by
 obtain⟨k,hk,rfl⟩:=List.mem_map.mp m
 exact hr k (mem_low.mp hk).1
theorem lr_lt (x:Nat):lr n f z r x<n:=L.fold_lt hz (lr_mem L hz bz hr)
theorem lr_ub {x y:Nat}(hy:y<n)(h:f y x=x):f (r y) (lr n f z r x)=lr n f z r x:=L.fold_mem hz (lr_mem L hz bz hr) (List.mem_map.mpr ⟨y,mem_low.mpr ⟨hy,h⟩,rfl⟩)
theorem lr_least {x b:Nat}(hb:b<n)(h:∀ y,y<n->f y x=x->f (r y) b=b):f (lr n f z r x) b=b:=L.sup_least hz bz hb (lr_mem L hz bz hr) fun y m=>by
 obtain⟨k,hk,rfl⟩:=List.mem_map.mp m
 exact h k (mem_low.mp hk).1 (mem_low.mp hk).2
theorem lr_rises {x y:Nat}(hx:x<n)(hy:y<n)(h:f x y=y):f (lr n f z r x) (lr n f z r y)=lr n f z r y:=
 L.lr_least hz bz hr (L.lr_lt hz bz hr y) fun k hk e=>L.lr_ub hz bz hr hk (L.le_trans hk hx hy e h)
end Lad
theorem j75 {α:Type}{us:List α}(h:us.length=1):∃ a,us=[a]:=match us,h with|[a],_=>⟨a,rfl⟩
theorem j7j {α:Type}{us:List α}(h:us.length=2):∃ a b,us=[a,b]:=by
 cases us with
 | nil=>cases h
 | cons a us=>
  obtain⟨b,hh⟩:=j75 (Nat.succ.inj h)
  exact⟨a,b,by rw[hh]⟩
theorem j7a {α:Type}{us:List α}(h:us.length=3):∃ a b c,us=[a,b,c]:=by
 cases us with
 | nil=>cases h
 | cons a us=>
  obtain⟨b,c,hh⟩:=j7j (Nat.succ.inj h)
  exact⟨a,b,c,by rw[hh]⟩
theorem j7k {α:Type}{us:List α}(h:us.length=4):∃ a b c d,us=[a,b,c,d]:=by
 cases us with
 | nil=>cases h
 | cons a us=>
  obtain⟨b,c,d,hh⟩:=j7a (Nat.succ.inj h)
  exact⟨a,b,c,d,by rw[hh]⟩
theorem y93 {pt:x54}{body:x16}{d:D}{ds:List D}{ρ ρ1 ρ2:Rho}(h1:pt d ρ=some ρ1)(h2:body ρ1=some (.nx ρ2)):x9g pt body (d::ds) ρ=x9g pt body ds ρ2:=by
 show(match pt d ρ with|none=>none|some ρ1=>_)=_
 simp only[h1,h2]
theorem y4g {α J σ:Type}{pt:x54}{body:x16}(enc:α->D)(S:σ->J->Rho)(g:σ->α->σ)(I:σ->Prop):∀ (l:List α) (s:σ) (j:J),I s->
  (∀ x∈l,∀ s j,I s->I (g s x)/\∃ ρ1 j',pt (enc x) (S s j)=some ρ1/\body ρ1=some (.nx (S (g s x) j')))->∃ j',x9g pt body (l.map enc) (S s j)=some (.nx (S (l.foldl g s) j'))/\I (l.foldl g s)
 | [],s,j,i,_=>⟨j,rfl,i⟩
 | x::l,s,j,i,h=>by
  obtain⟨i1,ρ1,j1,h1,h2⟩:=h x List.mem_cons_self s j i
  obtain⟨j2,e,i2⟩:=y4g enc S g I l (g s x) j1 i1 fun y m=>h y (List.mem_cons_of_mem _ m)
  exact⟨j2,(y93 h1 h2).trans e,i2⟩
theorem y2i {c:x1p}{b:x16}{Q:Rho->Prop}(I:Nat->Rho->Prop)
  (h:∀ k ρ,I k ρ->(∃ ρ1,c ρ=some (false,ρ1)/\Q ρ1)\/(∃ ρ1 ρ2 k',c ρ=some (true,ρ1)/\b ρ1=some (.nx ρ2)/\k'<k/\I k' ρ2)):∀ m k ρ,k<m->I k ρ->∃ ρ',x6b c b m ρ=some (.nx ρ')/\Q ρ'
 | 0,k,_,hk,_=>absurd hk (Nat.not_lt_zero k)
 | m+1,k,ρ,hk,i=>by
  rcases h k ρ i with⟨ρ1,h1,h2⟩|⟨ρ1,ρ2,k',h1,h2,h3,h4⟩
  ·exact⟨ρ1,by unfold x6b;simp[h1],h2⟩
  ·obtain⟨ρ',e,q⟩:=y2i I h m k' ρ2 (by omega) h4
   refine⟨ρ',?_,q⟩
   unfold x6b
   simp[h1,h2,e]
theorem y89 {c:x1p}{b:x16}{Q:Rho->Prop}(I:Nat->Rho->Prop){k:Nat}{ρ:Rho}(hk:k<1000)(i:I k ρ)
  (h:∀ k ρ,I k ρ->(∃ ρ1,c ρ=some (false,ρ1)/\Q ρ1)\/(∃ ρ1 ρ2 k',c ρ=some (true,ρ1)/\b ρ1=some (.nx ρ2)/\k'<k/\I k' ρ2)):∃ ρ',y6w c b ρ=some (.nx ρ')/\Q ρ':=y2i I h 1000 k ρ hk i
def gv (v:List Nat)(i:Nat):Nat:=v.getD i 0
theorem z1c {v:List Nat}{i:Nat}(h:i<v.length):v[i]? = some (gv v i):=by unfold gv;simp[h]
theorem j1o {v:List Nat}{i:Nat}(h:i<v.length):gv v i∈v:=y00 h
theorem z5p {v:List Nat}{i:Nat}(h:i<v.length):atD (.tup (x0h v)) (Int.ofNat i)=some (.int (Int.ofNat (gv v i))):=z0v (z1c h)
theorem j1a {v:List Nat}{i:Nat}(h:i<v.length)(x j:Nat):gv (v.set i x) j=if j=i then x else gv v j:=by
 unfold gv
 rw[List.getD_eq_getElem?_getD,List.getD_eq_getElem?_getD]
 by_cases e:j=i
 ·subst e;rw[if_pos rfl,List.getElem?_set_self h];rfl
 ·rw[if_neg e,List.getElem?_set_ne (fun z=>e z.symm)]
theorem z5y {u v:List Nat}(h:u.length=v.length)(k:∀ i,i<u.length->gv u i=gv v i):u=v:=by
 apply List.ext_getElem?
 intro i
 by_cases hi:i<u.length
 ·rw[z1c hi,z1c (by omega),k i hi]
 ·rw[List.getElem?_eq_none (by omega),List.getElem?_eq_none (by omega)]
structure Vn (n p:Nat) (v:List Nat):Prop where
 len:v.length=p
 lt:∀ x∈v,x<n
theorem Vn.gv {n p:Nat}{v:List Nat}(h:Vn n p v){i:Nat}(hi:i<p):gv v i<n:=h.lt _ (j1o (by rw[h.len];exact hi))
theorem Vn.set {n p:Nat}{v:List Nat}(h:Vn n p v){i x:Nat}(hx:x<n):Vn n p (v.set i x):=⟨by rw[List.length_set];exact h.len,fun y hy=>by
 rcases List.mem_or_eq_of_mem_set hy with h' | h'
 ·exact h.lt y h'
 ·rw[h'];exact hx⟩
def leV (f:Nat->Nat->Nat)(p:Nat)(u v:List Nat):Prop:=∀ i,i<p->f (gv u i) (gv v i)=gv v i
abbrev ChS:=Nat×(List Nat->Nat)
def doS (f:Nat->Nat->Nat)(v:List Nat)(s:ChS):List Nat:=v.set s.1 (f (gv v s.1) (s.2 v))
structure OkS (n p:Nat) (f:Nat->Nat->Nat) (s:ChS):Prop where
 pl:s.1<p
 lt:∀ v,Vn n p v->s.2 v<n
 mono:∀ u v,Vn n p u->Vn n p v->leV f p u v->f (s.2 u) (s.2 v)=s.2 v
def ClS (f:Nat->Nat->Nat)(l:List ChS)(v:List Nat):Prop:=∀ s∈l,f (s.2 v) (gv v s.1)=gv v s.1
namespace Lad
variable {n:Nat}{f:Nat->Nat->Nat}(L:Lad n f){p:Nat}
include L
theorem leV_refl {v:List Nat}(h:Vn n p v):leV f p v v:=fun i hi=>L.idem _ (h.gv hi)
theorem leV_trans {u v w:List Nat}(hu:Vn n p u)(hv:Vn n p v)(hw:Vn n p w)(a:leV f p u v)(b:leV f p v w):leV f p u w:=fun i hi=>L.le_trans (hu.gv hi) (hv.gv hi) (hw.gv hi) (a i hi) (b i hi)
theorem leV_anti {u v:List Nat}(hu:Vn n p u)(hv:Vn n p v)(a:leV f p u v)(b:leV f p v u):u=v:=
 z5y (hu.len.trans hv.len.symm) fun i hi=>by
  rw[hu.len]at hi
  exact L.le_anti (hu.gv hi) (hv.gv hi) (a i hi) (b i hi)
theorem doS_V {v:List Nat}{s:ChS}(hs:OkS n p f s)(h:Vn n p v):Vn n p (doS f v s):=h.set (L.cl _ _ (h.gv hs.pl) (hs.lt v h))
theorem doS_gv {v:List Nat}{s:ChS}(hs:OkS n p f s)(h:Vn n p v)(i:Nat):gv (doS f v s) i=if i=s.1 then f (gv v s.1) (s.2 v)else gv v i:=j1a (by rw[h.len];exact hs.pl) _ _
theorem doS_up {v:List Nat}{s:ChS}(hs:OkS n p f s)(h:Vn n p v):leV f p v (doS f v s):=fun i hi=>by
 rw[L.doS_gv hs h]
 by_cases e:i=s.1
 ·subst e;rw[if_pos rfl];exact L.le_l (h.gv hi) (hs.lt v h)
 ·rw[if_neg e];exact L.idem _ (h.gv hi)
theorem doS_mono {u v:List Nat}{s:ChS}(hs:OkS n p f s)(hu:Vn n p u)(hv:Vn n p v)(a:leV f p u v):leV f p (doS f u s) (doS f v s):=fun i hi=>by
 rw[L.doS_gv hs hu,L.doS_gv hs hv]
 by_cases e:i=s.1
 ·subst e
  rw[if_pos rfl,if_pos rfl]
  have h1:=hu.gv hs.pl
  have h2:=hs.lt u hu
  have h3:=hv.gv hs.pl
  have h4:=hs.lt v hv
  exact L.lub h1 h2 (L.cl _ _ h3 h4) (L.le_trans h1 h3 (L.cl _ _ h3 h4) (a _ hs.pl) (L.le_l h3 h4)) (L.le_trans h2 h4 (L.cl _ _ h3 h4) (hs.mono u v hu hv a) (L.le_r h3 h4))
 ·rw[if_neg e,if_neg e];exact a i hi
theorem doS_fix {v:List Nat}{s:ChS}(hs:OkS n p f s)(h:Vn n p v):doS f v s=v ↔ f (s.2 v) (gv v s.1)=gv v s.1:=by
 constructor
 ·intro e
  have:=congrArg (fun u=>gv u s.1) e
  rw[L.doS_gv hs h,if_pos rfl]at this
  rw[L.comm _ _ (hs.lt v h) (h.gv hs.pl)]
  exact this
 ·intro e
  refine z5y (by unfold doS;rw[List.length_set]) fun i hi=>?_
  rw[L.doS_gv hs h]
  by_cases e':i=s.1
  ·subst e';rw[if_pos rfl,L.comm _ _ (h.gv hs.pl) (hs.lt v h)];exact e
  ·rw[if_neg e']
theorem foldS_V:∀ {l:List ChS} {v:List Nat},(∀ s∈l,OkS n p f s)->Vn n p v->Vn n p (l.foldl (doS f) v)
 | [],v,_,h=>h
 | s::l,v,hs,h=>foldS_V (l:=l) (fun t m=>hs t (List.mem_cons_of_mem _ m)) (L.doS_V (hs s List.mem_cons_self) h)
theorem foldS_up:∀ {l:List ChS} {v:List Nat},(∀ s∈l,OkS n p f s)->Vn n p v->leV f p v (l.foldl (doS f) v)
 | [],v,_,h=>L.leV_refl h
 | s::l,v,hs,h=>by
  have h1:=L.doS_V (hs s List.mem_cons_self) h
  have hl:∀ t∈l,OkS n p f t:=fun t m=>hs t (List.mem_cons_of_mem _ m)
  exact L.leV_trans h h1 (L.foldS_V (l:=l) hl h1) (L.doS_up (hs s List.mem_cons_self) h) (foldS_up (l:=l) hl h1)
theorem foldS_below {a:List Nat}(ha:Vn n p a):∀ {l:List ChS} {v:List Nat},(∀ s∈l,OkS n p f s)->Vn n p v->ClS f l a->leV f p v a->leV f p (l.foldl (doS f) v) a
 | [],v,_,h,_,e=>e
 | s::l,v,hs,h,c,e=>by
  have s0:=hs s List.mem_cons_self
  have h1:=L.doS_V s0 h
  have hl:∀ t∈l,OkS n p f t:=fun t m=>hs t (List.mem_cons_of_mem _ m)
  refine foldS_below ha (l:=l) hl h1 (fun t m=>c t (List.mem_cons_of_mem _ m)) ?_
  have:=L.doS_mono s0 h ha e
  rw[(L.doS_fix s0 ha).mpr (c s List.mem_cons_self)]at this
  exact this
theorem foldS_fix:∀ {l:List ChS} {v:List Nat},(∀ s∈l,OkS n p f s)->Vn n p v->(l.foldl (doS f) v=v ↔ ClS f l v)
 | [],v,_,h=>⟨fun _ _ m=>(List.not_mem_nil m).elim,fun _=>rfl⟩
 | s::l,v,hs,h=>by
  have s0:=hs s List.mem_cons_self
  have h1:=L.doS_V s0 h
  have hl:∀ t∈l,OkS n p f t:=fun t m=>hs t (List.mem_cons_of_mem _ m)
  constructor
  ·intro e
   have e0:l.foldl (doS f) (doS f v s)=v:=e
   have up:=L.foldS_up hl h1
   rw[e0]at up
   have e1:doS f v s=v:=L.leV_anti h1 h up (L.doS_up s0 h)
   rw[e1]at e0
   have c:=(foldS_fix (l:=l) hl h).mp e0
   intro t m
   rcases List.mem_cons.mp m with rfl|m
   ·exact(L.doS_fix s0 h).mp e1
   ·exact c t m
  ·intro c
   show l.foldl (doS f) (doS f v s)=v
   rw[(L.doS_fix s0 h).mpr (c s List.mem_cons_self)]
   exact(foldS_fix (l:=l) hl h).mpr fun t m=>c t (List.mem_cons_of_mem _ m)
def cnt (n:Nat)(f:Nat->Nat->Nat)(x:Nat):Nat:=((List.range n).filter fun y=>decide (f x y=y)).length
def mu (n:Nat)(f:Nat->Nat->Nat)(v:List Nat):Nat:=(v.map (cnt n f)).sum
omit L in
theorem j13 (x:Nat):cnt n f x<=n:=by
 have:=List.length_filter_le (fun y=>decide (f x y=y)) (List.range n)
 rw[List.length_range]at this
 exact this
omit L in
theorem mu_le {v:List Nat}(h:Vn n p v):mu n f v<=p*n:=by
 have key:∀ l:List Nat,(l.map (cnt n f)).sum<=l.length*n:=by
  intro l
  induction l with
  | nil=>simp
  | cons x l ih=>
   have:=j13 (n:=n) (f:=f) x
   simp only[List.map_cons,List.sum_cons,List.length_cons,Nat.succ_mul]
   omega
 have:=key v
 rw[h.len]at this
 exact this
omit L in
theorem x8g {q r:Nat->Bool}{a:Nat}:∀ {l:List Nat},(∀ x∈l,r x=true->q x=true)->a∈l->q a=true->r a=false->(l.filter r).length<(l.filter q).length
 | y::l,h,ha,hq,hr=>by
  have hl:∀ x∈l,r x=true->q x=true:=fun x m=>h x (List.mem_cons_of_mem _ m)
  have le:∀ l:List Nat,(∀ x∈l,r x=true->q x=true)->(l.filter r).length<=(l.filter q).length:=by
   intro l
   induction l with
   | nil=>intro _;simp
   | cons z l ih=>
    intro h
    have i:=ih fun x m=>h x (List.mem_cons_of_mem _ m)
    by_cases hz:r z=true
    ·rw[List.filter_cons_of_pos hz,List.filter_cons_of_pos (h z List.mem_cons_self hz)]
     simp only[List.length_cons];omega
    ·rw[List.filter_cons_of_neg hz]
     by_cases hz':q z=true
     ·rw[List.filter_cons_of_pos hz'];simp only[List.length_cons];omega
     ·rw[List.filter_cons_of_neg hz'];exact i
  by_cases e:y=a
  ·subst e
   rw[List.filter_cons_of_neg (by rw[hr];simp),List.filter_cons_of_pos hq]
   have:=le l hl
   simp only[List.length_cons];omega
  ·have ha':a∈l:=by
    rcases List.mem_cons.mp ha with h' | h'
    ·exact absurd h'.symm e
    ·exact h'
   have i:=x8g (l:=l) hl ha' hq hr
   by_cases hz:r y=true
   ·rw[List.filter_cons_of_pos hz,List.filter_cons_of_pos (h y List.mem_cons_self hz)]
    simp only[List.length_cons];omega
   ·rw[List.filter_cons_of_neg hz]
    by_cases hz':q y=true
    ·rw[List.filter_cons_of_pos hz'];simp only[List.length_cons];omega
    ·rw[List.filter_cons_of_neg hz'];exact i
theorem cnt_lt {x y:Nat}(hx:x<n)(hy:y<n)(h:f x y=y)(ne:x≠y):cnt n f y<cnt n f x:=by
 refine x8g (a:=x) (fun k m hk=>?_) (List.mem_range.mpr hx) (decide_eq_true (L.idem x hx)) (decide_eq_false fun e=>ne (L.le_anti hx hy h e))
 exact decide_eq_true (L.le_trans hx hy (List.mem_range.mp m) h (of_decide_eq_true hk))
theorem mu_lt {u v:List Nat}(hu:Vn n p u)(hv:Vn n p v)(a:leV f p u v)(ne:u≠v):mu n f v<mu n f u:=by
 have key:∀ (u v:List Nat),u.length=v.length->(∀ x∈u,x<n)->(∀ x∈v,x<n)->(∀ i,i<u.length->f (gv u i) (gv v i)=gv v i)->((v.map (cnt n f)).sum<=(u.map (cnt n f)).sum)/\(u≠v->(v.map (cnt n f)).sum<(u.map (cnt n f)).sum):=by
  intro u
  induction u with
  | nil=>
   intro v hl _ _ _
   have:v=[]:=List.length_eq_zero_iff.mp hl.symm
   subst this
   exact⟨Nat.le_refl _,fun h=>absurd rfl h⟩
  | cons x u ih=>
   intro v hl h1 h2 h3
   cases v with
   | nil=>cases hl
   | cons y v=>
    have hl':u.length=v.length:=by simpa using hl
    obtain⟨i1,i2⟩:=ih v hl' (fun z m=>h1 z (List.mem_cons_of_mem _ m)) (fun z m=>h2 z (List.mem_cons_of_mem _ m)) (fun i hi=>h3 (i+1) (by simpa using hi))
    have e0:f x y=y:=h3 0 (by simp)
    have hx:=h1 x List.mem_cons_self
    have hy:=h2 y List.mem_cons_self
    simp only[List.map_cons,List.sum_cons]
    by_cases e:x=y
    ·subst e
     exact⟨by omega,fun h=>by have:=i2 (fun z=>h (by rw[z]));omega⟩
    ·have:=L.cnt_lt hx hy e0 e
     exact⟨by omega,fun _=>by omega⟩
 exact(key u v (hu.len.trans hv.len.symm) hu.lt hv.lt (fun i hi=>a i (by rw[<- hu.len];exact hi))).2 ne
end Lad
end L3
namespace My
open PySem PySem.Spec PyProof.Rows L2 L3
def top (i:Nat):Stmt:=PySem.Challenge.pw_ladderhall_k53_whole_demands.main.body.getD i (.Pass ⟨0,0,0,0⟩)
structure Bt (mg:Str->Option Value):Prop where
 m_ValueError:mg "ValueError" = none
 m_all:mg "all" = none
 m_bool:mg "bool" = none
 m_enumerate:mg "enumerate" = none
 m_int:mg "int" = none
 m_isinstance:mg "isinstance" = none
 m_len:mg "len" = none
 m_list:mg "list" = none
 m_max:mg "max" = none
 m_range:mg "range" = none
 m_str:mg "str" = none
 m_tuple:mg "tuple" = none
structure Xt (K:PySem.W.Frag) (mg:Str->Option Value):Prop where
 u:y04 K mg "RiseError" ["NoPlace","NoRule"]
 x_NoPlace:∃ C,XNm K mg "NoPlace" C
 x_NoRule:∃ C,XNm K mg "NoRule" C
 i_NoHouse:IsC K mg ["NoPlace","NoRule"] "NoHouse"
 i_NoMap:IsC K mg ["NoPlace","NoRule"] "NoMap"
 i_NoPlace:IsC K mg ["NoPlace","NoRule"] "NoPlace"
 i_NoRule:IsC K mg ["NoPlace","NoRule"] "NoRule"
 i_NoStep:IsC K mg ["NoPlace","NoRule"] "NoStep"
 i_TooGreat:IsC K mg ["NoPlace","NoRule"] "TooGreat"
section
variable {P:Program}{w:World}{K:PySem.W.Frag}{mg:Str->Option Value}{base:Heap}
def x76:x16:=x36 (j04 (x01 (x05 0) x0f))
def x2u:List D->OD:=fnD 1 (x76)
theorem y0j:FnScope ["many"] ["many"] (x0a (top 13)):=fsq
theorem x75 (B:Bt mg)(a:At K mg "row_of_least" (top 13) ["many"]):Cal P w K mg base 1 "row_of_least" 1 (x2u):=
 Cal.mkQ (k:=0) a y0j fun f cdv A outer s H E hr=>
  x0e (x0p (z9t rfl B.m_tuple PyProof.Rows.boot_tuple B.m_range (x00 (x02 (qv 0)) x03 x04)))
def y2d:x16:=x36 (y6q (x05 0) (x01 (x0l x2u 1 (x01 (x1f 0) x0f)) x0f))
def x3g:List D->OD:=fnD 1 (y2d)
theorem y5i:FnScope ["ladder"] ["ladder"] (x0a (top 14)):=fsq
theorem y2l (B:Bt mg)(c40:Cal P w K mg base 1 "row_of_least" 1 x2u)(a:At K mg "least_of" (top 14) ["ladder"]):Cal P w K mg base 2 "least_of" 1 (x3g):=
 Cal.mkQ (k:=1) a y5i fun f cdv A outer s H E hr=>
  x0e (x0p (z3q hr (x02 (qv 0)) (x00 (x09 c40 hr (by decide) (x00 (x15 B.m_len (qv 0)) x03 x0j)) x03 x0j)))
def x9k:x16:=x17 (x20 2 (x0l x3g 1 (x01 (x05 0) x0f)))
 (x17 (x80 (x9m (x05 1)) (x0q 3) (x20 2 (eIx (x1k 0 (x05 2)) (x05 3))))
 (x36 (x05 2)))
def x23:List D->OD:=fnD 4 (x9k)
theorem x4j:FnScope ["ladder","worths","joined","worth"] ["ladder","worths"] (x0a (top 17)):=fsq
theorem x91 (B:Bt mg)(c33:Cal P w K mg base 2 "least_of" 1 x3g)(a:At K mg "joined_all" (top 17) ["ladder","worths"]):Cal P w K mg base 3 "joined_all" 2 (x23):=
 Cal.mkQ (k:=2) a x4j fun f cdv A outer s H E hr=>
  x08 (x0m (i:=2) x4j.nd rfl (Or.inl rfl) (x09 c33 hr (by decide) (x00 (x02 (qv 0)) x03 x04)))
  (x08 (x2v PassesOwn.never rfl (x4c (x02 (qv 1))) (x0k (i:=3) (show 0<=3 by decide) x4j.nd rfl (Or.inl rfl)) (x0e (x0m (i:=2) x4j.nd rfl (Or.inl rfl) (x3z (x0t (qv 0) (x02 (qv 2))) (x02 (qv 3))))))
  (x0e (x0p (x02 (qv 2)))))
def y26:x16:=x36 (e2 dEq (eIx (x1k 0 (x05 1)) (x05 2)) (x05 2))
def x2t:List D->OD:=fnD 3 (y26)
theorem y5g:FnScope ["ladder","one","other"] ["ladder","one","other"] (x0a (top 15)):=fsq
theorem y1y (B:Bt mg)(a:At K mg "is_below" (top 15) ["ladder","one","other"]):Cal P w K mg base 1 "is_below" 3 (x2t):=
 Cal.mkQ (k:=0) a y5g fun f cdv A outer s H E hr=>
  x0e (x0p (y9j hr (x3z (x0t (qv 0) (x02 (qv 1))) (x02 (qv 2))) (x02 (qv 2))))
def y99:x16:=x36 (x2x 1 (x0z (x01 (x1f 0) x0f)) (x0q 2) (y2c (x0l x2t 3 (x01 (x05 0) (x01 (x05 2) (x01 (x05 1) x0f))))) (x05 2) false)
def x8w:List D->OD:=fnD 2 (y99)
theorem z4g:FnScope ["ladder","worth"] ["ladder","worth"] (x0a (top 16)):=fsq
abbrev y7h:List Str:=["ladder","worth","x"]
theorem z1o:(y7h).Nodup:=by decide +kernel
theorem z1l (B:Bt mg)(c25:Cal P w K mg base 1 "is_below" 3 x2t)(a:At K mg "below" (top 16) ["ladder","worth"]):Cal P w K mg base 2 "below" 2 (x8w):=
 Cal.mkQ (k:=1) a z4g fun f cdv A outer s H E hr=>
  x0e (x0p (x2z (k:=1) (N':=y7h) false rfl ⟨rfl,by decide +kernel,rfl,rfl,rfl⟩ (x0r B.m_range (x00 (x15 B.m_len (qv 0)) x03 x0j)) (fun _ _ _ _=>x0k (i:=2) (show 2<=2 by decide) z1o rfl (Or.inl rfl) (Or.inr rfl)) (fun _ _ _ _=>x6y (x4d (x09 c25 hr (by decide) (x00 (x02 (qv 0)) (x00 (x02 (qv 2)) (x00 (x02 (qv 1)) x03 x04) x04) x04)))) (fun _ _ _ _=>x02 (qv 2))))
def j21:x16:=x36 (x0l x23 2 (x01 (x05 0) (x01 (x2x 1 (x9m (x0l x8w 2 (x01 (x05 0) (x01 (x05 1) x0f)))) (x0q 3) (y2c (x0l x2t 3 (x01 (x05 0) (x01 (x05 3) (x01 (x05 2) x0f))))) (x05 3) false) x0f)))
def y8k:List D->OD:=fnD 3 (j21)
theorem j1m:FnScope ["ladder","one","other"] ["ladder","one","other"] (x0a (top 18)):=fsq
abbrev z5o:List Str:=["ladder","one","other","x"]
theorem z8x:(z5o).Nodup:=by decide +kernel
theorem j38 (B:Bt mg)(c30:Cal P w K mg base 3 "joined_all" 2 x23)(c21:Cal P w K mg base 2 "below" 2 x8w)(c25:Cal P w K mg base 1 "is_below" 3 x2t)(a:At K mg "met" (top 18) ["ladder","one","other"]):Cal P w K mg base 4 "met" 3 (y8k):=
 Cal.mkQ (k:=3) a j1m fun f cdv A outer s H E hr=>
  x0e (x0p (x09 c30 hr (by decide) (x00 (x02 (qv 0)) (x00 (x2z (k:=1) (N':=z5o) false rfl ⟨rfl,by decide +kernel,rfl,rfl,rfl⟩ (x4c (x09 c21 hr (by decide) (x00 (x02 (qv 0)) (x00 (x02 (qv 1)) x03 x04) x04))) (fun _ _ _ _=>x0k (i:=3) (show 3<=3 by decide) z8x rfl (Or.inl rfl) (Or.inr rfl)) (fun _ _ _ _=>x6y (x4d (x09 c25 hr (by decide) (x00 (x02 (qv 0)) (x00 (x02 (qv 3)) (x00 (x02 (qv 2)) x03 x04) x04) x04)))) (fun _ _ _ _=>x02 (qv 3))) x03 x26) x04)))
def y0p:x16:=x17 (sIf (x3m (e2 dLt (x05 1) (x1f 0))) (x36 (x1k 0 (x05 1))) x6i)
 (x17 (sIf (x3m (e2 dEq (x05 0) (x5j x0f))) (x36 (eC (.int 0))) x6i)
 (x36 (e2 x41 (e2 y5d (x1k 0 (e2 z5q (x05 1) (x1f 0))) (eC (.int 31))) (x05 1))))
def x4s:List D->OD:=fnD 2 (y0p)
theorem y4i:FnScope ["_law_script","_law_k"] ["_law_script","_law_k"] (x0a (top 42)):=fsq
theorem y6a (B:Bt mg)(a:At K mg "_law_cell" (top 42) ["_law_script","_law_k"]):Cal P w K mg base 1 "_law_cell" 2 (x4s):=
 Cal.mkQ (k:=0) a y4i fun f cdv A outer s H E hr=>
  x08 (x33 (y7b (x02 (qv 1)) (x15 B.m_len (qv 0))) (x0e (x0p (x0t (qv 0) (x02 (qv 1))))) x1v)
  (x08 (x33 (x96 hr (x02 (qv 0)) (x2e x03)) (x0e (x0p x0b)) x1v)
  (x0e (x0p (x1u (x78 (x0t (qv 0) (y1t (x02 (qv 1)) (x15 B.m_len (qv 0)))) x0b) (x02 (qv 1))))))
def y08:x16:=x17 (x20 3 (e2 z5q (e2 y5d (e2 x41 (x0l x4s 2 (x01 (x05 0) (x01 (x05 1) x0f))) (e2 y5d (eC (.int 6151)) (e2 x41 (x05 1) (eC (.int 1))))) (eC (.int 40692))) (eC (.int 2147483399))))
 (x36 (e2 z5q (e2 z5q (e2 x41 (e2 y5d (x05 3) (x05 3)) (e2 j2x (x05 3) (eC (.int 31)))) (eC (.int 2147483629))) (x05 2)))
def x0c:List D->OD:=fnD 4 (y08)
theorem x9c:FnScope ["_law_script","_law_k","_law_many","_law_drawn"] ["_law_script","_law_k","_law_many"] (x0a (top 43)):=fsq
theorem y5c (B:Bt mg)(c4:Cal P w K mg base 1 "_law_cell" 2 x4s)(a:At K mg "_law_pick" (top 43) ["_law_script","_law_k","_law_many"]):Cal P w K mg base 2 "_law_pick" 3 (x0c):=
 Cal.mkQ (k:=1) a x9c fun f cdv A outer s H E hr=>
  x08 (x0m (i:=3) x9c.nd rfl (Or.inl rfl) (y1t (x78 (x1u (x09 c4 hr (by decide) (x00 (x02 (qv 0)) (x00 (x02 (qv 1)) x03 x04) x04)) (x78 x0b (x1u (x02 (qv 1)) x0b))) x0b) x0b))
  (x0e (x0p (y1t (y1t (x1u (x78 (x02 (qv 3)) (x02 (qv 3))) (z15 (x02 (qv 3)) x0b)) x0b) (x02 (qv 2)))))
def y40:x16:=x36 (x2x 1 (x0z (x01 (x05 0) x0f)) (x0q 1) x27 (x2x 1 (x0z (x01 (x05 0) x0f)) (x0q 2) x27 (eB j25 (x01 (x05 1) (x01 (x05 2) x0f))) false) false)
def x12:List D->OD:=fnD 1 (y40)
theorem y2r:FnScope ["_law_many"] ["_law_many"] (x0a (top 44)):=fsq
abbrev x81:List Str:=["_law_many","_law_one","_law_other"]
theorem y19:(x81).Nodup:=by decide +kernel
abbrev x7v:List Str:=["_law_many","_law_one"]
theorem y1g:(x7v).Nodup:=by decide +kernel
theorem y56 (B:Bt mg)(a:At K mg "_law_chain" (top 44) ["_law_many"]):Cal P w K mg base 1 "_law_chain" 1 (x12):=
 Cal.mkQ (k:=0) a y2r fun f cdv A outer s H E hr=>
  x0e (x0p (x2z (k:=1) (N':=x7v) false rfl ⟨rfl,by decide +kernel,rfl,rfl,rfl⟩ (x0r B.m_range (x00 (x02 (qv 0)) x03 x04)) (fun _ _ _ _=>x0k (i:=1) (show 1<=1 by decide) y1g rfl (Or.inr rfl) (Or.inl rfl)) (fun _ _ _ _=>x2c) (fun _ _ _ _=>x2z (k:=1) (N':=x81) false rfl ⟨rfl,by decide +kernel,rfl,rfl,rfl⟩ (x0r B.m_range (x00 (x02 (qv 0)) x03 x04)) (fun _ _ _ _=>x0k (i:=2) (show 2<=2 by decide) y19 rfl (Or.inl rfl) (Or.inr rfl)) (fun _ _ _ _=>x2c) (fun _ _ _ _=>y9u rfl B.m_max PyProof.Rows.boot_max (x00 (x02 (qv 1)) (x00 (x02 (qv 2)) x03 x04) x04)))))
def y1f:x16:=x17 (x20 2 (x1f 1))
 (x17 (x20 3 (x5j x0f))
 (x17 (x80 (x0z (x01 (e2 y5d (x1f 0) (x05 2)) x0f)) (x0q 4) (x17 (x20 5 (x5j x0f))
 (x17 (x80 (x0z (x01 (e2 y5d (x1f 0) (x05 2)) x0f)) (x0q 6) (x17 (x20 7 (eIx (x1k 0 (e2 j2x (x05 4) (x05 2))) (e2 j2x (x05 6) (x05 2))))
 (x3k (y0w 5 (x01 (e2 x41 (e2 y5d (x05 7) (x05 2)) (eIx (x1k 1 (e2 z5q (x05 4) (x05 2))) (e2 z5q (x05 6) (x05 2)))) x0f)))))
 (x3k (y0w 3 (x01 (x05 5) x0f))))))
 (x36 (x05 3))))
def x1e:List D->OD:=fnD 8 (y1f)
theorem x1z:FnScope ["_law_one","_law_other","_law_many","_law_made","_law_here","_law_row","_law_there","_law_first"] ["_law_one","_law_other"] (x0a (top 45)):=fsq
theorem y1b (B:Bt mg)(a:At K mg "_law_couples" (top 45) ["_law_one","_law_other"]):Cal P w K mg base 1 "_law_couples" 2 (x1e):=
 Cal.mkQ (k:=0) a x1z fun f cdv A outer s H E hr=>
  x08 (x0m (i:=2) x1z.nd rfl (Or.inl rfl) (x15 B.m_len (qv 1)))
  (x08 (x0m (i:=3) x1z.nd rfl (Or.inl rfl) (x2e x03))
  (x08 (x2v PassesOwn.never rfl (x0r B.m_range (x00 (x78 (x15 B.m_len (qv 0)) (x02 (qv 2))) x03 x1c)) (x0k (i:=4) (show 0<=4 by decide) x1z.nd rfl (Or.inl rfl)) (x08 (x0m (i:=5) x1z.nd rfl (Or.inl rfl) (x2e x03))
  (x08 (x2v PassesOwn.never rfl (x0r B.m_range (x00 (x78 (x15 B.m_len (qv 0)) (x02 (qv 2))) x03 x1c)) (x0k (i:=6) (show 0<=6 by decide) x1z.nd rfl (Or.inl rfl)) (x08 (x0m (i:=7) x1z.nd rfl (Or.inl rfl) (x3z (x0t (qv 0) (z15 (x02 (qv 4)) (x02 (qv 2)))) (z15 (x02 (qv 6)) (x02 (qv 2)))))
  (x0e (x2q (x30 (qv 5) (x00 (x1u (x78 (x02 (qv 7)) (x02 (qv 2))) (x3z (x0t (qv 1) (y1t (x02 (qv 4)) (x02 (qv 2)))) (y1t (x02 (qv 6)) (x02 (qv 2))))) x03 x1c))))))
  (x0e (x2q (x30 (qv 3) (x00 (x02 (qv 5)) x03 x04)))))))
  (x0e (x0p (x02 (qv 3))))))
def x7d:x16:=x17 (x20 1 (x5j x0f))
 (x17 (x80 (x0z (x01 (e2 x41 (x05 0) (eC (.int 2))) x0f)) (x0q 2) (x17 (x20 3 (x5j x0f))
 (x17 (x80 (x0z (x01 (e2 x41 (x05 0) (eC (.int 2))) x0f)) (x0q 4) (x3k (y0w 3 (x01 (eIf (z1t (x3m (e2 dIn (eC (.int 0)) (x4i (x01 (x05 2) (x01 (x05 4) x0f))))) (x3m (e2 dEq (x05 2) (x05 4)))) (eB j25 (x01 (x05 2) (x01 (x05 4) x0f))) (e2 x41 (x05 0) (eC (.int 1)))) x0f))))
 (x3k (y0w 1 (x01 (x05 3) x0f))))))
 (x36 (x05 1)))
def x0v:List D->OD:=fnD 5 (x7d)
theorem x1s:FnScope ["_law_many","_law_made","_law_one","_law_row","_law_other"] ["_law_many"] (x0a (top 46)):=fsq
theorem x7f (B:Bt mg)(a:At K mg "_law_side_by_side" (top 46) ["_law_many"]):Cal P w K mg base 1 "_law_side_by_side" 1 (x0v):=
 Cal.mkQ (k:=0) a x1s fun f cdv A outer s H E hr=>
  x08 (x0m (i:=1) x1s.nd rfl (Or.inl rfl) (x2e x03))
  (x08 (x2v PassesOwn.never rfl (x0r B.m_range (x00 (x1u (x02 (qv 0)) x0b) x03 x1c)) (x0k (i:=2) (show 0<=2 by decide) x1s.nd rfl (Or.inl rfl)) (x08 (x0m (i:=3) x1s.nd rfl (Or.inl rfl) (x2e x03))
  (x08 (x2v PassesOwn.never rfl (x0r B.m_range (x00 (x1u (x02 (qv 0)) x0b) x03 x1c)) (x0k (i:=4) (show 0<=4 by decide) x1s.nd rfl (Or.inl rfl)) (x0e (x2q (x30 (qv 3) (x00 (y3m (z2g (y4z (y73 hr x0b (x2k (x00 (x02 (qv 2)) (x00 (x02 (qv 4)) x03 x04) x04))) (y2w (x96 hr (x02 (qv 2)) (x02 (qv 4)))))) (y9u rfl B.m_max PyProof.Rows.boot_max (x00 (x02 (qv 2)) (x00 (x02 (qv 4)) x03 x04) x04)) (x1u (x02 (qv 0)) x0b)) x03 y6n)))))
  (x0e (x2q (x30 (qv 1) (x00 (x02 (qv 3)) x03 x04)))))))
  (x0e (x0p (x02 (qv 1)))))
def y0t:x16:=x17 (x20 2 (x0l x0c 3 (x01 (x05 0) (x01 (x05 1) (x01 (eC (.int 9)) x0f)))))
 (x17 (sIf (x3m (e2 dLt (x05 2) (eC (.int 3)))) (x36 (x0l x12 1 (x01 (e2 x41 (eC (.int 1)) (x0l x0c 3 (x01 (x05 0) (x01 (e2 x41 (x05 1) (eC (.int 1))) (x01 (eC (.int 5)) x0f))))) x0f))) x6i)
 (x17 (sIf (x3m (e2 dLt (x05 2) (eC (.int 5)))) (x36 (x0l x1e 2 (x01 (x0l x12 1 (x01 (eC (.int 2)) x0f)) (x01 (x0l x12 1 (x01 (eIx (x5j (x01 (eC (.int 2)) (x01 (eC (.int 3)) (x01 (eC (.int 4)) x0f)))) (x0l x0c 3 (x01 (x05 0) (x01 (e2 x41 (x05 1) (eC (.int 1))) (x01 (eC (.int 3)) x0f))))) x0f)) x0f)))) x6i)
 (x17 (sIf (x3m (e2 dLt (x05 2) (eC (.int 7)))) (x36 (x0l x0v 1 (x01 (x0l x0c 3 (x01 (x05 0) (x01 (e2 x41 (x05 1) (eC (.int 1))) (x01 (eC (.int 5)) x0f)))) x0f))) x6i)
 (x17 (sIf (x3m (e2 dEq (x05 2) (eC (.int 7)))) (x36 (x0l x1e 2 (x01 (x0l x12 1 (x01 (eC (.int 2)) x0f)) (x01 (x0l x1e 2 (x01 (x0l x12 1 (x01 (eC (.int 2)) x0f)) (x01 (x0l x12 1 (x01 (eC (.int 2)) x0f)) x0f))) x0f)))) x6i)
 (x17 (x20 3 (x5j (x01 (x5j (x01 (eC (.int 0)) (x01 (eC (.int 1)) (x01 (eC (.int 2)) (x01 (eC (.int 3)) (x01 (eC (.int 4)) x0f)))))) (x01 (x5j (x01 (eC (.int 1)) (x01 (eC (.int 1)) (x01 (eC (.int 2)) (x01 (eC (.int 4)) (x01 (eC (.int 4)) x0f)))))) (x01 (x5j (x01 (eC (.int 2)) (x01 (eC (.int 2)) (x01 (eC (.int 2)) (x01 (eC (.int 4)) (x01 (eC (.int 4)) x0f)))))) (x01 (x5j (x01 (eC (.int 3)) (x01 (eC (.int 4)) (x01 (eC (.int 4)) (x01 (eC (.int 3)) (x01 (eC (.int 4)) x0f)))))) (x01 (x5j (x01 (eC (.int 4)) (x01 (eC (.int 4)) (x01 (eC (.int 4)) (x01 (eC (.int 4)) (x01 (eC (.int 4)) x0f)))))) x0f)))))))
 (x36 (x05 3)))))))
def x4r:List D->OD:=fnD 4 (y0t)
theorem x67:FnScope ["_law_script","_law_at","_law_kind","_law_rows"] ["_law_script","_law_at"] (x0a (top 47)):=fsq
theorem y6h (B:Bt mg)(c11:Cal P w K mg base 2 "_law_pick" 3 x0c)(c5:Cal P w K mg base 1 "_law_chain" 1 x12)(c7:Cal P w K mg base 1 "_law_couples" 2 x1e)(c13:Cal P w K mg base 1 "_law_side_by_side" 1 x0v)(a:At K mg "_law_base" (top 47) ["_law_script","_law_at"]):Cal P w K mg base 3 "_law_base" 2 (x4r):=
 Cal.mkQ (k:=2) a x67 fun f cdv A outer s H E hr=>
  x08 (x0m (i:=2) x67.nd rfl (Or.inl rfl) (x09 c11 hr (by decide) (x00 (x02 (qv 0)) (x00 (x02 (qv 1)) (x00 x0b x03 x07) x04) x04)))
  (x08 (x33 (y7b (x02 (qv 2)) x0b) (x0e (x0p (x09 c5 hr (by decide) (x00 (x1u x0b (x09 c11 hr (by decide) (x00 (x02 (qv 0)) (x00 (x1u (x02 (qv 1)) x0b) (x00 x0b x03 x07) x1c) x04))) x03 x1c)))) x1v)
  (x08 (x33 (y7b (x02 (qv 2)) x0b) (x0e (x0p (x09 c7 hr (by decide) (x00 (x09 c5 hr (by decide) (x00 x0b x03 x07)) (x00 (x09 c5 hr (by decide) (x00 (x3z (x2e (x00 x0b (x00 x0b (x00 x0b x03 x07) x07) x07)) (x09 c11 hr (by decide) (x00 (x02 (qv 0)) (x00 (x1u (x02 (qv 1)) x0b) (x00 x0b x03 x07) x1c) x04))) x03 x0y)) x03 x0j) x0j)))) x1v)
  (x08 (x33 (y7b (x02 (qv 2)) x0b) (x0e (x0p (x09 c13 hr (by decide) (x00 (x09 c11 hr (by decide) (x00 (x02 (qv 0)) (x00 (x1u (x02 (qv 1)) x0b) (x00 x0b x03 x07) x1c) x04)) x03 x0j)))) x1v)
  (x08 (x33 (x96 hr (x02 (qv 2)) x0b) (x0e (x0p (x09 c7 hr (by decide) (x00 (x09 c5 hr (by decide) (x00 x0b x03 x07)) (x00 (x09 c7 hr (by decide) (x00 (x09 c5 hr (by decide) (x00 x0b x03 x07)) (x00 (x09 c5 hr (by decide) (x00 x0b x03 x07)) x03 x0j) x0j)) x03 x0j) x0j)))) x1v)
  (x08 (x0m (i:=3) x67.nd rfl (Or.inl rfl) (x2e (x00 (x2e (x00 x0b (x00 x0b (x00 x0b (x00 x0b (x00 x0b x03 x07) x07) x07) x07) x07)) (x00 (x2e (x00 x0b (x00 x0b (x00 x0b (x00 x0b (x00 x0b x03 x07) x07) x07) x07) x07)) (x00 (x2e (x00 x0b (x00 x0b (x00 x0b (x00 x0b (x00 x0b x03 x07) x07) x07) x07) x07)) (x00 (x2e (x00 x0b (x00 x0b (x00 x0b (x00 x0b (x00 x0b x03 x07) x07) x07) x07) x07)) (x00 (x2e (x00 x0b (x00 x0b (x00 x0b (x00 x0b (x00 x0b x03 x07) x07) x07) x07) x07)) x03 y12) y12) y12) y12) y12)))
  (x0e (x0p (x02 (qv 3)))))))))
def x7u:x16:=x17 (x20 2 (x0l x4r 2 (x01 (x05 0) (x01 (x05 1) x0f))))
 (x17 (x20 3 (x6a (x01 (x1f 2) x0f)))
 (x17 (x20 4 (x2x 1 (x0z (x01 (x1f 2) x0f)) (x0q 8) x27 (j08 3 (x01 (x0l x0c 3 (x01 (x05 0) (x01 (e2 x41 (e2 x41 (x05 1) (eC (.int 2))) (x05 8)) (x01 (x1f 3) x0f)))) x0f)) false))
 (x17 (x20 5 (x2x 1 (x9m (x05 2)) (x0q 8) x27 (y65 (x5j (x01 (eC (.int 0)) x0f)) (x1f 2)) true))
 (x17 (x80 (x0z (x01 (x1f 2) x0f)) (x0q 6) (x80 (x0z (x01 (x1f 2) x0f)) (x0q 7) (y7r 5 (qIx 4 (z68 6)) (qIx 4 (z68 7)) (x1k 4 (eIx (x1k 2 (x05 6)) (x05 7))))))
 (x36 (x2l (x01 (x2x 1 (x9m (x05 5)) (x0q 8) x27 (x2l (x01 (x05 8) x0f)) false) x0f)))))))
def x3s:List D->OD:=fnD 8 (x7u)
theorem x29:FnScope ["_law_script","_law_at","_law_base_here","_law_left","_law_name","_law_made","_law_one","_law_other"] ["_law_script","_law_at"] (x0a (top 48)):=fsq
abbrev x74:List Str:=["_law_script","_law_at","_law_base_here","_law_left","_law_name","_law_made","_law_one","_law_other","_law_k"]
theorem y0c:(x74).Nodup:=by decide +kernel
abbrev x50:List Str:=["_law_script","_law_at","_law_base_here","_law_left","_law_name","_law_made","_law_one","_law_other","_law_row"]
theorem x6j:(x50).Nodup:=by decide +kernel
theorem y3q (B:Bt mg)(c3:Cal P w K mg base 3 "_law_base" 2 x4r)(c11:Cal P w K mg base 2 "_law_pick" 3 x0c)(a:At K mg "_law_ladder" (top 48) ["_law_script","_law_at"]):Cal P w K mg base 4 "_law_ladder" 2 (x3s):=
 Cal.mkQ (k:=3) a x29 fun f cdv A outer s H E hr=>
  x08 (x0m (i:=2) x29.nd rfl (Or.inr rfl) (x09 c3 hr (by decide) (x00 (x02 (qv 0)) (x00 (x02 (qv 1)) x03 x04) x04)))
  (x08 (x0m (i:=3) x29.nd rfl (Or.inr rfl) (x9x rfl B.m_list PyProof.Rows.boot_list B.m_range (x00 (x15 B.m_len (qv 2)) x03 x0j)))
  (x08 (x9y (i:=4) (k:=1) (N':=x74) false x29.nd rfl (Or.inl rfl) rfl rfl ⟨rfl,by decide +kernel,rfl,rfl,rfl⟩ (x0r B.m_range (x00 (x15 B.m_len (qv 2)) x03 x0j)) (fun _ _ _ _=>x0k (i:=8) (show 8<=8 by decide) y0c rfl (Or.inl rfl) (Or.inr rfl)) (fun _ _ _ _=>x2c) (fun _ _ _ _=>j3w (qv 3) (x00 (x09 c11 hr (by decide) (x00 (x02 (qv 0)) (x00 (x1u (x1u (x02 (qv 1)) x0b) (x02 (qv 8))) (x00 (x15 B.m_len (qv 3)) x03 x0j) x1c) x04)) x03 x0j)))
  (x08 (x9y (i:=5) (k:=1) (N':=x50) true x29.nd rfl (Or.inl rfl) rfl rfl ⟨rfl,by decide +kernel,rfl,rfl,rfl⟩ (x4c (x02 (qv 2))) (fun _ _ _ _=>x0k (i:=8) (show 8<=8 by decide) x6j rfl (Or.inl rfl) (Or.inr rfl)) (fun _ _ _ _=>x2c) (fun _ _ _ _=>z00 (x2e (x00 x0b x03 x07)) (x15 B.m_len (qv 2))))
  (x08 (x2v PassesOwn.never rfl (x0r B.m_range (x00 (x15 B.m_len (qv 2)) x03 x0j)) (x0k (i:=6) (show 0<=6 by decide) x29.nd rfl (Or.inl rfl)) (x0e (x2v PassesOwn.never rfl (x0r B.m_range (x00 (x15 B.m_len (qv 2)) x03 x0j)) (x0k (i:=7) (show 0<=7 by decide) x29.nd rfl (Or.inl rfl)) (x0e (z4w (qv 5) (j39 (qv 4) (z5j (qv 6))) (j39 (qv 4) (z5j (qv 7))) (x0t (qv 4) (x3z (x0t (qv 2) (x02 (qv 6))) (x02 (qv 7)))))))))
  (x0e (x0p (x2n B.m_tuple PyProof.Rows.boot_tuple (x00 (x2z (k:=1) (N':=x50) false rfl ⟨rfl,by decide +kernel,rfl,rfl,rfl⟩ (x4c (x02 (qv 5))) (fun _ _ _ _=>x0k (i:=8) (show 8<=8 by decide) x6j rfl (Or.inl rfl) (Or.inr rfl)) (fun _ _ _ _=>x2c) (fun _ _ _ _=>x2n B.m_tuple PyProof.Rows.boot_tuple (x00 (x02 (qv 8)) x03 x04))) x03 x26))))))))
def y28:x16:=x36 (eIx (x2x 1 (x0z (x01 (x1f 0) x0f)) (x0q 1) (x3m (e2 dEq (x8l (x01 (x1k 0 (x05 1)) x0f)) (x6a (x01 (x1f 0) x0f)))) (x05 1) false) (eC (.int 0)))
def x35:List D->OD:=fnD 1 (y28)
theorem y5z:FnScope ["_law_ladder_here"] ["_law_ladder_here"] (x0a (top 49)):=fsq
abbrev y15:List Str:=["_law_ladder_here","_law_worth"]
theorem y4j:(y15).Nodup:=by decide +kernel
theorem y8n (B:Bt mg)(a:At K mg "_law_low" (top 49) ["_law_ladder_here"]):Cal P w K mg base 1 "_law_low" 1 (x35):=
 Cal.mkQ (k:=0) a y5z fun f cdv A outer s H E hr=>
  x0e (x0p (x3z (x2z (k:=1) (N':=y15) false rfl ⟨rfl,by decide +kernel,rfl,rfl,rfl⟩ (x0r B.m_range (x00 (x15 B.m_len (qv 0)) x03 x0j)) (fun _ _ _ _=>x0k (i:=1) (show 1<=1 by decide) y4j rfl (Or.inl rfl) (Or.inr rfl)) (fun _ _ _ _=>x6y (x96 hr (z06 B.m_list PyProof.Rows.boot_list (x00 (x0t (qv 0) (x02 (qv 1))) x03 x0y)) (x9x rfl B.m_list PyProof.Rows.boot_list B.m_range (x00 (x15 B.m_len (qv 0)) x03 x0j)))) (fun _ _ _ _=>x02 (qv 1))) x0b))
def y0o:x16:=x17 (x20 2 (x0l x35 1 (x01 (x05 0) x0f)))
 (x17 (x80 (x9m (x05 1)) (x0q 3) (x20 2 (eIx (x1k 0 (x05 2)) (x05 3))))
 (x36 (x05 2)))
def x3d:List D->OD:=fnD 4 (y0o)
theorem x4w:FnScope ["_law_ladder_here","_law_worths","_law_here","_law_worth"] ["_law_ladder_here","_law_worths"] (x0a (top 50)):=fsq
theorem y5o (B:Bt mg)(c10:Cal P w K mg base 1 "_law_low" 1 x35)(a:At K mg "_law_join" (top 50) ["_law_ladder_here","_law_worths"]):Cal P w K mg base 2 "_law_join" 2 (x3d):=
 Cal.mkQ (k:=1) a x4w fun f cdv A outer s H E hr=>
  x08 (x0m (i:=2) x4w.nd rfl (Or.inl rfl) (x09 c10 hr (by decide) (x00 (x02 (qv 0)) x03 x04)))
  (x08 (x2v PassesOwn.never rfl (x4c (x02 (qv 1))) (x0k (i:=3) (show 0<=3 by decide) x4w.nd rfl (Or.inl rfl)) (x0e (x0m (i:=2) x4w.nd rfl (Or.inl rfl) (x3z (x0t (qv 0) (x02 (qv 2))) (x02 (qv 3))))))
  (x0e (x0p (x02 (qv 2)))))
def x9h:x16:=x36 (x2x 1 (x0z (x01 (x1f 0) x0f)) (x0q 2) (x3m (e2 dEq (eIx (x1k 0 (x05 2)) (x05 1)) (x05 1))) (x05 2) false)
def x2j:List D->OD:=fnD 2 (x9h)
theorem y38:FnScope ["_law_ladder_here","_law_worth"] ["_law_ladder_here","_law_worth"] (x0a (top 51)):=fsq
abbrev x8h:List Str:=["_law_ladder_here","_law_worth","_law_one"]
theorem y1j:(x8h).Nodup:=by decide +kernel
theorem y45 (B:Bt mg)(a:At K mg "_law_under" (top 51) ["_law_ladder_here","_law_worth"]):Cal P w K mg base 1 "_law_under" 2 (x2j):=
 Cal.mkQ (k:=0) a y38 fun f cdv A outer s H E hr=>
  x0e (x0p (x2z (k:=1) (N':=x8h) false rfl ⟨rfl,by decide +kernel,rfl,rfl,rfl⟩ (x0r B.m_range (x00 (x15 B.m_len (qv 0)) x03 x0j)) (fun _ _ _ _=>x0k (i:=2) (show 2<=2 by decide) y1j rfl (Or.inl rfl) (Or.inr rfl)) (fun _ _ _ _=>x6y (x96 hr (x3z (x0t (qv 0) (x02 (qv 2))) (x02 (qv 1))) (x02 (qv 1)))) (fun _ _ _ _=>x02 (qv 2))))
def y0x:x16:=x17 (x20 3 (x0l x35 1 (x01 (x05 2) x0f)))
 (x17 (x20 4 (x5j x0f))
 (x17 (x80 (x0z (x01 (x1f 2) x0f)) (x0q 5) (x3k (y0w 4 (x01 (eIx (x5j (x01 (x05 3) (x01 (x05 5) (x01 (x0l x0c 3 (x01 (x05 0) (x01 (e2 x41 (x05 1) (x05 5)) (x01 (x1f 2) x0f)))) x0f)))) (x0l x0c 3 (x01 (x05 0) (x01 (e2 x41 (e2 x41 (x05 1) (eC (.int 8))) (x05 5)) (x01 (eC (.int 3)) x0f))))) x0f))))
 (x17 (x20 6 (x5j x0f))
 (x17 (x80 (x0z (x01 (x1f 2) x0f)) (x0q 5) (x3k (y0w 6 (x01 (x0l x3d 2 (x01 (x05 2) (x01 (x2x 1 (x9m (x0l x2j 2 (x01 (x05 2) (x01 (x05 5) x0f)))) (x0q 7) x27 (x1k 4 (x05 7)) false) x0f))) x0f))))
 (x36 (x2l (x01 (x05 6) x0f)))))))
def x28:List D->OD:=fnD 7 (y0x)
theorem x3i:FnScope ["_law_script","_law_at","_law_ladder_here","_law_low_here","_law_drawn","_law_worth","_law_made"] ["_law_script","_law_at","_law_ladder_here"] (x0a (top 52)):=fsq
abbrev x99:List Str:=["_law_script","_law_at","_law_ladder_here","_law_low_here","_law_drawn","_law_worth","_law_made","_law_one"]
theorem y3b:(x99).Nodup:=by decide +kernel
theorem y64 (B:Bt mg)(c10:Cal P w K mg base 1 "_law_low" 1 x35)(c11:Cal P w K mg base 2 "_law_pick" 3 x0c)(c8:Cal P w K mg base 2 "_law_join" 2 x3d)(c17:Cal P w K mg base 1 "_law_under" 2 x2j)(a:At K mg "_law_rule" (top 52) ["_law_script","_law_at","_law_ladder_here"]):Cal P w K mg base 3 "_law_rule" 3 (x28):=
 Cal.mkQ (k:=2) a x3i fun f cdv A outer s H E hr=>
  x08 (x0m (i:=3) x3i.nd rfl (Or.inl rfl) (x09 c10 hr (by decide) (x00 (x02 (qv 2)) x03 x04)))
  (x08 (x0m (i:=4) x3i.nd rfl (Or.inr rfl) (x2e x03))
  (x08 (x2v PassesOwn.never rfl (x0r B.m_range (x00 (x15 B.m_len (qv 2)) x03 x0j)) (x0k (i:=5) (show 0<=5 by decide) x3i.nd rfl (Or.inl rfl)) (x0e (x2q (x30 (qv 4) (x00 (x3z (x2e (x00 (x02 (qv 3)) (x00 (x02 (qv 5)) (x00 (x09 c11 hr (by decide) (x00 (x02 (qv 0)) (x00 (x1u (x02 (qv 1)) (x02 (qv 5))) (x00 (x15 B.m_len (qv 2)) x03 x0j) x1c) x04)) x03 x0j) x04) x04)) (x09 c11 hr (by decide) (x00 (x02 (qv 0)) (x00 (x1u (x1u (x02 (qv 1)) x0b) (x02 (qv 5))) (x00 x0b x03 x07) x1c) x04))) x03 x0y)))))
  (x08 (x0m (i:=6) x3i.nd rfl (Or.inl rfl) (x2e x03))
  (x08 (x2v PassesOwn.never rfl (x0r B.m_range (x00 (x15 B.m_len (qv 2)) x03 x0j)) (x0k (i:=5) (show 0<=5 by decide) x3i.nd rfl (Or.inl rfl)) (x0e (x2q (x30 (qv 6) (x00 (x09 c8 hr (by decide) (x00 (x02 (qv 2)) (x00 (x2z (k:=1) (N':=x99) false rfl ⟨rfl,by decide +kernel,rfl,rfl,rfl⟩ (x4c (x09 c17 hr (by decide) (x00 (x02 (qv 2)) (x00 (x02 (qv 5)) x03 x04) x04))) (fun _ _ _ _=>x0k (i:=7) (show 7<=7 by decide) y3b rfl (Or.inl rfl) (Or.inr rfl)) (fun _ _ _ _=>x2c) (fun _ _ _ _=>x0t (qv 4) (x02 (qv 7)))) x03 x26) x04)) x03 x0j)))))
  (x0e (x0p (x2n B.m_tuple PyProof.Rows.boot_tuple (x00 (x02 (qv 6)) x03 x04))))))))
def x79:x16:=x17 (x80 (x0z (x01 (x1f 0) x0f)) (x0q 2) (x80 (x0z (x01 (x05 2) x0f)) (x0q 3) (x17 (x20 4 (eIx (x1k 0 (x1k 1 (x05 2))) (x1k 1 (x05 3))))
 (sIf (x3m (e2 dNe (x1k 1 (eIx (x1k 0 (x05 2)) (x05 3))) (x05 4))) (x36 (eC (.bl false))) x6i))))
 (x36 (eC (.bl true)))
def x3a:List D->OD:=fnD 5 (x79)
theorem x3o:FnScope ["_law_ladder_here","_law_rule_here","_law_one","_law_other","_law_due"] ["_law_ladder_here","_law_rule_here"] (x0a (top 53)):=fsq
theorem y1l (B:Bt mg)(a:At K mg "_law_spreads" (top 53) ["_law_ladder_here","_law_rule_here"]):Cal P w K mg base 1 "_law_spreads" 2 (x3a):=
 Cal.mkQ (k:=0) a x3o fun f cdv A outer s H E hr=>
  x08 (x2v PassesOwn.never rfl (x0r B.m_range (x00 (x15 B.m_len (qv 0)) x03 x0j)) (x0k (i:=2) (show 0<=2 by decide) x3o.nd rfl (Or.inl rfl)) (x0e (x2v PassesOwn.never rfl (x0r B.m_range (x00 (x02 (qv 2)) x03 x04)) (x0k (i:=3) (show 0<=3 by decide) x3o.nd rfl (Or.inl rfl)) (x08 (x0m (i:=4) x3o.nd rfl (Or.inl rfl) (x3z (x0t (qv 0) (x0t (qv 1) (x02 (qv 2)))) (x0t (qv 1) (x02 (qv 3)))))
  (x0e (x33 (x6d hr (x0t (qv 1) (x3z (x0t (qv 0) (x02 (qv 2))) (x02 (qv 3)))) (x02 (qv 4))) (x0e (x0p y0u)) x1v))))))
  (x0e (x0p y0u))
def x3r:x16:=x17 (x20 3 (x0l x28 3 (x01 (x05 0) (x01 (x05 1) (x01 (x05 2) x0f)))))
 (x17 (sIf (y2c (x0l x3a 2 (x01 (x05 2) (x01 (x05 3) x0f)))) (x36 (x05 3)) x6i)
 (x17 (x20 4 (x0l x0c 3 (x01 (x05 0) (x01 (e2 x41 (x05 1) (eC (.int 17))) (x01 (x1f 2) x0f)))))
 (x17 (x20 5 (x5j (x01 (x2l (x01 (x6a (x01 (x1f 2) x0f)) x0f)) (x01 (z0k (x4i (x01 (x05 4) x0f)) (x1f 2)) x0f))))
 (x17 (x3k (y0w 5 (x01 (x2l (x01 (x2x 1 (x0z (x01 (x1f 2) x0f)) (x0q 6) x27 (eIx (x1k 2 (x05 6)) (x05 4)) false) x0f)) x0f)))
 (x36 (x1k 5 (x0l x0c 3 (x01 (x05 0) (x01 (e2 x41 (x05 1) (eC (.int 16))) (x01 (eC (.int 3)) x0f))))))))))
def x1g:List D->OD:=fnD 6 (x3r)
theorem x2m:FnScope ["_law_script","_law_at","_law_ladder_here","_law_rule_here","_law_worth","_law_some"] ["_law_script","_law_at","_law_ladder_here"] (x0a (top 54)):=fsq
abbrev x4m:List Str:=["_law_script","_law_at","_law_ladder_here","_law_rule_here","_law_worth","_law_some","_law_one"]
theorem x6z:(x4m).Nodup:=by decide +kernel
theorem x86 (B:Bt mg)(c12:Cal P w K mg base 3 "_law_rule" 3 x28)(c15:Cal P w K mg base 1 "_law_spreads" 2 x3a)(c11:Cal P w K mg base 2 "_law_pick" 3 x0c)(a:At K mg "_law_spread_rule" (top 54) ["_law_script","_law_at","_law_ladder_here"]):Cal P w K mg base 4 "_law_spread_rule" 3 (x1g):=
 Cal.mkQ (k:=3) a x2m fun f cdv A outer s H E hr=>
  x08 (x0m (i:=3) x2m.nd rfl (Or.inl rfl) (x09 c12 hr (by decide) (x00 (x02 (qv 0)) (x00 (x02 (qv 1)) (x00 (x02 (qv 2)) x03 x04) x04) x04)))
  (x08 (x33 (x4d (x09 c15 hr (by decide) (x00 (x02 (qv 2)) (x00 (x02 (qv 3)) x03 x04) x04))) (x0e (x0p (x02 (qv 3)))) x1v)
  (x08 (x0m (i:=4) x2m.nd rfl (Or.inr rfl) (x09 c11 hr (by decide) (x00 (x02 (qv 0)) (x00 (x1u (x02 (qv 1)) x0b) (x00 (x15 B.m_len (qv 2)) x03 x0j) x1c) x04)))
  (x08 (x0m (i:=5) x2m.nd rfl (Or.inl rfl) (x2e (x00 (x2n B.m_tuple PyProof.Rows.boot_tuple (x00 (x9x rfl B.m_list PyProof.Rows.boot_list B.m_range (x00 (x15 B.m_len (qv 2)) x03 x0j)) x03 x0j)) (x00 (z9y (x2k (x00 (x02 (qv 4)) x03 x04)) (x15 B.m_len (qv 2))) x03 x1c) x0j)))
  (x08 (x2q (x30 (qv 5) (x00 (x2n B.m_tuple PyProof.Rows.boot_tuple (x00 (x2z (k:=1) (N':=x4m) false rfl ⟨rfl,by decide +kernel,rfl,rfl,rfl⟩ (x0r B.m_range (x00 (x15 B.m_len (qv 2)) x03 x0j)) (fun _ _ _ _=>x0k (i:=6) (show 6<=6 by decide) x6z rfl (Or.inl rfl) (Or.inr rfl)) (fun _ _ _ _=>x2c) (fun _ _ _ _=>x3z (x0t (qv 2) (x02 (qv 6))) (x02 (qv 4)))) x03 x26)) x03 x0j)))
  (x0e (x0p (x0t (qv 5) (x09 c11 hr (by decide) (x00 (x02 (qv 0)) (x00 (x1u (x02 (qv 1)) x0b) (x00 x0b x03 x07) x1c) x04)))))))))
abbrev x5w:x16:=x17 (x20 7 (e2 x41 (e2 x41 (x05 1) (eC (.int 10))) (e2 y5d (eC (.int 22)) (x05 6))))
 (x17 (x20 8 (x0l x28 3 (x01 (x05 0) (x01 (e2 x41 (x05 7) (eC (.int 2))) (x01 (x05 2) x0f)))))
 (x17 (sIf (y2c (x05 3)) (x20 8 (x0l x1g 3 (x01 (x05 0) (x01 (e2 x41 (x05 7) (eC (.int 2))) (x01 (x05 2) x0f))))) x6i)
 (x3k (y0w 5 (x01 (x4i (x01 (x0l x0c 3 (x01 (x05 0) (x01 (x05 7) (x01 (x05 4) x0f)))) (x01 (x0l x0c 3 (x01 (x05 0) (x01 (e2 x41 (x05 7) (eC (.int 1))) (x01 (x05 4) x0f)))) (x01 (x05 8) x0f)))) x0f)))))
abbrev x5y:x16:=x17 (x20 10 (x0l x0c 3 (x01 (x05 0) (x01 (e2 x41 (e2 x41 (x05 1) (eC (.int 3))) (e2 y5d (eC (.int 2)) (x05 6))) (x01 (x1f 2) x0f)))))
 (x3k (y0w 9 (x01 (x4i (x01 (x0l x0c 3 (x01 (x05 0) (x01 (e2 x41 (e2 x41 (x05 1) (eC (.int 4))) (e2 y5d (eC (.int 2)) (x05 6))) (x01 (x05 4) x0f)))) (x01 (x05 10) x0f))) x0f)))
def x97:x16:=x17 (x20 4 (e2 x41 (eC (.int 1)) (x0l x0c 3 (x01 (x05 0) (x01 (x05 1) (x01 (eC (.int 5)) x0f))))))
 (x17 (x20 5 (x5j x0f))
 (x17 (x80 (x0z (x01 (x0l x0c 3 (x01 (x05 0) (x01 (e2 x41 (x05 1) (eC (.int 1))) (x01 (eC (.int 8)) x0f)))) x0f)) (x0q 6) (x17 (x20 7 (e2 x41 (e2 x41 (x05 1) (eC (.int 10))) (e2 y5d (eC (.int 22)) (x05 6))))
 (x17 (x20 8 (x0l x28 3 (x01 (x05 0) (x01 (e2 x41 (x05 7) (eC (.int 2))) (x01 (x05 2) x0f)))))
 (x17 (sIf (y2c (x05 3)) (x20 8 (x0l x1g 3 (x01 (x05 0) (x01 (e2 x41 (x05 7) (eC (.int 2))) (x01 (x05 2) x0f))))) x6i)
 (x3k (y0w 5 (x01 (x4i (x01 (x0l x0c 3 (x01 (x05 0) (x01 (x05 7) (x01 (x05 4) x0f)))) (x01 (x0l x0c 3 (x01 (x05 0) (x01 (e2 x41 (x05 7) (eC (.int 1))) (x01 (x05 4) x0f)))) (x01 (x05 8) x0f)))) x0f)))))))
 (x17 (x20 9 (x5j x0f))
 (x17 (x80 (x0z (x01 (x0l x0c 3 (x01 (x05 0) (x01 (e2 x41 (x05 1) (eC (.int 2))) (x01 (eC (.int 4)) x0f)))) x0f)) (x0q 6) (x17 (x20 10 (x0l x0c 3 (x01 (x05 0) (x01 (e2 x41 (e2 x41 (x05 1) (eC (.int 3))) (e2 y5d (eC (.int 2)) (x05 6))) (x01 (x1f 2) x0f)))))
 (x3k (y0w 9 (x01 (x4i (x01 (x0l x0c 3 (x01 (x05 0) (x01 (e2 x41 (e2 x41 (x05 1) (eC (.int 4))) (e2 y5d (eC (.int 2)) (x05 6))) (x01 (x05 4) x0f)))) (x01 (x05 10) x0f))) x0f)))))
 (x36 (x4i (x01 (x05 4) (x01 (x2l (x01 (x05 5) x0f)) (x01 (x2l (x01 (x05 9) x0f)) x0f)))))))))
def x3f:List D->OD:=fnD 11 (x97)
theorem x1n:FnScope ["_law_script","_law_at","_law_ladder_here","_law_spread","_law_places","_law_ways","_law_k","_law_base_here","_law_rule_here","_law_begins","_law_worth"] ["_law_script","_law_at","_law_ladder_here","_law_spread"] (x0a (top 55)):=fsq
theorem y4k (B:Bt mg)(c11:Cal P w K mg base 2 "_law_pick" 3 x0c)(c12:Cal P w K mg base 3 "_law_rule" 3 x28)(c14:Cal P w K mg base 4 "_law_spread_rule" 3 x1g)(a:At K mg "_law_chart" (top 55) ["_law_script","_law_at","_law_ladder_here","_law_spread"]):Cal P w K mg base 5 "_law_chart" 4 (x3f):=
 Cal.mkQ (k:=4) a x1n fun f cdv A outer s H E hr=>
  x08 (x0m (i:=4) x1n.nd rfl (Or.inl rfl) (x1u x0b (x09 c11 hr (by decide) (x00 (x02 (qv 0)) (x00 (x02 (qv 1)) (x00 x0b x03 x07) x04) x04))))
  (x08 (x0m (i:=5) x1n.nd rfl (Or.inl rfl) (x2e x03))
  (x08 (x2v PassesOwn.never rfl (x0r B.m_range (x00 (x09 c11 hr (by decide) (x00 (x02 (qv 0)) (x00 (x1u (x02 (qv 1)) x0b) (x00 x0b x03 x07) x1c) x04)) x03 x0j)) (x0k (i:=6) (show 0<=6 by decide) x1n.nd rfl (Or.inl rfl)) (x08 (x0m (i:=7) x1n.nd rfl (Or.inl rfl) (x1u (x1u (x02 (qv 1)) x0b) (x78 x0b (x02 (qv 6)))))
  (x08 (x0m (i:=8) x1n.nd rfl (Or.inl rfl) (x09 c12 hr (by decide) (x00 (x02 (qv 0)) (x00 (x1u (x02 (qv 7)) x0b) (x00 (x02 (qv 2)) x03 x04) x1c) x04)))
  (x08 (x33 (x4d (x02 (qv 3))) (x0e (x0m (i:=8) x1n.nd rfl (Or.inl rfl) (x09 c14 hr (by decide) (x00 (x02 (qv 0)) (x00 (x1u (x02 (qv 7)) x0b) (x00 (x02 (qv 2)) x03 x04) x1c) x04)))) x1v)
  (x0e (x2q (x30 (qv 5) (x00 (x2k (x00 (x09 c11 hr (by decide) (x00 (x02 (qv 0)) (x00 (x02 (qv 7)) (x00 (x02 (qv 4)) x03 x04) x04) x04)) (x00 (x09 c11 hr (by decide) (x00 (x02 (qv 0)) (x00 (x1u (x02 (qv 7)) x0b) (x00 (x02 (qv 4)) x03 x04) x1c) x04)) (x00 (x02 (qv 8)) x03 x04) x0j) x0j)) x03 x49))))))))
  (x08 (x0m (i:=9) x1n.nd rfl (Or.inl rfl) (x2e x03))
  (x08 (x2v PassesOwn.never rfl (x0r B.m_range (x00 (x09 c11 hr (by decide) (x00 (x02 (qv 0)) (x00 (x1u (x02 (qv 1)) x0b) (x00 x0b x03 x07) x1c) x04)) x03 x0j)) (x0k (i:=6) (show 0<=6 by decide) x1n.nd rfl (Or.inl rfl)) (x08 (x0m (i:=10) x1n.nd rfl (Or.inl rfl) (x09 c11 hr (by decide) (x00 (x02 (qv 0)) (x00 (x1u (x1u (x02 (qv 1)) x0b) (x78 x0b (x02 (qv 6)))) (x00 (x15 B.m_len (qv 2)) x03 x0j) x1c) x04)))
  (x0e (x2q (x30 (qv 9) (x00 (x2k (x00 (x09 c11 hr (by decide) (x00 (x02 (qv 0)) (x00 (x1u (x1u (x02 (qv 1)) x0b) (x78 x0b (x02 (qv 6)))) (x00 (x02 (qv 4)) x03 x04) x1c) x04)) (x00 (x02 (qv 10)) x03 x04) x0j)) x03 x49))))))
  (x0e (x0p (x2k (x00 (x02 (qv 4)) (x00 (x2n B.m_tuple PyProof.Rows.boot_tuple (x00 (x02 (qv 5)) x03 x04)) (x00 (x2n B.m_tuple PyProof.Rows.boot_tuple (x00 (x02 (qv 9)) x03 x04)) x03 x0j) x0j) x04))))))))
def y5q:x16:=x17 (x20 1 (x5j (x01 (z59 ["NoPlace","NoRule"] "NoHouse" (x05 0)) (x01 (z59 ["NoPlace","NoRule"] "NoMap" (x05 0)) (x01 (z59 ["NoPlace","NoRule"] "NoPlace" (x05 0)) (x01 (z59 ["NoPlace","NoRule"] "NoRule" (x05 0)) x0f))))))
 (x17 (x3k (j4c 1 (x5j (x01 (z59 ["NoPlace","NoRule"] "NoStep" (x05 0)) (x01 (z59 ["NoPlace","NoRule"] "TooGreat" (x05 0)) x0f)))))
 (x17 (sIf (z1t (x3m (e2 dNe (j4i (x05 1) (x01 (eC (.bl true)) x0f)) (eC (.int 1)))) (x8b (y2c (j4n (x05 0))))) (x36 (eC (.str "wrong"))) x6i)
 (x36 (eIx (x5j (x01 (eC (.str "no house")) (x01 (eC (.str "no map")) (x01 (eC (.str "no place")) (x01 (eC (.str "no rule")) (x01 (eC (.str "no step")) (x01 (eC (.str "too great")) x0f))))))) (y3s (x05 1) (x01 (eC (.bl true)) x0f))))))
def x47:List D->OD:=fnD 2 (y5q)
theorem x98:FnScope ["_law_kept","_law_kinds"] ["_law_kept"] (x0a (top 56)):=fsq
theorem y5m (B:Bt mg)(T:Xt K mg)(a:At K mg "_law_word" (top 56) ["_law_kept"]):Cal P w K mg base 1 "_law_word" 1 (x47):=
 Cal.mkQ (k:=0) a x98 fun f cdv A outer s H E hr=>
  x08 (x0m (i:=1) x98.nd rfl (Or.inl rfl) (x2e (x00 (y1u T.i_NoHouse B.m_isinstance (x02 (qv 0))) (x00 (y1u T.i_NoMap B.m_isinstance (x02 (qv 0))) (x00 (y1u T.i_NoPlace B.m_isinstance (x02 (qv 0))) (x00 (y1u T.i_NoRule B.m_isinstance (x02 (qv 0))) x03 x0j) x0j) x0j) x0j)))
  (x08 (x2q (y8y (qv 1) (x2e (x00 (y1u T.i_NoStep B.m_isinstance (x02 (qv 0))) (x00 (y1u T.i_TooGreat B.m_isinstance (x02 (qv 0))) x03 x0j) x0j))))
  (x08 (x33 (z2g (y4z (x6d hr (z8c hr (x02 (qv 1)) (x00 y0u x03 x07)) x0b) (y2w (x7h (x4d (j2g B.m_isinstance B.m_ValueError (x02 (qv 0)))))))) (x0e (x0p x63)) x1v)
  (x0e (x0p (x3z (x2e (x00 x63 (x00 x63 (x00 x63 (x00 x63 (x00 x63 (x00 x63 x03 x07) x07) x07) x07) x07) x07)) (z0l hr (x02 (qv 1)) (x00 y0u x03 x07)))))))
def y1z:x16:=x36 (j1s (z5t .int (x05 0)) (j4g (z5t .bool (x05 0))))
def x5a:List D->OD:=fnD 1 (y1z)
theorem y5f:FnScope ["thing"] ["thing"] (x0a (top 9)):=fsq
theorem y82 (B:Bt mg)(a:At K mg "is_whole" (top 9) ["thing"]):Cal P w K mg base 1 "is_whole" 1 (x5a):=
 Cal.mkQ (k:=0) a y5f fun f cdv A outer s H E hr=>
  x0e (x0p (z5z (y3z .int B.m_isinstance B.m_int PyProof.Rows.boot_int (x02 (qv 0))) (z67 (j12 (y3z .bool B.m_isinstance B.m_bool PyProof.Rows.boot_bool (x02 (qv 0)))))))
def x7a:x16:=x36 (j1s (x0l x5a 1 (x01 (x05 0) x0f)) (eCh dLe dLt (eC (.int 0)) (x05 0) (x05 1)))
def x13:List D->OD:=fnD 2 (x7a)
theorem y0i:FnScope ["thing","many"] ["thing","many"] (x0a (top 10)):=fsq
theorem y1d (B:Bt mg)(c29:Cal P w K mg base 1 "is_whole" 1 x5a)(a:At K mg "is_number_of" (top 10) ["thing","many"]):Cal P w K mg base 2 "is_number_of" 2 (x13):=
 Cal.mkQ (k:=1) a y0i fun f cdv A outer s H E hr=>
  x0e (x0p (z5z (x09 c29 hr (by decide) (x00 (x02 (qv 0)) x03 x04)) (z67 (y5l x0b (x02 (qv 0)) (x02 (qv 1))))))
def x55:x16:=sIf (x8b (y2c (x0l x13 2 (x01 (x05 1) (x01 (x05 0) x0f))))) y2a (x6i)
def x1m:List D->OD:=fnD 2 (x55)
theorem x4v:FnScope ["places","place"] ["places","place"] (x0a (top 24)):=fsq
theorem x8v (B:Bt mg)(c27:Cal P w K mg base 2 "is_number_of" 2 x13)(a:At K mg "refuse_no_place" (top 24) ["places","place"]):Cal P w K mg base 3 "refuse_no_place" 2 (x1m):=
 Cal.mkQ (k:=2) a x4v fun f cdv A outer s H E hr=>
  x0e (x33 (x7h (x4d (x09 c27 hr (by decide) (x00 (x02 (qv 1)) (x00 (x02 (qv 0)) x03 x04) x04)))) (x0e y09) x1v)
def x8y:x4a:=z22 (x8b (y2c (x0l x13 2 (x01 (x05 1) (x01 (x05 0) x0f))))) (y7g "NoPlace") (z3i)
def x24:List D->Option Str:=fnX 2 x8y
theorem x7o (B:Bt mg)(T:Xt K mg)(c27:Cal P w K mg base 2 "is_number_of" 2 x13)(a:At K mg "refuse_no_place" (top 24) ["places","place"]):y27 P w K mg base 3 "refuse_no_place" 2 x24:=
 y27.mkQ (k:=2) a x4v fun f cdv A outer s H E hr=>
  x5f (z0u (x7h (x4d (x09 c27 hr (by decide) (x00 (x02 (qv 1)) (x00 (x02 (qv 0)) x03 x04) x04)))) (x5f (y3x hr T.x_NoPlace)) y6v)
def x5d:x16:=x17 (sIf (z1t (x8b (y2c (z5t .tuple (x05 0)))) (z1t (x3m (e2 dNe (x1f 0) (eC (.int 2)))) (x8b (y2c (z5t .str (x1k 0 (eC (.int 0)))))))) (x36 (eC (.bl false))) x6i)
 (x36 (x0l x13 2 (x01 (x1k 0 (eC (.int 1))) (x01 (z3o (x05 1) (x1k 0 (eC (.int 0))) (eC (.int 0))) x0f))))
def x2f:List D->OD:=fnD 2 (x5d)
theorem x7l:FnScope ["thing","many_by_name"] ["thing","many_by_name"] (x0a (top 11)):=fsq
theorem x90 (B:Bt mg)(c27:Cal P w K mg base 2 "is_number_of" 2 x13)(a:At K mg "is_named_number" (top 11) ["thing","many_by_name"]):Cal P w K mg base 3 "is_named_number" 2 (x2f):=
 Cal.mkQ (k:=2) a x7l fun f cdv A outer s H E hr=>
  x08 (x33 (z2g (y4z (x7h (x4d (y3z .tuple B.m_isinstance B.m_tuple PyProof.Rows.boot_tuple (x02 (qv 0))))) (y4z (x6d hr (x15 B.m_len (qv 0)) x0b) (y2w (x7h (x4d (y3z .str B.m_isinstance B.m_str PyProof.Rows.boot_str (x0t (qv 0) x0b)))))))) (x0e (x0p y0u)) x1v)
  (x0e (x0p (x09 c27 hr (by decide) (x00 (x0t (qv 0) x0b) (x00 (z9n hr (x02 (qv 1)) (x0t (qv 0) x0b) x0b) x03 x0j) x0y))))
def y57:x16:=x36 (x0l x2f 2 (x01 (x05 1) (x01 (y8g "begin" "way" (x7q 0 2) (x7q 0 1)) x0f)))
def x4u:List D->OD:=fnD 2 (y57)
theorem y7z:FnScope ["chart","thing"] ["chart","thing"] (x0a (top 29)):=fsq
theorem z0x (B:Bt mg)(c26:Cal P w K mg base 3 "is_named_number" 2 x2f)(a:At K mg "is_step" (top 29) ["chart","thing"]):Cal P w K mg base 4 "is_step" 2 (x4u):=
 Cal.mkQ (k:=3) a y7z fun f cdv A outer s H E hr=>
  x0e (x0p (x09 c26 hr (by decide) (x00 (x02 (qv 1)) (x00 (z7v (by decide) (y6y B.m_len (qv 0)) (y6y B.m_len (qv 0))) x03 z89) x04)))
def x5z:x16:=sIf (x8b (y2c (eB z8p (x01 (x2x 1 (x9m (x05 1)) (x0q 2) x27 (x0l x4u 2 (x01 (x05 0) (x01 (x05 2) x0f))) false) x0f)))) y2a (x6i)
def x2s:List D->OD:=fnD 2 (x5z)
theorem x8m:FnScope ["chart","steps"] ["chart","steps"] (x0a (top 30)):=fsq
abbrev x56:List Str:=["chart","steps","step"]
theorem x7p:(x56).Nodup:=by decide +kernel
theorem x9n (B:Bt mg)(c28:Cal P w K mg base 4 "is_step" 2 x4u)(a:At K mg "refuse_no_step" (top 30) ["chart","steps"]):Cal P w K mg base 5 "refuse_no_step" 2 (x2s):=
 Cal.mkQ (k:=4) a x8m fun f cdv A outer s H E hr=>
  x0e (x33 (x7h (x4d (j0n rfl B.m_all (x00 (x2z (k:=1) (N':=x56) false rfl ⟨rfl,by decide +kernel,rfl,rfl,rfl⟩ (x4c (x02 (qv 1))) (fun _ _ _ _=>x0k (i:=2) (show 2<=2 by decide) x7p rfl (Or.inl rfl) (Or.inr rfl)) (fun _ _ _ _=>x2c) (fun _ _ _ _=>x09 c28 hr (by decide) (x00 (x02 (qv 0)) (x00 (x02 (qv 2)) x03 x04) x04))) x03 x26)))) (x0e y09) x1v)
def x59:x16:=x17 (sIf (x3m (e2 dEq (x1k 2 (eC (.int 0))) (eC (.str "begin")))) (x36 (eIx (x1k 0 (eC (.int 2))) (x1k 2 (eC (.int 1))))) x6i)
 (x17 (x20 3 (eIx (x1k 0 (eC (.int 1))) (x1k 2 (eC (.int 1)))))
 (x36 (x4i (x01 (x1k 3 (eC (.int 1))) (x01 (eIx (x1k 3 (eC (.int 2))) (x1k 1 (x1k 3 (eC (.int 0))))) x0f)))))
def x2h:List D->OD:=fnD 4 (x59)
theorem x4x:FnScope ["chart","worths","step","way"] ["chart","worths","step"] (x0a (top 31)):=fsq
theorem x8p (B:Bt mg)(a:At K mg "place_and_worth" (top 31) ["chart","worths","step"]):Cal P w K mg base 1 "place_and_worth" 3 (x2h):=
 Cal.mkQ (k:=0) a x4x fun f cdv A outer s H E hr=>
  x08 (x33 (x96 hr (x0t (qv 2) x0b) x63) (x0e (x0p (x3z (x0t (qv 0) x0b) (x0t (qv 2) x0b)))) x1v)
  (x08 (x0m (i:=3) x4x.nd rfl (Or.inl rfl) (x3z (x0t (qv 0) x0b) (x0t (qv 2) x0b)))
  (x0e (x0p (x2k (x00 (x0t (qv 3) x0b) (x00 (x3z (x0t (qv 3) x0b) (x0t (qv 1) (x0t (qv 3) x0b))) x03 x0y) x0y)))))
def x6g:x16:=x17 (x20 4 (x0l x2h 3 (x01 (x05 1) (x01 (x05 2) (x01 (x05 3) x0f)))))
 (x17 (x20 5 (x1k 4 (eC (.int 0))))
 (x17 (x20 6 (eIx (x1k 0 (x1k 2 (x05 5))) (x1k 4 (eC (.int 1)))))
 (x36 (z5b (z5b (eSl (x05 2) z4q (z04 (x05 5))) (x4i (x01 (x05 6) x0f))) (eSl (x05 2) (z04 (e2 x41 (x05 5) (eC (.int 1)))) z4q)))))
def x1y:List D->OD:=fnD 7 (x6g)
theorem x3b:FnScope ["ladder","chart","worths","step","coming","place","joined"] ["ladder","chart","worths","step"] (x0a (top 32)):=fsq
theorem y14 (B:Bt mg)(c36:Cal P w K mg base 1 "place_and_worth" 3 x2h)(a:At K mg "worths_behind" (top 32) ["ladder","chart","worths","step"]):Cal P w K mg base 2 "worths_behind" 4 (x1y):=
 Cal.mkQ (k:=1) a x3b fun f cdv A outer s H E hr=>
  x08 (x0m (i:=4) x3b.nd rfl (Or.inl rfl) (x09 c36 hr (by decide) (x00 (x02 (qv 1)) (x00 (x02 (qv 2)) (x00 (x02 (qv 3)) x03 x04) x04) x04)))
  (x08 (x0m (i:=5) x3b.nd rfl (Or.inl rfl) (x0t (qv 4) x0b))
  (x08 (x0m (i:=6) x3b.nd rfl (Or.inl rfl) (x3z (x0t (qv 0) (x0t (qv 2) (x02 (qv 5)))) (x0t (qv 4) x0b)))
  (x0e (x0p (z07 (z07 (j19 (x02 (qv 2)) y74 (y7j (x02 (qv 5)))) (x2k (x00 (x02 (qv 6)) x03 x04))) (j19 (x02 (qv 2)) (y7j (x1u (x02 (qv 5)) x0b)) y74))))))
abbrev y3e:x16:=x17 (x20 5 (x05 3))
 (x80 (x9m (x05 2)) (x0q 6) (x17 (x20 7 (x0l x1y 4 (x01 (x05 0) (x01 (x05 1) (x01 (x05 3) (x01 (x05 6) x0f))))))
 (x17 (sIf (x3m (e2 dNe (x05 7) (x05 3))) (x3k (y0w 4 (x01 (x05 6) x0f))) x6i)
 (x20 3 (x05 7)))))
abbrev x9v:x16:=x17 (x20 7 (x0l x1y 4 (x01 (x05 0) (x01 (x05 1) (x01 (x05 3) (x01 (x05 6) x0f))))))
 (x17 (sIf (x3m (e2 dNe (x05 7) (x05 3))) (x3k (y0w 4 (x01 (x05 6) x0f))) x6i)
 (x20 3 (x05 7)))
def y96:x16:=x17 (x20 4 (x5j x0f))
 (x17 (x20 5 (eC .non))
 (x17 (y6w (x3m (e2 dNe (x05 3) (x05 5))) (x17 (x20 5 (x05 3))
 (x80 (x9m (x05 2)) (x0q 6) (x17 (x20 7 (x0l x1y 4 (x01 (x05 0) (x01 (x05 1) (x01 (x05 3) (x01 (x05 6) x0f))))))
 (x17 (sIf (x3m (e2 dNe (x05 7) (x05 3))) (x3k (y0w 4 (x01 (x05 6) x0f))) x6i)
 (x20 3 (x05 7)))))))
 (x36 (x4i (x01 (x05 3) (x01 (x05 4) x0f))))))
def y11:List D->OD:=fnD 8 (y96)
theorem x5u:FnScope ["ladder","chart","order","worths","raising","ahead","step","behind"] ["ladder","chart","order","worths"] (x0a (top 33)):=fsq
theorem z6k (B:Bt mg)(c43:Cal P w K mg base 2 "worths_behind" 4 x1y)(a:At K mg "risen" (top 33) ["ladder","chart","order","worths"]):Cal P w K mg base 3 "risen" 4 (y11):=
 Cal.mkQ (k:=2) a x5u fun f cdv A outer s H E hr=>
  x08 (x0m (i:=4) x5u.nd rfl (Or.inl rfl) (x2e x03))
  (x08 (x0m (i:=5) x5u.nd rfl (Or.inl rfl) x9j)
  (x08 (y9x PassesOwn.never (x6d hr (x02 (qv 3)) (x02 (qv 5))) (x08 (x0m (i:=5) x5u.nd rfl (Or.inl rfl) (x02 (qv 3)))
  (x0e (x2v PassesOwn.never rfl (x4c (x02 (qv 2))) (x0k (i:=6) (show 0<=6 by decide) x5u.nd rfl (Or.inl rfl)) (x08 (x0m (i:=7) x5u.nd rfl (Or.inl rfl) (x09 c43 hr (by decide) (x00 (x02 (qv 0)) (x00 (x02 (qv 1)) (x00 (x02 (qv 3)) (x00 (x02 (qv 6)) x03 x04) x04) x04) x04)))
  (x08 (x33 (x6d hr (x02 (qv 7)) (x02 (qv 3))) (x0e (x2q (x30 (qv 4) (x00 (x02 (qv 6)) x03 x04)))) x1v)
  (x0e (x0m (i:=3) x5u.nd rfl (Or.inl rfl) (x02 (qv 7))))))))))
  (x0e (x0p (x2k (x00 (x02 (qv 3)) (x00 (x02 (qv 4)) x03 x04) x04))))))
def y76:x16:=x36 (x2l (x01 (y65 (x5j (x01 (x0l x3g 1 (x01 (x05 0) x0f)) x0f)) (x1k 1 (eC (.int 0)))) x0f))
def x7t:List D->OD:=fnD 2 (y76)
theorem y9s:FnScope ["ladder","chart"] ["ladder","chart"] (x0a (top 26)):=fsq
theorem z4h (B:Bt mg)(c33:Cal P w K mg base 2 "least_of" 1 x3g)(a:At K mg "lowest" (top 26) ["ladder","chart"]):Cal P w K mg base 3 "lowest" 2 (x7t):=
 Cal.mkQ (k:=2) a y9s fun f cdv A outer s H E hr=>
  x0e (x0p (x2n B.m_tuple PyProof.Rows.boot_tuple (x00 (z00 (x2e (x00 (x09 c33 hr (by decide) (x00 (x02 (qv 0)) x03 x04)) x03 x0j)) (x0t (qv 1) x0b)) x03 x1c)))
def y29:x16:=x17 (x3k (x0l x2s 2 (x01 (x05 1) (x01 (x05 2) x0f))))
 (x17 (x20 3 (x0l y11 4 (x01 (x05 0) (x01 (x05 1) (x01 (x05 2) (x01 (x0l x7t 2 (x01 (x05 0) (x01 (x05 1) x0f))) x0f))))))
 (x36 (x4i (x01 (x1k 3 (eC (.int 0))) (x01 (eB z3p (x01 (x1k 3 (eC (.int 1))) x0f)) x0f)))))
def x5c:List D->OD:=fnD 4 (y29)
theorem y0e:FnScope ["ladder","chart","order","ended"] ["ladder","chart","order"] (x0a (top 34)):=fsq
theorem y8e (B:Bt mg)(c38:Cal P w K mg base 5 "refuse_no_step" 2 x2s)(c39:Cal P w K mg base 3 "risen" 4 y11)(c35:Cal P w K mg base 3 "lowest" 2 x7t)(a:At K mg "least_by" (top 34) ["ladder","chart","order"]):Cal P w K mg base 6 "least_by" 3 (x5c):=
 Cal.mkQ (k:=5) a y0e fun f cdv A outer s H E hr=>
  x08 (x2q (x09 c38 hr (by decide) (x00 (x02 (qv 1)) (x00 (x02 (qv 2)) x03 x04) x04)))
  (x08 (x0m (i:=3) y0e.nd rfl (Or.inl rfl) (x09 c39 hr (by decide) (x00 (x02 (qv 0)) (x00 (x02 (qv 1)) (x00 (x02 (qv 2)) (x00 (x09 c35 hr (by decide) (x00 (x02 (qv 0)) (x00 (x02 (qv 1)) x03 x04) x04)) x03 x0j) x04) x04) x04)))
  (x0e (x0p (x2k (x00 (x0t (qv 3) x0b) (x00 (y8u B.m_len (x00 (x0t (qv 3) x0b) x03 x0y)) x03 x0j) x0y)))))
def y10:x16:=x17 (x20 1 (x2x 1 (x0z (x01 (eB z3p (x01 (x1k 0 (eC (.int 2))) x0f)) x0f)) (x0q 2) x27 (x4i (x01 (eC (.str "begin")) (x01 (x05 2) x0f))) false))
 (x36 (z1m (x05 1) (x2x 1 (x0z (x01 (eB z3p (x01 (x1k 0 (eC (.int 1))) x0f)) x0f)) (x0q 2) x27 (x4i (x01 (eC (.str "way")) (x01 (x05 2) x0f))) false)))
def x4o:List D->OD:=fnD 2 (y10)
theorem x9e:FnScope ["chart","begins"] ["chart"] (x0a (top 28)):=fsq
abbrev x6m:List Str:=["chart","begins","number"]
theorem x7s:(x6m).Nodup:=by decide +kernel
theorem y6k (B:Bt mg)(a:At K mg "all_steps" (top 28) ["chart"]):Cal P w K mg base 1 "all_steps" 1 (x4o):=
 Cal.mkQ (k:=0) a x9e fun f cdv A outer s H E hr=>
  x08 (x9y (i:=1) (k:=1) (N':=x6m) false x9e.nd rfl (Or.inl rfl) rfl rfl ⟨rfl,by decide +kernel,rfl,rfl,rfl⟩ (x0r B.m_range (x00 (y8u B.m_len (x00 (x0t (qv 0) x0b) x03 x0y)) x03 x0j)) (fun _ _ _ _=>x0k (i:=2) (show 2<=2 by decide) x7s rfl (Or.inl rfl) (Or.inr rfl)) (fun _ _ _ _=>x2c) (fun _ _ _ _=>x2k (x00 x63 (x00 (x02 (qv 2)) x03 x04) x07)))
  (x0e (x0p (z7a (x02 (qv 1)) (x2z (k:=1) (N':=x6m) false rfl ⟨rfl,by decide +kernel,rfl,rfl,rfl⟩ (x0r B.m_range (x00 (y8u B.m_len (x00 (x0t (qv 0) x0b) x03 x0y)) x03 x0j)) (fun _ _ _ _=>x0k (i:=2) (show 2<=2 by decide) x7s rfl (Or.inl rfl) (Or.inr rfl)) (fun _ _ _ _=>x2c) (fun _ _ _ _=>x2k (x00 x63 (x00 (x02 (qv 2)) x03 x04) x07))))))
def y9w:x16:=x36 (eIx (x0l x5c 3 (x01 (x05 0) (x01 (x05 1) (x01 (x0l x4o 1 (x01 (x05 1) x0f)) x0f)))) (eC (.int 0)))
def x3w:List D->OD:=fnD 2 (y9w)
theorem z3a:FnScope ["ladder","chart"] ["ladder","chart"] (x0a (top 27)):=fsq
theorem j03 (B:Bt mg)(c32:Cal P w K mg base 6 "least_by" 3 x5c)(c19:Cal P w K mg base 1 "all_steps" 1 x4o)(a:At K mg "least" (top 27) ["ladder","chart"]):Cal P w K mg base 7 "least" 2 (x3w):=
 Cal.mkQ (k:=6) a z3a fun f cdv A outer s H E hr=>
  x0e (x0p (x3z (x09 c32 hr (by decide) (x00 (x02 (qv 0)) (x00 (x02 (qv 1)) (x00 (x09 c19 hr (by decide) (x00 (x02 (qv 1)) x03 x04)) x03 x0j) x04) x04)) x0b))
noncomputable abbrev y5e (ob:D)(G:List D->OD):x16:=x3k (y0w 2 (x01 (x2l (x01 (x2x 1 (x0z (x01 (x05 0) x0f)) (x0q 4) x27 (y0b ob G 1 2 (x01 (x05 3) (x01 (x05 4) x0f))) false) x0f)) x0f))
noncomputable def y1w (ob:D)(G:List D->OD):x16:=x17 (x20 2 (x5j x0f))
 (x17 (x80 (x0z (x01 (x05 0) x0f)) (x0q 3) (x3k (y0w 2 (x01 (x2l (x01 (x2x 1 (x0z (x01 (x05 0) x0f)) (x0q 4) x27 (y0b ob G 1 2 (x01 (x05 3) (x01 (x05 4) x0f))) false) x0f)) x0f))))
 (x36 (x2l (x01 (x05 2) x0f))))
noncomputable def x3h (ob:D)(G:List D->OD):List D->OD:=fnD 4 (y1w ob G)
theorem x7g:FnScope ["many","entry","rows","x"] ["many","entry"] (x0a (top 19)):=fsq
abbrev y0y:List Str:=["many","entry","rows","x","y"]
theorem y4c:(y0y).Nodup:=by decide +kernel
theorem y7u (B:Bt mg){ob:D}{G:List D->OD}(co:z6h P w K mg base 5 ob 2 G)(a:At K mg "table_of" (top 19) ["many","entry"]):Cal P w K mg base 6 "table_of" 2 (x3h ob G):=
 Cal.mkQ (k:=5) a x7g fun f cdv A outer s H E hr=>
  x08 (x0m (i:=2) x7g.nd rfl (Or.inl rfl) (x2e x03))
  (x08 (x2v PassesOwn.never rfl (x0r B.m_range (x00 (x02 (qv 0)) x03 x04)) (x0k (i:=3) (show 0<=3 by decide) x7g.nd rfl (Or.inr rfl)) (x0e (x2q (x30 (qv 2) (x00 (x2n B.m_tuple PyProof.Rows.boot_tuple (x00 (x2z (k:=1) (N':=y0y) false rfl ⟨rfl,by decide +kernel,rfl,rfl,rfl⟩ (x0r B.m_range (x00 (x02 (qv 0)) x03 x04)) (fun _ _ _ _=>x0k (i:=4) (show 4<=4 by decide) y4c rfl (Or.inl rfl) (Or.inr rfl)) (fun _ _ _ _=>x2c) (fun _ _ _ _=>z4c (qv 1) co hr (by decide) (x00 (x02 (qv 3)) (x00 (x02 (qv 4)) x03 x04) x04))) x03 x26)) x03 x0j)))))
  (x0e (x0p (x2n B.m_tuple PyProof.Rows.boot_tuple (x00 (x02 (qv 2)) x03 x04)))))
def x6v:Den:=x0l y8k 3 (x01 (x05 2) (x01 (x05 0) (x01 (x05 1) x0f)))
noncomputable def y71:x16:=x36 (j0e x3h x6v [0] (x1f 0))
noncomputable def x7n:List D->OD:=fnD 1 (y71)
theorem z0j:FnScope ["ladder"] ["ladder"] (x0a (top 20)):=fsq
theorem z3s (B:Bt mg)(L:Lm K mg base)(KX:K.In base)(NG:base.Ns mainGlobals mg)(tb:∃ c Pt,PySem.W.tabIn K "turned" = some (c,Pt))(hT:∀ (base:Heap) (ob:D) (G:List D->OD),z6h P w K mg base 5 ob 2 G->Cal P w K mg base 6 "table_of" 2 (x3h ob G))(hy:∃ fn,mg "table_of" = some (.ref fn)/\PySem.W.keepIn K (.ref fn)=true)(e_met:∀ base:Heap,Cal P w K mg base 4 "met" 3 y8k)(a:At K mg "turned" (top 20) ["ladder"]):Cal P w K mg base 7 "turned" 1 x7n:=
 Cal.mkL (k:=6) KX NG tb a z0j fun f c Pt A outer s H E ht hr=>
  x0e (x0p (j0v (ps:=["x","y"]) (caps:=["ladder"]) (is:=[0]) (kb:=4) L (by decide) ht (by exact LamScope.of rfl rfl rfl (by decide +kernel) (by decide +kernel) (by decide +kernel) (by decide +kernel) (by decide +kernel)) hy hr (by decide) hT (fun _ _ _ _ _ _ _ _ _ hr=>x09 (e_met _) hr (by decide) (x00 (x02 (qv 2)) (x00 (x02 (qv 0)) (x00 (x02 (qv 1)) x03 x04) x04) x04)) (fun _ _ _ _ _ _ h=>by obtain⟨_,_,rfl⟩:=L3.j6j h;rfl) ⟨rfl,rfl,trivial⟩ (x15 B.m_len (qv 0)) (fun _=>x0j)))
noncomputable def y1r:x16:=x36 (x0l x3w 2 (x01 (x0l x7n 1 (x01 (x05 0) x0f)) (x01 (x05 1) x0f)))
noncomputable def x58:List D->OD:=fnD 2 (y1r)
theorem y5p:FnScope ["ladder","chart"] ["ladder","chart"] (x0a (top 36)):=fsq
theorem y84 (B:Bt mg)(c31:Cal P w K mg base 7 "least" 2 x3w)(c41:Cal P w K mg base 7 "turned" 1 x7n)(a:At K mg "greatest" (top 36) ["ladder","chart"]):Cal P w K mg base 8 "greatest" 2 (x58):=
 Cal.mkQ (k:=7) a y5p fun f cdv A outer s H E hr=>
  x0e (x0p (x09 c31 hr (by decide) (x00 (x09 c41 hr (by decide) (x00 (x02 (qv 0)) x03 x04)) (x00 (x02 (qv 1)) x03 x04) x0j)))
def y0r:x16:=x36 (x2x 2 (y9m (x01 (x05 1) x0f)) (y7p (x1d (x0q 3) (x1d (x0q 4) x7j))) (y2c (x0l x2t 3 (x01 (x05 0) (x01 (x05 4) (x01 (x05 2) x0f))))) (x05 3) false)
def x43:List D->OD:=fnD 3 (y0r)
theorem y4m:FnScope ["ladder","table","worth"] ["ladder","table","worth"] (x0a (top 22)):=fsq
abbrev x93:List Str:=["ladder","table","worth","x","led"]
theorem x7y:(x93).Nodup:=by decide +kernel
theorem y5n (B:Bt mg)(c25:Cal P w K mg base 1 "is_below" 3 x2t)(a:At K mg "led_below" (top 22) ["ladder","table","worth"]):Cal P w K mg base 2 "led_below" 3 (x43):=
 Cal.mkQ (k:=1) a y4m fun f cdv A outer s H E hr=>
  x0e (x0p (x2z (k:=2) (N':=x93) false rfl ⟨rfl,by decide +kernel,rfl,rfl,rfl⟩ (z3v B.m_enumerate (x00 (x02 (qv 1)) x03 x04)) (fun _ _ _ _=>y05 (n:=2) rfl (x22 (x0k (i:=3) (show 3<=3 by decide) x7y rfl (Or.inl rfl) (Or.inr rfl)) (x22 (x0k (i:=4) (show 3<=4 by decide) x7y rfl (Or.inl rfl) (Or.inr rfl)) x83)) z7u) (fun _ _ _ _=>x6y (x4d (x09 c25 hr (by decide) (x00 (x02 (qv 0)) (x00 (x02 (qv 4)) (x00 (x02 (qv 2)) x03 x04) x04) x04)))) (fun _ _ _ _=>x02 (qv 3))))
def x4f:x16:=x17 (x20 3 (x0l x43 3 (x01 (x05 0) (x01 (x05 1) (x01 (x05 2) x0f)))))
 (x17 (x20 4 (x0l x23 2 (x01 (x05 0) (x01 (x05 3) x0f))))
 (x36 (eIf (x3m (e2 dIn (x05 4) (x05 3))) (x05 4) (eC .non))))
def x1h:List D->OD:=fnD 5 (x4f)
theorem x2y:FnScope ["ladder","rule","worth","led","joined"] ["ladder","rule","worth"] (x0a (top 38)):=fsq
theorem x72 (B:Bt mg)(c34:Cal P w K mg base 2 "led_below" 3 x43)(c30:Cal P w K mg base 3 "joined_all" 2 x23)(a:At K mg "greatest_led_below" (top 38) ["ladder","rule","worth"]):Cal P w K mg base 4 "greatest_led_below" 3 (x1h):=
 Cal.mkQ (k:=3) a x2y fun f cdv A outer s H E hr=>
  x08 (x0m (i:=3) x2y.nd rfl (Or.inl rfl) (x09 c34 hr (by decide) (x00 (x02 (qv 0)) (x00 (x02 (qv 1)) (x00 (x02 (qv 2)) x03 x04) x04) x04)))
  (x08 (x0m (i:=4) x2y.nd rfl (Or.inl rfl) (x09 c30 hr (by decide) (x00 (x02 (qv 0)) (x00 (x02 (qv 3)) x03 x04) x04)))
  (x0e (x0p (y3m (y73 hr (x02 (qv 4)) (x02 (qv 3))) (x02 (qv 4)) x9j))))
def y16:x16:=x36 (x2l (x01 (x2x 1 (x0z (x01 (x1f 0) x0f)) (x0q 2) x27 (x0l x1h 3 (x01 (x05 0) (x01 (x05 1) (x01 (x05 2) x0f)))) false) x0f))
def x1x:List D->OD:=fnD 2 (y16)
theorem y54:FnScope ["ladder","rule"] ["ladder","rule"] (x0a (top 37)):=fsq
abbrev x9i:List Str:=["ladder","rule","worth"]
theorem y3g:(x9i).Nodup:=by decide +kernel
theorem y5j (B:Bt mg)(c24:Cal P w K mg base 4 "greatest_led_below" 3 x1h)(a:At K mg "back_rule" (top 37) ["ladder","rule"]):Cal P w K mg base 5 "back_rule" 2 (x1x):=
 Cal.mkQ (k:=4) a y54 fun f cdv A outer s H E hr=>
  x0e (x0p (x2n B.m_tuple PyProof.Rows.boot_tuple (x00 (x2z (k:=1) (N':=x9i) false rfl ⟨rfl,by decide +kernel,rfl,rfl,rfl⟩ (x0r B.m_range (x00 (x15 B.m_len (qv 0)) x03 x0j)) (fun _ _ _ _=>x0k (i:=2) (show 2<=2 by decide) y3g rfl (Or.inl rfl) (Or.inr rfl)) (fun _ _ _ _=>x2c) (fun _ _ _ _=>x09 c24 hr (by decide) (x00 (x02 (qv 0)) (x00 (x02 (qv 1)) (x00 (x02 (qv 2)) x03 x04) x04) x04))) x03 x26)))
def x5i:x16:=x17 (x20 2 (x0l x1x 2 (x01 (x05 0) (x01 (x05 1) x0f))))
 (x17 (sIf (x3m (e2 dIn (eC .non) (x05 2))) y2a x6i)
 (x36 (x05 2)))
def x19:List D->OD:=fnD 3 (x5i)
theorem x2w:FnScope ["ladder","rule","back"] ["ladder","rule"] (x0a (top 40)):=fsq
theorem x8t (B:Bt mg)(c20:Cal P w K mg base 5 "back_rule" 2 x1x)(a:At K mg "whole_back_rule" (top 40) ["ladder","rule"]):Cal P w K mg base 6 "whole_back_rule" 2 (x19):=
 Cal.mkQ (k:=5) a x2w fun f cdv A outer s H E hr=>
  x08 (x0m (i:=2) x2w.nd rfl (Or.inl rfl) (x09 c20 hr (by decide) (x00 (x02 (qv 0)) (x00 (x02 (qv 1)) x03 x04) x04)))
  (x08 (x33 (y73 hr x9j (x02 (qv 2))) (x0e y09) x1v)
  (x0e (x0p (x02 (qv 2)))))
def x5g:x4a:=z6b (x20 2 (x0l x1x 2 (x01 (x05 0) (x01 (x05 1) x0f)))) (z22 (x3m (e2 dIn (eC .non) (x05 2))) (y7g "NoRule") z3i)
def x25:List D->Option Str:=fnX 3 x5g
theorem x82 (B:Bt mg)(T:Xt K mg)(c20:Cal P w K mg base 5 "back_rule" 2 x1x)(a:At K mg "whole_back_rule" (top 40) ["ladder","rule"]):y27 P w K mg base 6 "whole_back_rule" 2 x25:=
 y27.mkQ (k:=5) a x2w fun f cdv A outer s H E hr=>
  z0n (x0m (i:=2) x2w.nd rfl (Or.inl rfl) (x09 c20 hr (by decide) (x00 (x02 (qv 0)) (x00 (x02 (qv 1)) x03 x04) x04))) (x5f (z0u (y73 hr x9j (x02 (qv 2))) (x5f (y3x hr T.x_NoRule)) y6v))
noncomputable def y4v:x16:=x17 (x3k (x0l x1m 2 (x01 (x1k 1 (eC (.int 0))) (x01 (x05 2) x0f))))
 (x17 (x20 4 (x2l (x01 (x2x 3 (x9m (x1k 1 (eC (.int 1)))) (y7p (x1d (x0q 5) (x1d (x0q 6) (x1d (x0q 7) x7j)))) x27 (x4i (x01 (x05 6) (x01 (x05 5) (x01 (x0l x19 2 (x01 (x05 0) (x01 (x05 7) x0f))) x0f)))) false) x0f)))
 (x36 (x0l x58 2 (x01 (x05 0) (x01 (x4i (x01 (x1k 1 (eC (.int 0))) (x01 (x05 4) (x01 (x4i (x01 (x4i (x01 (x05 2) (x01 (x05 3) x0f))) x0f)) x0f)))) x0f)))))
noncomputable def x57:List D->OD:=fnD 5 (y4v)
theorem x8n:FnScope ["ladder","chart","place","worth","ways"] ["ladder","chart","place","worth"] (x0a (top 39)):=fsq
abbrev x8r:List Str:=["ladder","chart","place","worth","ways","start","goal","rule"]
theorem x45:(x8r).Nodup:=by decide +kernel
theorem z0c (B:Bt mg)(c37:Cal P w K mg base 3 "refuse_no_place" 2 x1m)(c42:Cal P w K mg base 6 "whole_back_rule" 2 x19)(c23:Cal P w K mg base 8 "greatest" 2 x58)(a:At K mg "demands" (top 39) ["ladder","chart","place","worth"]):Cal P w K mg base 9 "demands" 4 (x57):=
 Cal.mkQ (k:=8) a x8n fun f cdv A outer s H E hr=>
  x08 (x2q (x09 c37 hr (by decide) (x00 (x0t (qv 1) x0b) (x00 (x02 (qv 2)) x03 x04) x0y)))
  (x08 (x0m (i:=4) x8n.nd rfl (Or.inl rfl) (x2n B.m_tuple PyProof.Rows.boot_tuple (x00 (x2z (k:=3) (N':=x8r) false rfl ⟨rfl,by decide +kernel,rfl,rfl,rfl⟩ (x4c (x0t (qv 1) x0b)) (fun _ _ _ _=>y05 (n:=3) rfl (x22 (x0k (i:=5) (show 5<=5 by decide) x45 rfl (Or.inl rfl) (Or.inr rfl)) (x22 (x0k (i:=6) (show 5<=6 by decide) x45 rfl (Or.inl rfl) (Or.inr rfl)) (x22 (x0k (i:=7) (show 5<=7 by decide) x45 rfl (Or.inl rfl) (Or.inr rfl)) x83))) y32) (fun _ _ _ _=>x2c) (fun _ _ _ _=>x2k (x00 (x02 (qv 6)) (x00 (x02 (qv 5)) (x00 (x09 c42 hr (by decide) (x00 (x02 (qv 0)) (x00 (x02 (qv 7)) x03 x04) x04)) x03 x0j) x04) x04))) x03 x26)))
  (x0e (x0p (x09 c23 hr (by decide) (x00 (x02 (qv 0)) (x00 (x2k (x00 (x0t (qv 1) x0b) (x00 (x02 (qv 4)) (x00 (x2k (x00 (x2k (x00 (x02 (qv 2)) (x00 (x02 (qv 3)) x03 x04) x04)) x03 x49)) x03 x49) x04) x0y)) x03 x49) x04)))))
def y03:x4a:=xOr (y1m x24 2 (x01 (x1k 1 (eC (.int 0))) (x01 (x05 2) x0f))) (z6b (x3k (x0l x1m 2 (x01 (x1k 1 (eC (.int 0))) (x01 (x05 2) x0f)))) (y8o 3 (x9m (x1k 1 (eC (.int 1)))) (y7p (x1d (x0q 5) (x1d (x0q 6) (x1d (x0q 7) x7j)))) x27 (x4i (x01 (x05 6) (x01 (x05 5) (x01 (x0l x19 2 (x01 (x05 0) (x01 (x05 7) x0f))) x0f)))) (xTl (x05 6) (xTl (x05 5) (y1m x25 2 (x01 (x05 0) (x01 (x05 7) x0f)))))))
def x1l:List D->Option Str:=fnX 5 y03
theorem y7y (B:Bt mg)(T:Xt K mg)(c42:Cal P w K mg base 6 "whole_back_rule" 2 x19)(c37:Cal P w K mg base 3 "refuse_no_place" 2 x1m)(c46:y27 P w K mg base 3 "refuse_no_place" 2 x24)(c47:y27 P w K mg base 6 "whole_back_rule" 2 x25)(a:At K mg "demands" (top 39) ["ladder","chart","place","worth"]):y27 P w K mg base 9 "demands" 4 x1l:=
 y27.mkQ (k:=8) a x8n fun f cdv A outer s H E hr=>
  j0m (x5f (z53 (z33 c46 hr (by decide) (x00 (x0t (qv 1) x0b) (x00 (x02 (qv 2)) x03 x04) x0y)))) (z0n (x2q (x09 c37 hr (by decide) (x00 (x0t (qv 1) x0b) (x00 (x02 (qv 2)) x03 x04) x0y))) (x5f (z6g (y98 B.m_tuple PyProof.Rows.boot_tuple (z25 (N':=x8r) ⟨rfl,by decide +kernel,rfl,rfl,rfl⟩ (x4c (x0t (qv 1) x0b)) (fun _ _ _ _=>y05 (n:=3) rfl (x22 (x0k (i:=5) (show 5<=5 by decide) x45 rfl (Or.inl rfl) (Or.inr rfl)) (x22 (x0k (i:=6) (show 5<=6 by decide) x45 rfl (Or.inl rfl) (Or.inr rfl)) (x22 (x0k (i:=7) (show 5<=7 by decide) x45 rfl (Or.inl rfl) (Or.inr rfl)) x83))) y32) (fun _ _ _ _=>x2c) (fun _ _ _ _=>x2k (x00 (x02 (qv 6)) (x00 (x02 (qv 5)) (x00 (x09 c42 hr (by decide) (x00 (x02 (qv 0)) (x00 (x02 (qv 7)) x03 x04) x04)) x03 x0j) x04) x04)) (fun _ _ _ _=>z7z (z5n (x02 (qv 6)) (z5n (x02 (qv 5)) (j0i (z0g c47 hr (by decide) (x00 (x02 (qv 0)) (x00 (x02 (qv 7)) x03 x04) x04)))))))))))
noncomputable def x6n:x16:=x17 (x20 4 (eC .non))
 (x17 (x20 5 (eC .non))
 (x17 (y7v ["NoPlace","NoRule"] (x20 5 (x0l x57 4 (x01 (x05 0) (x01 (x05 1) (x01 (x05 2) (x01 (x05 3) x0f)))))) (y88 x1l 4 (x01 (x05 0) (x01 (x05 1) (x01 (x05 2) (x01 (x05 3) x0f))))) 6 4)
 (x17 (sIf (x3m (e2 j1p (x05 4) (eC .non))) (x36 (x05 5)) x6i)
 (x36 (x0l x47 1 (x01 (x05 4) x0f))))))
noncomputable def x1i:List D->OD:=fnD 7 (x6n)
theorem x3q:FnScope ["_law_ladder_here","_law_chart_here","_law_place","_law_worth","_law_kept","_law_answer","e"] ["_law_ladder_here","_law_chart_here","_law_place","_law_worth"] (x0a (top 57)):=fsq
theorem y51 (B:Bt mg)(T:Xt K mg)(c22:Cal P w K mg base 9 "demands" 4 x57)(c18:Cal P w K mg base 1 "_law_word" 1 x47)(c45:y27 P w K mg base 9 "demands" 4 x1l)(a:At K mg "_law_tried" (top 57) ["_law_ladder_here","_law_chart_here","_law_place","_law_worth"]):Cal P w K mg base 10 "_law_tried" 4 (x1i):=
 Cal.mkQ (k:=9) a x3q fun f cdv A outer s H E hr=>
  x08 (x0m (i:=4) x3q.nd rfl (Or.inl rfl) x9j)
  (x08 (x0m (i:=5) x3q.nd rfl (Or.inl rfl) x9j)
  (x08 (z4k (ie:=6) (ik:=4) T.u (x0e (x0m (i:=5) x3q.nd rfl (Or.inl rfl) (x09 c22 hr (by decide) (x00 (x02 (qv 0)) (x00 (x02 (qv 1)) (x00 (x02 (qv 2)) (x00 (x02 (qv 3)) x03 x04) x04) x04) x04)))) (z8y (z3j c45 hr (by decide) (x00 (x02 (qv 0)) (x00 (x02 (qv 1)) (x00 (x02 (qv 2)) (x00 (x02 (qv 3)) x03 x04) x04) x04) x04))) x3q.nd rfl rfl)
  (x08 (x33 (z7p (x02 (qv 4)) x9j) (x0e (x0p (x02 (qv 5)))) x1v)
  (x0e (x0p (x09 c18 hr (by decide) (x00 (x02 (qv 4)) x03 x04)))))))
abbrev j1l:x16:=x80 (x0z (x01 (x1f 1) x0f)) (x0q 15) (sIf (x3m (e2 dNe (eIx (x1k 1 (x05 15)) (x1k 10 (x05 14))) (x1k 10 (x05 14)))) (x17 (x20 16 (eIx (x0l x3w 2 (x01 (x05 1) (x01 (x4i (x01 (x05 3) (x01 (x05 4) (x01 (x4i (x01 (x4i (x01 (x05 14) (x01 (x05 15) x0f))) x0f)) x0f)))) x0f))) (x05 8)))
 (sIf (x3m (e2 dEq (eIx (x1k 1 (x05 16)) (x05 9)) (x05 9))) (x36 (eC (.bl false))) x6i)) x6i)
abbrev z5r:x16:=sIf (x3m (e2 dNe (eIx (x1k 1 (x05 15)) (x1k 10 (x05 14))) (x1k 10 (x05 14)))) (x17 (x20 16 (eIx (x0l x3w 2 (x01 (x05 1) (x01 (x4i (x01 (x05 3) (x01 (x05 4) (x01 (x4i (x01 (x4i (x01 (x05 14) (x01 (x05 15) x0f))) x0f)) x0f)))) x0f))) (x05 8)))
 (sIf (x3m (e2 dEq (eIx (x1k 1 (x05 16)) (x05 9)) (x05 9))) (x36 (eC (.bl false))) x6i)) (x6i)
noncomputable def j1v:x16:=x17 (x20 1 (x0l x3s 2 (x01 (x05 0) (x01 (eC (.int 0)) x0f))))
 (x17 (x20 2 (x0l x35 1 (x01 (x05 1) x0f)))
 (x17 (j0c (x0l x3f 4 (x01 (x05 0) (x01 (eC (.int 20)) (x01 (x05 1) (x01 (eC (.bl true)) x0f))))) (y7p (x1d (x0q 3) (x1d (x0q 4) (x1d (x0q 5) x7j)))))
 (x17 (x20 6 (x2l (x01 (x6a (x01 (x1f 1) x0f)) x0f)))
 (x17 (x20 4 (x2l (x01 (x2x 3 (x9m (x05 4)) (y7p (x1d (x0q 19) (x1d (x0q 20) (x1d (x0q 21) x7j)))) x27 (x4i (x01 (x05 19) (x01 (x05 20) (x01 (eIf (x3m (e2 dEq (x1k 21 (x05 2)) (x05 2))) (x05 21) (x05 6)) x0f)))) false) x0f)))
 (x17 (x20 7 (x4i (x01 (x05 3) (x01 (x05 4) (x01 (x05 5) x0f)))))
 (x17 (x20 8 (x0l x0c 3 (x01 (x05 0) (x01 (eC (.int 200)) (x01 (x05 3) x0f)))))
 (x17 (x20 9 (x0l x0c 3 (x01 (x05 0) (x01 (eC (.int 201)) (x01 (x1f 1) x0f)))))
 (x17 (x20 10 (x0l x1i 4 (x01 (x05 1) (x01 (x05 7) (x01 (x05 8) (x01 (x05 9) x0f))))))
 (x17 (sIf (z1t (x8b (y2c (z5t .tuple (x05 10)))) (x3m (e2 dNe (x1f 10) (x05 3)))) (x36 (eC (.bl false))) x6i)
 (x17 (x20 11 (eIx (x0l x3w 2 (x01 (x05 1) (x01 (x05 7) x0f))) (x05 8)))
 (x17 (x20 12 (x2x 1 (x9m (x05 5)) (x0q 19) (x3m (e2 dNe (eIx (x1k 1 (x1k 19 (eC (.int 1)))) (x1k 10 (x1k 19 (eC (.int 0))))) (x1k 10 (x1k 19 (eC (.int 0)))))) (x05 19) false))
 (x17 (sIf (x3m (e2 dNe (e2 dEq (eIx (x1k 1 (x05 11)) (x05 9)) (x05 9)) (e2 dEq (x05 12) (x5j x0f)))) (x36 (eC (.bl false))) x6i)
 (x17 (x20 13 (eIx (x0l x3w 2 (x01 (x05 1) (x01 (x4i (x01 (x05 3) (x01 (x05 4) (x01 (x2l (x01 (x2x 1 (x0z (x01 (x05 3) x0f)) (x0q 19) x27 (x4i (x01 (x05 19) (x01 (x1k 10 (x05 19)) x0f))) false) x0f)) x0f)))) x0f))) (x05 8)))
 (x17 (sIf (x3m (e2 dNe (eIx (x1k 1 (x05 13)) (x05 9)) (x05 9))) (x36 (eC (.bl false))) x6i)
 (x17 (x80 (x0z (x01 (x05 3) x0f)) (x0q 14) (x80 (x0z (x01 (x1f 1) x0f)) (x0q 15) (sIf (x3m (e2 dNe (eIx (x1k 1 (x05 15)) (x1k 10 (x05 14))) (x1k 10 (x05 14)))) (x17 (x20 16 (eIx (x0l x3w 2 (x01 (x05 1) (x01 (x4i (x01 (x05 3) (x01 (x05 4) (x01 (x4i (x01 (x4i (x01 (x05 14) (x01 (x05 15) x0f))) x0f)) x0f)))) x0f))) (x05 8)))
 (sIf (x3m (e2 dEq (eIx (x1k 1 (x05 16)) (x05 9)) (x05 9))) (x36 (eC (.bl false))) x6i)) x6i)))
 (x17 (x20 17 (x0l x28 3 (x01 (x05 0) (x01 (eC (.int 202)) (x01 (x05 1) x0f)))))
 (x17 (x20 18 (x4i (x01 (x05 3) (x01 (z5b (x05 4) (x4i (x01 (x4i (x01 (eC (.int 0)) (x01 (eC (.int 0)) (x01 (x05 17) x0f)))) x0f))) (x01 (x05 5) x0f)))))
 (x17 (sIf (x3m (e2 dNe (e2 dEq (x0l x1i 4 (x01 (x05 1) (x01 (x05 18) (x01 (x05 8) (x01 (x05 9) x0f))))) (eC (.str "no rule"))) (e2 dIn (eC .non) (x0l x1x 2 (x01 (x05 1) (x01 (x05 17) x0f)))))) (x36 (eC (.bl false))) x6i)
 (x36 (e2 dEq (x0l x1i 4 (x01 (x05 1) (x01 (x05 18) (x01 (eIx (x5j (x01 (z9g (eC (.int 1))) (x01 (x05 3) x0f))) (x0l x0c 3 (x01 (x05 0) (x01 (eC (.int 222)) (x01 (eC (.int 2)) x0f))))) (x01 (x05 9) x0f))))) (eC (.str "no place"))))))))))))))))))))))
noncomputable def y8r:List D->OD:=fnD 19 (j1v)
theorem x3j:FnScope ["_law_script","_law_ladder_here","_law_low_here","_law_places","_law_ways","_law_begins","_law_plain","_law_chart_here","_law_place","_law_worth","_law_told","_law_comes","_law_over","_law_full","_law_k","_law_more","_law_here","_law_rule_here","_law_other"] ["_law_script"] (x0a (top 58)):=fsq
abbrev z65:List Str:=["_law_script","_law_ladder_here","_law_low_here","_law_places","_law_ways","_law_begins","_law_plain","_law_chart_here","_law_place","_law_worth","_law_told","_law_comes","_law_over","_law_full","_law_k","_law_more","_law_here","#17","_law_other","_law_start","_law_goal","_law_rule_here"]
theorem y6f:(z65).Nodup:=by decide +kernel
abbrev z6d:List Str:=["_law_script","_law_ladder_here","_law_low_here","_law_places","_law_ways","_law_begins","_law_plain","_law_chart_here","_law_place","_law_worth","_law_told","_law_comes","_law_over","_law_full","_law_k","_law_more","_law_here","_law_rule_here","_law_other","_law_begin"]
theorem z9u:(z6d).Nodup:=by decide +kernel
abbrev z60:List Str:=["_law_script","_law_ladder_here","_law_low_here","_law_places","_law_ways","_law_begins","_law_plain","_law_chart_here","_law_place","_law_worth","_law_told","_law_comes","_law_over","_law_full","#14","_law_more","_law_here","_law_rule_here","_law_other","_law_k"]
theorem z81:(z60).Nodup:=by decide +kernel
theorem z8o (B:Bt mg)(c9:Cal P w K mg base 4 "_law_ladder" 2 x3s)(c10:Cal P w K mg base 1 "_law_low" 1 x35)(c6:Cal P w K mg base 5 "_law_chart" 4 x3f)(c11:Cal P w K mg base 2 "_law_pick" 3 x0c)(c16:Cal P w K mg base 10 "_law_tried" 4 x1i)(c31:Cal P w K mg base 7 "least" 2 x3w)(c12:Cal P w K mg base 3 "_law_rule" 3 x28)(c20:Cal P w K mg base 5 "back_rule" 2 x1x){f:Addr}{fd:FuncData}(F:Fun K "law" "law" (top 58) f fd):FnOk P w K mg base CX0 11 f fd ["_law_script"] (spD K 1 y8r):=
 z7y (k:=10) F x3j fun f cdv A outer s H E hr=>
  x08 (x0m (i:=1) x3j.nd rfl (Or.inr rfl) (x09 c9 hr (by decide) (x00 (x02 (qv 0)) (x00 x0b x03 x07) x04)))
  (x08 (x0m (i:=2) x3j.nd rfl (Or.inr rfl) (x09 c10 hr (by decide) (x00 (x02 (qv 1)) x03 x04)))
  (x08 (z84 (x09 c6 hr (by decide) (x00 (x02 (qv 0)) (x00 x0b (x00 (x02 (qv 1)) (x00 y0u x03 x07) x04) x07) x04)) (y05 (n:=3) rfl (x22 (x0k (i:=3) (show 0<=3 by decide) x3j.nd rfl (Or.inl rfl)) (x22 (x0k (i:=4) (show 0<=4 by decide) x3j.nd rfl (Or.inl rfl)) (x22 (x0k (i:=5) (show 0<=5 by decide) x3j.nd rfl (Or.inl rfl)) x83))) y32))
  (x08 (x0m (i:=6) x3j.nd rfl (Or.inr rfl) (x2n B.m_tuple PyProof.Rows.boot_tuple (x00 (x9x rfl B.m_list PyProof.Rows.boot_list B.m_range (x00 (x15 B.m_len (qv 1)) x03 x0j)) x03 x0j)))
  (x08 (x0m (i:=4) x3j.nd rfl (Or.inl rfl) (x2n B.m_tuple PyProof.Rows.boot_tuple (x00 (x2z (k:=3) (N':=z65) false rfl ⟨rfl,by decide +kernel,rfl,rfl,rfl⟩ (x4c (x02 (qv 4))) (fun _ _ _ _=>y05 (n:=3) rfl (x22 (x0k (i:=19) (show 19<=19 by decide) y6f rfl (Or.inl rfl) (Or.inr rfl)) (x22 (x0k (i:=20) (show 19<=20 by decide) y6f rfl (Or.inl rfl) (Or.inr rfl)) (x22 (x0k (i:=21) (show 19<=21 by decide) y6f rfl (Or.inl rfl) (Or.inr rfl)) x83))) y32) (fun _ _ _ _=>x2c) (fun _ _ _ _=>x2k (x00 (x02 (qv 19)) (x00 (x02 (qv 20)) (x00 (y3m (x96 hr (x0t (qv 21) (x02 (qv 2))) (x02 (qv 2))) (x02 (qv 21)) (x02 (qv 6))) x03 y6n) x04) x04))) x03 x26)))
  (x08 (x0m (i:=7) x3j.nd rfl (Or.inl rfl) (x2k (x00 (x02 (qv 3)) (x00 (x02 (qv 4)) (x00 (x02 (qv 5)) x03 x04) x04) x04)))
  (x08 (x0m (i:=8) x3j.nd rfl (Or.inl rfl) (x09 c11 hr (by decide) (x00 (x02 (qv 0)) (x00 x0b (x00 (x02 (qv 3)) x03 x04) x07) x04)))
  (x08 (x0m (i:=9) x3j.nd rfl (Or.inl rfl) (x09 c11 hr (by decide) (x00 (x02 (qv 0)) (x00 x0b (x00 (x15 B.m_len (qv 1)) x03 x0j) x07) x04)))
  (x08 (x0m (i:=10) x3j.nd rfl (Or.inr rfl) (x09 c16 hr (by decide) (x00 (x02 (qv 1)) (x00 (x02 (qv 7)) (x00 (x02 (qv 8)) (x00 (x02 (qv 9)) x03 x04) x04) x04) x04)))
  (x08 (x33 (z2g (y4z (x7h (x4d (y3z .tuple B.m_isinstance B.m_tuple PyProof.Rows.boot_tuple (x02 (qv 10))))) (y2w (x6d hr (x15 B.m_len (qv 10)) (x02 (qv 3)))))) (x0e (x0p y0u)) x1v)
  (x08 (x0m (i:=11) x3j.nd rfl (Or.inl rfl) (x3z (x09 c31 hr (by decide) (x00 (x02 (qv 1)) (x00 (x02 (qv 7)) x03 x04) x04)) (x02 (qv 8))))
  (x08 (x9y (i:=12) (k:=1) (N':=z6d) false x3j.nd rfl (Or.inl rfl) rfl rfl ⟨rfl,by decide +kernel,rfl,rfl,rfl⟩ (x4c (x02 (qv 5))) (fun _ _ _ _=>x0k (i:=19) (show 19<=19 by decide) z9u rfl (Or.inl rfl) (Or.inr rfl)) (fun _ _ _ _=>x6y (x6d hr (x3z (x0t (qv 1) (x0t (qv 19) x0b)) (x0t (qv 10) (x0t (qv 19) x0b))) (x0t (qv 10) (x0t (qv 19) x0b)))) (fun _ _ _ _=>x02 (qv 19)))
  (x08 (x33 (x6d hr (y9j hr (x3z (x0t (qv 1) (x02 (qv 11))) (x02 (qv 9))) (x02 (qv 9))) (y9j hr (x02 (qv 12)) (x2e x03))) (x0e (x0p y0u)) x1v)
  (x08 (x0m (i:=13) x3j.nd rfl (Or.inl rfl) (x3z (x09 c31 hr (by decide) (x00 (x02 (qv 1)) (x00 (x2k (x00 (x02 (qv 3)) (x00 (x02 (qv 4)) (x00 (x2n B.m_tuple PyProof.Rows.boot_tuple (x00 (x2z (k:=1) (N':=z60) false rfl ⟨rfl,by decide +kernel,rfl,rfl,rfl⟩ (x0r B.m_range (x00 (x02 (qv 3)) x03 x04)) (fun _ _ _ _=>x0k (i:=19) (show 19<=19 by decide) z81 rfl (Or.inl rfl) (Or.inr rfl)) (fun _ _ _ _=>x2c) (fun _ _ _ _=>x2k (x00 (x02 (qv 19)) (x00 (x0t (qv 10) (x02 (qv 19))) x03 x0y) x04))) x03 x26)) x03 x0j) x04) x04)) x03 x49) x04)) (x02 (qv 8))))
  (x08 (x33 (x6d hr (x3z (x0t (qv 1) (x02 (qv 13))) (x02 (qv 9))) (x02 (qv 9))) (x0e (x0p y0u)) x1v)
  (x08 (x2v PassesOwn.never rfl (x0r B.m_range (x00 (x02 (qv 3)) x03 x04)) (x0k (i:=14) (show 0<=14 by decide) x3j.nd rfl (Or.inl rfl)) (x0e (x2v PassesOwn.never rfl (x0r B.m_range (x00 (x15 B.m_len (qv 1)) x03 x0j)) (x0k (i:=15) (show 0<=15 by decide) x3j.nd rfl (Or.inl rfl)) (x0e (x33 (x6d hr (x3z (x0t (qv 1) (x02 (qv 15))) (x0t (qv 10) (x02 (qv 14)))) (x0t (qv 10) (x02 (qv 14)))) (x08 (x0m (i:=16) x3j.nd rfl (Or.inl rfl) (x3z (x09 c31 hr (by decide) (x00 (x02 (qv 1)) (x00 (x2k (x00 (x02 (qv 3)) (x00 (x02 (qv 4)) (x00 (x2k (x00 (x2k (x00 (x02 (qv 14)) (x00 (x02 (qv 15)) x03 x04) x04)) x03 x49)) x03 x49) x04) x04)) x03 x49) x04)) (x02 (qv 8))))
  (x0e (x33 (x96 hr (x3z (x0t (qv 1) (x02 (qv 16))) (x02 (qv 9))) (x02 (qv 9))) (x0e (x0p y0u)) x1v))) x1v)))))
  (x08 (x0m (i:=17) x3j.nd rfl (Or.inl rfl) (x09 c12 hr (by decide) (x00 (x02 (qv 0)) (x00 x0b (x00 (x02 (qv 1)) x03 x04) x07) x04)))
  (x08 (x0m (i:=18) x3j.nd rfl (Or.inl rfl) (x2k (x00 (x02 (qv 3)) (x00 (z07 (x02 (qv 4)) (x2k (x00 (x2k (x00 x0b (x00 x0b (x00 (x02 (qv 17)) x03 x04) x07) x07)) x03 x49))) (x00 (x02 (qv 5)) x03 x04) x1c) x04)))
  (x08 (x33 (x6d hr (y9j hr (x09 c16 hr (by decide) (x00 (x02 (qv 1)) (x00 (x02 (qv 18)) (x00 (x02 (qv 8)) (x00 (x02 (qv 9)) x03 x04) x04) x04) x04)) x63) (j5g hr x9j (x09 c20 hr (by decide) (x00 (x02 (qv 1)) (x00 (x02 (qv 17)) x03 x04) x04)))) (x0e (x0p y0u)) x1v)
  (x0e (x0p (y9j hr (x09 c16 hr (by decide) (x00 (x02 (qv 1)) (x00 (x02 (qv 18)) (x00 (x3z (x2e (x00 (j3j x0b) (x00 (x02 (qv 3)) x03 x04) y8j)) (x09 c11 hr (by decide) (x00 (x02 (qv 0)) (x00 x0b (x00 x0b x03 x07) x07) x04))) (x00 (x02 (qv 9)) x03 x04) x0y) x04) x04)) x63)))))))))))))))))))))
end
abbrev scr (ns:List Int):D:=.lst (ns.map D.int)
def z38 (ns:List Int)(k:Int):Int:=if k<ns.length then ns.getD k.toNat 0 else if ns=[]then 0 else ns.getD (k % ns.length).toNat 0*31+k
theorem z5k {ns:List Int}{k:Int}(h0:0<=k)(h:k<ns.length):L2.atI (ns.map D.int) k=some (.int (ns.getD k.toNat 0)):=by
 obtain⟨m,rfl⟩:∃ m:Nat,k=Int.ofNat m:=⟨k.toNat,by show k=(k.toNat:Int);omega⟩
 have hk:m<ns.length:=by have:(m:Int)<ns.length:=h;omega
 apply y4n
 rw[List.getElem?_map,List.getElem?_eq_getElem hk]
 simp[hk]
theorem j3n (ns:List Int):Sh 1 (scr ns):=.lst fun d m=>by
 obtain⟨x,_,rfl⟩:=List.mem_map.mp m
 exact .int _
theorem z5l (ns:List Int):dEq (scr ns) (.lst [])=some (.bl (decide (ns=[]))):=by
 unfold dEq
 rw[if_pos ⟨(j3n ns).ok,(j4e []).ok⟩]
 cases ns<;>rfl
theorem z76 (ns:List Int)(k:Int)(h0:0<=k):x4s [scr ns,.int k]=some (.int (z38 ns k),9):=by
 unfold x4s y0p z38
 by_cases h:k<ns.length
 ·simp[h,z5k h0 h,x95,atD]
 ·by_cases hn:ns=[]
  ·subst hn
   have h':¬ k<0:=by omega
   simp[h',x95,z5l]
  ·have hp:(0:Int)<ns.length:=by have:=List.length_pos_iff.mpr hn;omega
   have h1:=Int.emod_nonneg k (Int.ne_of_gt hp)
   have h2:=Int.emod_lt_of_pos k hp
   have h3:=z5k h1 h2
   have hp':=List.length_pos_iff.mpr hn
   simp[h,x95,atD,z5l,hn,hp',h3]
def x94 (ns:List Int)(k:Int):Int:=(z38 ns k+6151*(k+1))*40692 % 2147483399
def x65 (ns:List Int)(k m:Int):Int:=(x94 ns k*x94 ns k+x94 ns k / 31) % 2147483629 % m
theorem x53 (ns:List Int)(k m:Int)(h0:0<=k)(hm:0<m):x0c [scr ns,.int k,.int m]=some (.int (x65 ns k m),9):=by
 have d0:0<=x94 ns k:=Int.emod_nonneg _ (by decide)
 have d1:x94 ns k<2147483399:=Int.emod_lt_of_pos _ (by decide)
 have g1:-18446744073709551616<x94 ns k:=by omega
 have g2:x94 ns k<18446744073709551616:=by omega
 have hd:(z38 ns k+6151*(k+1))*40692 % 2147483399=x94 ns k:=rfl
 unfold x0c y08 x65
 simp[z76 ns k h0,hm,hd,g1,g2]
theorem x4l (ns:List Int)(k:Int){m:Int}(hm:0<m):0<=x65 ns k m:=Int.emod_nonneg _ (Int.ne_of_gt hm)
theorem x52 (ns:List Int)(k:Int){m:Int}(hm:0<m):x65 ns k m<m:=Int.emod_lt_of_pos _ hm
def tf (rows:List (List Nat))(i j:Nat):Nat:=(rows.getD i []).getD j 0
def x3l (rows:List (List Nat)):D:=x40 rows.length (tf rows)
def ch (n:Nat):List (List Nat):=(List.range n).map fun i=>(List.range n).map fun j=>max i j
def cp (a b:List (List Nat)):List (List Nat):=(List.range (a.length*b.length)).map fun i=>(List.range (a.length*b.length)).map fun j=>tf a (i / b.length) (j / b.length)*b.length+tf b (i % b.length) (j % b.length)
def sb (n:Nat):List (List Nat):=(List.range (n+2)).map fun i=>(List.range (n+2)).map fun j=>if i=0\/j=0\/i=j then max i j else n+1
def n5:List (List Nat):=[[0,1,2,3,4],[1,1,2,4,4],[2,2,2,4,4],[3,4,4,3,4],[4,4,4,4,4]]
def y4s:List (List (List Nat)):=[ch 1,ch 2,ch 3,ch 4,ch 5,cp (ch 2) (ch 2),cp (ch 2) (ch 3),cp (ch 2) (ch 4),sb 0,sb 1,sb 2,sb 3,sb 4,cp (ch 2) (cp (ch 2) (ch 2)),n5]
theorem ch1:x12 [.int 1]=some (x3l (ch 1),1):=by rfl
theorem ch2:x12 [.int 2]=some (x3l (ch 2),1):=by rfl
theorem ch3:x12 [.int 3]=some (x3l (ch 3),1):=by rfl
theorem ch4:x12 [.int 4]=some (x3l (ch 4),1):=by rfl
theorem ch5:x12 [.int 5]=some (x3l (ch 5),1):=by rfl
theorem sb0:x0v [.int 0]=some (x3l (sb 0),0):=by rfl
theorem sb1:x0v [.int 1]=some (x3l (sb 1),0):=by rfl
theorem sb2:x0v [.int 2]=some (x3l (sb 2),0):=by rfl
theorem sb3:x0v [.int 3]=some (x3l (sb 3),0):=by rfl
theorem sb4:x0v [.int 4]=some (x3l (sb 4),0):=by rfl
theorem j6h:x1e [x3l (ch 2),x3l (ch 2)]=some (x3l (cp (ch 2) (ch 2)),0):=by rfl
theorem j6o:x1e [x3l (ch 2),x3l (ch 3)]=some (x3l (cp (ch 2) (ch 3)),0):=by rfl
theorem j6t:x1e [x3l (ch 2),x3l (ch 4)]=some (x3l (cp (ch 2) (ch 4)),0):=by rfl
theorem j65:x1e [x3l (ch 2),x3l (cp (ch 2) (ch 2))]=some (x3l (cp (ch 2) (cp (ch 2) (ch 2))),0):=by rfl
theorem z6l (ns:List Int)(t:Int)(h0:0<=t):∃ rows∈y4s,∃ q,x4r [scr ns,.int t]=some (x3l rows,q):=by
 have k0:=x4l ns t (m:=9) (by decide)
 have k1:=x52 ns t (m:=9) (by decide)
 have p0:=x4l ns (t+1) (m:=5) (by decide)
 have p1:=x52 ns (t+1) (m:=5) (by decide)
 have r0:=x4l ns (t+1) (m:=3) (by decide)
 have r1:=x52 ns (t+1) (m:=3) (by decide)
 have e9:=x53 ns t 9 h0 (by decide)
 have e5:=x53 ns (t+1) 5 (by omega) (by decide)
 have e3:=x53 ns (t+1) 3 (by omega) (by decide)
 have mem:∀ i:Nat,i<15->y4s.getD i []∈y4s:=fun i hi=>by
  rw[List.getD_eq_getElem?_getD,List.getElem?_eq_getElem (show i<y4s.length from hi)]
  exact List.getElem_mem _
 have hc:∀ p:Int,0<=p->p<5->∃ rows∈y4s,x12 [.int (1+p)]=some (x3l rows,1):=fun p a b=>by
  have:p=0\/p=1\/p=2\/p=3\/p=4:=by omega
  rcases this with rfl|rfl|rfl|rfl|rfl
  ·exact⟨_,mem 0 (by decide),ch1⟩
  ·exact⟨_,mem 1 (by decide),ch2⟩
  ·exact⟨_,mem 2 (by decide),ch3⟩
  ·exact⟨_,mem 3 (by decide),ch4⟩
  ·exact⟨_,mem 4 (by decide),ch5⟩
 have hs:∀ p:Int,0<=p->p<5->∃ rows∈y4s,x0v [.int p]=some (x3l rows,0):=fun p a b=>by
  have:p=0\/p=1\/p=2\/p=3\/p=4:=by omega
  rcases this with rfl|rfl|rfl|rfl|rfl
  ·exact⟨_,mem 8 (by decide),sb0⟩
  ·exact⟨_,mem 9 (by decide),sb1⟩
  ·exact⟨_,mem 10 (by decide),sb2⟩
  ·exact⟨_,mem 11 (by decide),sb3⟩
  ·exact⟨_,mem 12 (by decide),sb4⟩
 have hp:∀ r:Int,0<=r->r<3->∃ x rows1 rows,atD (.lst [.int 2,.int 3,.int 4]) r=some (.int x)/\x12 [.int x]=some (x3l rows1,1)/\rows∈y4s/\x1e [x3l (ch 2),x3l rows1]=some (x3l rows,0):=fun r a b=>by
  have:r=0\/r=1\/r=2:=by omega
  rcases this with rfl|rfl|rfl
  ·exact⟨2,_,_,rfl,ch2,mem 5 (by decide),j6h⟩
  ·exact⟨3,_,_,rfl,ch3,mem 6 (by decide),j6o⟩
  ·exact⟨4,_,_,rfl,ch4,mem 7 (by decide),j6t⟩
 unfold x4r y0t
 generalize x65 ns t 9=k at *
 generalize x65 ns (t+1) 5=p at *
 generalize x65 ns (t+1) 3=r at *
 by_cases h3:k<3
 ·obtain⟨rows,hm,e⟩:=hc p p0 p1
  exact⟨rows,hm,1,by simp[e9,e5,h3,e]⟩
 by_cases h5:k<5
 ·obtain⟨x,rows1,rows,ea,e1,hm,e2'⟩:=hp r r0 r1
  exact⟨rows,hm,0,by simp[e9,e3,h3,h5,ch2,ea,e1,e2']⟩
 by_cases h7:k<7
 ·obtain⟨rows,hm,e⟩:=hs p p0 p1
  exact⟨rows,hm,0,by simp[e9,e5,h3,h5,h7,e]⟩
 have:k=7\/k=8:=by omega
 rcases this with rfl|rfl
 ·exact⟨_,mem 13 (by decide),0,by simp[e9,z02,ch2,j6h];exact j65⟩
 ·refine⟨_,mem 14 (by decide),0,?_⟩
  simp[e9,z02]
  rfl
theorem z40:∀ rows∈y4s,j5f rows.length (tf rows)=true:=by decide +kernel
def pk (ns:List Int)(t:Int)(k m:Nat):Nat:=(x65 ns (t+2+Int.ofNat k) (Int.ofNat m)).toNat
theorem z8f (ns:List Int)(t:Int)(k m:Nat)(h:0<m):pk ns t k m<m:=by
 have h1:=x4l ns (t+2+Int.ofNat k) (m:=Int.ofNat m) (by show(0:Int)<m;omega)
 have h2:=x52 ns (t+2+Int.ofNat k) (m:=Int.ofNat m) (by show(0:Int)<m;omega)
 have h3:(Int.ofNat m)=(m:Int):=rfl
 unfold pk
 omega
theorem j66 (ns:List Int)(t:Int)(k m:Nat)(h:0<m):x65 ns (t+2+Int.ofNat k) (Int.ofNat m)=Int.ofNat (pk ns t k m):=by
 have h1:=x4l ns (t+2+Int.ofNat k) (m:=Int.ofNat m) (by show(0:Int)<m;omega)
 unfold pk
 show _=((x65 ns (t+2+Int.ofNat k) (Int.ofNat m)).toNat:Int)
 omega
section
variable (ns:List Int)(t:Int)(n:Nat)(B:Nat->Nat->Nat)(q:Nat)
theorem z4s (h0:0<=t)(hn:n<=16):x66 1 (x0q 8) x27 (j08 3 (x01 (x0l x0c 3 (x01 (x05 0) (x01 (e2 x41 (e2 x41 (x05 1) (eC (.int 2))) (x05 8)) (x01 (x1f 3) x0f)))) x0f)) false (x10 n)
  [some (scr ns,0),some (.int t,9),some (x40 n B,q),some (.lst (x10 n),1),none,none,none,none] =
  some (x0h ((List.range n).map (drawn (pk ns t) n)),[some (scr ns,0),some (.int t,9),some (x40 n B,q),some (.lst [],1),none,none,none,none]):=by
 have hp:=z8f ns t
 have h:=x4g (k:=1) (pt:=x0q 8) (tt:=x27) (te:=j08 3 (x01 (x0l x0c 3 (x01 (x05 0) (x01 (e2 x41 (e2 x41 (x05 1) (eC (.int 2))) (x05 8)) (x01 (x1f 3) x0f)))) x0f)) (deep:=false) (x10 n)
  (fun k=>[some (scr ns,0),some (.int t,9),some (x40 n B,q),some (.lst (x0h (x60 (pk ns t) n k)),1),none,none,none,none]) (fun _=>true) (fun k=>.int (Int.ofNat (drawn (pk ns t) n k))) (fun k hk=>?_)
 ·rw[x0s]at h
  have hl:x60 (pk ns t) n n=[]:=List.length_eq_zero_iff.mp (by rw[x7k hp n (Nat.le_refl n)];omega)
  rw[hl]at h
  have e1:(List.range n).filter (fun _=>true)=List.range n:=by simp
  rw[e1]at h
  simp only[x0h,List.map_map,Function.comp_def]
  exact h
 ·rw[x0s]at hk
  have hl:=x7k hp k (Nat.le_of_lt hk)
  have hlp:0<(x60 (pk ns t) n k).length:=by rw[hl];omega
  have e:=j66 ns t k _ hlp
  have hj:=z8f ns t k _ hlp
  have hpk:=x53 ns (t+2+Int.ofNat k) (Int.ofNat (x60 (pk ns t) n k).length) (by show 0<=t+2+(k:Int);omega) (by show(0:Int)<((x60 (pk ns t) n k).length:Int);omega)
  have hs:seqIndex? (Int.ofNat (pk ns t k (x60 (pk ns t) n k).length)) (x0h (x60 (pk ns t) n k)).length=some (pk ns t k (x60 (pk ns t) n k).length):=(y5x (y2z (by rw[x1b];exact hj))).1
  have hg:(x0h (x60 (pk ns t) n k))[pk ns t k (x60 (pk ns t) n k).length]? = some (.int (Int.ofNat (drawn (pk ns t) n k))):=by
   rw[y2t]
   unfold drawn
   rw[List.getD_eq_getElem?_getD,List.getElem?_eq_getElem hj]
   rfl
  have hb:pk ns t k (x60 (pk ns t) n k).length<=16:=by omega
  have he:(x0h (x60 (pk ns t) n k)).eraseIdx (pk ns t k (x60 (pk ns t) n k).length)=x0h (x60 (pk ns t) n (k+1)):=by rw[x60,y25]
  refine⟨[some (scr ns,0),some (.int t,9),some (x40 n B,q),some (.lst (x0h (x60 (pk ns t) n k)),1),none,none,none,none,some (.int (Int.ofNat k),9)],_,by simp[x10],rfl,?_⟩
  rw[if_pos rfl]
  refine⟨9,[some (scr ns,0),some (.int t,9),some (x40 n B,q),some (.lst (x0h (x60 (pk ns t) n (k+1))),1),none,none,none,none,some (.int (Int.ofNat k),9)],?_,by simp,by simp⟩
  have b1:(-1000:Int)<=Int.ofNat (pk ns t k (x60 (pk ns t) n k).length):=by show(-1000:Int)<=(pk ns t k (x60 (pk ns t) n k).length:Int);omega
  have b2:Int.ofNat (pk ns t k (x60 (pk ns t) n k).length)<=1000:=by show(pk ns t k (x60 (pk ns t) n k).length:Int)<=1000;omega
  have hl':x95 (.lst (x0h (x60 (pk ns t) n k)))=some (x60 (pk ns t) n k).length:=by simp[x95,x1b]
  rw[e]at hpk
  simp[-Int.ofNat_eq_natCast,hl',hpk,hs,hg,he,b1,b2]
theorem z8k (hn:n<=16)(x:OD):x66 1 (x0q 8) x27 (y65 (x5j (x01 (eC (.int 0)) x0f)) (x1f 2)) true ((List.range n).map fun i=>x8c n B i)
  [some (scr ns,0),some (.int t,9),some (x40 n B,0),some (.lst [],1),x,none,none,none] =
  some ((List.range n).map fun i=>x8c n (fun _ _=>0) i,[some (scr ns,0),some (.int t,9),some (x40 n B,0),some (.lst [],1),x,none,none,none]):=by
 have h:=x4g (k:=1) (pt:=x0q 8) (tt:=x27) (te:=y65 (x5j (x01 (eC (.int 0)) x0f)) (x1f 2)) (deep:=true) ((List.range n).map fun i=>x8c n B i)
  (fun _=>[some (scr ns,0),some (.int t,9),some (x40 n B,0),some (.lst [],1),x,none,none,none]) (fun _=>true) (fun i=>x8c n (fun _ _=>0) i) (fun k hk=>?_)
 ·rw[List.length_map,List.length_range,show(List.range n).filter (fun _=>true)=List.range n by simp]at h
  exact h
 ·refine⟨[some (scr ns,0),some (.int t,9),some (x40 n B,0),some (.lst [],1),x,none,none,none,some (x8c n B k,0)],_,by simp[x8c],rfl,?_⟩
  rw[if_pos rfl]
  refine⟨1,[some (scr ns,0),some (.int t,9),some (x40 n B,0),some (.lst [],1),x,none,none,none,some (x8c n B k,0)],?_,by simp,by simp⟩
  have z:x8c n (fun _ _=>0) k=D.lst (List.replicate n [D.int 0]).flatten:=(j50 n).symm
  have b1:(-1000:Int)<=n:=by omega
  have b2:(n:Int)<=1000:=by omega
  have b3:n<=1000:=by omega
  rw[z]
  simp[x7r,b1,b2,b3]
def gst (π ι:Nat->Nat)(i j a b:Nat):Nat:=if ι a<i\/(ι a=i/\ι b<j)then π (B (ι a) (ι b))else 0
abbrev y5s:x16:=y7r 5 (qIx 4 (z68 6)) (qIx 4 (z68 7)) (x1k 4 (eIx (x1k 2 (x05 6)) (x05 7)))
section
variable {n B}{π ι:Nat->Nat}(cl:∀ i j,i<n->j<n->B i j<n)(h1:∀ i,i<n->π i<n)(h2:∀ i,i<n->ι i<n)(h3:∀ i,i<n->ι (π i)=i)(h4:∀ i,i<n->π (ι i)=i)
include cl h1 h2 h3 h4
theorem z1p {f:Nat->Nat->Nat}{i j:Nat}(hi:i<n)(hj:j<n){y:OD} :
  y5s [some (scr ns,0),some (.int t,9),some (x40 n B,0),some (.lst [],1),some (.lst (x0h ((List.range n).map π)),1),some (x40 n f,2),some (.int (Int.ofNat i),9),some (.int (Int.ofNat j),9)] =
  some (.nx [some (scr ns,0),some (.int t,9),some (x40 n B,0),some (.lst [],1),some (.lst (x0h ((List.range n).map π)),1),some (x40 n (fun a b=>if a=π i/\b=π j then π (B i j)else f a b),2),some (.int (Int.ofNat i),9),some (.int (Int.ofNat j),9)]):=by
 have a1:=z6w (f:=B) hi
 have a2:=z7c (f:=B) (i:=i) hj
 have a3:atD (.lst (x0h ((List.range n).map π))) (Int.ofNat (B i j))=some (.int (Int.ofNat (π (B i j)))):=x2p (cl i j hi hj)
 have a4:atD (.lst (x0h ((List.range n).map π))) (Int.ofNat i)=some (.int (Int.ofNat (π i))):=x2p hi
 have a5:atD (.lst (x0h ((List.range n).map π))) (Int.ofNat j)=some (.int (Int.ofNat (π j))):=x2p hj
 have a6:ixN ((List.range n).map fun a=>x8c n f a).length (Int.ofNat (π i))=some (π i):=y2z (by simpa using h1 i hi)
 have a7:((List.range n).map fun a=>x8c n f a)[π i]? = some (.lst (x0h ((List.range n).map fun b=>f (π i) b))):=by rw[List.getElem?_map,List.getElem?_range (h1 i hi)];rfl
 have a8:ixN (x0h ((List.range n).map fun b=>f (π i) b)).length (Int.ofNat (π j))=some (π j):=y2z (by simpa [x1b]using h1 j hj)
 have a9:=z42 (n:=n) (f:=f) (a:=π i) (b:=π j) (v:=π (B i j))
 rw[<- a9]
 show y5s [some (scr ns,0),some (.int t,9),some (x40 n B,0),some (.lst [],1),some (.lst (x0h ((List.range n).map π)),1),some (.lst ((List.range n).map fun a=>x8c n f a),2),some (.int (Int.ofNat i),9),some (.int (Int.ofNat j),9)]=_
 unfold y5s
 simp only[y7r,x1k,eIx,x05,qIx,z68,List.getElem?_cons_succ,List.getElem?_cons_zero,D.isL,if_true,a1,a2,a3,a4,a5,a6,a7,a8,ne_eq,not_true_eq_false,false_and,and_false,if_false,Bool.false_eq_true,reduceCtorEq,Nat.not_lt_zero,Nat.lt_irrefl,y1e,List.set_cons_succ,List.set_cons_zero]
abbrev y7f (f:Nat->Nat->Nat)(x y:OD):Rho:=[some (scr ns,0),some (.int t,9),some (x40 n B,0),some (.lst [],1),some (.lst (x0h ((List.range n).map π)),1),some (x40 n f,2),x,y]
omit cl h1 h2 h3 h4
theorem x44 {i:Nat}(h:i<(x10 n).length):(x10 n)[i]=.int (Int.ofNat i):=by simp[x10]
include cl h1 h2 h3 h4
theorem z4p {i j:Nat}(hi:i<n)(hj:j<n):x40 n (fun a b=>if a=π i/\b=π j then π (B i j)else gst B π ι i j a b)=x40 n (gst B π ι i (j+1)):=by
 refine x6t fun a b ha hb=>?_
 unfold gst
 by_cases h:a=π i/\b=π j
 ·obtain⟨rfl,rfl⟩:=h
  rw[if_pos ⟨rfl,rfl⟩,h3 i hi,h3 j hj,if_pos (.inr ⟨rfl,Nat.lt_succ_self _⟩)]
 ·rw[if_neg h]
  have:¬ (ι a=i/\ι b=j):=fun⟨e1,e2⟩=>h ⟨by rw[<- e1,h4 a ha],by rw[<- e2,h4 b hb]⟩
  by_cases c:ι a<i\/ι a=i/\ι b<j
  ·rw[if_pos c,if_pos (by omega)]
  ·rw[if_neg c,if_neg (by omega)]
theorem z7k {i:Nat}:x40 n (gst B π ι i n)=x40 n (gst B π ι (i+1) 0):=by
 refine x6t fun a b ha hb=>?_
 have:=h2 b hb
 unfold gst
 by_cases c:ι a<i\/ι a=i/\ι b<n
 ·rw[if_pos c,if_pos (by omega)]
 ·rw[if_neg c,if_neg (by omega)]
theorem z46 (hn:n<=16){i:Nat}(hi:i<n)(y:OD):∃ y',x9g (x0q 7) y5s (x10 n) (y7f ns t (n:=n) (B:=B) (π:=π) (gst B π ι i 0) (some (.int (Int.ofNat i),9)) y) =
  some (.nx (y7f ns t (n:=n) (B:=B) (π:=π) (gst B π ι (i+1) 0) (some (.int (Int.ofNat i),9)) y')):=by
 obtain⟨ρ',e,y',rfl⟩:=x3n (pt:=x0q 7) (body:=y5s) (x10 n) (fun j ρ=>∃ y,ρ=y7f ns t (n:=n) (B:=B) (π:=π) (gst B π ι i j) (some (.int (Int.ofNat i),9)) y) (y7f ns t (n:=n) (B:=B) (π:=π) (gst B π ι i 0) (some (.int (Int.ofNat i),9)) y) (fun j hj ρ hh0=>by
  obtain⟨y,hy⟩:=hh0
  subst hy
  rw[x0s]at hj
  refine⟨y7f ns t (n:=n) (B:=B) (π:=π) (gst B π ι i j) (some (.int (Int.ofNat i),9)) (some (.int (Int.ofNat j),9)),_,by rw[x44];simp,.inl (z1p ns t cl h1 h2 h3 h4 hi hj (y:=none)),?_⟩
  rw[z4p cl h1 h2 h3 h4 hi hj]
  exact⟨_,rfl⟩) ⟨y,rfl⟩
 refine⟨y',?_⟩
 rw[e,x0s]
 show some (Out.nx [_,_,_,_,_,some (x40 n (gst B π ι i n),2),_,_])=_
 rw[z7k cl h1 h2 h3 h4]
theorem z4e (hn:n<=16)(x y:OD):∃ x' y',x9g (x0q 6) (x80 (x0z (x01 (x1f 2) x0f)) (x0q 7) y5s) (x10 n) (y7f ns t (n:=n) (B:=B) (π:=π) (fun _ _=>0) x y) =
  some (.nx (y7f ns t (n:=n) (B:=B) (π:=π) (fun a b=>π (B (ι a) (ι b))) x' y')):=by
 have z:x40 n (fun _ _=>0)=x40 n (gst B π ι 0 0):=x6t fun a b _ _=>by unfold gst;rw[if_neg (by omega)]
 have z':x40 n (gst B π ι n 0)=x40 n (fun a b=>π (B (ι a) (ι b))):=x6t fun a b ha _=>by unfold gst;rw[if_pos (.inl (h2 a ha))]
 obtain⟨ρ',e,x',y',rfl⟩:=x3n (pt:=x0q 6) (body:=x80 (x0z (x01 (x1f 2) x0f)) (x0q 7) y5s) (x10 n) (fun i ρ=>∃ x y,ρ=y7f ns t (n:=n) (B:=B) (π:=π) (gst B π ι i 0) x y) (y7f ns t (n:=n) (B:=B) (π:=π) (gst B π ι 0 0) x y) (fun i hi ρ hh0=>by
  obtain⟨x,y,hy⟩:=hh0
  subst hy
  rw[x0s]at hi
  obtain⟨y',hy'⟩:=z46 ns t cl h1 h2 h3 h4 hn hi y
  refine⟨y7f ns t (n:=n) (B:=B) (π:=π) (gst B π ι i 0) (some (.int (Int.ofNat i),9)) y,_,by rw[x44];simp,.inl (show _=some (Out.nx (y7f ns t (n:=n) (B:=B) (π:=π) (gst B π ι (i+1) 0) (some (.int (Int.ofNat i),9)) y'))from ?_),⟨_,_,rfl⟩⟩
  have b1:(-1000:Int)<=Int.ofNat n:=by show(-1000:Int)<=n;omega
  have b2:Int.ofNat n<=1000:=by show(n:Int)<=1000;omega
  have e:x0z (x01 (x1f 2) x0f) (y7f ns t (n:=n) (B:=B) (π:=π) (gst B π ι i 0) (some (.int (Int.ofNat i),9)) y)=some (x10 n,y7f ns t (n:=n) (B:=B) (π:=π) (gst B π ι i 0) (some (.int (Int.ofNat i),9)) y):=by
   simp[-Int.ofNat_eq_natCast,x7r,b1,b2]
   rfl
  unfold x80
  rw[e]
  exact hy') ⟨x,y,rfl⟩
 refine⟨x',y',?_⟩
 show x9g _ _ _ [_,_,_,_,_,some (x40 n (fun _ _=>0),2),_,_]=some (.nx [_,_,_,_,_,some (x40 n (fun a b=>π (B (ι a) (ι b))),2),_,_])
 rw[z,<- z']
 rw[x0s]at e
 exact e
end
end
theorem z2l {n:Nat}{f:Nat->Nat->Nat}{a b c d e:OD}{x y:OD}:x66 1 (x0q 8) x27 (x2l (x01 (x05 8) x0f)) false ((List.range n).map fun i=>x8c n f i) [a,b,c,d,e,some (x40 n f,0),x,y] =
  some ((List.range n).map fun i=>y1k n f i,[a,b,c,d,e,some (x40 n f,0),x,y]):=by
 have h:=x4g (k:=1) (pt:=x0q 8) (tt:=x27) (te:=x2l (x01 (x05 8) x0f)) (deep:=false) ((List.range n).map fun i=>x8c n f i)
  (fun _=>[a,b,c,d,e,some (x40 n f,0),x,y]) (fun _=>true) (fun i=>y1k n f i) (fun k hk=>?_)
 ·rw[List.length_map,List.length_range,show(List.range n).filter (fun _=>true)=List.range n by simp]at h
  exact h
 ·refine⟨[a,b,c,d,e,some (x40 n f,0),x,y,some (x8c n f k,0)],_,by simp[x8c],rfl,?_⟩
  rw[if_pos rfl]
  exact⟨9,[a,b,c,d,e,some (x40 n f,0),x,y,some (x8c n f k,0)],by simp[x8c,y1k],by simp,by simp⟩
theorem x38 {n:Nat}(hn:n<=1000){i:Nat}{ρ:Rho}{d:D}{q:Nat}(h:ρ[i]? = some (some (d,q)))(hl:x95 d=some n):x0z (x01 (x1f i) x0f) ρ=some (x10 n,ρ):=by
 have b1:(-1000:Int)<=Int.ofNat n:=by show(-1000:Int)<=n;omega
 have b2:Int.ofNat n<=1000:=by show(n:Int)<=1000;omega
 simp only[x0z,x01,x1f,x0f,h,hl]
 rw[if_pos ⟨b1,b2⟩]
 rfl
theorem j0x (ns:List Int)(t:Int)(h0:0<=t):∃ n f,Lad n f/\x3s [scr ns,.int t]=some (x0n n f,9):=by
 obtain⟨rows,hm,q,hb⟩:=z6l ns t h0
 have L:=z6y (z40 rows hm)
 unfold x3l at hb
 revert hb L
 generalize rows.length=n
 generalize tf rows=B
 intro hb L
 have hp:=z8f ns t
 have hn:n<=1000:=Nat.le_trans L.hi (by decide)
 refine⟨n,fun a b=>drawn (pk ns t) n (B (x3u (pk ns t) n a) (x3u (pk ns t) n b)),L.ren (fun i hi=>y6p hp hi) (fun i hi=>y1x hp hi) (fun i hi=>x7m hp hi) (fun i hi=>x8i hp hi),?_⟩
 unfold x3s x7u
 refine x2g ?_
 have s0:x42 8 [scr ns,.int t]=[some (scr ns,0),some (.int t,9),none,none,none,none,none,none]:=rfl
 rw[s0]
 refine(x0g (ρ1:=[some (scr ns,0),some (.int t,9),some (x40 n B,q),none,none,none,none,none]) ?_).trans ?_
 ·simp[hb]
 refine(x0g (ρ1:=[some (scr ns,0),some (.int t,9),some (x40 n B,q),some (.lst (x10 n),1),none,none,none,none]) ?_).trans ?_
 ·exact x21 (x84 (x38 hn rfl x7r)) rfl
 refine(x0g (ρ1:=[some (scr ns,0),some (.int t,9),some (x40 n B,q),some (.lst [],1),some (.lst (x0h ((List.range n).map (drawn (pk ns t) n))),1),none,none,none]) ?_).trans ?_
 ·exact x21 (x1t (x38 hn rfl x7r) (z4s ns t n B q h0 L.hi)) rfl
 refine(x0g (ρ1:=[some (scr ns,0),some (.int t,9),some (x40 n B,0),some (.lst [],1),some (.lst (x0h ((List.range n).map (drawn (pk ns t) n))),1),some (x40 n (fun _ _=>0),2),none,none]) ?_).trans ?_
 ·have e:x9m (x05 2) [some (scr ns,0),some (.int t,9),some (x40 n B,q),some (.lst [],1),some (.lst (x0h ((List.range n).map (drawn (pk ns t) n))),1),none,none,none]=some ((List.range n).map fun i=>x8c n B i,[some (scr ns,0),some (.int t,9),some (x40 n B,0),some (.lst [],1),some (.lst (x0h ((List.range n).map (drawn (pk ns t) n))),1),none,none,none]):=by
   by_cases hq:q=0
   ·subst hq;simp[x40,hn]
   ·simp[x40,hn,hq]
  exact x21 (x1t e (z8k ns t n B L.hi _)) rfl
 obtain⟨x',y',hf⟩:=z4e ns t (n:=n) (B:=B) (π:=drawn (pk ns t) n) (ι:=x3u (pk ns t) n) L.cl (fun i hi=>y6p hp hi) (fun i hi=>y1x hp hi) (fun i hi=>x7m hp hi) (fun i hi=>x8i hp hi) L.hi none none
 refine(x0g ((x3c (x38 hn rfl x7r)).trans hf)).trans ?_
 refine x37 (ρ1:=[some (scr ns,0),some (.int t,9),some (x40 n B,0),some (.lst [],1),some (.lst (x0h ((List.range n).map (drawn (pk ns t) n))),1),some (x40 n (fun a b=>drawn (pk ns t) n (B (x3u (pk ns t) n a) (x3u (pk ns t) n b))),0),x',y']) ?_
 have e:x9m (x05 5) (y7f ns t (n:=n) (B:=B) (π:=drawn (pk ns t) n) (fun a b=>drawn (pk ns t) n (B (x3u (pk ns t) n a) (x3u (pk ns t) n b))) x' y')=some ((List.range n).map fun i=>x8c n (fun a b=>drawn (pk ns t) n (B (x3u (pk ns t) n a) (x3u (pk ns t) n b))) i,[some (scr ns,0),some (.int t,9),some (x40 n B,0),some (.lst [],1),some (.lst (x0h ((List.range n).map (drawn (pk ns t) n))),1),some (x40 n (fun a b=>drawn (pk ns t) n (B (x3u (pk ns t) n a) (x3u (pk ns t) n b))),0),x',y']):=by
  simp[x40,hn]
 have e2:=x1t (k:=1) (pt:=x0q 8) (tt:=x27) (te:=x2l (x01 (x05 8) x0f)) (deep:=false) e z2l
 exact x2d (x18 e2)
section
variable {n:Nat}{f:Nat->Nat->Nat}
theorem x7b {x w:Nat}(hx:x<n)(hw:w<n):x2t [x0n n f,.int (Int.ofNat x),.int (Int.ofNat w)]=some (.bl (decide (f x w=w)),9):=by
 unfold x2t y26
 simp[-Int.ofNat_eq_natCast,x39 hx,x3e hw,y07]
theorem z24 (hn:n<=1000){w:Nat}(hw:w<n):x8w [x0n n f,.int (Int.ofNat w)]=some (.lst (x0h ((List.range n).filter fun x=>decide (f x w=w))),1):=by
 unfold x8w y99
 refine x2g (x37 (x1t (deep:=false) (ρ2:=[some (x0n n f,9),some (.int (Int.ofNat w),9)]) (x38 hn rfl x1j) ?_))
 refine y2v (i:=2) (ρ:=[some (x0n n f,9),some (.int (Int.ofNat w),9)]) (deep:=false) rfl (fun x=>decide (f x w=w)) (fun x=>.int (Int.ofNat x)) (fun _=>9) (fun j hj=>?_) (fun j hj _=>?_)
 ·simp[-Int.ofNat_eq_natCast,x7b hj hw]
 ·simp[-Int.ofNat_eq_natCast]
theorem z36 (hn:n<=1000){w:Nat}(hw:w<n):x2j [x0n n f,.int (Int.ofNat w)]=some (.lst (x0h ((List.range n).filter fun x=>decide (f x w=w))),1):=by
 unfold x2j x9h
 refine x2g (x37 (x1t (deep:=false) (ρ2:=[some (x0n n f,9),some (.int (Int.ofNat w),9)]) (x38 hn rfl x1j) ?_))
 refine y2v (i:=2) (ρ:=[some (x0n n f,9),some (.int (Int.ofNat w),9)]) (deep:=false) rfl (fun x=>decide (f x w=w)) (fun x=>.int (Int.ofNat x)) (fun _=>9) (fun j hj=>?_) (fun j hj _=>?_)
 ·simp[-Int.ofNat_eq_natCast,x39 hj,x3e hw,y07]
 ·simp[-Int.ofNat_eq_natCast]
variable (L:Lad n f){z:Nat}(hz:z<n)(bz:∀ j,j<n->f z j=j)
include L hz bz
theorem j28 {w:Nat}(hw:w<n):decide ((List.range n).map (fun j=>f w j)=List.range n)=decide (w=z):=by
 rw[decide_eq_decide,y44]
 exact⟨fun h=>L.bot_uniq hz bz hw h,fun h=>by subst h;exact bz⟩
theorem z0q (hn:n<=1000):x35 [x0n n f]=some (.int (Int.ofNat z),9):=by
 unfold x35 y28
 refine x2g (x37 (ρ1:=[some (x0n n f,9)]) ?_)
 have hc:x2x 1 (x0z (x01 (x1f 0) x0f)) (x0q 1) (x3m (e2 dEq (x8l (x01 (x1k 0 (x05 1)) x0f)) (x6a (x01 (x1f 0) x0f)))) (x05 1) false (x42 1 [x0n n f])=some (.lst (x0h [z]),1,[some (x0n n f,9)]):=by
  refine(x1t (deep:=false) (ρ2:=[some (x0n n f,9)]) (x38 hn rfl x1j) (y2v rfl (fun x=>decide (x=z)) (fun x=>.int (Int.ofNat x)) (fun _=>9) (fun j hj=>?_) (fun j hj _=>?_))).trans ?_
  ·have e1:x8l (x01 (x1k 0 (x05 1)) x0f) ([some (x0n n f,9)]++[some (.int (Int.ofNat j),9)])=some (.lst (x0h ((List.range n).map fun k=>f j k)),1,[some (x0n n f,9),some (.int (Int.ofNat j),9)]):=by
    simp[-Int.ofNat_eq_natCast,x39 hj,y1k]
   have e2':x6a (x01 (x1f 0) x0f) [some (x0n n f,9),some (.int (Int.ofNat j),9)]=some (.lst (x0h (List.range n)),1,[some (x0n n f,9),some (.int (Int.ofNat j),9)]):=x84 (x38 hn rfl x1j)
   unfold x3m e2
   rw[e1]
   simp only[e2',j5s,j28 L hz bz hj]
   rfl
  ·simp[-Int.ofNat_eq_natCast]
  ·rw[y1s,if_pos hz]
   rfl
 unfold eIx
 rw[hc]
 simp[-Int.ofNat_eq_natCast,atD,x0h,L2.atI,ixN]
theorem z6s (hn:n<=1000){l:List Nat}(hl:l.length<=1000)(hm:∀ x∈l,x<n):x3d [x0n n f,.lst (x0h l)]=some (.int (Int.ofNat (l.foldl f z)),9):=by
 unfold x3d y0o
 refine x2g ?_
 refine(x0g (ρ1:=[some (x0n n f,9),some (.lst (x0h l),0),some (.int (Int.ofNat z),9),none]) ?_).trans ?_
 ·simp[-Int.ofNat_eq_natCast,z0q L hz bz hn]
 obtain⟨ρ',e,y,rfl⟩:=x3n (pt:=x0q 3) (body:=x20 2 (eIx (x1k 0 (x05 2)) (x05 3))) (x0h l) (fun i ρ=>∃ y,ρ=[some (x0n n f,9),some (.lst (x0h l),0),some (.int (Int.ofNat ((l.take i).foldl f z)),9),y]) [some (x0n n f,9),some (.lst (x0h l),0),some (.int (Int.ofNat z),9),none] (fun i hi ρ hh0=>by
  obtain⟨y,hy⟩:=hh0
  subst hy
  have hi':i<l.length:=by rw[x1b]at hi;exact hi
  have hg:(x0h l)[i]=.int (Int.ofNat l[i]):=by simp[x0h]
  have hx:l[i]<n:=hm _ (List.getElem_mem hi')
  have ha:(l.take i).foldl f z<n:=L.fold_lt hz fun x m=>hm x (List.mem_of_mem_take m)
  refine⟨[some (x0n n f,9),some (.lst (x0h l),0),some (.int (Int.ofNat ((l.take i).foldl f z)),9),some (.int (Int.ofNat l[i]),9)],[some (x0n n f,9),some (.lst (x0h l),0),some (.int (Int.ofNat ((l.take (i+1)).foldl f z)),9),some (.int (Int.ofNat l[i]),9)],?_,.inl ?_,⟨_,rfl⟩⟩
  ·rw[hg];simp
  ·rw[List.take_succ_eq_append_getElem hi',List.foldl_append]
   simp[-Int.ofNat_eq_natCast,x39 ha,x3e hx]) ⟨none,rfl⟩
 rw[x1b,List.take_length]at e
 refine(x0g ((x3c (ds:=x0h l) (ρ1:=[some (x0n n f,9),some (.lst (x0h l),0),some (.int (Int.ofNat z),9),none]) ?_).trans e)).trans ?_
 ·simp[x1b,hl]
 ·simp[-Int.ofNat_eq_natCast]
end
section
variable {n:Nat}{f:Nat->Nat->Nat}
variable (L:Lad n f){z:Nat}(hz:z<n)(bz:∀ j,j<n->f z j=j)
include L hz bz
theorem y6u (hn:n<=1000):x3g [x0n n f]=some (.int (Int.ofNat z),9):=by
 have b1:(-1000:Int)<=Int.ofNat n:=by show(-1000:Int)<=n;omega
 have b2:Int.ofNat n<=1000:=by show(n:Int)<=1000;omega
 have hr:x2u [.int (Int.ofNat n)]=some (.tup (x0h (List.range n)),9):=by
  unfold x2u x76
  simp[-Int.ofNat_eq_natCast,b1,b2]
  rfl
 have hi:j07 (.tup (x0h (List.range n))) ((List.range n).map fun i=>y1k n f i)=some z:=by
  unfold j07
  rw[y01,List.map_map]
  have ev:∀ i,i<n->PyData.eqv (toP (y1k n f i)) (toP (.tup (x0h (List.range n))))=decide (i=z):=fun i hi=>(j1w _ _).trans (j28 L hz bz hi)
  refine x7w (x:=toP (y1k n f z)) ?_ ?_ ?_
  ·rw[List.getElem?_map,List.getElem?_range hz];rfl
  ·rw[ev z hz];simp
  ·intro i y hi hy
   have hi':i<n:=Nat.lt_trans hi hz
   rw[List.getElem?_map,List.getElem?_range hi']at hy
   cases hy
   refine(ev i hi').trans ?_
   simp;omega
 have h1:okD (.tup ((List.range n).map fun i=>y1k n f i))=true:=(z8a n f).ok
 have h2:okD (.tup (x0h (List.range n)))=true:=(j0d _).ok
 have hl:x95 (.tup ((List.range n).map fun i=>y1k n f i))=some n:=x1j (f:=f)
 unfold x3g y2d x0n
 simp[-Int.ofNat_eq_natCast,hr,hl,h1,h2,hi]
theorem y4h (hn:n<=1000){l:List Nat}(hl:l.length<=1000)(hm:∀ x∈l,x<n):x23 [x0n n f,.lst (x0h l)]=some (.int (Int.ofNat (l.foldl f z)),9):=by
 unfold x23 x9k
 refine x2g ?_
 refine(x0g (ρ1:=[some (x0n n f,9),some (.lst (x0h l),0),some (.int (Int.ofNat z),9),none]) ?_).trans ?_
 ·simp[-Int.ofNat_eq_natCast,y6u L hz bz hn]
 obtain⟨ρ',e,y,rfl⟩:=x3n (pt:=x0q 3) (body:=x20 2 (eIx (x1k 0 (x05 2)) (x05 3))) (x0h l) (fun i ρ=>∃ y,ρ=[some (x0n n f,9),some (.lst (x0h l),0),some (.int (Int.ofNat ((l.take i).foldl f z)),9),y]) [some (x0n n f,9),some (.lst (x0h l),0),some (.int (Int.ofNat z),9),none] (fun i hi ρ hh0=>by
  obtain⟨y,hy⟩:=hh0
  subst hy
  have hi':i<l.length:=by rw[x1b]at hi;exact hi
  have hg:(x0h l)[i]=.int (Int.ofNat l[i]):=by simp[x0h]
  have hx:l[i]<n:=hm _ (List.getElem_mem hi')
  have ha:(l.take i).foldl f z<n:=L.fold_lt hz fun x m=>hm x (List.mem_of_mem_take m)
  refine⟨[some (x0n n f,9),some (.lst (x0h l),0),some (.int (Int.ofNat ((l.take i).foldl f z)),9),some (.int (Int.ofNat l[i]),9)],[some (x0n n f,9),some (.lst (x0h l),0),some (.int (Int.ofNat ((l.take (i+1)).foldl f z)),9),some (.int (Int.ofNat l[i]),9)],?_,.inl ?_,⟨_,rfl⟩⟩
  ·rw[hg];simp
  ·rw[List.take_succ_eq_append_getElem hi',List.foldl_append]
   simp[-Int.ofNat_eq_natCast,x39 ha,x3e hx]) ⟨none,rfl⟩
 rw[x1b,List.take_length]at e
 refine(x0g ((x3c (ds:=x0h l) (ρ1:=[some (x0n n f,9),some (.lst (x0h l),0),some (.int (Int.ofNat z),9),none]) ?_).trans e)).trans ?_
 ·simp[x1b,hl]
 ·simp[-Int.ofNat_eq_natCast]
end
section
variable {n:Nat}{f:Nat->Nat->Nat}
variable (L:Lad n f){z:Nat}(hz:z<n)(bz:∀ j,j<n->f z j=j)
include L hz bz
theorem x7c (ns:List Int)(t:Int)(h0:0<=t):∃ d:Nat->Nat,(∀ i,i<n->d i<n)/\x28 [scr ns,.int t,x0n n f]=some (x0d n (Lad.lr n f z d),9):=by
 have hn:n<=1000:=Nat.le_trans L.hi (by decide)
 have hnp:(0:Int)<Int.ofNat n:=by show(0:Int)<(n:Int);omega
 -- what is drawn for a worth
 have dr:∀ i,∃ v,v<n/\(i<n->∀ ρ:Rho,ρ[0]? = some (some (scr ns,0))->ρ[1]? = some (some (.int t,9))->ρ[2]? = some (some (x0n n f,9))->ρ[3]? = some (some (.int (Int.ofNat z),9))->ρ[5]? = some (some (.int (Int.ofNat i),9))->
   eIx (x5j (x01 (x05 3) (x01 (x05 5) (x01 (x0l x0c 3 (x01 (x05 0) (x01 (e2 x41 (x05 1) (x05 5)) (x01 (x1f 2) x0f)))) x0f)))) (x0l x0c 3 (x01 (x05 0) (x01 (e2 x41 (e2 x41 (x05 1) (eC (.int 8))) (x05 5)) (x01 (eC (.int 3)) x0f)))) ρ=some (.int (Int.ofNat v),9,ρ)):=fun i=>by
  have e1:=x53 ns (t+Int.ofNat i) (Int.ofNat n) (by show 0<=t+(i:Int);omega) hnp
  have e2':=x53 ns (t+8+Int.ofNat i) 3 (by show 0<=t+8+(i:Int);omega) (by decide)
  have l1:=x4l ns (t+Int.ofNat i) hnp
  have l2:=x52 ns (t+Int.ofNat i) hnp
  have k1:=x4l ns (t+8+Int.ofNat i) (m:=3) (by decide)
  have k2:=x52 ns (t+8+Int.ofNat i) (m:=3) (by decide)
  generalize x65 ns (t+Int.ofNat i) (Int.ofNat n)=a at *
  generalize x65 ns (t+8+Int.ofNat i) 3=b at *
  obtain⟨a',rfl⟩:∃ a':Nat,a=Int.ofNat a':=⟨a.toNat,by show a=(a.toNat:Int);omega⟩
  have ha':a'<n:=by have:(a':Int)<(n:Int):=l2;omega
  by_cases hi:i<n
  ·have hb:b=0\/b=1\/b=2:=by omega
   rcases hb with rfl|rfl|rfl
   ·refine⟨z,hz,fun _ ρ h0 h1 h2 h3 h5=>?_⟩
    simp[-Int.ofNat_eq_natCast,h0,h1,h2,h3,h5,x1j,e1,e2',atD,L2.atI,ixN]
   ·refine⟨i,hi,fun _ ρ h0 h1 h2 h3 h5=>?_⟩
    simp[-Int.ofNat_eq_natCast,h0,h1,h2,h3,h5,x1j,e1,e2',atD,L2.atI,ixN]
   ·refine⟨a',ha',fun _ ρ h0 h1 h2 h3 h5=>?_⟩
    simp[-Int.ofNat_eq_natCast,h0,h1,h2,h3,h5,x1j,e1,e2',atD,L2.atI,ixN]
  ·exact⟨z,hz,fun h=>absurd h hi⟩
 obtain⟨d,hd⟩:∃ d:Nat->Nat,∀ i,d i<n/\(i<n->∀ ρ:Rho,ρ[0]? = some (some (scr ns,0))->ρ[1]? = some (some (.int t,9))->ρ[2]? = some (some (x0n n f,9))->ρ[3]? = some (some (.int (Int.ofNat z),9))->ρ[5]? = some (some (.int (Int.ofNat i),9))->
   eIx (x5j (x01 (x05 3) (x01 (x05 5) (x01 (x0l x0c 3 (x01 (x05 0) (x01 (e2 x41 (x05 1) (x05 5)) (x01 (x1f 2) x0f)))) x0f)))) (x0l x0c 3 (x01 (x05 0) (x01 (e2 x41 (e2 x41 (x05 1) (eC (.int 8))) (x05 5)) (x01 (eC (.int 3)) x0f)))) ρ=some (.int (Int.ofNat (d i)),9,ρ)):=
  ⟨fun i=>(dr i).choose,fun i=>(dr i).choose_spec⟩
 refine⟨d,fun i _=>(hd i).1,?_⟩
 unfold x28 y0x
 refine x2g ?_
 have hs:x42 7 [scr ns,.int t,x0n n f]=[some (scr ns,0),some (.int t,9),some (x0n n f,9),none,none,none,none]:=rfl
 rw[hs]
 refine(x0g (ρ1:=[some (scr ns,0),some (.int t,9),some (x0n n f,9),some (.int (Int.ofNat z),9),none,none,none]) ?_).trans ?_
 ·simp[-Int.ofNat_eq_natCast,z0q L hz bz hn]
 refine(x0g (ρ1:=[some (scr ns,0),some (.int t,9),some (x0n n f,9),some (.int (Int.ofNat z),9),some (.lst [],1),none,none]) ?_).trans ?_
 ·simp
 obtain⟨ρ',e,y,rfl⟩:=x3n (pt:=x0q 5) (body:=x3k (y0w 4 (x01 (eIx (x5j (x01 (x05 3) (x01 (x05 5) (x01 (x0l x0c 3 (x01 (x05 0) (x01 (e2 x41 (x05 1) (x05 5)) (x01 (x1f 2) x0f)))) x0f)))) (x0l x0c 3 (x01 (x05 0) (x01 (e2 x41 (e2 x41 (x05 1) (eC (.int 8))) (x05 5)) (x01 (eC (.int 3)) x0f))))) x0f))) (x10 n)
  (fun i ρ=>∃ y,ρ=[some (scr ns,0),some (.int t,9),some (x0n n f,9),some (.int (Int.ofNat z),9),some (.lst (x0h ((List.range i).map d)),1),y,none])
  [some (scr ns,0),some (.int t,9),some (x0n n f,9),some (.int (Int.ofNat z),9),some (.lst [],1),none,none] (fun i hi ρ hh0=>by
   obtain⟨y,hy⟩:=hh0
   subst hy
   have hi':i<n:=by rw[x0s]at hi;exact hi
   have hdi:=(hd i).2 hi' [some (scr ns,0),some (.int t,9),some (x0n n f,9),some (.int (Int.ofNat z),9),some (.lst (x0h ((List.range i).map d)),1),some (.int (Int.ofNat i),9),none] rfl rfl rfl rfl rfl
   refine⟨[some (scr ns,0),some (.int t,9),some (x0n n f,9),some (.int (Int.ofNat z),9),some (.lst (x0h ((List.range i).map d)),1),some (.int (Int.ofNat i),9),none],[some (scr ns,0),some (.int t,9),some (x0n n f,9),some (.int (Int.ofNat z),9),some (.lst (x0h ((List.range (i+1)).map d)),1),some (.int (Int.ofNat i),9),none],?_,.inl ?_,⟨_,rfl⟩⟩
   ·rw[show(x10 n)[i]=.int (Int.ofNat i)by simp[x10]];simp
   ·have ex:x0h ((List.range (i+1)).map d)=x0h ((List.range i).map d)++[.int (Int.ofNat (d i))]:=by rw[List.range_succ];simp[x0h]
    have hl:(x0h ((List.range i).map d)).length<=1000:=by rw[x1b,List.length_map,List.length_range];omega
    exact y3a rfl (x18 hdi) rfl hl (by rw[ex];rfl)) ⟨none,rfl⟩
 rw[x0s]at e
 refine(x0g ((x3c (x38 hn rfl x1j)).trans e)).trans ?_
 refine(x0g (ρ1:=[some (scr ns,0),some (.int t,9),some (x0n n f,9),some (.int (Int.ofNat z),9),some (.lst (x0h ((List.range n).map d)),1),y,some (.lst [],1)]) ?_).trans ?_
 ·simp
 have hdn:∀ i,i<n->d i<n:=fun i _=>(hd i).1
 obtain⟨ρ',e,y',rfl⟩:=x3n (pt:=x0q 5) (body:=x3k (y0w 6 (x01 (x0l x3d 2 (x01 (x05 2) (x01 (x2x 1 (x9m (x0l x2j 2 (x01 (x05 2) (x01 (x05 5) x0f)))) (x0q 7) x27 (x1k 4 (x05 7)) false) x0f))) x0f))) (x10 n)
  (fun i ρ=>∃ y,ρ=[some (scr ns,0),some (.int t,9),some (x0n n f,9),some (.int (Int.ofNat z),9),some (.lst (x0h ((List.range n).map d)),1),y,some (.lst (x0h ((List.range i).map (Lad.lr n f z d))),1)])
  [some (scr ns,0),some (.int t,9),some (x0n n f,9),some (.int (Int.ofNat z),9),some (.lst (x0h ((List.range n).map d)),1),y,some (.lst [],1)] (fun i hi ρ hh0=>by
   obtain⟨y,hy⟩:=hh0
   subst hy
   have hi':i<n:=by rw[x0s]at hi;exact hi
   refine⟨[some (scr ns,0),some (.int t,9),some (x0n n f,9),some (.int (Int.ofNat z),9),some (.lst (x0h ((List.range n).map d)),1),some (.int (Int.ofNat i),9),some (.lst (x0h ((List.range i).map (Lad.lr n f z d))),1)],[some (scr ns,0),some (.int t,9),some (x0n n f,9),some (.int (Int.ofNat z),9),some (.lst (x0h ((List.range n).map d)),1),some (.int (Int.ofNat i),9),some (.lst (x0h ((List.range (i+1)).map (Lad.lr n f z d))),1)],?_,.inl ?_,⟨_,rfl⟩⟩
   ·rw[show(x10 n)[i]=.int (Int.ofNat i)by simp[x10]];simp
   ·have ex:x0h ((List.range (i+1)).map (Lad.lr n f z d))=x0h ((List.range i).map (Lad.lr n f z d))++[.int (Int.ofNat (Lad.lr n f z d i))]:=by rw[List.range_succ];simp[x0h]
    have hl:(x0h ((List.range i).map (Lad.lr n f z d))).length<=1000:=by rw[x1b,List.length_map,List.length_range];omega
    have hlow:(Lad.low n f i).length<=1000:=by
     have:=List.length_filter_le (fun y=>decide (f y i=i)) (List.range n)
     rw[List.length_range]at this
     exact Nat.le_trans this hn
    have hit:x9m (x0l x2j 2 (x01 (x05 2) (x01 (x05 5) x0f))) [some (scr ns,0),some (.int t,9),some (x0n n f,9),some (.int (Int.ofNat z),9),some (.lst (x0h ((List.range n).map d)),1),some (.int (Int.ofNat i),9),some (.lst (x0h ((List.range i).map (Lad.lr n f z d))),1)]=some (x0h (Lad.low n f i),[some (scr ns,0),some (.int t,9),some (x0n n f,9),some (.int (Int.ofNat z),9),some (.lst (x0h ((List.range n).map d)),1),some (.int (Int.ofNat i),9),some (.lst (x0h ((List.range i).map (Lad.lr n f z d))),1)]):=by
     have hb:x2j [x0n n f,.int (Int.ofNat i)]=some (.lst (x0h (Lad.low n f i)),1):=z36 hn hi'
     simp[-Int.ofNat_eq_natCast,hb,x1b,hlow]
    have hc:=x1t (k:=1) (te:=x1k 4 (x05 7)) (deep:=false) hit (j5v (i:=7) (Lad.low n f i) rfl (fun y=>.int (Int.ofNat (d y))) (fun _=>9) (fun y hy=>by
     have hyn:=(Lad.mem_low.mp hy).1
     have hat:atD (.lst (x0h ((List.range n).map d))) (Int.ofNat y)=some (.int (Int.ofNat (d y))):=x2p hyn
     simp[-Int.ofNat_eq_natCast,hat]))
    have hm:∀ y∈(Lad.low n f i).map d,y<n:=Lad.lr_mem L hz bz hdn
    have e':((Lad.low n f i).map fun y=>D.int (Int.ofNat (d y)))=x0h ((Lad.low n f i).map d):=by simp[x0h]
    rw[e']at hc
    have hj:x3d [x0n n f,.lst (x0h ((Lad.low n f i).map d))]=some (.int (Int.ofNat (Lad.lr n f z d i)),9):=z6s L hz bz hn (by rw[List.length_map];exact hlow) hm
    have ha:=x18 (x0x (n:=2) (x1a (f:=x05 2) (q:=9) (d:=x0n n f) (ρ:=[some (scr ns,0),some (.int t,9),some (x0n n f,9),some (.int (Int.ofNat z),9),some (.lst (x0h ((List.range n).map d)),1),some (.int (Int.ofNat i),9),some (.lst (x0h ((List.range i).map (Lad.lr n f z d))),1)]) (ρ1:=[some (scr ns,0),some (.int t,9),some (x0n n f,9),some (.int (Int.ofNat z),9),some (.lst (x0h ((List.range n).map d)),1),some (.int (Int.ofNat i),9),some (.lst (x0h ((List.range i).map (Lad.lr n f z d))),1)]) rfl (x18 hc)) rfl hj)
    exact y3a rfl ha rfl hl (by rw[ex];rfl)) ⟨y,rfl⟩
 rw[x0s]at e
 refine(x0g ((x3c (x38 hn rfl x1j)).trans e)).trans ?_
 exact x37 (x2d (x18 (q:=0) (ρ1:=[some (scr ns,0),some (.int t,9),some (x0n n f,9),some (.int (Int.ofNat z),9),some (.lst (x0h ((List.range n).map d)),1),y',some (.lst (x0h ((List.range n).map (Lad.lr n f z d))),0)]) rfl))
end
def x64 (n:Nat):D->Bool
 | .int i=>decide (0<=i)&&decide (i<(n:Int))
 | _=>false
theorem x2r (d:D):x5a [d]=some (.bl (match d with|.int _=>true|_=>false),9):=by
 unfold x5a y1z
 cases d<;>simp[isD]
theorem x6k (n:Nat)(d:D):x13 [d,.int (Int.ofNat n)]=some (.bl (x64 n d),9):=by
 unfold x13 x7a
 cases d with
 | int i=>
  have h:=x2r (.int i)
  by_cases h0:0<=i
  ·by_cases h1:i<(n:Int)
   ·simp[h,x64,h0,h1]
   ·simp[h,x64,h0,h1]
  ·simp[h,x64,h0]
 | non=>simp[x2r,x64]
 | bl b=>simp[x2r,x64]
 | str x=>simp[x2r,x64]
 | tup ds=>simp[x2r,x64]
 | lst ds=>simp[x2r,x64]
 | dic ks ds=>simp[x2r,x64]
 | exc nm=>simp[x2r,x64]
 | ob f fo vs ds=>simp[x2r,x64]
theorem y75 {n:Nat}(hn:n<=1000){i q:Nat}{ρ:Rho}(h:ρ[i]? = some (some (.int (Int.ofNat n),q))):x0z (x01 (x05 i) x0f) ρ=some (x10 n,ρ):=by
 have b1:(-1000:Int)<=Int.ofNat n:=by show(-1000:Int)<=n;omega
 have b2:Int.ofNat n<=1000:=by show(n:Int)<=1000;omega
 simp only[x0z,x01,x05,x0f,h,D.isL_int,if_true]
 rw[if_pos ⟨b1,b2⟩]
 rfl
section
variable {n:Nat}{f:Nat->Nat->Nat}
def y6t (n:Nat)(f:Nat->Nat->Nat)(r:Nat->Nat):Bool:=(List.range n).all fun x=>(List.range n).all fun y=>decide (r (f x y)=f (r x) (r y))
theorem x6p {r:Nat->Nat}:y6t n f r=true ↔ ∀ x y,x<n->y<n->r (f x y)=f (r x) (r y):=by
 unfold y6t
 rw[L3.range_all]
 exact⟨fun h x y hx hy=>of_decide_eq_true (L3.range_all.mp (h x hx) y hy),fun h x hx=>L3.range_all.mpr fun y hy=>decide_eq_true (h x y hx hy)⟩
variable (L:Lad n f)
include L
end
section
variable {n:Nat}{f:Nat->Nat->Nat}(L:Lad n f)
include L
theorem y1h {r:Nat->Nat}(hr:∀ i,i<n->r i<n):x3a [x0n n f,x0d n r]=some (.bl (y6t n f r),9):=by
 have hn:n<=1000:=Nat.le_trans L.hi (by decide)
 have eB:y6t n f r=((List.range n).all fun x=>(List.range x).all fun y=>decide (r (f x y)=f (r x) (r y))):=by
  rw[Bool.eq_iff_iff,x6p,L3.range_all]
  constructor
  ·intro h x hx
   exact L3.range_all.mpr fun y hy=>decide_eq_true (h x y hx (Nat.lt_trans hy hx))
  ·intro h x y hx hy
   rcases Nat.lt_trichotomy x y with c|c|c
   ·have:=of_decide_eq_true (L3.range_all.mp (h y hy) x c)
    rw[L.comm x y hx hy,this,L.comm _ _ (hr y hy) (hr x hx)]
   ·subst c;rw[L.idem x hx,L.idem _ (hr x hx)]
   ·exact of_decide_eq_true (L3.range_all.mp (h x hx) y c)
 unfold x3a x79
 refine x2g ?_
 have hs:x42 5 [x0n n f,x0d n r]=[some (x0n n f,9),some (x0d n r,9),none,none,none]:=rfl
 rw[hs,eB]
 obtain⟨h1,h2⟩:=y37 (pt:=x0q 2) (body:=x80 (x0z (x01 (x05 2) x0f)) (x0q 3) (x17 (x20 4 (eIx (x1k 0 (x1k 1 (x05 2))) (x1k 1 (x05 3)))) (sIf (x3m (e2 dNe (x1k 1 (eIx (x1k 0 (x05 2)) (x05 3))) (x05 4))) (x36 (eC (.bl false))) x6i))) (d:=.bl false) (q:=9) (x10 n) (fun ρ=>∃ x y z,ρ=[some (x0n n f,9),some (x0d n r,9),x,y,z]) (fun x=>(List.range x).all fun y=>decide (r (f x y)=f (r x) (r y))) [some (x0n n f,9),some (x0d n r,9),none,none,none] (fun x hx ρ ⟨a,b,c,e⟩=>by
  subst e
  have hx':x<n:=by rw[x0s]at hx;exact hx
  have hx1:x<=1000:=by omega
  refine⟨[some (x0n n f,9),some (x0d n r,9),some (.int (Int.ofNat x),9),b,c],by rw[show(x10 n)[x]=.int (Int.ofNat x)by simp[x10]];simp,?_⟩
  obtain⟨i1,i2⟩:=y37 (pt:=x0q 3) (body:=x17 (x20 4 (eIx (x1k 0 (x1k 1 (x05 2))) (x1k 1 (x05 3)))) (sIf (x3m (e2 dNe (x1k 1 (eIx (x1k 0 (x05 2)) (x05 3))) (x05 4))) (x36 (eC (.bl false))) x6i)) (d:=.bl false) (q:=9) (x10 x) (fun ρ=>∃ y z,ρ=[some (x0n n f,9),some (x0d n r,9),some (.int (Int.ofNat x),9),y,z]) (fun y=>decide (r (f x y)=f (r x) (r y))) [some (x0n n f,9),some (x0d n r,9),some (.int (Int.ofNat x),9),b,c] (fun y hy ρ ⟨b,c,e⟩=>by
   subst e
   have hy'':y<x:=by rw[x0s]at hy;exact hy
   have hy':y<n:=Nat.lt_trans hy'' hx'
   refine⟨[some (x0n n f,9),some (x0d n r,9),some (.int (Int.ofNat x),9),some (.int (Int.ofNat y),9),c],by rw[show(x10 x)[y]=.int (Int.ofNat y)by simp[x10]];simp,fun ok=>⟨[some (x0n n f,9),some (x0d n r,9),some (.int (Int.ofNat x),9),some (.int (Int.ofNat y),9),some (.int (Int.ofNat (f (r x) (r y))),9)],?_,⟨_,_,rfl⟩⟩,fun no=>?_⟩
   ·have ok':=of_decide_eq_true ok
    simp[-Int.ofNat_eq_natCast,x39 hx',x3e hy',x4z (L.cl x y hx' hy'),x4z hx',x4z hy',x39 (hr x hx'),x3e (hr y hy'),x8k,ok']
   ·have no':=of_decide_eq_false no
    simp[-Int.ofNat_eq_natCast,x39 hx',x3e hy',x4z (L.cl x y hx' hy'),x4z hx',x4z hy',x39 (hr x hx'),x3e (hr y hy'),x8k,no']) ⟨b,c,rfl⟩
  rw[x0s]at i1 i2
  refine⟨fun ok=>?_,fun no=>(x3c (y75 hx1 (i:=2) (q:=9) rfl)).trans (i2 no)⟩
  obtain⟨ρ2,e,b',c',rfl⟩:=i1 ok
  exact⟨_,(x3c (y75 hx1 (i:=2) (q:=9) rfl)).trans e,_,_,_,rfl⟩) ⟨none,none,none,rfl⟩
 rw[x0s]at h1 h2
 cases h:((List.range n).all fun x=>(List.range x).all fun y=>decide (r (f x y)=f (r x) (r y)))with
 | true=>
  obtain⟨ρ',e,x,y,z,rfl⟩:=h1 h
  exact(x0g ((x3c (x38 hn rfl x1j)).trans e)).trans rfl
 | false=>exact y61 ((x3c (x38 hn rfl x1j)).trans (h2 h))
end
theorem y2n (n:Nat):x10 n=x0h ((List.range n).map fun i=>i):=by rw[List.map_id'];rfl
section
variable {n:Nat}{f:Nat->Nat->Nat}(L:Lad n f){z:Nat}(hz:z<n)(bz:∀ j,j<n->f z j=j)
include L
theorem j0h:y6t n f (fun i=>i)=true:=x6p.mpr fun _ _ _ _=>rfl
theorem z1g {v:Nat}(hv:v<n):y6t n f (fun _=>v)=true:=x6p.mpr fun _ _ _ _=>(L.idem v hv).symm
theorem z8i {a b c d:Nat}(ha:a<n)(hb:b<n)(hc:c<n)(hd:d<n):f (f a b) (f c d)=f (f a c) (f b d):=by
 rw[L.assoc a b _ ha hb (L.cl c d hc hd),<- L.assoc b c d hb hc hd,L.comm b c hb hc,L.assoc c b d hc hb hd,<- L.assoc a c _ ha hc (L.cl b d hb hd)]
theorem z3g {v:Nat}(hv:v<n):y6t n f (fun i=>f i v)=true:=x6p.mpr fun x y hx hy=>by
 show f (f x y) v=f (f x v) (f y v)
 rw[z8i L hx hv hy hv,L.idem v hv]
include hz bz
theorem y18 (ns:List Int)(t:Int)(h0:0<=t):∃ g:Nat->Nat,(∀ i,i<n->g i<n)/\y6t n f g=true/\x1g [scr ns,.int t,x0n n f]=some (x0d n g,9):=by
 have hn:n<=1000:=Nat.le_trans L.hi (by decide)
 have hnp:(0:Int)<Int.ofNat n:=by have:=L.lo;show(0:Int)<(n:Int);omega
 obtain⟨d,hd,hR⟩:=x7c L hz bz ns t h0
 have hr:∀ i,i<n->Lad.lr n f z d i<n:=fun i _=>L.lr_lt hz bz hd i
 generalize Lad.lr n f z d=r at *
 have hS:=y1h L hr
 have hs:x42 6 [scr ns,.int t,x0n n f]=[some (scr ns,0),some (.int t,9),some (x0n n f,9),none,none,none]:=rfl
 cases hB:y6t n f r with
 | true=>
  refine⟨r,hr,hB,?_⟩
  rw[hB]at hS
  unfold x1g x3r
  refine x2g ?_
  rw[hs]
  refine(x0g (ρ1:=[some (scr ns,0),some (.int t,9),some (x0n n f,9),some (x0d n r,9),none,none]) (by simp[hR])).trans ?_
  exact y61 (by simp[hS])
 | false=>
  rw[hB]at hS
  have e17:=x53 ns (t+17) (Int.ofNat n) (by omega) hnp
  have e16:=x53 ns (t+16) 3 (by omega) (by decide)
  have a1:=x4l ns (t+17) hnp
  have a2:=x52 ns (t+17) hnp
  have c1:=x4l ns (t+16) (m:=3) (by decide)
  have c2:=x52 ns (t+16) (m:=3) (by decide)
  generalize x65 ns (t+17) (Int.ofNat n)=v0 at *
  generalize x65 ns (t+16) 3=w at *
  obtain⟨v,rfl⟩:∃ v:Nat,v0=Int.ofNat v:=⟨v0.toNat,by show v0=(v0.toNat:Int);omega⟩
  have hv:v<n:=by have:(v:Int)<(n:Int):=a2;omega
  have fin:∃ g:Nat->Nat,(∀ i,i<n->g i<n)/\y6t n f g=true/\L2.atI [x0d n (fun i=>i),x0d n (fun _=>v),x0d n (fun i=>f i v)] w=some (x0d n g):=by
   have hw:w=0\/w=1\/w=2:=by omega
   rcases hw with rfl|rfl|rfl
   ·exact⟨_,fun i hi=>hi,j0h L,rfl⟩
   ·exact⟨_,fun _ _=>hv,z1g L hv,rfl⟩
   ·exact⟨_,fun i hi=>L.cl i v hi hv,z3g L hv,rfl⟩
  obtain⟨g,hg,hgs,hat⟩:=fin
  refine⟨g,hg,hgs,?_⟩
  unfold x1g x3r
  refine x2g ?_
  rw[hs]
  refine(x0g (ρ1:=[some (scr ns,0),some (.int t,9),some (x0n n f,9),some (x0d n r,9),none,none]) (by simp[hR])).trans ?_
  refine(x0g (ρ1:=[some (scr ns,0),some (.int t,9),some (x0n n f,9),some (x0d n r,9),none,none]) (by simp[hS])).trans ?_
  refine(x0g (ρ1:=[some (scr ns,0),some (.int t,9),some (x0n n f,9),some (x0d n r,9),some (.int (Int.ofNat v),9),none]) (by simp[-Int.ofNat_eq_natCast,x1j,e17])).trans ?_
  have k1:x2l (x01 (x6a (x01 (x1f 2) x0f)) x0f) [some (scr ns,0),some (.int t,9),some (x0n n f,9),some (x0d n r,9),some (.int (Int.ofNat v),9),none]=some (x0d n (fun i=>i),9,[some (scr ns,0),some (.int t,9),some (x0n n f,9),some (x0d n r,9),some (.int (Int.ofNat v),9),none]):=by
   refine(x2d (x18 (x84 (x38 hn rfl x1j)))).trans ?_
   rw[y2n]
   rfl
  have k2:z0k (x4i (x01 (x05 4) x0f)) (x1f 2) [some (scr ns,0),some (.int t,9),some (x0n n f,9),some (x0d n r,9),some (.int (Int.ofNat v),9),none]=some (x0d n (fun _=>v),9,[some (scr ns,0),some (.int t,9),some (x0n n f,9),some (x0d n r,9),some (.int (Int.ofNat v),9),none]):=by
   have b1:(1:Int)<=n:=by have:=L.lo;omega
   have b1':1<=n:=L.lo
   have e:(List.replicate n [D.int (v:Int)]).flatten=x0h ((List.range n).map fun _=>v):=by
    simp[x0h,List.flatten_replicate_singleton,List.map_const']
   simp[x1j,b1',hn,x0d,e]
   exact b1
  refine(x0g (ρ1:=[some (scr ns,0),some (.int t,9),some (x0n n f,9),some (x0d n r,9),some (.int (Int.ofNat v),9),some (.lst [x0d n (fun i=>i),x0d n (fun _=>v)],1)]) ?_).trans ?_
  ·refine x21 (q:=1) (d:=.lst [x0d n (fun i=>i),x0d n (fun _=>v)]) (ρ1:=[some (scr ns,0),some (.int t,9),some (x0n n f,9),some (x0d n r,9),some (.int (Int.ofNat v),9),none]) ?_ rfl
   unfold x5j
   rw[x1a k1 (x18 k2)]
   rfl
  have k3:x2l (x01 (x2x 1 (x0z (x01 (x1f 2) x0f)) (x0q 6) x27 (eIx (x1k 2 (x05 6)) (x05 4)) false) x0f) [some (scr ns,0),some (.int t,9),some (x0n n f,9),some (x0d n r,9),some (.int (Int.ofNat v),9),some (.lst [x0d n (fun i=>i),x0d n (fun _=>v)],1)]=some (x0d n (fun i=>f i v),9,[some (scr ns,0),some (.int t,9),some (x0n n f,9),some (x0d n r,9),some (.int (Int.ofNat v),9),some (.lst [x0d n (fun i=>i),x0d n (fun _=>v)],1)]):=by
   have hc:=x1t (k:=1) (tt:=x27) (te:=eIx (x1k 2 (x05 6)) (x05 4)) (deep:=false) (x38 hn (i:=2) (ρ:=[some (scr ns,0),some (.int t,9),some (x0n n f,9),some (x0d n r,9),some (.int (Int.ofNat v),9),some (.lst [x0d n (fun i=>i),x0d n (fun _=>v)],1)]) rfl x1j) (y2v (i:=6) rfl (fun _=>true) (fun k=>.int (Int.ofNat (f k v))) (fun _=>9) (fun j hj=>rfl) (fun j hj _=>by
    simp[-Int.ofNat_eq_natCast,x39 hj,x3e hv]))
   rw[show(List.range n).filter (fun _=>true)=List.range n by simp]at hc
   exact(x2d (x18 hc)).trans (congrArg (fun d=>some (d,9,_)) (z1j _))
  refine(x0g (y3a (ρ2:=[some (scr ns,0),some (.int t,9),some (x0n n f,9),some (x0d n r,9),some (.int (Int.ofNat v),9),some (.lst [x0d n (fun i=>i),x0d n (fun _=>v),x0d n (fun i=>f i v)],1)]) rfl (x18 k3) rfl (by show 2<=1000;decide) rfl)).trans ?_
  have hat':atD (.lst [x0d n (fun i=>i),x0d n (fun _=>v),x0d n (fun i=>f i v)]) w=some (x0d n g):=hat
  simp[-Int.ofNat_eq_natCast,e16,hat']
end
theorem j61 {i:Nat}{te:Den}{ρ:Rho}(ds:List D)(hi:ρ.length=i)(v:D->D)(q:D->Nat)
  (he:∀ d,d∈ds->te (ρ++[some (d,y1e d)])=some (v d,q d,ρ++[some (d,y1e d)])) :
  x66 1 (x0q i) x27 te false ds ρ=some (ds.map v,ρ):=by
 have h:=x4g (k:=1) (pt:=x0q i) (tt:=x27) (te:=te) (deep:=false) ds (fun _=>ρ) (fun _=>true) (fun j=>v (ds.getD j .non)) (fun j hj=>?_)
 ·rw[show(List.range ds.length).filter (fun _=>true)=List.range ds.length by simp]at h
  rw[h]
  have e:(List.range ds.length).map (fun j=>v (ds.getD j .non))=ds.map v:=by
   apply List.ext_getElem?
   intro k
   by_cases hk:k<ds.length
   ·simp[hk]
   ·rw[List.getElem?_eq_none (by simp;omega),List.getElem?_eq_none (by simp;omega)]
  rw[e]
 ·have hg:ds.getD j .non=ds[j]:=by simp[hj]
  refine⟨ρ++[some (ds[j],y1e ds[j])],_,?_,rfl,?_⟩
  ·unfold x0q
   rw[if_pos (by simp[hi])]
   subst hi
   simp[-y1e,List.set_append]
  ·rw[if_pos rfl,hg]
   exact⟨q _,_,he _ (List.getElem_mem hj),by simp,by simp⟩
theorem z5a {i:Nat}{te:Den}{it:x9w}{ρ:Rho}{ds:List D}(hi:ρ.length=i)(hit:it ρ=some (ds,ρ))(b:D->Bool)(q:D->Nat)
  (he:∀ d,d∈ds->te (ρ++[some (d,y1e d)])=some (.bl (b d),q d,ρ++[some (d,y1e d)])) :
  eB z8p (x01 (x2x 1 it (x0q i) x27 te false) x0f) ρ=some (.bl (ds.all b),9,ρ):=by
 refine j59 (x18 (x1t (deep:=false) hit (j61 ds hi (fun d=>.bl (b d)) q he))) ?_
 simp only[z8p,z31,Option.map_some]
 simp[List.all_map,Function.comp_def]
structure Cht where
 p:Nat
 W:List (Nat×Nat×(Nat->Nat))
 B:List (Nat×Nat)
def x1r (n:Nat)(w:Nat×Nat×(Nat->Nat)):D:=.tup [.int (Int.ofNat w.1),.int (Int.ofNat w.2.1),x0d n w.2.2]
def x14 (b:Nat×Nat):D:=.tup [.int (Int.ofNat b.1),.int (Int.ofNat b.2)]
def x06 (n:Nat)(C:Cht):D:=.tup [.int (Int.ofNat C.p),.tup (C.W.map (x1r n)),.tup (C.B.map x14)]
def okW (n:Nat)(f:Nat->Nat->Nat)(p:Nat)(w:Nat×Nat×(Nat->Nat)):Prop:=w.1<p/\w.2.1<p/\(∀ i,i<n->w.2.2 i<n)/\∀ x y,x<n->y<n->f x y=y->f (w.2.2 x) (w.2.2 y)=w.2.2 y
def okB (n:Nat)(p:Nat)(b:Nat×Nat):Prop:=b.1<p/\b.2<n
structure Cht.Ok (n:Nat) (f:Nat->Nat->Nat) (C:Cht):Prop where
 p1:1<=C.p
 p8:C.p<=8
 w60:C.W.length<=60
 b60:C.B.length<=60
 ws:∀ w∈C.W,okW n f C.p w
 bs:∀ b∈C.B,okB n C.p b
@[simp] theorem j0f {n:Nat}{C:Cht}:(x06 n C).isL=false:=rfl
@[simp] theorem j4k {n:Nat}{w:Nat×Nat×(Nat->Nat)}:(x1r n w).isL=false:=rfl
@[simp] theorem j4l {b:Nat×Nat}:(x14 b).isL=false:=rfl
theorem x5v (ns:List Int){k:Int}(hk:0<=k){m:Int}(hm:0<m):∃ v:Nat,(v:Int)<m/\x0c [scr ns,.int k,.int m]=some (.int (Int.ofNat v),9):=by
 have h1:=x4l ns k hm
 have h2:=x52 ns k hm
 refine⟨(x65 ns k m).toNat,by omega,?_⟩
 rw[x53 ns k m hk hm]
 have:x65 ns k m=Int.ofNat (x65 ns k m).toNat:=by show _=(((x65 ns k m).toNat:Nat):Int);omega
 rw[<- this]
theorem x6q {m:Nat}(hm:m<=1000){fe:Den}{ρ ρ':Rho}{q:Nat}(h:fe ρ=some (.int (Int.ofNat m),q,ρ')):x0z (x01 fe x0f) ρ=some (x10 m,ρ'):=by
 have b1:(-1000:Int)<=Int.ofNat m:=by show(-1000:Int)<=m;omega
 have b2:Int.ofNat m<=1000:=by show(m:Int)<=1000;omega
 simp only[x0z,x01,x0f,h]
 rw[if_pos ⟨b1,b2⟩]
 rfl
def y50 (b:Nat×Nat):ChS:=(b.1,fun _=>b.2)
def y7n (w:Nat×Nat×(Nat->Nat)):ChS:=(w.2.1,fun v=>w.2.2 (gv v w.1))
def x61 (C:Cht):List ChS:=C.B.map y50++C.W.map y7n
section
variable {n:Nat}{f:Nat->Nat->Nat}(L:Lad n f){C:Cht}(hC:C.Ok n f)
include L hC
theorem y3r:∀ s∈x61 C,OkS n C.p f s:=fun s hs=>by
 unfold x61 at hs
 rcases List.mem_append.mp hs with h|h
 ·obtain⟨b,hb,rfl⟩:=List.mem_map.mp h
  have k:=hC.bs b hb
  exact⟨k.1,fun _ _=>k.2,fun _ _ _ _ _=>L.idem _ k.2⟩
 ·obtain⟨w,hw,rfl⟩:=List.mem_map.mp h
  have k:=hC.ws w hw
  exact⟨k.2.1,fun v hv=>k.2.2.1 _ (hv.gv k.1),fun u v hu hv e=>k.2.2.2 _ _ (hu.gv k.1) (hv.gv k.1) (e _ k.1)⟩
end
abbrev Sn:=Bool×Nat
def x0o (s:Sn):D:=.tup [.str (if s.1 then "begin" else "way"),.int (Int.ofNat s.2)]
@[simp] theorem j16 {s:Sn}:(x0o s).isL=false:=rfl
def okN (C:Cht)(s:Sn):Prop:=s.2<(if s.1 then C.B.length else C.W.length)
def x48 (C:Cht)(s:Sn):ChS:=if s.1 then y50 (C.B.getD s.2 (0,0))else y7n (C.W.getD s.2 (0,0,id))
def z28 (C:Cht):List Sn:=(List.range C.B.length).map (fun k=>(true,k))++(List.range C.W.length).map (fun k=>(false,k))
theorem z9h (C:Cht):∀ s∈z28 C,okN C s:=fun s hs=>by
 unfold z28 at hs
 rcases List.mem_append.mp hs with h|h
 ·obtain⟨k,hk,rfl⟩:=List.mem_map.mp h
  exact List.mem_range.mp hk
 ·obtain⟨k,hk,rfl⟩:=List.mem_map.mp h
  exact List.mem_range.mp hk
theorem y6z {α β:Type}(l:List α)(d:α)(g:α->β):(List.range l.length).map (fun k=>g (l.getD k d))=l.map g:=by
 apply List.ext_getElem?
 intro k
 by_cases hk:k<l.length
 ·simp[hk]
 ·rw[List.getElem?_eq_none (by simp;omega),List.getElem?_eq_none (by simp;omega)]
theorem z58 (C:Cht):(z28 C).map (x48 C)=x61 C:=by
 unfold z28 x61
 rw[List.map_append,List.map_map,List.map_map,<- y6z C.B (0,0) y50,<- y6z C.W (0,0,id) y7n]
 rfl
theorem y30 {C:Cht}{s:Sn}(h:okN C s):x48 C s∈x61 C:=by
 unfold okN at h
 unfold x48 x61
 cases hb:s.1 with
 | true=>
  rw[hb]at h
  have h':s.2<C.B.length:=h
  refine List.mem_append_left _ (List.mem_map.mpr ⟨C.B.getD s.2 (0,0),?_,rfl⟩)
  rw[List.getD_eq_getElem?_getD,List.getElem?_eq_getElem h']
  exact List.getElem_mem h'
 | false=>
  rw[hb]at h
  have h':s.2<C.W.length:=h
  refine List.mem_append_right _ (List.mem_map.mpr ⟨C.W.getD s.2 (0,0,id),?_,rfl⟩)
  rw[List.getD_eq_getElem?_getD,List.getElem?_eq_getElem h']
  exact List.getElem_mem h'
theorem z34:dEq (.str "begin") (.str "begin")=some (.bl true):=by
 have h:okD (.str "begin")=true:=by decide +kernel
 unfold dEq
 rw[if_pos ⟨h,h⟩]
 rfl
theorem j0l:dEq (.str "way") (.str "begin")=some (.bl false):=by
 have h:okD (.str "begin")=true:=by decide +kernel
 have h':okD (.str "way")=true:=by decide +kernel
 have e:eqD (.str "way") (.str "begin")=false:=by decide +kernel
 unfold dEq
 rw[if_pos ⟨h',h⟩,e]
theorem j4a {v:List Nat}{p:Nat}(hp:p<v.length):L3.j2t (x0h v) none (some (Int.ofNat p))=x0h (v.take p):=by
 unfold L3.j2t
 have e1:HT.sIx (x0h v).length 0 none=0:=rfl
 have e2:HT.sIx (x0h v).length (x0h v).length (some (Int.ofNat p))=p:=by
  rw[x1b]
  have:¬ ((p:Int)<0):=by omega
  simp[HT.sIx,this]
  omega
 rw[e1,e2,List.drop_zero,Nat.sub_zero]
 simp only[x0h,List.map_take]
theorem z2o {v:List Nat}{p:Nat}(hp:p<v.length):L3.j2t (x0h v) (some (Int.ofNat p+1)) none=x0h (v.drop (p+1)):=by
 unfold L3.j2t
 have e1:HT.sIx (x0h v).length 0 (some (Int.ofNat p+1))=p+1:=by
  rw[x1b]
  have:¬ ((p:Int)+1<0):=by omega
  simp[HT.sIx,this]
  omega
 have e2:HT.sIx (x0h v).length (x0h v).length none=(x0h v).length:=rfl
 rw[e1,e2,List.take_of_length_le (by rw[List.length_drop];exact Nat.le_refl _)]
 simp only[x0h,List.map_drop]
theorem z7f {v:List Nat}{p x:Nat}(hp:p<v.length):x0h (v.take p)++[.int (Int.ofNat x)]++x0h (v.drop (p+1))=x0h (v.set p x):=by
 rw[List.set_eq_take_append_cons_drop,if_pos hp]
 simp[x0h]
section
variable {n:Nat}{f:Nat->Nat->Nat}(L:Lad n f){C:Cht}(hC:C.Ok n f)
include L hC
theorem z2w {v:List Nat}(hv:Vn n C.p v){s:Sn}(hs:okN C s):x2h [x06 n C,.tup (x0h v),x0o s]=some (.tup [.int (Int.ofNat (x48 C s).1),.int (Int.ofNat ((x48 C s).2 v))],9):=by
 obtain⟨b,k⟩:=s
 unfold okN at hs
 unfold x2h x59
 have c1:atD (x06 n C) 1=some (.tup (C.W.map (x1r n))):=rfl
 have c2:atD (x06 n C) 2=some (.tup (C.B.map x14)):=rfl
 cases b with
 | true=>
  have hk:k<C.B.length:=hs
  have s0:atD (x0o (true,k)) 0=some (.str "begin"):=rfl
  have s1:atD (x0o (true,k)) 1=some (.int (Int.ofNat k)):=rfl
  have e:atD (.tup (C.B.map x14)) (Int.ofNat k)=some (x14 (C.B.getD k (0,0))):=y4n (by rw[List.getElem?_map,List.getElem?_eq_getElem hk];simp[hk])
  have hst:x48 C (true,k)=y50 (C.B.getD k (0,0)):=rfl
  rw[hst]
  generalize C.B.getD k (0,0)=b at *
  generalize x0o (true,k)=sd at *
  have hb:x14 b=.tup [.int (Int.ofNat (y50 b).1),.int (Int.ofNat ((y50 b).2 v))]:=rfl
  rw[<- hb]
  simp[-Int.ofNat_eq_natCast,s0,s1,c2,e,z34]
 | false=>
  have hk:k<C.W.length:=hs
  have s0:atD (x0o (false,k)) 0=some (.str "way"):=rfl
  have s1:atD (x0o (false,k)) 1=some (.int (Int.ofNat k)):=rfl
  have e:atD (.tup (C.W.map (x1r n))) (Int.ofNat k)=some (x1r n (C.W.getD k (0,0,id))):=y4n (by rw[List.getElem?_map,List.getElem?_eq_getElem hk];simp[hk])
  have hst:x48 C (false,k)=y7n (C.W.getD k (0,0,id)):=rfl
  have hw:C.W.getD k (0,0,id)∈C.W:=by
   rw[List.getD_eq_getElem?_getD,List.getElem?_eq_getElem hk]
   exact List.getElem_mem hk
  have ok:=hC.ws _ hw
  rw[hst]
  generalize C.W.getD k (0,0,id)=w at *
  have w0:atD (x1r n w) 0=some (.int (Int.ofNat w.1)):=rfl
  have w1:atD (x1r n w) 1=some (.int (Int.ofNat w.2.1)):=rfl
  have w2:atD (x1r n w) 2=some (x0d n w.2.2):=rfl
  have a0:=z5p (v:=v) (i:=w.1) (by rw[hv.len];exact ok.1)
  have a1:=x4z (r:=w.2.2) (hv.gv ok.1)
  have hst':x0o (false,k)=x0o (false,k):=rfl
  generalize hsd:x0o (false,k)=sd at *
  have hL:sd.isL=false:=by rw[<- hsd];rfl
  show _=some (D.tup [.int (Int.ofNat w.2.1),.int (Int.ofNat (w.2.2 (gv v w.1)))],9)
  generalize hwt:x1r n w=wt at *
  have hL2:wt.isL=false:=by rw[<- hwt];rfl
  simp[-Int.ofNat_eq_natCast,s0,s1,c1,e,j0l,w0,w1,w2,a0,a1,hL,hL2]
theorem z18 {v:List Nat}(hv:Vn n C.p v){s:Sn}(hs:okN C s):x1y [x0n n f,x06 n C,.tup (x0h v),x0o s]=some (.tup (x0h (doS f v (x48 C s))),9):=by
 have ok:=y3r L hC _ (y30 hs)
 have hp:=z2w L hC hv hs
 have hx:=ok.lt v hv
 have hg:=hv.gv ok.pl
 have hpl:(x48 C s).1<v.length:=by rw[hv.len];exact ok.pl
 have hp8:=hC.p8
 have hl:=hv.len
 unfold doS
 generalize (x48 C s).1=g at *
 generalize (x48 C s).2 v=x at *
 have a0:=z5p hpl
 have a1:=x39 (f:=f) hg
 have a2:=x3e (f:=f) (i:=gv v g) hx
 have s1:=j4a hpl
 have s2:=z2o hpl
 have s3:=z7f (x:=f (gv v g) x) hpl
 have l1:(x0h (v.take g)).length=g:=by rw[x1b,List.length_take];omega
 have l2:(x0h (v.drop (g+1))).length=v.length-(g+1):=by rw[x1b,List.length_drop]
 unfold x1y x6g
 refine x2g ?_
 show x17 _ _ [some (x0n n f,9),some (x06 n C,9),some (.tup (x0h v),9),some (x0o s,9),none,none,none]=_
 refine(x0g (ρ1:=[some (x0n n f,9),some (x06 n C,9),some (.tup (x0h v),9),some (x0o s,9),some (.tup [.int (Int.ofNat g),.int (Int.ofNat x)],9),none,none]) (by simp[-Int.ofNat_eq_natCast,hp])).trans ?_
 have t0:atD (.tup [.int (Int.ofNat g),.int (Int.ofNat x)]) 0=some (.int (Int.ofNat g)):=rfl
 have t1:atD (.tup [.int (Int.ofNat g),.int (Int.ofNat x)]) 1=some (.int (Int.ofNat x)):=rfl
 refine(x0g (ρ1:=[some (x0n n f,9),some (x06 n C,9),some (.tup (x0h v),9),some (x0o s,9),some (.tup [.int (Int.ofNat g),.int (Int.ofNat x)],9),some (.int (Int.ofNat g),9),none]) (by simp[-Int.ofNat_eq_natCast,t0])).trans ?_
 refine(x0g (ρ1:=[some (x0n n f,9),some (x06 n C,9),some (.tup (x0h v),9),some (x0o s,9),some (.tup [.int (Int.ofNat g),.int (Int.ofNat x)],9),some (.int (Int.ofNat g),9),some (.int (Int.ofNat (f (gv v g) x)),9)]) (by simp[-Int.ofNat_eq_natCast,a0,a1,a2,t1])).trans ?_
 rw[<- s3]
 have m1:(x0h (v.take g)).length+1<=1000:=by omega
 have m2:(x0h (v.take g)).length+1+(x0h (v.drop (g+1))).length<=1000:=by omega
 generalize x0h (v.take g)=u1 at *
 generalize x0h (v.drop (g+1))=u2 at *
 have m1':u1.length<=999:=by omega
 simp[-Int.ofNat_eq_natCast,s1,s2,m1,m1',m2]
structure LowS (n:Nat) (f:Nat->Nat->Nat) (p:Nat) (l:List ChS) (v u:List Nat):Prop where
 V:Vn n p u
 cl:ClS f l u
 up:leV f p v u
 le:∀ a,Vn n p a->ClS f l a->leV f p v a->leV f p u a
theorem z3n {v:List Nat}(hv:Vn n C.p v){l:List Sn}(hl:∀ s∈l,okN C s)(hlen:l.length<=1000) :
  ∃ (u:List Nat) (R:List Sn),LowS n f C.p (l.map (x48 C)) v u/\(∀ s∈R,s∈l)/\(R.map (x48 C)).foldl (doS f) v=u/\Lad.mu n f u+R.length<=Lad.mu n f v/\y11 [x0n n f,x06 n C,.lst (l.map x0o),.tup (x0h v)]=some (.tup [.tup (x0h u),.lst (R.map x0o)],9):=by
 have hp8:=hC.p8
 have hn8:=L.hi
 have hmu:=Lad.mu_le (f:=f) hv
 have hmu':C.p*n<=8*16:=Nat.mul_le_mul hp8 hn8
 have hS:∀ t∈l.map (x48 C),OkS n C.p f t:=fun t ht=>by
  obtain⟨s,hs,rfl⟩:=List.mem_map.mp ht
  exact y3r L hC _ (y30 (hl s hs))
 -- one round
 have round:∀ (w:List Nat) (R:List Sn) (a:OD) (j:(OD×OD)),Vn n C.p w->(∀ s∈R,s∈l)->(R.map (x48 C)).foldl (doS f) v=w->Lad.mu n f w+R.length<=Lad.mu n f v->
   ∃ (R':List Sn) (j':(OD×OD)),(∀ s∈R',s∈l)/\(R'.map (x48 C)).foldl (doS f) v=(l.map (x48 C)).foldl (doS f) w/\Lad.mu n f ((l.map (x48 C)).foldl (doS f) w)+R'.length<=Lad.mu n f v /\
    x9g (x0q 6) x9v (l.map x0o) [some (x0n n f,9),some (x06 n C,9),some (.lst (l.map x0o),0),some (.tup (x0h w),9),some (.lst ((R).map x0o),1),a,(j).1,(j).2]=some (.nx [some (x0n n f,9),some (x06 n C,9),some (.lst (l.map x0o),0),some (.tup (x0h ((l.map (x48 C)).foldl (doS f) w)),9),some (.lst ((R').map x0o),1),a,(j').1,(j').2]):=fun w R a j hw h1 h2 h3=>by
  obtain⟨j',e,i1,i2,i3,i4⟩:=y4g (J:=(OD×OD)) (pt:=x0q 6) (body:=x9v) x0o (fun(σ:List Nat×List Sn) j=>[some (x0n n f,9),some (x06 n C,9),some (.lst (l.map x0o),0),some (.tup (x0h σ.1),9),some (.lst ((σ.2).map x0o),1),a,(j).1,(j).2]) (fun σ s=>(doS f σ.1 (x48 C s),if doS f σ.1 (x48 C s)=σ.1 then σ.2 else σ.2++[s]))
   (fun σ=>Vn n C.p σ.1/\(∀ s∈σ.2,s∈l)/\(σ.2.map (x48 C)).foldl (doS f) v=σ.1/\Lad.mu n f σ.1+σ.2.length<=Lad.mu n f v) l (w,R) j ⟨hw,h1,h2,h3⟩ (fun s hs σ j hh0=>by
    obtain⟨k1,k2,k3,k4⟩:=hh0
    obtain⟨x,Q⟩:=σ
    dsimp only at k1 k2 k3 k4 ⊢
    have ok:=y3r L hC _ (y30 (hl s hs))
    have hb:=z18 L hC k1 (hl s hs)
    have hx':=L.doS_V ok k1
    by_cases he:doS f x (x48 C s)=x
    ·rw[if_pos he]
     refine⟨⟨hx',k2,by rw[he];exact k3,by rw[he];exact k4⟩,[some (x0n n f,9),some (x06 n C,9),some (.lst (l.map x0o),0),some (.tup (x0h x),9),some (.lst ((Q).map x0o),1),a,(((some (x0o s,9),j.2):(OD×OD))).1,(((some (x0o s,9),j.2):(OD×OD))).2],(some (x0o s,9),some (.tup (x0h (doS f x (x48 C s))),9)),by simp,?_⟩
     unfold x9v
     refine(x0g (ρ1:=[some (x0n n f,9),some (x06 n C,9),some (.lst (l.map x0o),0),some (.tup (x0h x),9),some (.lst ((Q).map x0o),1),a,(((some (x0o s,9),some (.tup (x0h (doS f x (x48 C s))),9)):(OD×OD))).1,(((some (x0o s,9),some (.tup (x0h (doS f x (x48 C s))),9)):(OD×OD))).2]) (by simp[hb])).trans ?_
     refine(x0g (ρ1:=[some (x0n n f,9),some (x06 n C,9),some (.lst (l.map x0o),0),some (.tup (x0h x),9),some (.lst ((Q).map x0o),1),a,(((some (x0o s,9),some (.tup (x0h (doS f x (x48 C s))),9)):(OD×OD))).1,(((some (x0o s,9),some (.tup (x0h (doS f x (x48 C s))),9)):(OD×OD))).2]) (by rw[he];simp[z2t])).trans ?_
     simp
    ·rw[if_neg he]
     have hlt:=L.mu_lt k1 hx' (L.doS_up ok k1) (fun z=>he z.symm)
     refine⟨⟨hx',fun t ht=>?_,?_,by rw[List.length_append];show _+(Q.length+1)<=_;omega⟩,[some (x0n n f,9),some (x06 n C,9),some (.lst (l.map x0o),0),some (.tup (x0h x),9),some (.lst ((Q).map x0o),1),a,(((some (x0o s,9),j.2):(OD×OD))).1,(((some (x0o s,9),j.2):(OD×OD))).2],(some (x0o s,9),some (.tup (x0h (doS f x (x48 C s))),9)),by simp,?_⟩
     ·rcases List.mem_append.mp ht with h|h
      ·exact k2 t h
      ·rw[List.mem_singleton.mp h];exact hs
     ·rw[List.map_append,List.foldl_append,k3];rfl
     ·unfold x9v
      have hQ:Q.length<=1000:=by omega
      refine(x0g (ρ1:=[some (x0n n f,9),some (x06 n C,9),some (.lst (l.map x0o),0),some (.tup (x0h x),9),some (.lst ((Q).map x0o),1),a,(((some (x0o s,9),some (.tup (x0h (doS f x (x48 C s))),9)):(OD×OD))).1,(((some (x0o s,9),some (.tup (x0h (doS f x (x48 C s))),9)):(OD×OD))).2]) (by simp[hb])).trans ?_
      refine(x0g (ρ1:=[some (x0n n f,9),some (x06 n C,9),some (.lst (l.map x0o),0),some (.tup (x0h x),9),some (.lst (((Q++[s])).map x0o),1),a,(((some (x0o s,9),some (.tup (x0h (doS f x (x48 C s))),9)):(OD×OD))).1,(((some (x0o s,9),some (.tup (x0h (doS f x (x48 C s))),9)):(OD×OD))).2]) (by
       generalize doS f x (x48 C s)=y at *
       simp[z2t,he,hQ])).trans ?_
      simp)
  have ef:∀ (l:List Sn) (σ:List Nat×List Sn),(l.foldl (fun(σ:List Nat×List Sn) s=>(doS f σ.1 (x48 C s),if doS f σ.1 (x48 C s)=σ.1 then σ.2 else σ.2++[s])) σ).1=(l.map (x48 C)).foldl (doS f) σ.1:=by
   intro l
   induction l with
   | nil=>intro σ;rfl
   | cons s l ih=>intro σ;exact ih _
  have ef':=ef l (w,R)
  generalize l.foldl (fun(σ:List Nat×List Sn) s=>(doS f σ.1 (x48 C s),if doS f σ.1 (x48 C s)=σ.1 then σ.2 else σ.2++[s])) (w,R)=σ at *
  obtain⟨x,Q⟩:=σ
  dsimp only at ef' i1 i2 i3 i4 e
  have ef2:x=(l.map (x48 C)).foldl (doS f) w:=ef'
  subst ef2
  exact⟨Q,j',i2,i3,i4,e⟩
 -- all rounds
 obtain⟨ρ',e,u,R,j,hu,hR1,hR2,hR3,rfl⟩:=y89 (c:=x3m (e2 dNe (x05 3) (x05 5))) (b:=y3e)
  (Q:=fun ρ=>∃ (u:List Nat) (R:List Sn),∃ j:(OD×OD),LowS n f C.p (l.map (x48 C)) v u/\(∀ s∈R,s∈l)/\(R.map (x48 C)).foldl (doS f) v=u/\Lad.mu n f u+R.length<=Lad.mu n f v/\ρ=[some (x0n n f,9),some (x06 n C,9),some (.lst (l.map x0o),0),some (.tup (x0h u),9),some (.lst ((R).map x0o),1),some (.tup (x0h u),9),(j).1,(j).2])
  (fun k ρ=>∃ (w:List Nat) (R:List Sn),∃ j:(OD×OD),∃ a:D,Vn n C.p w/\leV f C.p v w/\(∀ x,Vn n C.p x->ClS f (l.map (x48 C)) x->leV f C.p v x->leV f C.p w x)/\(∀ s∈R,s∈l)/\(R.map (x48 C)).foldl (doS f) v=w/\Lad.mu n f w+R.length<=Lad.mu n f v /\
    ((a=.non/\k=Lad.mu n f w+1)\/∃ y,a=.tup (x0h y)/\Vn n C.p y/\w=(l.map (x48 C)).foldl (doS f) y/\k=Lad.mu n f w+(if y=w then 0 else 1))/\ρ=[some (x0n n f,9),some (x06 n C,9),some (.lst (l.map x0o),0),some (.tup (x0h w),9),some (.lst ((R).map x0o),1),some (a,9),(j).1,(j).2])
  (k:=Lad.mu n f v+1) (ρ:=[some (x0n n f,9),some (x06 n C,9),some (.lst (l.map x0o),0),some (.tup (x0h v),9),some (.lst ((([]:List Sn)).map x0o),1),some (.non,9),(((none,none):(OD×OD))).1,(((none,none):(OD×OD))).2]) (by omega) ⟨v,[],(none,none),.non,hv,L.leV_refl hv,fun x _ _ h=>h,(fun _ z=>nomatch z),rfl,Nat.le_refl _,.inl ⟨rfl,rfl⟩,rfl⟩ (fun k ρ hh0=>by
   obtain⟨w,R,j,a,hw,h1,h2,h3,h4,h5,h6,hr⟩:=hh0
   subst hr
   have next:(x3m (e2 dNe (x05 3) (x05 5)) [some (x0n n f,9),some (x06 n C,9),some (.lst (l.map x0o),0),some (.tup (x0h w),9),some (.lst ((R).map x0o),1),some (a,9),(j).1,(j).2]=some (true,[some (x0n n f,9),some (x06 n C,9),some (.lst (l.map x0o),0),some (.tup (x0h w),9),some (.lst ((R).map x0o),1),some (a,9),(j).1,(j).2]))->Lad.mu n f w+1<=k->∃ ρ1 ρ2 k',x3m (e2 dNe (x05 3) (x05 5)) [some (x0n n f,9),some (x06 n C,9),some (.lst (l.map x0o),0),some (.tup (x0h w),9),some (.lst ((R).map x0o),1),some (a,9),(j).1,(j).2]=some (true,ρ1)/\y3e ρ1=some (.nx ρ2)/\k'<k/\∃ (w:List Nat) (R:List Sn),∃ j:(OD×OD),∃ a:D,Vn n C.p w/\leV f C.p v w/\(∀ x,Vn n C.p x->ClS f (l.map (x48 C)) x->leV f C.p v x->leV f C.p w x)/\(∀ s∈R,s∈l)/\(R.map (x48 C)).foldl (doS f) v=w/\Lad.mu n f w+R.length<=Lad.mu n f v /\
   ((a=.non/\k'=Lad.mu n f w+1)\/∃ y,a=.tup (x0h y)/\Vn n C.p y/\w=(l.map (x48 C)).foldl (doS f) y/\k'=Lad.mu n f w+(if y=w then 0 else 1))/\ρ2=[some (x0n n f,9),some (x06 n C,9),some (.lst (l.map x0o),0),some (.tup (x0h w),9),some (.lst ((R).map x0o),1),some (a,9),(j).1,(j).2]:=fun ht hk=>by
    obtain⟨R',j',r1,r2,r3,r4⟩:=round w R (some (.tup (x0h w),9)) j hw h3 h4 h5
    have hw':=L.foldS_V hS hw
    have up:=L.foldS_up hS hw
    refine⟨_,[some (x0n n f,9),some (x06 n C,9),some (.lst (l.map x0o),0),some (.tup (x0h ((l.map (x48 C)).foldl (doS f) w)),9),some (.lst ((R').map x0o),1),some (.tup (x0h w),9),(j').1,(j').2],Lad.mu n f ((l.map (x48 C)).foldl (doS f) w)+(if w=(l.map (x48 C)).foldl (doS f) w then 0 else 1),ht,?_,?_,_,R',j',.tup (x0h w),hw',L.leV_trans hv hw hw' h1 up,fun x hx cx hvx=>L.foldS_below hx hS hw cx (h2 x hx cx hvx),r1,r2,r3,.inr ⟨w,rfl,hw,rfl,rfl⟩,rfl⟩
    ·unfold y3e
     refine(x0g (ρ1:=[some (x0n n f,9),some (x06 n C,9),some (.lst (l.map x0o),0),some (.tup (x0h w),9),some (.lst ((R).map x0o),1),some (.tup (x0h w),9),(j).1,(j).2]) (by simp)).trans ?_
     exact(x3c (ds:=l.map x0o) (ρ1:=[some (x0n n f,9),some (x06 n C,9),some (.lst (l.map x0o),0),some (.tup (x0h w),9),some (.lst ((R).map x0o),1),some (.tup (x0h w),9),(j).1,(j).2]) (by simp[hlen])).trans r4
    ·by_cases he:w=(l.map (x48 C)).foldl (doS f) w
     ·rw[if_pos he,<- he];omega
     ·rw[if_neg he]
      have:=L.mu_lt hw hw' up he
      omega
   rcases h6 with⟨rfl,hk⟩|⟨y,rfl,hy,hwy,hk⟩
   ·refine .inr (next ?_ (by omega))
    have hne:dNe (.tup (x0h w)) .non=some (.bl true):=by
     unfold dNe
     rw[if_pos ⟨(j0d w).ok,(Sh.non (k:=0)).ok⟩]
     rfl
    simp[hne]
   ·by_cases hyw:y=w
    ·subst hyw
     refine .inl ⟨[some (x0n n f,9),some (x06 n C,9),some (.lst (l.map x0o),0),some (.tup (x0h y),9),some (.lst ((R).map x0o),1),some (.tup (x0h y),9),(j).1,(j).2],by simp[z2t],y,R,j,⟨hw,(L.foldS_fix hS hw).mp hwy.symm,h1,h2⟩,h3,h4,h5,rfl⟩
    ·rw[if_neg hyw]at hk
     refine .inr (next ?_ (by omega))
     have:¬ (w=y):=fun z=>hyw z.symm
     simp[z2t,this])
 refine⟨u,R,hu,hR1,hR2,hR3,?_⟩
 unfold y11 y96
 refine x2g ?_
 show x17 _ _ [some (x0n n f,9),some (x06 n C,9),some (.lst (l.map x0o),0),some (.tup (x0h v),9),none,none,none,none]=_
 refine(x0g (ρ1:=[some (x0n n f,9),some (x06 n C,9),some (.lst (l.map x0o),0),some (.tup (x0h v),9),some (.lst [],1),none,none,none]) (by simp)).trans ?_
 refine(x0g (ρ1:=[some (x0n n f,9),some (x06 n C,9),some (.lst (l.map x0o),0),some (.tup (x0h v),9),some (.lst ((([]:List Sn)).map x0o),1),some (.non,9),(((none,none):(OD×OD))).1,(((none,none):(OD×OD))).2]) (by simp)).trans ?_
 refine(x0g e).trans ?_
 simp
end
theorem dg1 (a b:D):y58 ["begin","way"] [a,b] "begin" = some a:=by unfold y58;rw[if_pos rfl]
theorem dg2 (a b:D):y58 ["begin","way"] [a,b] "way" = some b:=by
 unfold y58
 rw[if_neg (by decide)]
 unfold y58
 rw[if_pos rfl]
section
variable {n:Nat}{f:Nat->Nat->Nat}{C:Cht}
theorem z2p {s:Sn}(hs:okN C s):x2f [x0o s,.dic ["begin","way"] [.int (Int.ofNat C.B.length),.int (Int.ofNat C.W.length)]]=some (.bl true,9):=by
 obtain⟨b,k⟩:=s
 unfold okN at hs
 have l2:dNe (.int 2) (.int 2)=some (.bl false):=(z70 _ _).trans (by simp)
 unfold x2f x5d
 cases b with
 | true=>
  have hk:k<C.B.length:=hs
  have n1:x13 [.int (Int.ofNat k),.int (Int.ofNat C.B.length)]=some (.bl true,9):=by
   rw[x6k]
   have:x64 C.B.length (.int (Int.ofNat k))=true:=by
    show(decide ((0:Int)<=(k:Int))&&decide ((k:Int)<(C.B.length:Int)))=true
    simp;exact hk
   rw[this]
  have s0:atD (.tup [.str "begin",.int (Int.ofNat k)]) 0=some (.str "begin"):=rfl
  have s1:atD (.tup [.str "begin",.int (Int.ofNat k)]) 1=some (.int (Int.ofNat k)):=rfl
  have ll:x95 (.tup [.str "begin",.int (Int.ofNat k)])=some 2:=rfl
  have g1:=dg1 (.int (Int.ofNat C.B.length)) (.int (Int.ofNat C.W.length))
  show fnD _ _ [.tup [.str "begin",.int (Int.ofNat k)],_]=_
  simp[-Int.ofNat_eq_natCast,isD,ll,l2,s0,s1,g1,n1]
 | false=>
  have hk:k<C.W.length:=hs
  have n1:x13 [.int (Int.ofNat k),.int (Int.ofNat C.W.length)]=some (.bl true,9):=by
   rw[x6k]
   have:x64 C.W.length (.int (Int.ofNat k))=true:=by
    show(decide ((0:Int)<=(k:Int))&&decide ((k:Int)<(C.W.length:Int)))=true
    simp;exact hk
   rw[this]
  have s0:atD (.tup [.str "way",.int (Int.ofNat k)]) 0=some (.str "way"):=rfl
  have s1:atD (.tup [.str "way",.int (Int.ofNat k)]) 1=some (.int (Int.ofNat k)):=rfl
  have ll:x95 (.tup [.str "way",.int (Int.ofNat k)])=some 2:=rfl
  have g1:=dg2 (.int (Int.ofNat C.B.length)) (.int (Int.ofNat C.W.length))
  show fnD _ _ [.tup [.str "way",.int (Int.ofNat k)],_]=_
  simp[-Int.ofNat_eq_natCast,isD,ll,l2,s0,s1,g1,n1]
theorem y8h {s:Sn}(hs:okN C s):x4u [x06 n C,x0o s]=some (.bl true,9):=by
 have h:=z2p hs
 unfold x4u y57
 have e1:x7q 0 2 [some (x06 n C,9),some (x0o s,9)]=some (Int.ofNat C.B.length):=by
  show some (Int.ofNat (C.B.map x14).length)=_
  rw[List.length_map]
 have e2':x7q 0 1 [some (x06 n C,9),some (x0o s,9)]=some (Int.ofNat C.W.length):=by
  show some (Int.ofNat (C.W.map (x1r n)).length)=_
  rw[List.length_map]
 have ed:y8g "begin" "way" (x7q 0 2) (x7q 0 1) [some (x06 n C,9),some (x0o s,9)]=some (.dic ["begin","way"] [.int (Int.ofNat C.B.length),.int (Int.ofNat C.W.length)],9,[some (x06 n C,9),some (x0o s,9)]):=by
  unfold y8g
  rw[e1,e2']
 exact x2g (x37 (x0x (x1a (f:=x05 1) (d:=x0o s) (q:=9) (ρ:=[some (x06 n C,9),some (x0o s,9)]) (ρ1:=[some (x06 n C,9),some (x0o s,9)]) rfl (x18 ed)) rfl h))
theorem x8x {l:List Sn}(hl:∀ s∈l,okN C s)(hlen:l.length<=1000):x2s [x06 n C,.lst (l.map x0o)]=some (.non,9):=by
 have hit:x9m (x05 1) [some (x06 n C,9),some (.lst (l.map x0o),0)]=some (l.map x0o,[some (x06 n C,9),some (.lst (l.map x0o),0)]):=by simp[hlen]
 have e:=z5a (i:=2) (te:=x0l x4u 2 (x01 (x05 0) (x01 (x05 2) x0f))) (ρ:=[some (x06 n C,9),some (.lst (l.map x0o),0)]) rfl hit (fun _=>true) (fun _=>9) (fun d hd=>by
  obtain⟨s,hs,rfl⟩:=List.mem_map.mp hd
  simp[y8h (n:=n) (hl s hs)])
 have ea:(l.map x0o).all (fun _=>true)=true:=by simp
 rw[ea]at e
 unfold x2s x5z
 show(match sIf _ _ _ [some (x06 n C,9),some (.lst (l.map x0o),0)]with|some (.rt d q)=>some (d,q)|some (.nx _)=>some (D.non,9)|_=>none)=_
 have ei:sIf (x8b (y2c (eB z8p (x01 (x2x 1 (x9m (x05 1)) (x0q 2) x27 (x0l x4u 2 (x01 (x05 0) (x01 (x05 2) x0f))) false) x0f)))) y2a x6i [some (x06 n C,9),some (.lst (l.map x0o),0)]=some (.nx [some (x06 n C,9),some (.lst (l.map x0o),0)]):=by
  refine(y2p ?_).trans rfl
  unfold x8b y2c
  rw[e]
  rfl
 rw[ei]
theorem z56:(z28 C).length=C.B.length+C.W.length:=by simp[z28]
theorem y55 (hB:C.B.length<=60)(hW:C.W.length<=60):x4o [x06 n C]=some (.lst ((z28 C).map x0o),1):=by
 unfold x4o y10
 refine x2g ?_
 show x17 _ _ [some (x06 n C,9),none]=_
 have c1:atD (x06 n C) 1=some (.tup (C.W.map (x1r n))):=rfl
 have c2:atD (x06 n C) 2=some (.tup (C.B.map x14)):=rfl
 have lB:x95 (.tup (C.B.map x14))=some C.B.length:=by simp[x95]
 have lW:x95 (.tup (C.W.map (x1r n)))=some C.W.length:=by simp[x95]
 have h1:=x1t (k:=1) (tt:=x27) (te:=x4i (x01 (eC (.str "begin")) (x01 (x05 2) x0f))) (deep:=false) (x6q (m:=C.B.length) (by omega) (fe:=eB z3p (x01 (x1k 0 (eC (.int 2))) x0f)) (ρ:=[some (x06 n C,9),none]) (ρ':=[some (x06 n C,9),none]) (q:=9) (by simp[-Int.ofNat_eq_natCast,c2,lB])) (y2v (i:=2) rfl (fun _=>true) (fun k=>x0o (true,k)) (fun _=>9) (fun k hk=>rfl) (fun k hk _=>by simp[-Int.ofNat_eq_natCast,x0o]))
 rw[show(List.range C.B.length).filter (fun _=>true)=List.range C.B.length by simp]at h1
 refine(x0g (ρ1:=[some (x06 n C,9),some (.lst ((List.range C.B.length).map fun k=>x0o (true,k)),1)]) (x21 h1 rfl)).trans ?_
 have h2:=x1t (k:=1) (tt:=x27) (te:=x4i (x01 (eC (.str "way")) (x01 (x05 2) x0f))) (deep:=false) (x6q (m:=C.W.length) (by omega) (fe:=eB z3p (x01 (x1k 0 (eC (.int 1))) x0f)) (ρ:=[some (x06 n C,9),some (.lst ((List.range C.B.length).map fun k=>x0o (true,k)),0)]) (ρ':=[some (x06 n C,9),some (.lst ((List.range C.B.length).map fun k=>x0o (true,k)),0)]) (q:=9) (by simp[-Int.ofNat_eq_natCast,c1,lW])) (y2v (i:=2) rfl (fun _=>true) (fun k=>x0o (false,k)) (fun _=>9) (fun k hk=>rfl) (fun k hk _=>by simp[-Int.ofNat_eq_natCast,x0o]))
 rw[show(List.range C.W.length).filter (fun _=>true)=List.range C.W.length by simp]at h2
 have ea:(z28 C).map x0o=((List.range C.B.length).map fun k=>x0o (true,k))++((List.range C.W.length).map fun k=>x0o (false,k)):=by
  unfold z28
  rw[List.map_append,List.map_map,List.map_map]
  rfl
 rw[ea]
 refine x37 (ρ1:=[some (x06 n C,9),some (.lst ((List.range C.B.length).map fun k=>x0o (true,k)),0)]) ?_
 have v1:x05 1 [some (x06 n C,9),some (.lst ((List.range C.B.length).map fun k=>x0o (true,k)),1)]=some (.lst ((List.range C.B.length).map fun k=>x0o (true,k)),0,[some (x06 n C,9),some (.lst ((List.range C.B.length).map fun k=>x0o (true,k)),0)]):=rfl
 unfold z1m
 rw[v1]
 have hl:((List.range C.B.length).map fun k=>x0o (true,k)).length+((List.range C.W.length).map fun k=>x0o (false,k)).length<=1000:=by
  rw[List.length_map,List.length_map,List.length_range,List.length_range];omega
 generalize ((List.range C.B.length).map fun k=>x0o (true,k))=x at *
 generalize ((List.range C.W.length).map fun k=>x0o (false,k))=y at *
 rw[if_neg (by decide)]at h2
 simp only[h2,if_pos hl]
end
section
variable {n:Nat}{f:Nat->Nat->Nat}(L:Lad n f){z:Nat}(hz:z<n)(bz:∀ j,j<n->f z j=j){C:Cht}(hC:C.Ok n f)
def y6b (p z:Nat):List Nat:=List.replicate p z
theorem j3g {p:Nat}(hz:z<n):Vn n p (y6b p z):=⟨by simp[y6b],fun x hx=>by rw[(List.mem_replicate.mp hx).2];exact hz⟩
theorem z7n {p i:Nat}(hi:i<p):gv (y6b p z) i=z:=by unfold gv y6b;simp[hi]
theorem y9y {p:Nat}(bz:∀ j,j<n->f z j=j){v:List Nat}(hv:Vn n p v):leV f p (y6b p z) v:=fun i hi=>by rw[z7n hi];exact bz _ (hv.gv hi)
include L hz bz hC
theorem y9n:x7t [x0n n f,x06 n C]=some (.tup (x0h (y6b C.p z)),9):=by
 have hn:n<=1000:=Nat.le_trans L.hi (by decide)
 have hp8:=hC.p8
 have c0:atD (x06 n C) 0=some (.int (Int.ofNat C.p)):=rfl
 have hl:=y6u L hz bz hn
 unfold x7t y76
 have e:(List.replicate C.p [D.int (Int.ofNat z)]).flatten=x0h (y6b C.p z):=by
  simp[x0h,y6b,List.flatten_replicate_singleton]
 have b1:(-1000:Int)<=Int.ofNat C.p:=by show(-1000:Int)<=(C.p:Int);omega
 have b2:Int.ofNat C.p<=1000:=by show(C.p:Int)<=1000;omega
 have b3:(Int.ofNat C.p).toNat=C.p:=rfl
 have b4:C.p<=1000:=by omega
 simp[-Int.ofNat_eq_natCast,-List.flatten_replicate_singleton,hl,c0,b1,b2,b3,b4,e]
theorem y5w {l:List Sn}(hl:∀ s∈l,okN C s)(hlen:l.length<=1000) :
  ∃ (u:List Nat) (R:List Sn),LowS n f C.p (l.map (x48 C)) (y6b C.p z) u/\(∀ s∈R,s∈l)/\(R.map (x48 C)).foldl (doS f) (y6b C.p z)=u/\Lad.mu n f u+R.length<=Lad.mu n f (y6b C.p z)/\x5c [x0n n f,x06 n C,.lst (l.map x0o)]=some (.tup [.tup (x0h u),.int (Int.ofNat R.length)],9):=by
 obtain⟨u,R,h1,h2,h3,h4,e⟩:=z3n L hC (j3g (p:=C.p) hz) hl hlen
 refine⟨u,R,h1,h2,h3,h4,?_⟩
 have r0:=x8x (n:=n) hl hlen
 have r1:=y9n L hz bz hC
 have a0:atD (.tup [.tup (x0h u),.lst (R.map x0o)]) 0=some (.tup (x0h u)):=rfl
 have a1:atD (.tup [.tup (x0h u),.lst (R.map x0o)]) 1=some (.lst (R.map x0o)):=rfl
 have a2:x95 (.lst (R.map x0o))=some R.length:=by simp[x95]
 unfold x5c y29
 simp[-Int.ofNat_eq_natCast,r0,r1,e,a0,a1,a2]
theorem y0g:∃ u,LowS n f C.p (x61 C) (y6b C.p z) u/\x3w [x0n n f,x06 n C]=some (.tup (x0h u),9):=by
 have hB:=hC.b60
 have hW:=hC.w60
 obtain⟨u,R,h1,h2,h3,h4,e⟩:=y5w L hz bz hC (z9h C) (by rw[z56];omega)
 rw[z58]at h1
 refine⟨u,h1,?_⟩
 have r0:=y55 (n:=n) hB hW
 have a0:atD (.tup [.tup (x0h u),.int (Int.ofNat R.length)]) 0=some (.tup (x0h u)):=rfl
 unfold x3w y9w
 simp[-Int.ofNat_eq_natCast,r0,e,a0]
end
theorem x6w {α:Type}{k:Nat}{pt:x54}{tt:x1p}{te:Den}{ρ:Rho}(enc:α->D)(ext:α->Rho)(b:α->Bool)(v:α->D)(q:α->Nat):∀ l:List α,
  (∀ x∈l,pt (enc x) (ρ++List.replicate k none)=some (ρ++ext x)/\tt (ρ++ext x)=some (b x,ρ++ext x)/\(b x=true->te (ρ++ext x)=some (v x,q x,ρ++ext x)))->x66 k pt tt te false (l.map enc) ρ=some ((l.filter b).map v,ρ)
 | [],_=>rfl
 | x::l,h=>by
  obtain⟨h1,h2,h3⟩:=h x List.mem_cons_self
  have ih:=x6w enc ext b v q l (fun y m=>h y (List.mem_cons_of_mem _ m))
  have ht:(ρ++ext x).take ρ.length=ρ:=by simp
  rw[List.map_cons]
  unfold x66
  rw[h1]
  simp only[h2]
  cases hb:b x with
  | true=>
   simp only[if_true,h3 hb,ht,ih]
   rw[List.filter_cons_of_pos hb]
   simp
  | false=>
   simp only[ht,ih]
   rw[List.filter_cons_of_neg (by rw[hb];simp)]
   simp
theorem z2e {i:Nat}{ρ:Rho}{x:D×Nat}(h:ρ[i]? = some (some x)):ρ.set i (some x)=ρ:=by
 apply List.ext_getElem?
 intro k
 by_cases hk:i=k
 ·subst hk
  rw[h,List.getElem?_set_self (List.getElem?_eq_some_iff.mp h).1]
 ·rw[List.getElem?_set_ne hk]
theorem z3w {i q:Nat}{ρ:Rho}{ds:List D}(h:ρ[i]? = some (some (.lst ds,q))):x05 i ρ=some (.lst ds,0,ρ.set i (some (.lst ds,0))):=by
 unfold x05
 rw[h]
 by_cases hq:q=0
 ·subst hq
  rw[z2e h]
  rfl
 ·simp[hq]
theorem j4p {g h:x1p}{ρ ρ1:Rho}(e:g ρ=some (false,ρ1)):z1t g h ρ=h ρ1:=by unfold z1t;rw[e];rfl
theorem z8u {g:x1p}{ρ ρ1:Rho}{b:Bool}(e:g ρ=some (b,ρ1)):x8b g ρ=some (!b,ρ1):=by unfold x8b;rw[e]
theorem z6n {f:Den}{ρ ρ1:Rho}{b:Bool}{q:Nat}(h:f ρ=some (.bl b,q,ρ1)):y2c f ρ=some (b,ρ1):=by unfold y2c;rw[h];cases b<;>rfl
theorem y7a {i q n:Nat}{ρ:Rho}{d:D}(h:ρ[i]? = some (some (d,q)))(hl:x95 d=some n):x1f i ρ=some (.int (Int.ofNat n),9,ρ):=by unfold x1f;rw[h];simp only[hl]
theorem x4q {i q:Nat}{ρ:Rho}{x d:D}{b:Den}{k:Int}{q':Nat}(hb:b ρ=some (.int k,q',ρ))(h:ρ[i]? = some (some (x,q)))(ha:atD x k=some d)(hd:d.isL=false):x1k i b ρ=some (d,9,ρ):=by
 unfold x1k
 rw[h]
 simp only[hb,h,ha,hd,y1e]
 simp
theorem x92 {ρ:Rho}{x d:D}{a b:Den}{k:Int}{q q':Nat}{ρ1 ρ2:Rho}(h:a ρ=some (x,q,ρ1))(hb:b ρ1=some (.int k,q',ρ2))(ha:atD x k=some d)(hx:x.isL=false)(hd:d.isL=false):eIx a b ρ=some (d,9,ρ2):=by
 unfold eIx
 rw[h]
 simp only[hb,ha,hd,hx,y1e]
 simp
theorem y5k (ns:List Int){c:Int}(hc:0<=c){n:Nat}(hn:0<n):∃ v,v<n/\x0c [scr ns,.int c,.int (Int.ofNat n)]=some (.int (Int.ofNat v),9):=by
 have hnp:(0:Int)<Int.ofNat n:=by show(0:Int)<(n:Int);omega
 have h1:=x4l ns c hnp
 have h2:=x52 ns c hnp
 have h3:Int.ofNat n=(n:Int):=rfl
 obtain⟨v,hv⟩:=Int.eq_ofNat_of_zero_le h1
 refine⟨v,by rw[hv,h3]at h2;omega,?_⟩
 rw[x53 ns c _ hc hnp,hv]
 rfl
theorem y7k {α J:Type}{pt:x54}{body:x16}(enc:α->D)(S:List D->J->Rho)(v:α->D):∀ (l:List α) (acc:List D) (j:J),acc.length+l.length<=1000->
  (∀ a∈l,∀ ds j,ds.length<=1000->∃ ρ1 j',pt (enc a) (S ds j)=some ρ1/\body ρ1=some (.nx (S (ds++[v a]) j')))->∃ j',x9g pt body (l.map enc) (S acc j)=some (.nx (S (acc++l.map v) j'))
 | [],acc,j,_,_=>⟨j,by rw[List.map_nil,List.map_nil,List.append_nil];rfl⟩
 | a::l,acc,j,hl,h=>by
  rw[List.length_cons]at hl
  obtain⟨ρ1,j1,h1,h2⟩:=h a List.mem_cons_self acc j (by omega)
  obtain⟨j2,e⟩:=y7k enc S v l (acc++[v a]) j1 (by rw[List.length_append];show _+1+_<=1000;omega) fun b hb=>h b (List.mem_cons_of_mem _ hb)
  refine⟨j2,?_⟩
  rw[List.map_cons,y93 h1 h2,e,List.append_assoc]
  rfl
def mt (n:Nat)(f:Nat->Nat->Nat)(z a b:Nat):Nat:=(((List.range n).filter fun x=>decide (f x a=a)).filter fun x=>decide (f x b=b)).foldl f z
section
variable {n:Nat}{f:Nat->Nat->Nat}
variable (L:Lad n f){z:Nat}(hz:z<n)(bz:∀ j,j<n->f z j=j)
theorem x9a {a b x:Nat}:x∈((List.range n).filter fun x=>decide (f x a=a)).filter (fun x=>decide (f x b=b)) ↔ x<n/\f x a=a/\f x b=b:=by
 simp only[List.mem_filter,List.mem_range,decide_eq_true_eq,and_assoc]
include L hz bz
theorem y5t (a b:Nat):mt n f z a b<n:=L.fold_lt hz fun x m=>(x9a.mp m).1
theorem j06 {a:Nat}(b:Nat)(ha:a<n):f (mt n f z a b) a=a:=L.sup_least hz bz ha (fun x m=>(x9a.mp m).1) fun x m=>(x9a.mp m).2.1
theorem j09 (a:Nat){b:Nat}(hb:b<n):f (mt n f z a b) b=b:=L.sup_least hz bz hb (fun x m=>(x9a.mp m).1) fun x m=>(x9a.mp m).2.2
theorem z1a {a b c:Nat}(hc:c<n)(h1:f c a=a)(h2:f c b=b):f c (mt n f z a b)=mt n f z a b:=L.fold_mem hz (fun x m=>(x9a.mp m).1) (x9a.mpr ⟨hc,h1,h2⟩)
theorem z4z {a b m:Nat}(ha:a<n)(hb:b<n)(hm:m<n)(h1:f m a=a)(h2:f m b=b)(h3:∀ c,c<n->f c a=a->f c b=b->f c m=m):mt n f z a b=m:=
 L.le_anti (y5t L hz bz a b) hm (h3 _ (y5t L hz bz a b) (j06 L hz bz b ha) (j09 L hz bz a hb)) (z1a L hz bz hm h1 h2)
theorem z6t {a b:Nat}(ha:a<n)(hb:b<n):mt n f z a b=mt n f z b a:=
 z4z L hz bz ha hb (y5t L hz bz b a) (j09 L hz bz b ha) (j06 L hz bz a hb) fun c hc h1 h2=>z1a L hz bz hc h2 h1
theorem j00 {a:Nat}(ha:a<n):mt n f z a a=a:=z4z L hz bz ha ha ha (L.idem a ha) (L.idem a ha) fun c hc h1 _=>h1
theorem z4a {a b c:Nat}(ha:a<n)(hb:b<n)(hc:c<n):mt n f z (mt n f z a b) c=mt n f z a (mt n f z b c):=by
 have h1:=y5t L hz bz a b
 have h2:=y5t L hz bz b c
 have h3:=y5t L hz bz a (mt n f z b c)
 have u1:f (mt n f z a (mt n f z b c)) b=b:=L.le_trans h3 h2 hb (j09 L hz bz a h2) (j06 L hz bz c hb)
 have u2:f (mt n f z a (mt n f z b c)) c=c:=L.le_trans h3 h2 hc (j09 L hz bz a h2) (j09 L hz bz b hc)
 refine z4z L hz bz h1 hc h3 (z1a L hz bz h3 (j06 L hz bz _ ha) u1) u2 fun d hd k1 k2=>?_
 exact z1a L hz bz hd (L.le_trans hd h1 ha k1 (j06 L hz bz b ha)) (z1a L hz bz hd (L.le_trans hd h1 hb k1 (j09 L hz bz a hb)) k2)
theorem y2y {a b:Nat}(ha:a<n)(hb:b<n):mt n f z a b=b ↔ f b a=a:=
 ⟨fun e=>by have:=j06 L hz bz b ha;rw[e]at this;exact this,fun e=>z4z L hz bz ha hb hb e (L.idem b hb) fun c hc _ h=>h⟩
theorem z5m:Lad n (mt n f z):=by
 refine⟨L.lo,L.hi,fun i j _ _=>y5t L hz bz i j,fun i hi=>j00 L hz bz hi,fun i j hi hj=>z6t L hz bz hi hj,fun i j k hi hj hk=>z4a L hz bz hi hj hk,(List.range n).foldl f z,L.fold_lt hz fun x m=>List.mem_range.mp m,fun j hj=>?_⟩
 have ht:(List.range n).foldl f z<n:=L.fold_lt hz fun x m=>List.mem_range.mp m
 exact(y2y L hz bz ht hj).mpr (((L.top_uniq hz _ ht).mpr rfl) j hj)
theorem z0f:(List.range n).foldl f z<n:=L.fold_lt hz fun x m=>List.mem_range.mp m
theorem y9o {j:Nat}(hj:j<n):mt n f z ((List.range n).foldl f z) j=j:=(y2y L hz bz (z0f L hz bz) hj).mpr (((L.top_uniq hz _ (z0f L hz bz)).mpr rfl) j hj)
theorem j23 (hn:n<=1000){a b:Nat}(ha:a<n)(hb:b<n):y8k [x0n n f,.int (Int.ofNat a),.int (Int.ofNat b)]=some (.int (Int.ofNat (mt n f z a b)),9):=by
 unfold y8k j21
 refine x2g (x37 (ρ1:=[some (x0n n f,9),some (.int (Int.ofNat a),9),some (.int (Int.ofNat b),9)]) (x0x (ds:=[x0n n f,.lst (x0h (((List.range n).filter fun x=>decide (f x a=a)).filter fun x=>decide (f x b=b)))]) (x1a (q:=9) (ρ1:=[some (x0n n f,9),some (.int (Int.ofNat a),9),some (.int (Int.ofNat b),9)]) rfl (x18 (x1t (deep:=false) (ds:=x0h ((List.range n).filter fun x=>decide (f x a=a))) (ρ1:=[some (x0n n f,9),some (.int (Int.ofNat a),9),some (.int (Int.ofNat b),9)]) ?_ (j3t (i:=3) (deep:=false) ((List.range n).filter fun x=>decide (f x a=a)) rfl (fun x=>decide (f x b=b)) (fun x=>.int (Int.ofNat x)) (fun _=>9) (fun x hx=>?_) (fun x hx _=>rfl))))) rfl (y4h L hz bz hn ?_ fun x m=>(x9a.mp m).1)))
 ·have hl:((List.range n).filter fun x=>decide (f x a=a)).length<=1000:=Nat.le_trans (List.length_filter_le _ _) (by simpa using hn)
  simp[-Int.ofNat_eq_natCast,z24 hn ha,x1b,hl]
 ·have hx':x<n:=by simp at hx;exact hx.1
  simp[-Int.ofNat_eq_natCast,x7b hx' hb]
 ·exact Nat.le_trans (List.length_filter_le _ _) (Nat.le_trans (List.length_filter_le _ _) (by simpa using hn))
end
theorem z0z {n:Nat}(hn:n<=1000){i q:Nat}{ρ:Rho}(h:ρ[i]? = some (some (.int (Int.ofNat n),q))):x0z (x01 (x05 i) x0f) ρ=some (x10 n,ρ):=by
 have b1:(-1000:Int)<=Int.ofNat n:=by show(-1000:Int)<=n;omega
 have b2:Int.ofNat n<=1000:=by show(n:Int)<=1000;omega
 simp[-Int.ofNat_eq_natCast,h,b1,b2]
 rfl
theorem y95 {ob:D}{G:List D->OD}{i n:Nat}{g:x1o}{ρ ρ1:Rho}{ds:List D}{d:D}{q:Nat}(ho:ρ[i]? = some (some (ob,9)))(h:g ρ=some (ds,ρ1))(hl:ds.length=n)(hG:G ds=some (d,q)):y0b ob G i n g ρ=some (d,q,ρ1):=by
 unfold y0b
 rw[if_pos ho]
 exact x0x h hl hG
theorem z3c {n:Nat}(hn:n<=1000){ob:D}(hb:ob.isL=false){G:List D->OD}{g:Nat->Nat->Nat}(hG:∀ x y,x<n->y<n->G [.int (Int.ofNat x),.int (Int.ofNat y)]=some (.int (Int.ofNat (g x y)),9)) :
  x3h ob G [.int (Int.ofNat n),ob]=some (x0n n g,9):=by
 unfold x3h y1w
 have s0:x42 4 [.int (Int.ofNat n),ob]=[some (.int (Int.ofNat n),9),some (ob,9),none,none]:=by simp[hb]
 refine x2g ?_
 rw[s0]
 refine(x0g (ρ1:=[some (.int (Int.ofNat n),9),some (ob,9),some (.lst [],1),none]) rfl).trans ?_
 obtain⟨j',e⟩:=y7k (α:=Nat) (J:=OD) (pt:=x0q 3) (body:=y5e ob G) (fun x=>D.int (Int.ofNat x)) (fun ds j=>[some (.int (Int.ofNat n),9),some (ob,9),some (.lst ds,1),j]) (fun x=>y1k n g x) (List.range n) [] none (by simpa using hn) (fun x hx ds j hds=>by
  have hx':x<n:=List.mem_range.mp hx
  refine⟨[some (.int (Int.ofNat n),9),some (ob,9),some (.lst ds,1),some (.int (Int.ofNat x),9)],some (.int (Int.ofNat x),9),rfl,?_⟩
  refine y3a (ρ1:=[some (.int (Int.ofNat n),9),some (ob,9),some (.lst ds,1),some (.int (Int.ofNat x),9)]) rfl (x18 (x2d (x18 (x1t (deep:=false) (ds:=x10 n) (ρ1:=[some (.int (Int.ofNat n),9),some (ob,9),some (.lst ds,1),some (.int (Int.ofNat x),9)]) (z0z hn rfl) (y2v (i:=4) (deep:=false) rfl (fun _=>true) (fun y=>.int (Int.ofNat (g x y))) (fun _=>9) (fun j hj=>rfl) (fun y hy _=>y95 rfl rfl rfl (hG x y hx' hy))))))) rfl hds ?_
  have e1:(List.range n).filter (fun _=>true)=List.range n:=by simp
  have e2:(List.range n).map (fun y=>D.int (Int.ofNat (g x y)))=x0h ((List.range n).map fun y=>g x y):=by unfold x0h;rw[List.map_map];rfl
  rw[e1,e2]
  rfl)
 refine(x0g ((x3c (ds:=x10 n) (ρ1:=[some (.int (Int.ofNat n),9),some (ob,9),some (.lst [],1),none]) (z0z hn rfl)).trans e)).trans ?_
 refine x37 (x2d (x18 (q:=0) (d:=.lst ([]++(List.range n).map fun x=>y1k n g x)) (ρ1:=[some (.int (Int.ofNat n),9),some (ob,9),some (.lst ([]++(List.range n).map fun x=>y1k n g x),0),j']) rfl))
section
variable {n:Nat}{f:Nat->Nat->Nat}
variable (L:Lad n f){z:Nat}(hz:z<n)(bz:∀ j,j<n->f z j=j)
include L hz bz
theorem z01 (hn:n<=1000):x7n [x0n n f]=some (x0n n (mt n f z),9):=by
 have hG:∀ x y,x<n->y<n->z1s x6v [x0n n f] [.int (Int.ofNat x),.int (Int.ofNat y)]=some (.int (Int.ofNat (mt n f z x y)),9):=fun x y hx hy=>by
  have e:x6v (x42 3 [.int (Int.ofNat x),.int (Int.ofNat y),x0n n f])=some (.int (Int.ofNat (mt n f z x y)),9,x42 3 [.int (Int.ofNat x),.int (Int.ofNat y),x0n n f]):=x0x (ds:=[x0n n f,.int (Int.ofNat x),.int (Int.ofNat y)]) rfl rfl (j23 L hz bz hn hx hy)
  unfold z1s
  show(match x6v (x42 3 [.int (Int.ofNat x),.int (Int.ofNat y),x0n n f])with|some (d,q,_)=>some (d,q)|none=>none)=_
  rw[e]
 have hT:∀ ob:D,ob.isL=false->x3h ob (z1s x6v [x0n n f]) [.int (Int.ofNat n),ob]=some (x0n n (mt n f z),9):=fun ob hb=>z3c hn hb hG
 unfold x7n y71
 refine x2g (x37 (ρ1:=[some (x0n n f,9)]) ?_)
 have e1:x1f 0 [some (x0n n f,9)]=some (.int (Int.ofNat n),9,[some (x0n n f,9)]):=by simp[-Int.ofNat_eq_natCast,x1j]
 have e2:j0s [0] [some (x0n n f,9)]=some [x0n n f]:=rfl
 show j0e x3h x6v [0] (x1f 0) [some (x0n n f,9)]=_
 unfold j0e
 simp only[e1,e2]
 rw[if_pos (fun fa fo vs=>(hT _ rfl).trans (hT (ob0 [x0n n f]) rfl).symm),hT (ob0 [x0n n f]) rfl]
include L hz bz
theorem y87 {C:Cht}(hC:C.Ok n f):C.Ok n (mt n f z):=by
 refine⟨hC.p1,hC.p8,hC.w60,hC.b60,fun w hw=>?_,hC.bs⟩
 obtain⟨h1,h2,h3,h4⟩:=hC.ws w hw
 refine⟨h1,h2,h3,fun x y hx hy e=>?_⟩
 exact(y2y L hz bz (h3 x hx) (h3 y hy)).mpr (h4 y x hy hx ((y2y L hz bz hx hy).mp e))
theorem y5a (hn:n<=1000){c d:D}{q:Nat}(hc:c.isL=false)(h:x3w [x0n n (mt n f z),c]=some (d,q)):x58 [x0n n f,c]=some (d,q):=by
 unfold x58 y1r
 have s0:x42 2 [x0n n f,c]=[some (x0n n f,9),some (c,9)]:=by simp[hc]
 refine x2g ?_
 rw[s0]
 exact x37 (ρ1:=[some (x0n n f,9),some (c,9)]) (x0x (ds:=[x0n n (mt n f z),c]) (x1a (q:=9) (ρ1:=[some (x0n n f,9),some (c,9)]) (x0x (ds:=[x0n n f]) rfl rfl (z01 L hz bz hn)) (x18 (q:=9) (by simp[hc]))) rfl h)
end
theorem z0s {n:Nat}(r:Nat->Nat):y1a (x0h ((List.range n).map r))=(List.range n).map fun j=>.tup [.int (Int.ofNat j),.int (Int.ofNat (r j))]:=by
 apply List.ext_getElem?
 intro i
 rw[y4u,y2t,List.getElem?_map,List.getElem?_map]
 by_cases h:i<n
 ·rw[List.getElem?_range h];rfl
 ·rw[List.getElem?_eq_none (by simp;omega)];rfl
theorem y46 {n m:Nat}{g:Nat->Nat->Nat}(hn:n<=1000){r:Nat->Nat}(hr:∀ i,i<n->r i<m){w:Nat}(hw:w<m):x43 [x0n m g,x0d n r,.int (Int.ofNat w)]=some (.lst (x0h ((List.range n).filter fun x=>decide (g (r x) w=w))),1):=by
 unfold x43 y0r
 refine x2g (x37 (ρ1:=[some (x0n m g,9),some (x0d n r,9),some (.int (Int.ofNat w),9)]) ?_)
 have hz:y9m (x01 (x05 1) x0f) [some (x0n m g,9),some (x0d n r,9),some (.int (Int.ofNat w),9)]=some ((List.range n).map fun j=>.tup [.int (Int.ofNat j),.int (Int.ofNat (r j))],[some (x0n m g,9),some (x0d n r,9),some (.int (Int.ofNat w),9)]):=by
  have:=z0s (n:=n) r
  simp[-Int.ofNat_eq_natCast,x0d,x1b,hn,this]
 exact x1t (k:=2) (deep:=false) hz (j53 (i:=3) rfl (fun j=>j) r (fun x=>decide (g (r x) w=w)) (fun x=>.int (Int.ofNat x)) (fun _=>9) (fun j hj=>by
  simp[-Int.ofNat_eq_natCast,x7b (f:=g) (hr j hj) hw]) (fun j hj _=>rfl))
def z2j:D->Bool
 | .int _=>true
 | .non=>true
 | _=>false
theorem z8w {d:D}(h:z2j d=true):Sh 0 d:=by
 cases d with
 | int i=>exact .int i
 | non=>exact .non
 | _=>cases h
def y0l:D->Bool
 | .non=>true
 | _=>false
theorem z9r {d:D}(h:z2j d=true):PyData.eqv (toP d) (toP .non)=y0l d:=by
 cases d with
 | int i=>rfl
 | non=>rfl
 | _=>cases h
theorem z03 {ds:List D}(h:∀ d∈ds,z2j d=true):dIn .non (.tup ds)=some (.bl (ds.any y0l)):=by
 have s:Sh 1 (.tup ds):=.tup fun d m=>z8w (h d m)
 unfold dIn
 rw[if_pos ⟨(Sh.non (k:=0)).ok,s.ok⟩]
 show some (D.bl ((x73 ds).any fun y=>PyData.eqv y (toP .non)))=_
 congr 2
 rw[y01,List.any_map]
 clear s
 induction ds with
 | nil=>rfl
 | cons d ds ih=>
  rw[List.any_cons,List.any_cons,ih fun x m=>h x (List.mem_cons_of_mem _ m)]
  congr 1
  exact z9r (h d List.mem_cons_self)
theorem z4r (x:Nat)(l:List Nat):dIn (.int (Int.ofNat x)) (.lst (x0h l))=some (.bl (decide (x∈l))):=by
 unfold dIn
 rw[if_pos ⟨(Sh.int (k:=0) _).ok,(j4e l).ok⟩]
 show some (D.bl ((x73 (x0h l)).any fun y=>PyData.eqv y (toP (.int (Int.ofNat x)))))=_
 congr 2
 rw[y01]
 induction l with
 | nil=>rfl
 | cons y l ih=>
  show(PyData.eqv (toP (.int (Int.ofNat y))) (toP (.int (Int.ofNat x)))||((x0h l).map toP).any _)=_
  rw[ih]
  have e:PyData.eqv (toP (.int (Int.ofNat y))) (toP (.int (Int.ofNat x)))=decide (y=x):=y6c y x
  rw[e]
  by_cases hy:y=x
  ·subst hy;simp
  ·have:¬ (x=y):=fun h=>hy h.symm
   simp[hy,this]
def led (n:Nat)(f:Nat->Nat->Nat)(r:Nat->Nat)(w:Nat):List Nat:=(List.range n).filter fun x=>decide (f (r x) w=w)
def gr (n:Nat)(f:Nat->Nat->Nat)(z:Nat)(r:Nat->Nat)(w:Nat):Nat:=(led n f r w).foldl f z
def x5s (n:Nat)(f:Nat->Nat->Nat)(z:Nat)(r:Nat->Nat)(w:Nat):D:=if gr n f z r w∈led n f r w then .int (Int.ofNat (gr n f z r w))else .non
def y6i (n:Nat)(f:Nat->Nat->Nat)(z:Nat)(r:Nat->Nat):D:=.tup ((List.range n).map (x5s n f z r))
@[simp] theorem j47 {n:Nat}{f:Nat->Nat->Nat}{z:Nat}{r:Nat->Nat}:(y6i n f z r).isL=false:=rfl
theorem y42 {n:Nat}{f:Nat->Nat->Nat}{z:Nat}{r:Nat->Nat}:∀ d∈(List.range n).map (x5s n f z r),z2j d=true:=fun d m=>by
 obtain⟨w,_,rfl⟩:=List.mem_map.mp m
 unfold x5s
 split<;>rfl
section
variable {n:Nat}{f:Nat->Nat->Nat}{r:Nat->Nat}
theorem x7e {x w:Nat}:x∈led n f r w ↔ x<n/\f (r x) w=w:=by simp[led]
theorem z1q {w:Nat}:∀ x∈led n f r w,x<n:=fun x m=>(x7e.mp m).1
theorem z6r {w:Nat}:(led n f r w).length<=n:=by
 have:=List.length_filter_le (fun x=>decide (f (r x) w=w)) (List.range n)
 rw[List.length_range]at this
 exact this
variable (L:Lad n f){z:Nat}(hz:z<n)(bz:∀ j,j<n->f z j=j)
include L hz
theorem z2d (w:Nat):gr n f z r w<n:=L.fold_lt hz z1q
theorem j3q {w x:Nat}(h:x∈led n f r w):f x (gr n f z r w)=gr n f z r w:=L.fold_mem hz z1q h
include bz
theorem j4r (hr:∀ i,i<n->r i<n)(sp:∀ x y,x<n->y<n->r (f x y)=f (r x) (r y))(r0:r z=z){w:Nat}(hw:w<n):gr n f z r w∈led n f r w:=by
 refine x7e.mpr ⟨z2d L hz w,?_⟩
 have key:∀ (l:List Nat) (a:Nat),a<n->f (r a) w=w->(∀ x∈l,x<n/\f (r x) w=w)->f (r (l.foldl f a)) w=w:=by
  intro l
  induction l with
  | nil=>intro a _ h _;exact h
  | cons y l ih=>
   intro a ha h hl
   have hy:=hl y List.mem_cons_self
   refine ih (f a y) (L.cl a y ha hy.1) ?_ fun x m=>hl x (List.mem_cons_of_mem _ m)
   rw[sp a y ha hy.1]
   exact L.lub (hr a ha) (hr y hy.1) hw h hy.2
 exact key (led n f r w) z hz (by rw[r0];exact bz w hw) fun x m=>x7e.mp m
end
section
variable {n:Nat}{f:Nat->Nat->Nat}(L:Lad n f){z:Nat}(hz:z<n)(bz:∀ j,j<n->f z j=j)
include L hz bz
theorem y0m {r:Nat->Nat}(hr:∀ i,i<n->r i<n){w:Nat}(hw:w<n):x1h [x0n n f,x0d n r,.int (Int.ofNat w)]=some (x5s n f z r w,9):=by
 have hn:n<=1000:=Nat.le_trans L.hi (by decide)
 unfold x1h x4f
 refine x2g ?_
 show x17 _ _ [some (x0n n f,9),some (x0d n r,9),some (.int (Int.ofNat w),9),none,none]=_
 have hc:x43 [x0n n f,x0d n r,.int (Int.ofNat w)]=some (.lst (x0h (led n f r w)),1):=y46 hn hr hw
 refine(x0g (ρ1:=[some (x0n n f,9),some (x0d n r,9),some (.int (Int.ofNat w),9),some (.lst (x0h (led n f r w)),1),none]) (x21 (x0x (ds:=[x0n n f,x0d n r,.int (Int.ofNat w)]) rfl rfl hc) rfl)).trans ?_
 have hj:=y4h L hz bz hn (l:=led n f r w) (Nat.le_trans z6r hn) z1q
 refine(x0g (ρ1:=[some (x0n n f,9),some (x0d n r,9),some (.int (Int.ofNat w),9),some (.lst (x0h (led n f r w)),0),some (.int (Int.ofNat (gr n f z r w)),9)]) (by
  have e:x23 [x0n n f,.lst (x0h (led n f r w))]=some (.int (Int.ofNat (gr n f z r w)),9):=hj
  simp[-Int.ofNat_eq_natCast,e])).trans ?_
 have hin:=z4r (gr n f z r w) (led n f r w)
 unfold x5s
 by_cases h:gr n f z r w∈led n f r w
 ·rw[if_pos h]
  simp[-Int.ofNat_eq_natCast,hin,h]
 ·rw[if_neg h]
  simp[-Int.ofNat_eq_natCast,hin,h]
theorem x9f {r:Nat->Nat}(hr:∀ i,i<n->r i<n):x1x [x0n n f,x0d n r]=some (y6i n f z r,9):=by
 have hn:n<=1000:=Nat.le_trans L.hi (by decide)
 unfold x1x y16
 refine x2g (x37 (ρ1:=[some (x0n n f,9),some (x0d n r,9)]) ?_)
 have hc:=x1t (k:=1) (tt:=x27) (te:=x0l x1h 3 (x01 (x05 0) (x01 (x05 1) (x01 (x05 2) x0f)))) (deep:=false) (x38 hn (i:=0) (ρ:=[some (x0n n f,9),some (x0d n r,9)]) rfl x1j) (y2v (i:=2) rfl (fun _=>true) (fun w=>x5s n f z r w) (fun _=>9) (fun j hj=>rfl) (fun j hj _=>by
  simp[-Int.ofNat_eq_natCast,y0m L hz bz hr hj]))
 rw[show(List.range n).filter (fun _=>true)=List.range n by simp]at hc
 exact x2d (x18 hc)
include L hz bz
theorem y66 (ns:List Int)(t:Int)(h0:0<=t){p:Nat}(hp:1<=p)(m:Nat)(hm:m<=7) :
  ∃ W:List (Nat×Nat×(Nat->Nat)),W.length=m/\(∀ w∈W,okW n f p w/\y6t n f w.2.2=true)/\∃ a b c,x9g (x0q 6) x5w (x10 m) [some (scr ns,0),some (.int t,9),some (x0n n f,9),some (.bl true,9),some (.int (Int.ofNat p),9),some (.lst [],1),none,none,none,none,none]=some (.nx [some (scr ns,0),some (.int t,9),some (x0n n f,9),some (.bl true,9),some (.int (Int.ofNat p),9),some (.lst (W.map (x1r n)),1),a,b,c,none,none]):=by
 have hpp:(0:Int)<Int.ofNat p:=by show(0:Int)<(p:Int);omega
 obtain⟨ρ',e,W,hl,hok,a,b,c,rfl⟩:=x3n (pt:=x0q 6) (body:=x5w) (x10 m) (fun i ρ=>∃ W:List (Nat×Nat×(Nat->Nat)),W.length=i/\(∀ w∈W,okW n f p w/\y6t n f w.2.2=true)/\∃ a b c,ρ=[some (scr ns,0),some (.int t,9),some (x0n n f,9),some (.bl true,9),some (.int (Int.ofNat p),9),some (.lst (W.map (x1r n)),1),a,b,c,none,none]) [some (scr ns,0),some (.int t,9),some (x0n n f,9),some (.bl true,9),some (.int (Int.ofNat p),9),some (.lst [],1),none,none,none,none,none] (fun i hi ρ hh0=>by
  obtain⟨W,hl,hok,a,b,c,hr⟩:=hh0
  subst hr
  have hi':i<m:=by rw[x0s]at hi;exact hi
  obtain⟨x,hx⟩:∃ x:Int,x=t+10+22*Int.ofNat i:=⟨_,rfl⟩
  have hx0:0<=x:=by have:Int.ofNat i=(i:Int):=rfl;omega
  obtain⟨d,hd,hR⟩:=x7c L hz bz ns (x+2) (by omega)
  obtain⟨s,hs,es⟩:=x5v ns hx0 hpp
  obtain⟨g,hg,eg⟩:=x5v ns (show 0<=x+1 by omega) hpp
  have hs':s<p:=by have:(s:Int)<(p:Int):=hs;omega
  have hg':g<p:=by have:(g:Int)<(p:Int):=hg;omega
  generalize Lad.lr n f z d=r0 at *
  obtain⟨r,hr1,hr2,hR2⟩:=y18 L hz bz ns (x+2) (by omega)
  have hok':okW n f p (s,g,r)/\y6t n f r=true:=⟨⟨hs',hg',hr1,fun x y hx hy e=>by rw[<- x6p.mp hr2 x y hx hy,e]⟩,hr2⟩
  have hW:W.length<=1000:=by omega
  refine⟨[some (scr ns,0),some (.int t,9),some (x0n n f,9),some (.bl true,9),some (.int (Int.ofNat p),9),some (.lst (W.map (x1r n)),1),some (.int (Int.ofNat i),9),b,c,none,none],[some (scr ns,0),some (.int t,9),some (x0n n f,9),some (.bl true,9),some (.int (Int.ofNat p),9),some (.lst ((W++[(s,g,r)]).map (x1r n)),1),some (.int (Int.ofNat i),9),some (.int x,9),some (x0d n r,9),none,none],by rw[x44];simp,.inl ?_,W++[(s,g,r)],by simp[hl],fun w hw=>?_,_,_,_,rfl⟩
  ·unfold x5w
   refine(x0g (ρ1:=[some (scr ns,0),some (.int t,9),some (x0n n f,9),some (.bl true,9),some (.int (Int.ofNat p),9),some (.lst (W.map (x1r n)),1),some (.int (Int.ofNat i),9),some (.int x,9),c,none,none]) (by rw[hx];simp[-Int.ofNat_eq_natCast])).trans ?_
   refine(x0g (ρ1:=[some (scr ns,0),some (.int t,9),some (x0n n f,9),some (.bl true,9),some (.int (Int.ofNat p),9),some (.lst (W.map (x1r n)),1),some (.int (Int.ofNat i),9),some (.int x,9),some (x0d n r0,9),none,none]) (by simp[-Int.ofNat_eq_natCast,hR])).trans ?_
   refine(x0g (ρ1:=[some (scr ns,0),some (.int t,9),some (x0n n f,9),some (.bl true,9),some (.int (Int.ofNat p),9),some (.lst (W.map (x1r n)),1),some (.int (Int.ofNat i),9),some (.int x,9),some (x0d n r,9),none,none]) (by simp[-Int.ofNat_eq_natCast,hR2])).trans ?_
   simp[-Int.ofNat_eq_natCast,es,eg,hW,x1r]
  ·rcases List.mem_append.mp hw with h|h
   ·exact hok w h
   ·rw[List.mem_singleton.mp h];exact hok') ⟨[],rfl,(fun _ z=>nomatch z),none,none,none,rfl⟩
 rw[x0s]at hl
 exact⟨W,hl,hok,a,b,c,e⟩
theorem y6j (ns:List Int)(t:Int)(h0:0<=t){p:Nat}(hp:1<=p)(m:Nat)(hm:m<=3)(W:OD)(a b c:OD) :
  ∃ B:List (Nat×Nat),B.length=m/\(∀ w∈B,okB n p w)/\∃ a' h,x9g (x0q 6) x5y (x10 m) [some (scr ns,0),some (.int t,9),some (x0n n f,9),some (.bl true,9),some (.int (Int.ofNat p),9),W,a,b,c,some (.lst [],1),none]=some (.nx [some (scr ns,0),some (.int t,9),some (x0n n f,9),some (.bl true,9),some (.int (Int.ofNat p),9),W,a',b,c,some (.lst (B.map x14),1),h]):=by
 have hpp:(0:Int)<Int.ofNat p:=by show(0:Int)<(p:Int);omega
 have hnp:(0:Int)<Int.ofNat n:=by have:=L.lo;show(0:Int)<(n:Int);omega
 obtain⟨ρ',e,B,hl,hok,a',h,rfl⟩:=x3n (pt:=x0q 6) (body:=x5y) (x10 m) (fun i ρ=>∃ B:List (Nat×Nat),B.length=i/\(∀ w∈B,okB n p w)/\∃ a h,ρ=[some (scr ns,0),some (.int t,9),some (x0n n f,9),some (.bl true,9),some (.int (Int.ofNat p),9),W,a,b,c,some (.lst (B.map x14),1),h]) [some (scr ns,0),some (.int t,9),some (x0n n f,9),some (.bl true,9),some (.int (Int.ofNat p),9),W,a,b,c,some (.lst [],1),none] (fun i hi ρ hh0=>by
  obtain⟨B,hl,hok,a,h,hr⟩:=hh0
  subst hr
  have hi':i<m:=by rw[x0s]at hi;exact hi
  have hii:Int.ofNat i=(i:Int):=rfl
  obtain⟨v,hv,ev⟩:=x5v ns (show 0<=t+3+2*Int.ofNat i by omega) hnp
  obtain⟨g,hg,eg⟩:=x5v ns (show 0<=t+4+2*Int.ofNat i by omega) hpp
  have hv':v<n:=by have:(v:Int)<(n:Int):=hv;omega
  have hg':g<p:=by have:(g:Int)<(p:Int):=hg;omega
  have hB:B.length<=1000:=by omega
  refine⟨[some (scr ns,0),some (.int t,9),some (x0n n f,9),some (.bl true,9),some (.int (Int.ofNat p),9),W,some (.int (Int.ofNat i),9),b,c,some (.lst (B.map x14),1),h],[some (scr ns,0),some (.int t,9),some (x0n n f,9),some (.bl true,9),some (.int (Int.ofNat p),9),W,some (.int (Int.ofNat i),9),b,c,some (.lst ((B++[(g,v)]).map x14),1),some (.int (Int.ofNat v),9)],by rw[x44];simp,.inl ?_,B++[(g,v)],by simp[hl],fun w hw=>?_,_,_,rfl⟩
  ·unfold x5y
   refine(x0g (ρ1:=[some (scr ns,0),some (.int t,9),some (x0n n f,9),some (.bl true,9),some (.int (Int.ofNat p),9),W,some (.int (Int.ofNat i),9),b,c,some (.lst (B.map x14),1),some (.int (Int.ofNat v),9)]) (by simp[-Int.ofNat_eq_natCast,x1j,ev])).trans ?_
   simp[-Int.ofNat_eq_natCast,eg,hB,x14]
  ·rcases List.mem_append.mp hw with h|h
   ·exact hok w h
   ·rw[List.mem_singleton.mp h];exact⟨hg',hv'⟩) ⟨[],rfl,(fun _ z=>nomatch z),a,none,rfl⟩
 rw[x0s]at hl
 exact⟨B,hl,hok,a',h,e⟩
theorem y3c (ns:List Int)(t:Int)(h0:0<=t):∃ C:Cht,C.Ok n f/\(∀ w∈C.W,y6t n f w.2.2=true)/\C.p<=5/\C.W.length<=7/\C.B.length<=3/\x3f [scr ns,.int t,x0n n f,.bl true]=some (x06 n C,9):=by
 obtain⟨p0,hp0,ep⟩:=x5v ns h0 (m:=5) (by decide)
 obtain⟨mw,hmw,ew⟩:=x5v ns (show 0<=t+1 by omega) (m:=8) (by decide)
 obtain⟨mb,hmb,eb⟩:=x5v ns (show 0<=t+2 by omega) (m:=4) (by decide)
 obtain⟨p,hp⟩:∃ p:Nat,p=p0+1:=⟨_,rfl⟩
 have hp':(1:Int)+Int.ofNat p0=Int.ofNat p:=by show(1:Int)+(p0:Int)=(p:Int);omega
 obtain⟨W,hWl,hWok,a,b,c,eW⟩:=y66 L hz bz ns t h0 (p:=p) (by omega) mw (by omega)
 obtain⟨B,hBl,hBok,a',h,eB⟩:=y6j L hz bz ns t h0 (p:=p) (by omega) mb (by omega) (some (.lst (W.map (x1r n)),1)) a b c
 refine⟨⟨p,W,B⟩,⟨by show 1<=p;omega,by show p<=8;omega,by show W.length<=60;omega,by show B.length<=60;omega,fun w hw=>(hWok w hw).1,hBok⟩,fun w hw=>(hWok w hw).2,by show p<=5;omega,by show W.length<=7;omega,by show B.length<=3;omega,?_⟩
 unfold x3f x97
 refine x2g ?_
 show x17 _ _ [some (scr ns,0),some (.int t,9),some (x0n n f,9),some (.bl true,9),none,none,none,none,none,none,none]=_
 refine(x0g (ρ1:=[some (scr ns,0),some (.int t,9),some (x0n n f,9),some (.bl true,9),some (.int (Int.ofNat p),9),none,none,none,none,none,none]) (by simp[-Int.ofNat_eq_natCast,ep,hp'])).trans ?_
 refine(x0g (ρ1:=[some (scr ns,0),some (.int t,9),some (x0n n f,9),some (.bl true,9),some (.int (Int.ofNat p),9),some (.lst [],1),none,none,none,none,none]) (by simp)).trans ?_
 refine(x0g ((x3c (ρ1:=[some (scr ns,0),some (.int t,9),some (x0n n f,9),some (.bl true,9),some (.int (Int.ofNat p),9),some (.lst [],1),none,none,none,none,none]) (x6q (m:=mw) (by omega) (q:=9) (by simp[-Int.ofNat_eq_natCast,ew]))).trans eW)).trans ?_
 refine(x0g (ρ1:=[some (scr ns,0),some (.int t,9),some (x0n n f,9),some (.bl true,9),some (.int (Int.ofNat p),9),some (.lst (W.map (x1r n)),1),a,b,c,some (.lst [],1),none]) (by simp)).trans ?_
 refine(x0g ((x3c (ρ1:=[some (scr ns,0),some (.int t,9),some (x0n n f,9),some (.bl true,9),some (.int (Int.ofNat p),9),some (.lst (W.map (x1r n)),1),a,b,c,some (.lst [],1),none]) (x6q (m:=mb) (by omega) (q:=9) (by simp[-Int.ofNat_eq_natCast,eb]))).trans eB)).trans ?_
 simp[-Int.ofNat_eq_natCast,x06]
end
def wh (n:Nat)(f:Nat->Nat->Nat)(z:Nat)(r:Nat->Nat):Prop:=∀ w,w<n->gr n f z r w∈led n f r w
theorem x85 {n:Nat}{f:Nat->Nat->Nat}{z:Nat}{k:Nat->Nat}:(((List.range n).map (x5s n f z k)).any y0l)=false ↔ wh n f z k:=by
 constructor
 ·intro h w hw
  refine Classical.byContradiction fun c=>?_
  have:(((List.range n).map (x5s n f z k)).any y0l)=true:=List.any_eq_true.mpr ⟨x5s n f z k w,List.mem_map.mpr ⟨w,List.mem_range.mpr hw,rfl⟩,by unfold x5s;rw[if_neg c];rfl⟩
  rw[h]at this
  cases this
 ·intro h
  cases e:(((List.range n).map (x5s n f z k)).any y0l)with
  | false=>rfl
  | true=>
   obtain⟨d,hd,hm⟩:=List.any_eq_true.mp e
   obtain⟨w,hw,rfl⟩:=List.mem_map.mp hd
   unfold x5s at hm
   rw[if_pos (h w (List.mem_range.mp hw))]at hm
   cases hm
theorem y81 {n:Nat}{f:Nat->Nat->Nat}{z:Nat}{k:Nat->Nat}(h:wh n f z k):y6i n f z k=x0d n (gr n f z k):=by
 unfold y6i
 rw[<- z1j]
 congr 1
 refine List.map_congr_left fun w hw=>?_
 unfold x5s
 rw[if_pos (h w (List.mem_range.mp hw))]
theorem y9q {g:x1p}{x y:x4a}{ρ ρ1:Rho}(h:g ρ=some (true,ρ1)):z22 g x y ρ=x ρ1:=by unfold z22;rw[h];rfl
theorem y9a {g:x1p}{x y:x4a}{ρ ρ1:Rho}(h:g ρ=some (false,ρ1)):z22 g x y ρ=y ρ1:=by unfold z22;rw[h];rfl
theorem z8n {g:Den}{ρ ρ1:Rho}{d:D}{q:Nat}(h:g ρ=some (d,q,ρ1)):x3k g ρ=some (.nx ρ1):=by unfold x3k;rw[h]
theorem y0a {g:x1o}{ρ ρ1:Rho}{ds:List D}(h:g ρ=some (ds,ρ1))(hl:ds.length<=1000):x4i g ρ=some (.tup ds,9,ρ1):=by unfold x4i;rw[h];exact if_pos hl
theorem z1k {f:x16}{x:x4a}{ρ ρ1:Rho}(h:f ρ=some (.nx ρ1)):z6b f x ρ=x ρ1:=by unfold z6b;rw[h]
theorem j5r {x y:x4a}{ρ:Rho}{nm:Str}(h:x ρ=some nm):xOr x y ρ=some nm:=by unfold xOr;rw[h]
theorem j5k {x y:x4a}{ρ:Rho}(h:x ρ=none):xOr x y ρ=y ρ:=by unfold xOr;rw[h]
theorem y2j {α:Type}{k:Nat}{pt:x54}{te:Den}{xe:x4a}{ρ:Rho}(enc:α->D)(ext:α->Rho)(b:α->Bool)(nm:Str):∀ l:List α,
  (∀ x∈l,pt (enc x) (ρ++List.replicate k none)=some (ρ++ext x)/\(xe (ρ++ext x)=if b x=true then none else some nm)/\(b x=true->∃ v q,te (ρ++ext x)=some (v,q,ρ++ext x)))->y60 k pt x27 te xe (l.map enc) ρ=if l.all b=true then none else some nm
 | [],_=>rfl
 | x::l,h=>by
  obtain⟨h1,h2,h3⟩:=h x List.mem_cons_self
  have ih:=y2j (te:=te) enc ext b nm l (fun y m=>h y (List.mem_cons_of_mem _ m))
  have ht:(ρ++ext x).take ρ.length=ρ:=by simp
  rw[List.map_cons]
  unfold y60
  rw[h1]
  simp only[x27,if_true,h2]
  cases hb:b x with
  | true=>
   obtain⟨v,q,e⟩:=h3 hb
   simp only[if_true,e,ht,ih,List.all_cons,hb,Bool.true_and]
  | false=>
   simp[List.all_cons,hb]
section
variable {n:Nat}{f:Nat->Nat->Nat}(L:Lad n f){z:Nat}(hz:z<n)(bz:∀ j,j<n->f z j=j)
include L hz bz
theorem y8v {r:Nat->Nat}(hr:∀ i,i<n->r i<n):x20 2 (x0l x1x 2 (x01 (x05 0) (x01 (x05 1) x0f))) [some (x0n n f,9),some (x0d n r,9),none]=some (.nx [some (x0n n f,9),some (x0d n r,9),some (y6i n f z r,9)]) /\
  x3m (e2 dIn (eC .non) (x05 2)) [some (x0n n f,9),some (x0d n r,9),some (y6i n f z r,9)]=some (((List.range n).map (x5s n f z r)).any y0l,[some (x0n n f,9),some (x0d n r,9),some (y6i n f z r,9)]):=
 ⟨x21 (x0x (ds:=[x0n n f,x0d n r]) rfl rfl (x9f L hz bz hr)) rfl,x5r (x8a (fa:=eC .non) (fb:=x05 2) (q:=9) (q':=9) rfl rfl (z03 y42))⟩
theorem z69 {r:Nat->Nat}(hr:∀ i,i<n->r i<n)(h:wh n f z r):x19 [x0n n f,x0d n r]=some (x0d n (gr n f z r),9):=by
 obtain⟨e1,e2⟩:=y8v L hz bz hr
 rw[x85.mpr h]at e2
 rw[<- y81 h]
 unfold x19 x5i
 refine x2g ?_
 show x17 _ _ [some (x0n n f,9),some (x0d n r,9),none]=_
 exact(x0g e1).trans ((x0g ((y2p e2).trans rfl)).trans rfl)
theorem j4q {r:Nat->Nat}(hr:∀ i,i<n->r i<n)(b:Bool)(h:b=true ↔ wh n f z r):x25 [x0n n f,x0d n r]=if b=true then none else some ("NoRule":Str):=by
 obtain⟨e1,e2⟩:=y8v L hz bz hr
 unfold x25 fnX x5g
 show z6b _ _ [some (x0n n f,9),some (x0d n r,9),none]=_
 rw[z1k e1]
 by_cases hw:wh n f z r
 ·rw[x85.mpr hw]at e2
  rw[if_pos (h.mpr hw)]
  exact(y9a e2).trans rfl
 ·have:(((List.range n).map (x5s n f z r)).any y0l)=true:=by
   cases q:(((List.range n).map (x5s n f z r)).any y0l)with
   | true=>rfl
   | false=>exact absurd (x85.mp q) hw
  rw[this]at e2
  rw[if_neg (fun q=>hw (h.mp q))]
  exact(y9q e2).trans rfl
theorem z3d {r:Nat->Nat}(hr:∀ i,i<n->r i<n)(h:wh n f z r):∀ x y,x<n->y<n->f x y=y->f (gr n f z r x) (gr n f z r y)=gr n f z r y:=fun x y hx hy e=>by
 obtain⟨h1,h2⟩:=x7e.mp (h x hx)
 exact j3q L hz (x7e.mpr ⟨h1,L.le_trans (hr _ h1) hx hy h2 e⟩)
theorem z5g {r:Nat->Nat}(hr:∀ i,i<n->r i<n)(ri:∀ x y,x<n->y<n->f x y=y->f (r x) (r y)=r y)(h:wh n f z r){x w:Nat}(hx:x<n)(hw:w<n):f (r x) w=w ↔ f x (gr n f z r w)=gr n f z r w:=by
 constructor
 ·intro q
  exact j3q L hz (x7e.mpr ⟨hx,q⟩)
 ·intro q
  obtain⟨h1,h2⟩:=x7e.mp (h w hw)
  exact L.le_trans (hr x hx) (hr _ h1) hw (ri x _ hx h1 q) h2
omit L hz bz in
def bkC (n:Nat)(f:Nat->Nat->Nat)(z:Nat)(C:Cht)(pl v:Nat):Cht:=⟨C.p,C.W.map fun w=>(w.2.1,w.1,gr n f z w.2.2),[(pl,v)]⟩
theorem j0j {C:Cht}(hC:C.Ok n f)(hw:∀ w∈C.W,wh n f z w.2.2){pl v:Nat}(hp:pl<C.p)(hv:v<n):(bkC n f z C pl v).Ok n f:=by
 refine⟨hC.p1,hC.p8,by show(C.W.map _).length<=60;rw[List.length_map];exact hC.w60,by show 1<=60;decide,fun w hm=>?_,fun b hb=>?_⟩
 ·obtain⟨y,hy,rfl⟩:=List.mem_map.mp hm
  obtain⟨k1,k2,k3,k4⟩:=hC.ws y hy
  exact⟨k2,k1,fun i _=>z2d L hz i,z3d L hz bz k3 (hw y hy)⟩
 ·rw[List.mem_singleton.mp hb]
  exact⟨hp,hv⟩
abbrev R5 (n:Nat)(f:Nat->Nat->Nat)(c p v:D)(a:OD):Rho:=[some (x0n n f,9),some (c,9),some (p,9),some (v,9),a]
theorem y02 {C:Cht}{pl:Int}{v:Nat}(b:Bool)(hb:x64 C.p (.int pl)=b):y1m x24 2 (x01 (x1k 1 (eC (.int 0))) (x01 (x05 2) x0f)) (R5 n f (x06 n C) (.int pl) (.int (Int.ofNat v)) none)=(if b=true then none else some ("NoPlace":Str)) /\
  (b=true->x3k (x0l x1m 2 (x01 (x1k 1 (eC (.int 0))) (x01 (x05 2) x0f))) (R5 n f (x06 n C) (.int pl) (.int (Int.ofNat v)) none)=some (.nx (R5 n f (x06 n C) (.int pl) (.int (Int.ofNat v)) none))):=by
 have a0:x01 (x1k 1 (eC (.int 0))) (x01 (x05 2) x0f) (R5 n f (x06 n C) (.int pl) (.int (Int.ofNat v)) none)=some ([.int (Int.ofNat C.p),.int pl],R5 n f (x06 n C) (.int pl) (.int (Int.ofNat v)) none):=rfl
 have e:=x6k C.p (.int pl)
 rw[hb]at e
 have t:=z8u (z6n (x0x (F:=x13) (n:=2) (g:=x01 (x05 1) (x01 (x05 0) x0f)) (ρ:=[some (.int (Int.ofNat C.p),9),some (.int pl,9)]) (ds:=[.int pl,.int (Int.ofNat C.p)]) rfl rfl e))
 constructor
 ·unfold y1m
  rw[a0]
  show x24 [.int (Int.ofNat C.p),.int pl]=_
  cases b with
  | true=>exact(y9a t).trans rfl
  | false=>exact(y9q t).trans rfl
 ·rintro rfl
  refine z8n (d:=.non) (q:=9) (x0x a0 rfl ?_)
  unfold x1m x55
  show(match sIf _ _ _ [some (.int (Int.ofNat C.p),9),some (.int pl,9)]with|some (.rt d q)=>some (d,q)|some (.nx _)=>some (D.non,9)|_=>none)=_
  rw[y2p t]
  rfl
theorem z6c {C:Cht}(hC:C.Ok n f)(p v:D)(a:OD):x9m (x1k 1 (eC (.int 1))) (R5 n f (x06 n C) p v a)=some (C.W.map (x1r n),R5 n f (x06 n C) p v a):=by
 have h:atD (x06 n C) 1=some (.tup (C.W.map (x1r n))):=rfl
 have hW':C.W.length<=1000:=by have:=hC.w60;omega
 simp[h,hW']
theorem y47 {C:Cht}(hC:C.Ok n f){pl v:Nat}(hp:pl<C.p)(b:(Nat->Nat)->Bool)(hb:∀ w∈C.W,(b w.2.2=true ↔ wh n f z w.2.2)):x1l [x0n n f,x06 n C,.int (Int.ofNat pl),.int (Int.ofNat v)]=if(C.W.all fun w=>b w.2.2)=true then none else some ("NoRule":Str):=by
 obtain⟨p1,p2⟩:=y02 L hz bz (C:=C) (pl:=Int.ofNat pl) (v:=v) true (by
  show(decide ((0:Int)<=(pl:Int))&&decide ((pl:Int)<(C.p:Int)))=true
  simp;exact hp)
 unfold x1l fnX y03
 show xOr _ _ (R5 n f (x06 n C) (.int (Int.ofNat pl)) (.int (Int.ofNat v)) none)=_
 refine(j5k p1).trans ((z1k (p2 rfl)).trans ?_)
 unfold y8o
 rw[z6c L hz bz hC]
 refine y2j (x1r n) (fun w=>[some (.int (Int.ofNat w.1),9),some (.int (Int.ofNat w.2.1),9),some (x0d n w.2.2,9)]) (fun w=>b w.2.2) "NoRule" C.W fun w hw=>⟨rfl,?_,fun q=>?_⟩
 ·exact j4q L hz bz (hC.ws w hw).2.2.1 (b w.2.2) (hb w hw)
 ·have e:=z69 L hz bz (hC.ws w hw).2.2.1 ((hb w hw).mp q)
  exact⟨.tup [.int (Int.ofNat w.2.1),.int (Int.ofNat w.1),x0d n (gr n f z w.2.2)],9,y0a (x1a (q:=9) rfl (x1a (q:=9) rfl (x18 (x0x (ds:=[x0n n f,x0d n w.2.2]) rfl rfl e)))) (by show 3<=1000;decide)⟩
theorem y8c {C:Cht}{pl:Int}{v:Nat}(h:x64 C.p (.int pl)=false):x1l [x0n n f,x06 n C,.int pl,.int (Int.ofNat v)]=some ("NoPlace":Str):=by
 obtain⟨p1,_⟩:=y02 L hz bz (C:=C) (pl:=pl) (v:=v) false h
 unfold x1l fnX y03
 show xOr _ _ (R5 n f (x06 n C) (.int pl) (.int (Int.ofNat v)) none)=_
 exact j5r p1
theorem y2e {C:Cht}(hC:C.Ok n f)(hw:∀ w∈C.W,wh n f z w.2.2){pl v:Nat}(hp:pl<C.p)(hv:v<n):∃ u,LowS n (mt n f z) C.p (x61 (bkC n f z C pl v)) (y6b C.p ((List.range n).foldl f z)) u/\x57 [x0n n f,x06 n C,.int (Int.ofNat pl),.int (Int.ofNat v)]=some (.tup (x0h u),9):=by
 have hn:n<=1000:=Nat.le_trans L.hi (by decide)
 have hB:=j0j L hz bz hC hw hp hv
 obtain⟨u,h1,h2⟩:=y0g (z5m L hz bz) (z0f L hz bz) (fun j hj=>y9o L hz bz hj) (y87 L hz bz hB)
 refine⟨u,h1,?_⟩
 have g:=y5a L hz bz hn (c:=x06 n (bkC n f z C pl v)) rfl h2
 obtain⟨_,p2⟩:=y02 L hz bz (C:=C) (pl:=Int.ofNat pl) (v:=v) true (by
  show(decide ((0:Int)<=(pl:Int))&&decide ((pl:Int)<(C.p:Int)))=true
  simp;exact hp)
 unfold x57 y4v
 refine x2g ?_
 show x17 _ _ (R5 n f (x06 n C) (.int (Int.ofNat pl)) (.int (Int.ofNat v)) none)=_
 refine(x0g (p2 rfl)).trans ?_
 have hc:=x1t (deep:=false) (z6c L hz bz hC (.int (Int.ofNat pl)) (.int (Int.ofNat v)) none) (x6w (k:=3) (pt:=y7p (x1d (x0q 5) (x1d (x0q 6) (x1d (x0q 7) x7j)))) (tt:=x27) (te:=x4i (x01 (x05 6) (x01 (x05 5) (x01 (x0l x19 2 (x01 (x05 0) (x01 (x05 7) x0f))) x0f)))) (x1r n) (fun w=>[some (.int (Int.ofNat w.1),9),some (.int (Int.ofNat w.2.1),9),some (x0d n w.2.2,9)]) (fun _=>true) (fun w=>x1r n (w.2.1,w.1,gr n f z w.2.2)) (fun _=>9) C.W (fun w hm=>⟨rfl,rfl,fun _=>y0a (ds:=[.int (Int.ofNat w.2.1),.int (Int.ofNat w.1),x0d n (gr n f z w.2.2)]) (x1a (q:=9) rfl (x1a (q:=9) rfl (x18 (x0x (ds:=[x0n n f,x0d n w.2.2]) rfl rfl (z69 L hz bz (hC.ws w hm).2.2.1 (hw w hm)))))) (by show 3<=1000;decide)⟩))
 rw[show C.W.filter (fun _=>true)=C.W by simp]at hc
 refine(x0g (ρ1:=R5 n f (x06 n C) (.int (Int.ofNat pl)) (.int (Int.ofNat v)) (some (.tup (C.W.map fun w=>x1r n (w.2.1,w.1,gr n f z w.2.2)),9))) (x21 (x2d (x18 hc)) rfl)).trans ?_
 refine x37 (ρ1:=R5 n f (x06 n C) (.int (Int.ofNat pl)) (.int (Int.ofNat v)) (some (.tup (C.W.map fun w=>x1r n (w.2.1,w.1,gr n f z w.2.2)),9))) (x0x (ds:=[x0n n f,x06 n (bkC n f z C pl v)]) ?_ rfl g)
 have ec:x06 n (bkC n f z C pl v)=.tup [.int (Int.ofNat C.p),.tup (C.W.map fun w=>x1r n (w.2.1,w.1,gr n f z w.2.2)),.tup [.tup [.int (Int.ofNat pl),.int (Int.ofNat v)]]]:=by
  unfold x06 bkC
  simp only[List.map_map]
  rfl
 rw[ec]
 rfl
theorem z93 {C:Cht}(hC:C.Ok n f)(hw:∀ w∈C.W,wh n f z w.2.2){pl v:Nat}(hp:pl<C.p)(hv:v<n){u:List Nat}(hu:LowS n (mt n f z) C.p (x61 (bkC n f z C pl v)) (y6b C.p ((List.range n).foldl f z)) u)
  {B:List (Nat×Nat)} (hB:∀ b∈B,okB n C.p b) {y:List Nat} (hy:LowS n f C.p (x61 ⟨C.p,C.W,B⟩) (y6b C.p z) y):f (gv y pl) v=v ↔ ∀ b∈B,f b.2 (gv u b.1)=gv u b.1:=by
 have T:=z5m L hz bz
 have cl:∀ a,Vn n C.p a->(ClS (mt n f z) (x61 (bkC n f z C pl v)) a ↔ f (gv a pl) v=v/\∀ w∈C.W,f (w.2.2 (gv a w.1)) (gv a w.2.1)=gv a w.2.1):=fun a ha=>by
  constructor
  ·intro c
   refine⟨(y2y L hz bz hv (ha.gv hp)).mp (c (y50 (pl,v)) (List.mem_append_left _ (List.mem_singleton.mpr rfl))),fun w hm=>?_⟩
   obtain⟨k1,k2,k3,k4⟩:=hC.ws w hm
   have h:=c (y7n (w.2.1,w.1,gr n f z w.2.2)) (List.mem_append_right _ (List.mem_map.mpr ⟨_,List.mem_map.mpr ⟨w,hm,rfl⟩,rfl⟩))
   exact(z5g L hz bz k3 k4 (hw w hm) (ha.gv k1) (ha.gv k2)).mpr ((y2y L hz bz (z2d L hz _) (ha.gv k1)).mp h)
  ·rintro ⟨c1,c2⟩ s hs
   rcases List.mem_append.mp hs with h|h
   ·rw[List.mem_singleton.mp h]
    exact(y2y L hz bz hv (ha.gv hp)).mpr c1
   ·obtain⟨w',hw',rfl⟩:=List.mem_map.mp h
    obtain⟨w,hm,rfl⟩:=List.mem_map.mp hw'
    obtain⟨k1,k2,k3,k4⟩:=hC.ws w hm
    exact(y2y L hz bz (z2d L hz _) (ha.gv k1)).mpr ((z5g L hz bz k3 k4 (hw w hm) (ha.gv k1) (ha.gv k2)).mp (c2 w hm))
 obtain⟨u1,u2⟩:=(cl u hu.V).mp hu.cl
 have yw:∀ w∈C.W,f (w.2.2 (gv y w.1)) (gv y w.2.1)=gv y w.2.1:=fun w hm=>hy.cl (y7n w) (List.mem_append_right _ (List.mem_map.mpr ⟨w,hm,rfl⟩))
 have yb:∀ b∈B,f b.2 (gv y b.1)=gv y b.1:=fun b hm=>hy.cl (y50 b) (List.mem_append_left _ (List.mem_map.mpr ⟨b,hm,rfl⟩))
 constructor
 ·intro h b hb
  have le:=hu.le y hy.V ((cl y hy.V).mpr ⟨h,yw⟩) (y9y (fun j hj=>y9o L hz bz hj) hy.V)
  obtain⟨k1,k2⟩:=hB b hb
  exact L.le_trans k2 (hy.V.gv k1) (hu.V.gv k1) (yb b hb) ((y2y L hz bz (hu.V.gv k1) (hy.V.gv k1)).mp (le _ k1))
 ·intro h
  have c:ClS f (x61 ⟨C.p,C.W,B⟩) u:=fun s hs=>by
   rcases List.mem_append.mp hs with q|q
   ·obtain⟨b,hb,rfl⟩:=List.mem_map.mp q
    exact h b hb
   ·obtain⟨w,hm,rfl⟩:=List.mem_map.mp q
    exact u2 w hm
  have le:=hy.le u hu.V c (y9y bz hu.V)
  exact L.le_trans (hy.V.gv hp) (hu.V.gv hp) hv (le _ hp) u1
end
theorem z91:x47 [.exc "NoRule"]=some (.str "no rule",9):=by rfl
theorem z8l:x47 [.exc "NoPlace"]=some (.str "no place",9):=by rfl
abbrev T7 (l c p v:D)(a b e:OD):Rho:=[some (l,9),some (c,9),some (p,9),some (v,9),a,b,e]
theorem y4e {n:Nat}{f:Nat->Nat->Nat}{C:Cht}{p:Int}{v:Nat}{u:List Nat}(hx:x1l [x0n n f,x06 n C,.int p,.int (Int.ofNat v)]=none)(h:x57 [x0n n f,x06 n C,.int p,.int (Int.ofNat v)]=some (.tup (x0h u),9)):x1i [x0n n f,x06 n C,.int p,.int (Int.ofNat v)]=some (.tup (x0h u),9):=by
 unfold x1i x6n
 refine x2g ?_
 show x17 _ _ (T7 (x0n n f) (x06 n C) (.int p) (.int (Int.ofNat v)) none none none)=_
 refine(x0g (ρ1:=T7 (x0n n f) (x06 n C) (.int p) (.int (Int.ofNat v)) (some (.non,9)) none none) rfl).trans ?_
 refine(x0g (ρ1:=T7 (x0n n f) (x06 n C) (.int p) (.int (Int.ofNat v)) (some (.non,9)) (some (.non,9)) none) rfl).trans ?_
 have y:y88 x1l 4 (x01 (x05 0) (x01 (x05 1) (x01 (x05 2) (x01 (x05 3) x0f)))) (T7 (x0n n f) (x06 n C) (.int p) (.int (Int.ofNat v)) (some (.non,9)) (some (.non,9)) none)=none:=by
  show(x1l [x0n n f,x06 n C,.int p,.int (Int.ofNat v)]).map _=_
  rw[hx];rfl
 refine(x0g (ρ1:=T7 (x0n n f) (x06 n C) (.int p) (.int (Int.ofNat v)) (some (.non,9)) (some (.tup (x0h u),9)) none) (by
  unfold y7v
  rw[y]
  exact x21 (x0x (ds:=[x0n n f,x06 n C,.int p,.int (Int.ofNat v)]) rfl rfl h) rfl)).trans ?_
 exact(y61 (d:=.tup (x0h u)) (q:=9) rfl)
theorem y6l {n:Nat}{f:Nat->Nat->Nat}{C:Cht}{p:Int}{v:Nat}{nm s:Str}(hm:nm∈(["NoPlace","NoRule"]:List Str))(hx:x1l [x0n n f,x06 n C,.int p,.int (Int.ofNat v)]=some nm)(h:x47 [.exc nm]=some (.str s,9)):x1i [x0n n f,x06 n C,.int p,.int (Int.ofNat v)]=some (.str s,9):=by
 unfold x1i x6n
 refine x2g ?_
 show x17 _ _ (T7 (x0n n f) (x06 n C) (.int p) (.int (Int.ofNat v)) none none none)=_
 refine(x0g (ρ1:=T7 (x0n n f) (x06 n C) (.int p) (.int (Int.ofNat v)) (some (.non,9)) none none) rfl).trans ?_
 refine(x0g (ρ1:=T7 (x0n n f) (x06 n C) (.int p) (.int (Int.ofNat v)) (some (.non,9)) (some (.non,9)) none) rfl).trans ?_
 have y:y88 x1l 4 (x01 (x05 0) (x01 (x05 1) (x01 (x05 2) (x01 (x05 3) x0f)))) (T7 (x0n n f) (x06 n C) (.int p) (.int (Int.ofNat v)) (some (.non,9)) (some (.non,9)) none)=some (nm,T7 (x0n n f) (x06 n C) (.int p) (.int (Int.ofNat v)) (some (.non,9)) (some (.non,9)) none):=by
  show(x1l [x0n n f,x06 n C,.int p,.int (Int.ofNat v)]).map _=_
  rw[hx];rfl
 refine(x0g (ρ1:=T7 (x0n n f) (x06 n C) (.int p) (.int (Int.ofNat v)) (some (.exc nm,9)) (some (.non,9)) none) (by
  unfold y7v
  rw[y]
  exact if_pos hm)).trans ?_
 refine(x0g (ρ1:=T7 (x0n n f) (x06 n C) (.int p) (.int (Int.ofNat v)) (some (.exc nm,9)) (some (.non,9)) none) rfl).trans ?_
 exact x37 (x0x (ds:=[.exc nm]) rfl rfl h)
abbrev G19 (ns:List Int)(n:Nat)(f:Nat->Nat->Nat)(z:Nat)(a3 a4 a5 a6 a7 a8 a9 a10 a11 a12 a13 a14 a15 a16 a17 a18:OD):Rho:=[some (scr ns,0),some (x0n n f,9),some (.int (Int.ofNat z),9),a3,a4,a5,a6,a7,a8,a9,a10,a11,a12,a13,a14,a15,a16,a17,a18]
theorem j2w (b:Nat×Nat):Sh 1 (x14 b):=.tup fun d m=>by
 rcases List.mem_cons.mp m with rfl|m
 ·exact .int _
 rcases List.mem_cons.mp m with rfl|m
 ·exact .int _
 cases m
theorem z3m (l:List (Nat×Nat)):dEq (.lst (l.map x14)) (.lst [])=some (.bl (decide (l=[]))):=by
 have s1:Sh 2 (.lst (l.map x14)):=.lst fun d m=>by
  obtain⟨b,_,rfl⟩:=List.mem_map.mp m
  exact j2w b
 have s2:Sh 2 (.lst []):=.lst fun d m=>nomatch m
 unfold dEq
 rw[if_pos ⟨s1.ok,s2.ok⟩]
 cases l with
 | nil=>rfl
 | cons b l=>rfl
theorem y3k {k:Nat}{s:Str}(h:lay (.str s)=true):Sh k (.str s):=⟨h,Nat.zero_le _⟩
theorem j4s {f:Den}{i j k:Nat}{ρ ρ1 ρ2:Rho}{x y w:D}{q:Nat}(h:f ρ=some (.tup [x,y,w],q,ρ1))(e:((ρ1.set i (some (x,y1e x))).set j (some (y,y1e y))).set k (some (w,y1e w))=ρ2)(hi:i<ρ1.length)(hj:j<ρ1.length)(hk:k<ρ1.length):j0c f (y7p (x1d (x0q i) (x1d (x0q j) (x1d (x0q k) x7j)))) ρ=some (.nx ρ2):=by
 subst e
 unfold j0c
 rw[h]
 simp[hi,hj,hk]
theorem z0d {s:Str}(h:lay (.str s)=true):dEq (.str s) (.str s)=some (.bl true):=by
 unfold dEq
 rw[if_pos ⟨(y3k (k:=0) h).ok,(y3k (k:=0) h).ok⟩]
 simp[eqD,toP,PyData.eqv]
theorem z98 (u:List Nat):dEq (.tup (x0h u)) (.str "no rule")=some (.bl false):=by
 unfold dEq
 rw[if_pos ⟨(j0d u).ok,(y3k (k:=0) (by decide +kernel)).ok⟩]
 rfl
def j0a (z:Nat)(w:Nat×Nat×(Nat->Nat)):Nat×Nat×(Nat->Nat):=(w.1,w.2.1,if w.2.2 z=z then w.2.2 else fun i=>i)
theorem law_true (ns:List Int)(h63:ns.length<=63):∃ q,y8r [.lst (ns.map D.int)]=some (.bl true,q):=by
 obtain⟨n,f,L,hL⟩:=j0x ns 0 (Int.le_refl 0)
 obtain⟨z,hz,bz⟩:=L.bot
 have hn:n<=1000:=Nat.le_trans L.hi (by decide)
 have hlo:=L.lo
 obtain⟨C0,hC0,hS0,hp5,hW7,hB3,hCh⟩:=y3c L hz bz ns 20 (by decide)
 obtain⟨C,hCd⟩:∃ C:Cht,C=⟨C0.p,C0.W.map (j0a z),C0.B⟩:=⟨_,rfl⟩
 have eP:C.p=C0.p:=by rw[hCd]
 have eW:C.W=C0.W.map (j0a z):=by rw[hCd]
 have eB:C.B=C0.B:=by rw[hCd]
 have hfix:∀ w∈C.W,(∀ x y,x<n->y<n->w.2.2 (f x y)=f (w.2.2 x) (w.2.2 y))/\w.2.2 z=z/\okW n f C.p w:=fun w hw=>by
  rw[eW]at hw
  obtain⟨y,hy,rfl⟩:=List.mem_map.mp hw
  obtain⟨k1,k2,k3,k4⟩:=hC0.ws y hy
  rw[eP]
  unfold j0a
  by_cases h:y.2.2 z=z
  ·rw[if_pos h]
   exact⟨x6p.mp (hS0 y hy),h,k1,k2,k3,k4⟩
  ·rw[if_neg h]
   exact⟨fun _ _ _ _=>rfl,rfl,k1,k2,fun i hi=>hi,fun x y hx hy e=>e⟩
 have hC:C.Ok n f:=⟨by rw[eP];exact hC0.p1,by rw[eP];exact hC0.p8,by rw[eW,List.length_map];exact hC0.w60,by rw[eB];exact hC0.b60,fun w hw=>(hfix w hw).2.2,fun b hb=>by rw[eB]at hb;rw[eP];exact hC0.bs b hb⟩
 have hwh:∀ w∈C.W,wh n f z w.2.2:=fun w hw v hv=>j4r L hz bz (hfix w hw).2.2.2.2.1 (hfix w hw).1 (hfix w hw).2.1 hv
 have hW7':C.W.length<=7:=by rw[eW,List.length_map];exact hW7
 have hp1:=hC.p1
 have hp8:=hC.p8
 have hpk:C.p<=1000:=by omega
 obtain⟨pl,hpl,e200⟩:=y5k ns (c:=200) (by decide) (n:=C.p) (by omega)
 obtain⟨v,hv,e201⟩:=y5k ns (c:=201) (by decide) (n:=n) (by omega)
 obtain⟨u,hu,eu⟩:=y2e L hz bz hC hwh hpl hv
 have xu:=y47 L hz bz hC (v:=v) hpl (fun r=>@decide (wh n f z r) (Classical.propDecidable _)) (fun w hw=>by simp)
 have xall:(C.W.all fun w=>@decide (wh n f z w.2.2) (Classical.propDecidable _))=true:=List.all_eq_true.mpr fun w hw=>by simpa using hwh w hw
 rw[if_pos xall]at xu
 have tu:=y4e xu eu
 have hul:u.length=C.p:=hu.V.len
 -- what comes
 have low:∀ B:List (Nat×Nat),B.length<=60->(∀ b∈B,okB n C.p b)->∃ y:List Nat,y.length=C.p/\x3w [x0n n f,x06 n ⟨C.p,C.W,B⟩]=some (.tup (x0h y),9)/\(f (gv y pl) v=v ↔ ∀ b∈B,f b.2 (gv u b.1)=gv u b.1)/\gv y pl<n:=fun B hl hB=>by
  obtain⟨y,h1,h2⟩:=y0g L hz bz (C:=⟨C.p,C.W,B⟩) ⟨hC.p1,hC.p8,hC.w60,hl,hC.ws,hB⟩
  exact⟨y,h1.V.len,h2,z93 L hz bz hC hwh hpl hv hu hB h1,h1.V.gv hpl⟩
 have ult:∀ i,i<C.p->gv u i<n:=fun i hi=>hu.V.gv hi
 refine⟨9,?_⟩
 unfold y8r j1v
 refine x2g ?_
 show x17 _ _ [some (scr ns,0),none,none,none,none,none,none,none,none,none,none,none,none,none,none,none,none,none,none]=_
 refine(x0g (ρ1:=[some (scr ns,0),some (x0n n f,9),none,none,none,none,none,none,none,none,none,none,none,none,none,none,none,none,none]) (x21 (x0x (ds:=[scr ns,.int 0]) rfl rfl hL) rfl)).trans ?_
 refine(x0g (ρ1:=G19 ns n f z none none none none none none none none none none none none none none none none) (x21 (x0x (ds:=[x0n n f]) rfl rfl (z0q L hz bz hn)) rfl)).trans ?_
 have eC':x3f [scr ns,.int 20,x0n n f,.bl true]=some (.tup [.int (Int.ofNat C.p),.tup (C0.W.map (x1r n)),.tup (C.B.map x14)],9):=by rw[eP,eB];exact hCh
 refine(x0g (ρ1:=G19 ns n f z (some (.int (Int.ofNat C.p),9)) (some (.tup (C0.W.map (x1r n)),9)) (some (.tup (C.B.map x14),9)) none none none none none none none none none none none none none) (j4s (x0x (ds:=[scr ns,.int 20,x0n n f,.bl true]) rfl rfl eC') rfl (show 3<19 by decide) (show 4<19 by decide) (show 5<19 by decide))).trans ?_
 refine(x0g (ρ1:=G19 ns n f z (some (.int (Int.ofNat C.p),9)) (some (.tup (C0.W.map (x1r n)),9)) (some (.tup (C.B.map x14),9)) (some (x0d n (fun i=>i),9)) none none none none none none none none none none none none) (x21 ((x2d (x18 (x84 (x38 hn rfl x1j)))).trans (congrArg (fun d=>some (D.tup d,9,_)) (y2n n))) rfl)).trans ?_
 have hitW:x9m (x05 4) (G19 ns n f z (some (.int (Int.ofNat C.p),9)) (some (.tup (C0.W.map (x1r n)),9)) (some (.tup (C.B.map x14),9)) (some (x0d n (fun i=>i),9)) none none none none none none none none none none none none)=some (C0.W.map (x1r n),G19 ns n f z (some (.int (Int.ofNat C.p),9)) (some (.tup (C0.W.map (x1r n)),9)) (some (.tup (C.B.map x14),9)) (some (x0d n (fun i=>i),9)) none none none none none none none none none none none none):=by
  have:C0.W.length<=1000:=by omega
  simp[this]
 have hcW:=x1t (deep:=false) hitW (x6w (k:=3) (pt:=y7p (x1d (x0q 19) (x1d (x0q 20) (x1d (x0q 21) x7j)))) (tt:=x27) (te:=x4i (x01 (x05 19) (x01 (x05 20) (x01 (eIf (x3m (e2 dEq (x1k 21 (x05 2)) (x05 2))) (x05 21) (x05 6)) x0f)))) (x1r n) (fun w=>[some (.int (Int.ofNat w.1),9),some (.int (Int.ofNat w.2.1),9),some (x0d n w.2.2,9)]) (fun _=>true) (fun w=>x1r n (j0a z w)) (fun _=>9) C0.W (fun w hm=>⟨rfl,rfl,fun _=>by
  have e:x3m (e2 dEq (x1k 21 (x05 2)) (x05 2)) (G19 ns n f z (some (.int (Int.ofNat C.p),9)) (some (.tup (C0.W.map (x1r n)),9)) (some (.tup (C.B.map x14),9)) (some (x0d n (fun i=>i),9)) none none none none none none none none none none none none++[some (.int (Int.ofNat w.1),9),some (.int (Int.ofNat w.2.1),9),some (x0d n w.2.2,9)])=some (decide (w.2.2 z=z),G19 ns n f z (some (.int (Int.ofNat C.p),9)) (some (.tup (C0.W.map (x1r n)),9)) (some (.tup (C.B.map x14),9)) (some (x0d n (fun i=>i),9)) none none none none none none none none none none none none++[some (.int (Int.ofNat w.1),9),some (.int (Int.ofNat w.2.1),9),some (x0d n w.2.2,9)]):=
   x5r (x8a (q:=9) (q':=9) (x4q (x:=x0d n w.2.2) (q:=9) (q':=9) rfl rfl (x4z hz) rfl) rfl (y07 _ _))
  unfold j0a
  by_cases h:w.2.2 z=z
  ·rw[decide_eq_true h]at e
   rw[if_pos h]
   exact y0a (ds:=[.int (Int.ofNat w.1),.int (Int.ofNat w.2.1),x0d n w.2.2]) (x1a (q:=9) rfl (x1a (q:=9) rfl (x18 (q:=9) (by unfold eIf;rw[e];rfl)))) (by show 3<=1000;decide)
  ·rw[decide_eq_false h]at e
   rw[if_neg h]
   exact y0a (ds:=[.int (Int.ofNat w.1),.int (Int.ofNat w.2.1),x0d n (fun i=>i)]) (x1a (q:=9) rfl (x1a (q:=9) rfl (x18 (q:=9) (by unfold eIf;rw[e];rfl)))) (by show 3<=1000;decide)⟩))
 rw[show C0.W.filter (fun _=>true)=C0.W by simp]at hcW
 have eWm:C0.W.map (fun w=>x1r n (j0a z w))=C.W.map (x1r n):=by rw[eW,List.map_map];rfl
 rw[eWm]at hcW
 refine(x0g (ρ1:=G19 ns n f z (some (.int (Int.ofNat C.p),9)) (some (.tup (C.W.map (x1r n)),9)) (some (.tup (C.B.map x14),9)) (some (x0d n (fun i=>i),9)) none none none none none none none none none none none none) (x21 (x2d (x18 hcW)) rfl)).trans ?_
 refine(x0g (ρ1:=G19 ns n f z (some (.int (Int.ofNat C.p),9)) (some (.tup (C.W.map (x1r n)),9)) (some (.tup (C.B.map x14),9)) (some (x0d n (fun i=>i),9)) (some (x06 n C,9)) none none none none none none none none none none none) rfl).trans ?_
 refine(x0g (ρ1:=G19 ns n f z (some (.int (Int.ofNat C.p),9)) (some (.tup (C.W.map (x1r n)),9)) (some (.tup (C.B.map x14),9)) (some (x0d n (fun i=>i),9)) (some (x06 n C,9)) (some (.int (Int.ofNat pl),9)) none none none none none none none none none none) (x21 (x0x (ds:=[scr ns,.int 200,.int (Int.ofNat C.p)]) rfl rfl e200) rfl)).trans ?_
 refine(x0g (ρ1:=G19 ns n f z (some (.int (Int.ofNat C.p),9)) (some (.tup (C.W.map (x1r n)),9)) (some (.tup (C.B.map x14),9)) (some (x0d n (fun i=>i),9)) (some (x06 n C,9)) (some (.int (Int.ofNat pl),9)) (some (.int (Int.ofNat v),9)) none none none none none none none none none) (x21 (ρ1:=G19 ns n f z (some (.int (Int.ofNat C.p),9)) (some (.tup (C.W.map (x1r n)),9)) (some (.tup (C.B.map x14),9)) (some (x0d n (fun i=>i),9)) (some (x06 n C,9)) (some (.int (Int.ofNat pl),9)) none none none none none none none none none none) (x0x (ds:=[scr ns,.int 201,.int (Int.ofNat n)]) (x1a (f:=x05 0) (q:=0) (ρ1:=G19 ns n f z (some (.int (Int.ofNat C.p),9)) (some (.tup (C.W.map (x1r n)),9)) (some (.tup (C.B.map x14),9)) (some (x0d n (fun i=>i),9)) (some (x06 n C,9)) (some (.int (Int.ofNat pl),9)) none none none none none none none none none none) rfl (x1a (q:=9) (ρ1:=G19 ns n f z (some (.int (Int.ofNat C.p),9)) (some (.tup (C.W.map (x1r n)),9)) (some (.tup (C.B.map x14),9)) (some (x0d n (fun i=>i),9)) (some (x06 n C,9)) (some (.int (Int.ofNat pl),9)) none none none none none none none none none none) rfl (x18 (y7a rfl x1j)))) rfl e201) rfl)).trans ?_
 refine(x0g (ρ1:=G19 ns n f z (some (.int (Int.ofNat C.p),9)) (some (.tup (C.W.map (x1r n)),9)) (some (.tup (C.B.map x14),9)) (some (x0d n (fun i=>i),9)) (some (x06 n C,9)) (some (.int (Int.ofNat pl),9)) (some (.int (Int.ofNat v),9)) (some (.tup (x0h u),9)) none none none none none none none none) (x21 (x0x (ds:=[x0n n f,x06 n C,.int (Int.ofNat pl),.int (Int.ofNat v)]) rfl rfl tu) rfl)).trans ?_
 have lu:x95 (.tup (x0h u))=some C.p:=by show some (x0h u).length=_;rw[x1b,hul]
 refine(x0g (ρ1:=G19 ns n f z (some (.int (Int.ofNat C.p),9)) (some (.tup (C.W.map (x1r n)),9)) (some (.tup (C.B.map x14),9)) (some (x0d n (fun i=>i),9)) (some (x06 n C,9)) (some (.int (Int.ofNat pl),9)) (some (.int (Int.ofNat v),9)) (some (.tup (x0h u),9)) none none none none none none none none) (by
  refine(y2p ?_).trans rfl
  refine(j4p (ρ1:=G19 ns n f z (some (.int (Int.ofNat C.p),9)) (some (.tup (C.W.map (x1r n)),9)) (some (.tup (C.B.map x14),9)) (some (x0d n (fun i=>i),9)) (some (x06 n C,9)) (some (.int (Int.ofNat pl),9)) (some (.int (Int.ofNat v),9)) (some (.tup (x0h u),9)) none none none none none none none none) rfl).trans ?_
  refine(x5r (x8a (q:=9) (q':=9) (y7a rfl lu) rfl (x8k _ _))).trans ?_
  simp)).trans ?_
 obtain⟨y,ly,ey,iy,yn⟩:=low C.B hC.b60 hC.bs
 have ey':x3w [x0n n f,x06 n C]=some (.tup (x0h y),9):=ey
 have ay:atD (.tup (x0h y)) (Int.ofNat pl)=some (.int (Int.ofNat (gv y pl))):=z5p (by rw[ly];exact hpl)
 refine(x0g (ρ1:=G19 ns n f z (some (.int (Int.ofNat C.p),9)) (some (.tup (C.W.map (x1r n)),9)) (some (.tup (C.B.map x14),9)) (some (x0d n (fun i=>i),9)) (some (x06 n C,9)) (some (.int (Int.ofNat pl),9)) (some (.int (Int.ofNat v),9)) (some (.tup (x0h u),9)) (some (.int (Int.ofNat (gv y pl)),9)) none none none none none none none) (x21 (x92 (q:=9) (q':=9) (x0x (ds:=[x0n n f,x06 n C]) rfl rfl ey') rfl ay rfl rfl) rfl)).trans ?_
 have hitB:x9m (x05 5) (G19 ns n f z (some (.int (Int.ofNat C.p),9)) (some (.tup (C.W.map (x1r n)),9)) (some (.tup (C.B.map x14),9)) (some (x0d n (fun i=>i),9)) (some (x06 n C,9)) (some (.int (Int.ofNat pl),9)) (some (.int (Int.ofNat v),9)) (some (.tup (x0h u),9)) (some (.int (Int.ofNat (gv y pl)),9)) none none none none none none none)=some (C.B.map x14,G19 ns n f z (some (.int (Int.ofNat C.p),9)) (some (.tup (C.W.map (x1r n)),9)) (some (.tup (C.B.map x14),9)) (some (x0d n (fun i=>i),9)) (some (x06 n C,9)) (some (.int (Int.ofNat pl),9)) (some (.int (Int.ofNat v),9)) (some (.tup (x0h u),9)) (some (.int (Int.ofNat (gv y pl)),9)) none none none none none none none):=by
  have:C.B.length<=1000:=by have:=hC.b60;omega
  simp[this]
 have hcB:=x1t (deep:=false) hitB (x6w (k:=1) (pt:=x0q 19) (tt:=x3m (e2 dNe (eIx (x1k 1 (x1k 19 (eC (.int 1)))) (x1k 10 (x1k 19 (eC (.int 0))))) (x1k 10 (x1k 19 (eC (.int 0)))))) (te:=x05 19) x14 (fun b=>[some (x14 b,9)]) (fun b=>!decide (f b.2 (gv u b.1)=gv u b.1)) x14 (fun _=>9) C.B (fun b hb=>⟨rfl,by
  obtain⟨k1,k2⟩:=hC.bs b hb
  have a0:atD (x14 b) 0=some (.int (Int.ofNat b.1)):=rfl
  have a1:atD (x14 b) 1=some (.int (Int.ofNat b.2)):=rfl
  have x0:=x4q (i:=19) (b:=eC (.int 0)) (ρ:=G19 ns n f z (some (.int (Int.ofNat C.p),9)) (some (.tup (C.W.map (x1r n)),9)) (some (.tup (C.B.map x14),9)) (some (x0d n (fun i=>i),9)) (some (x06 n C,9)) (some (.int (Int.ofNat pl),9)) (some (.int (Int.ofNat v),9)) (some (.tup (x0h u),9)) (some (.int (Int.ofNat (gv y pl)),9)) none none none none none none none++[some (x14 b,9)]) (q:=9) (q':=9) rfl rfl a0 rfl
  have x1:=x4q (i:=19) (b:=eC (.int 1)) (ρ:=G19 ns n f z (some (.int (Int.ofNat C.p),9)) (some (.tup (C.W.map (x1r n)),9)) (some (.tup (C.B.map x14),9)) (some (x0d n (fun i=>i),9)) (some (x06 n C,9)) (some (.int (Int.ofNat pl),9)) (some (.int (Int.ofNat v),9)) (some (.tup (x0h u),9)) (some (.int (Int.ofNat (gv y pl)),9)) none none none none none none none++[some (x14 b,9)]) (q:=9) (q':=9) rfl rfl a1 rfl
  have x2:=x4q (i:=10) (q:=9) (x:=.tup (x0h u)) x0 rfl (z5p (by rw[hul];exact k1)) rfl
  exact x5r (x8a (q':=9) (x92 (x:=y1k n f b.2) (q:=9) (q':=9) (x4q (i:=1) (q:=9) (x:=x0n n f) x1 rfl (x39 k2) rfl) x2 (x3e (ult _ k1)) rfl rfl) x2 (x8k _ _)),fun _=>rfl⟩))
 refine(x0g (ρ1:=G19 ns n f z (some (.int (Int.ofNat C.p),9)) (some (.tup (C.W.map (x1r n)),9)) (some (.tup (C.B.map x14),9)) (some (x0d n (fun i=>i),9)) (some (x06 n C,9)) (some (.int (Int.ofNat pl),9)) (some (.int (Int.ofNat v),9)) (some (.tup (x0h u),9)) (some (.int (Int.ofNat (gv y pl)),9)) (some (.lst ((C.B.filter fun b=>!decide (f b.2 (gv u b.1)=gv u b.1)).map x14),1)) none none none none none none) (x21 hcB rfl)).trans ?_
 have same:decide (f (gv y pl) v=v)=decide ((C.B.filter fun b=>!decide (f b.2 (gv u b.1)=gv u b.1))=[]):=by
  refine decide_eq_decide.mpr (iy.trans ?_)
  rw[List.filter_eq_nil_iff]
  simp
 refine(x0g (ρ1:=G19 ns n f z (some (.int (Int.ofNat C.p),9)) (some (.tup (C.W.map (x1r n)),9)) (some (.tup (C.B.map x14),9)) (some (x0d n (fun i=>i),9)) (some (x06 n C,9)) (some (.int (Int.ofNat pl),9)) (some (.int (Int.ofNat v),9)) (some (.tup (x0h u),9)) (some (.int (Int.ofNat (gv y pl)),9)) (some (.lst ((C.B.filter fun b=>!decide (f b.2 (gv u b.1)=gv u b.1)).map x14),0)) none none none none none none) (by
  refine(y2p ?_).trans rfl
  have e1:=x8a (g:=dEq) (fa:=eIx (x1k 1 (x05 11)) (x05 9)) (fb:=x05 9) (ρ:=G19 ns n f z (some (.int (Int.ofNat C.p),9)) (some (.tup (C.W.map (x1r n)),9)) (some (.tup (C.B.map x14),9)) (some (x0d n (fun i=>i),9)) (some (x06 n C,9)) (some (.int (Int.ofNat pl),9)) (some (.int (Int.ofNat v),9)) (some (.tup (x0h u),9)) (some (.int (Int.ofNat (gv y pl)),9)) (some (.lst ((C.B.filter fun b=>!decide (f b.2 (gv u b.1)=gv u b.1)).map x14),1)) none none none none none none) (q:=9) (q':=9) (x92 (x:=y1k n f (gv y pl)) (q:=9) (q':=9) (x4q (i:=1) (q:=9) (q':=9) (x:=x0n n f) rfl rfl (x39 yn) rfl) rfl (x3e hv) rfl rfl) rfl (y07 _ _)
  have e2':=x8a (g:=dEq) (fa:=x05 12) (fb:=x5j x0f) (ρ:=G19 ns n f z (some (.int (Int.ofNat C.p),9)) (some (.tup (C.W.map (x1r n)),9)) (some (.tup (C.B.map x14),9)) (some (x0d n (fun i=>i),9)) (some (x06 n C,9)) (some (.int (Int.ofNat pl),9)) (some (.int (Int.ofNat v),9)) (some (.tup (x0h u),9)) (some (.int (Int.ofNat (gv y pl)),9)) (some (.lst ((C.B.filter fun b=>!decide (f b.2 (gv u b.1)=gv u b.1)).map x14),1)) none none none none none none) (ρ1:=G19 ns n f z (some (.int (Int.ofNat C.p),9)) (some (.tup (C.W.map (x1r n)),9)) (some (.tup (C.B.map x14),9)) (some (x0d n (fun i=>i),9)) (some (x06 n C,9)) (some (.int (Int.ofNat pl),9)) (some (.int (Int.ofNat v),9)) (some (.tup (x0h u),9)) (some (.int (Int.ofNat (gv y pl)),9)) (some (.lst ((C.B.filter fun b=>!decide (f b.2 (gv u b.1)=gv u b.1)).map x14),0)) none none none none none none) (ρ2:=G19 ns n f z (some (.int (Int.ofNat C.p),9)) (some (.tup (C.W.map (x1r n)),9)) (some (.tup (C.B.map x14),9)) (some (x0d n (fun i=>i),9)) (some (x06 n C,9)) (some (.int (Int.ofNat pl),9)) (some (.int (Int.ofNat v),9)) (some (.tup (x0h u),9)) (some (.int (Int.ofNat (gv y pl)),9)) (some (.lst ((C.B.filter fun b=>!decide (f b.2 (gv u b.1)=gv u b.1)).map x14),0)) none none none none none none) (q:=0) (q':=1) (z3w (q:=1) rfl) rfl (z3m _)
  refine(x5r (x8a e1 e2' (z6a _ _))).trans ?_
  rw[same]
  simp)).trans ?_
 -- told itself as begins
 obtain⟨y3,ly3,ey3,iy3,yn3⟩:=low ((List.range C.p).map fun k=>(k,gv u k)) (by rw[List.length_map,List.length_range];omega) (fun b hb=>by
  obtain⟨k,hk,rfl⟩:=List.mem_map.mp hb
  exact⟨List.mem_range.mp hk,ult k (List.mem_range.mp hk)⟩)
 have f3:f (gv y3 pl) v=v:=iy3.mpr fun b hb=>by
  obtain⟨k,hk,rfl⟩:=List.mem_map.mp hb
  exact L.idem _ (ult k (List.mem_range.mp hk))
 have ay3:atD (.tup (x0h y3)) (Int.ofNat pl)=some (.int (Int.ofNat (gv y3 pl))):=z5p (by rw[ly3];exact hpl)
 have hc3:=x1t (k:=1) (tt:=x27) (te:=x4i (x01 (x05 19) (x01 (x1k 10 (x05 19)) x0f))) (deep:=false) (x6q hpk (fe:=x05 3) (ρ:=G19 ns n f z (some (.int (Int.ofNat C.p),9)) (some (.tup (C.W.map (x1r n)),9)) (some (.tup (C.B.map x14),9)) (some (x0d n (fun i=>i),9)) (some (x06 n C,9)) (some (.int (Int.ofNat pl),9)) (some (.int (Int.ofNat v),9)) (some (.tup (x0h u),9)) (some (.int (Int.ofNat (gv y pl)),9)) (some (.lst ((C.B.filter fun b=>!decide (f b.2 (gv u b.1)=gv u b.1)).map x14),0)) none none none none none none) (q:=9) rfl) (y2v (i:=19) rfl (fun _=>true) (fun k=>x14 (k,gv u k)) (fun _=>9) (fun j hj=>rfl) (fun j hj _=>y0a (ds:=[.int (Int.ofNat j),.int (Int.ofNat (gv u j))]) (x1a (q:=9) rfl (x18 (x4q (i:=10) (q:=9) (q':=9) (x:=.tup (x0h u)) rfl rfl (z5p (by rw[hul];exact hj)) rfl))) (by show 2<=1000;decide)))
 rw[show(List.range C.p).filter (fun _=>true)=List.range C.p by simp]at hc3
 have ec3:D.tup [.int (Int.ofNat C.p),.tup (C.W.map (x1r n)),.tup ((List.range C.p).map fun k=>x14 (k,gv u k))]=x06 n ⟨C.p,C.W,(List.range C.p).map fun k=>(k,gv u k)⟩:=by
  unfold x06
  simp only[List.map_map]
  rfl
 refine(x0g (ρ1:=G19 ns n f z (some (.int (Int.ofNat C.p),9)) (some (.tup (C.W.map (x1r n)),9)) (some (.tup (C.B.map x14),9)) (some (x0d n (fun i=>i),9)) (some (x06 n C,9)) (some (.int (Int.ofNat pl),9)) (some (.int (Int.ofNat v),9)) (some (.tup (x0h u),9)) (some (.int (Int.ofNat (gv y pl)),9)) (some (.lst ((C.B.filter fun b=>!decide (f b.2 (gv u b.1)=gv u b.1)).map x14),0)) (some (.int (Int.ofNat (gv y3 pl)),9)) none none none none none) (x21 (x92 (q:=9) (q':=9) (ρ1:=G19 ns n f z (some (.int (Int.ofNat C.p),9)) (some (.tup (C.W.map (x1r n)),9)) (some (.tup (C.B.map x14),9)) (some (x0d n (fun i=>i),9)) (some (x06 n C,9)) (some (.int (Int.ofNat pl),9)) (some (.int (Int.ofNat v),9)) (some (.tup (x0h u),9)) (some (.int (Int.ofNat (gv y pl)),9)) (some (.lst ((C.B.filter fun b=>!decide (f b.2 (gv u b.1)=gv u b.1)).map x14),0)) none none none none none none) (x0x (ds:=[x0n n f,x06 n ⟨C.p,C.W,(List.range C.p).map fun k=>(k,gv u k)⟩]) (by
  rw[<- ec3]
  exact x1a (q:=9) rfl (x18 (y0a (x1a (q:=9) rfl (x1a (q:=9) rfl (x18 (x2d (x18 hc3))))) (by show 3<=1000;decide)))) rfl ey3) rfl ay3 rfl rfl) rfl)).trans ?_
 refine(x0g (ρ1:=G19 ns n f z (some (.int (Int.ofNat C.p),9)) (some (.tup (C.W.map (x1r n)),9)) (some (.tup (C.B.map x14),9)) (some (x0d n (fun i=>i),9)) (some (x06 n C,9)) (some (.int (Int.ofNat pl),9)) (some (.int (Int.ofNat v),9)) (some (.tup (x0h u),9)) (some (.int (Int.ofNat (gv y pl)),9)) (some (.lst ((C.B.filter fun b=>!decide (f b.2 (gv u b.1)=gv u b.1)).map x14),0)) (some (.int (Int.ofNat (gv y3 pl)),9)) none none none none none) (by
  refine(y2p ?_).trans rfl
  refine(x5r (x8a (q:=9) (q':=9) (x92 (x:=y1k n f (gv y3 pl)) (q:=9) (q':=9) (x4q (i:=1) (q:=9) (q':=9) (x:=x0n n f) rfl rfl (x39 yn3) rfl) rfl (x3e hv) rfl rfl) rfl (x8k _ _))).trans ?_
  simp[f3])).trans ?_
 -- nothing more
 have inner:∀ k,k<C.p->∀ a b,∃ a' b',x9g (x0q 15) z5r (x10 n) (G19 ns n f z (some (.int (Int.ofNat C.p),9)) (some (.tup (C.W.map (x1r n)),9)) (some (.tup (C.B.map x14),9)) (some (x0d n (fun i=>i),9)) (some (x06 n C,9)) (some (.int (Int.ofNat pl),9)) (some (.int (Int.ofNat v),9)) (some (.tup (x0h u),9)) (some (.int (Int.ofNat (gv y pl)),9)) (some (.lst ((C.B.filter fun b=>!decide (f b.2 (gv u b.1)=gv u b.1)).map x14),0)) (some (.int (Int.ofNat (gv y3 pl)),9)) (some (.int (Int.ofNat k),9)) a b none none)=some (.nx (G19 ns n f z (some (.int (Int.ofNat C.p),9)) (some (.tup (C.W.map (x1r n)),9)) (some (.tup (C.B.map x14),9)) (some (x0d n (fun i=>i),9)) (some (x06 n C,9)) (some (.int (Int.ofNat pl),9)) (some (.int (Int.ofNat v),9)) (some (.tup (x0h u),9)) (some (.int (Int.ofNat (gv y pl)),9)) (some (.lst ((C.B.filter fun b=>!decide (f b.2 (gv u b.1)=gv u b.1)).map x14),0)) (some (.int (Int.ofNat (gv y3 pl)),9)) (some (.int (Int.ofNat k),9)) a' b' none none)):=fun k hk a b=>by
  obtain⟨ρ',e,a',b',rfl⟩:=x3n (pt:=x0q 15) (body:=z5r) (x10 n) (fun _ ρ=>∃ a b,ρ=G19 ns n f z (some (.int (Int.ofNat C.p),9)) (some (.tup (C.W.map (x1r n)),9)) (some (.tup (C.B.map x14),9)) (some (x0d n (fun i=>i),9)) (some (x06 n C,9)) (some (.int (Int.ofNat pl),9)) (some (.int (Int.ofNat v),9)) (some (.tup (x0h u),9)) (some (.int (Int.ofNat (gv y pl)),9)) (some (.lst ((C.B.filter fun b=>!decide (f b.2 (gv u b.1)=gv u b.1)).map x14),0)) (some (.int (Int.ofNat (gv y3 pl)),9)) (some (.int (Int.ofNat k),9)) a b none none) (G19 ns n f z (some (.int (Int.ofNat C.p),9)) (some (.tup (C.W.map (x1r n)),9)) (some (.tup (C.B.map x14),9)) (some (x0d n (fun i=>i),9)) (some (x06 n C,9)) (some (.int (Int.ofNat pl),9)) (some (.int (Int.ofNat v),9)) (some (.tup (x0h u),9)) (some (.int (Int.ofNat (gv y pl)),9)) (some (.lst ((C.B.filter fun b=>!decide (f b.2 (gv u b.1)=gv u b.1)).map x14),0)) (some (.int (Int.ofNat (gv y3 pl)),9)) (some (.int (Int.ofNat k),9)) a b none none) (fun m hm ρ ⟨a,b,hρ⟩=>by
   subst hρ
   have hm':m<n:=by rw[x0s]at hm;exact hm
   have uk:=x4q (i:=10) (b:=x05 14) (ρ:=G19 ns n f z (some (.int (Int.ofNat C.p),9)) (some (.tup (C.W.map (x1r n)),9)) (some (.tup (C.B.map x14),9)) (some (x0d n (fun i=>i),9)) (some (x06 n C,9)) (some (.int (Int.ofNat pl),9)) (some (.int (Int.ofNat v),9)) (some (.tup (x0h u),9)) (some (.int (Int.ofNat (gv y pl)),9)) (some (.lst ((C.B.filter fun b=>!decide (f b.2 (gv u b.1)=gv u b.1)).map x14),0)) (some (.int (Int.ofNat (gv y3 pl)),9)) (some (.int (Int.ofNat k),9)) (some (.int (Int.ofNat m),9)) b none none) (q:=9) (q':=9) (x:=.tup (x0h u)) rfl rfl (z5p (by rw[hul];exact hk)) rfl
   have c:=x5r (x8a (fa:=eIx (x1k 1 (x05 15)) (x1k 10 (x05 14))) (q:=9) (q':=9) (x92 (x:=y1k n f m) (q:=9) (q':=9) (x4q (i:=1) (q:=9) (q':=9) (x:=x0n n f) (b:=x05 15) rfl rfl (x39 hm') rfl) uk (x3e (ult k hk)) rfl rfl) uk (x8k _ _))
   by_cases h:f m (gv u k)=gv u k
   ·refine⟨G19 ns n f z (some (.int (Int.ofNat C.p),9)) (some (.tup (C.W.map (x1r n)),9)) (some (.tup (C.B.map x14),9)) (some (x0d n (fun i=>i),9)) (some (x06 n C,9)) (some (.int (Int.ofNat pl),9)) (some (.int (Int.ofNat v),9)) (some (.tup (x0h u),9)) (some (.int (Int.ofNat (gv y pl)),9)) (some (.lst ((C.B.filter fun b=>!decide (f b.2 (gv u b.1)=gv u b.1)).map x14),0)) (some (.int (Int.ofNat (gv y3 pl)),9)) (some (.int (Int.ofNat k),9)) (some (.int (Int.ofNat m),9)) b none none,G19 ns n f z (some (.int (Int.ofNat C.p),9)) (some (.tup (C.W.map (x1r n)),9)) (some (.tup (C.B.map x14),9)) (some (x0d n (fun i=>i),9)) (some (x06 n C,9)) (some (.int (Int.ofNat pl),9)) (some (.int (Int.ofNat v),9)) (some (.tup (x0h u),9)) (some (.int (Int.ofNat (gv y pl)),9)) (some (.lst ((C.B.filter fun b=>!decide (f b.2 (gv u b.1)=gv u b.1)).map x14),0)) (some (.int (Int.ofNat (gv y3 pl)),9)) (some (.int (Int.ofNat k),9)) (some (.int (Int.ofNat m),9)) b none none,by rw[x44];rfl,.inl ?_,_,_,rfl⟩
    rw[decide_eq_true h]at c
    exact(y2p c).trans rfl
   ·obtain⟨y4,ly4,ey4,iy4,yn4⟩:=low [(k,m)] (by show 1<=60;decide) (fun b hb=>by rw[List.mem_singleton.mp hb];exact⟨hk,hm'⟩)
    have n4:¬ f (gv y4 pl) v=v:=fun q=>h (iy4.mp q (k,m) (List.mem_singleton.mpr rfl))
    have ay4:atD (.tup (x0h y4)) (Int.ofNat pl)=some (.int (Int.ofNat (gv y4 pl))):=z5p (by rw[ly4];exact hpl)
    refine⟨G19 ns n f z (some (.int (Int.ofNat C.p),9)) (some (.tup (C.W.map (x1r n)),9)) (some (.tup (C.B.map x14),9)) (some (x0d n (fun i=>i),9)) (some (x06 n C,9)) (some (.int (Int.ofNat pl),9)) (some (.int (Int.ofNat v),9)) (some (.tup (x0h u),9)) (some (.int (Int.ofNat (gv y pl)),9)) (some (.lst ((C.B.filter fun b=>!decide (f b.2 (gv u b.1)=gv u b.1)).map x14),0)) (some (.int (Int.ofNat (gv y3 pl)),9)) (some (.int (Int.ofNat k),9)) (some (.int (Int.ofNat m),9)) b none none,G19 ns n f z (some (.int (Int.ofNat C.p),9)) (some (.tup (C.W.map (x1r n)),9)) (some (.tup (C.B.map x14),9)) (some (x0d n (fun i=>i),9)) (some (x06 n C,9)) (some (.int (Int.ofNat pl),9)) (some (.int (Int.ofNat v),9)) (some (.tup (x0h u),9)) (some (.int (Int.ofNat (gv y pl)),9)) (some (.lst ((C.B.filter fun b=>!decide (f b.2 (gv u b.1)=gv u b.1)).map x14),0)) (some (.int (Int.ofNat (gv y3 pl)),9)) (some (.int (Int.ofNat k),9)) (some (.int (Int.ofNat m),9)) (some (.int (Int.ofNat (gv y4 pl)),9)) none none,by rw[x44];rfl,.inl ?_,_,_,rfl⟩
    rw[decide_eq_false h]at c
    refine(j56 c).trans ?_
    refine(x0g (ρ1:=G19 ns n f z (some (.int (Int.ofNat C.p),9)) (some (.tup (C.W.map (x1r n)),9)) (some (.tup (C.B.map x14),9)) (some (x0d n (fun i=>i),9)) (some (x06 n C,9)) (some (.int (Int.ofNat pl),9)) (some (.int (Int.ofNat v),9)) (some (.tup (x0h u),9)) (some (.int (Int.ofNat (gv y pl)),9)) (some (.lst ((C.B.filter fun b=>!decide (f b.2 (gv u b.1)=gv u b.1)).map x14),0)) (some (.int (Int.ofNat (gv y3 pl)),9)) (some (.int (Int.ofNat k),9)) (some (.int (Int.ofNat m),9)) (some (.int (Int.ofNat (gv y4 pl)),9)) none none) (x21 (x92 (q:=9) (q':=9) (x0x (ds:=[x0n n f,x06 n ⟨C.p,C.W,[(k,m)]⟩]) rfl rfl ey4) rfl ay4 rfl rfl) rfl)).trans ?_
    refine(y2p ?_).trans rfl
    refine(x5r (x8a (q:=9) (q':=9) (x92 (x:=y1k n f (gv y4 pl)) (q:=9) (q':=9) (x4q (i:=1) (q:=9) (q':=9) (x:=x0n n f) rfl rfl (x39 yn4) rfl) rfl (x3e hv) rfl rfl) rfl (y07 _ _))).trans ?_
    rw[decide_eq_false n4]) ⟨a,b,rfl⟩
  exact⟨a',b',e⟩
 obtain⟨ρ',e,a14,a15,a16,rfl⟩:=x3n (pt:=x0q 14) (body:=j1l) (x10 C.p) (fun _ ρ=>∃ a b c,ρ=G19 ns n f z (some (.int (Int.ofNat C.p),9)) (some (.tup (C.W.map (x1r n)),9)) (some (.tup (C.B.map x14),9)) (some (x0d n (fun i=>i),9)) (some (x06 n C,9)) (some (.int (Int.ofNat pl),9)) (some (.int (Int.ofNat v),9)) (some (.tup (x0h u),9)) (some (.int (Int.ofNat (gv y pl)),9)) (some (.lst ((C.B.filter fun b=>!decide (f b.2 (gv u b.1)=gv u b.1)).map x14),0)) (some (.int (Int.ofNat (gv y3 pl)),9)) a b c none none) (G19 ns n f z (some (.int (Int.ofNat C.p),9)) (some (.tup (C.W.map (x1r n)),9)) (some (.tup (C.B.map x14),9)) (some (x0d n (fun i=>i),9)) (some (x06 n C,9)) (some (.int (Int.ofNat pl),9)) (some (.int (Int.ofNat v),9)) (some (.tup (x0h u),9)) (some (.int (Int.ofNat (gv y pl)),9)) (some (.lst ((C.B.filter fun b=>!decide (f b.2 (gv u b.1)=gv u b.1)).map x14),0)) (some (.int (Int.ofNat (gv y3 pl)),9)) none none none none none) (fun k hk ρ ⟨a,b,c,hρ⟩=>by
  subst hρ
  have hk':k<C.p:=by rw[x0s]at hk;exact hk
  obtain⟨a',b',ein⟩:=inner k hk' b c
  refine⟨G19 ns n f z (some (.int (Int.ofNat C.p),9)) (some (.tup (C.W.map (x1r n)),9)) (some (.tup (C.B.map x14),9)) (some (x0d n (fun i=>i),9)) (some (x06 n C,9)) (some (.int (Int.ofNat pl),9)) (some (.int (Int.ofNat v),9)) (some (.tup (x0h u),9)) (some (.int (Int.ofNat (gv y pl)),9)) (some (.lst ((C.B.filter fun b=>!decide (f b.2 (gv u b.1)=gv u b.1)).map x14),0)) (some (.int (Int.ofNat (gv y3 pl)),9)) (some (.int (Int.ofNat k),9)) b c none none,_,by rw[x44];rfl,.inl ((x3c (x38 hn rfl x1j)).trans ein),_,_,_,rfl⟩) ⟨none,none,none,rfl⟩
 refine(x0g ((x3c (x6q hpk (fe:=x05 3) (q:=9) rfl)).trans e)).trans ?_
 -- one more rule
 obtain⟨d,hd,hR⟩:=x7c L hz bz ns 202 (by decide)
 have hr1:∀ i,i<n->Lad.lr n f z d i<n:=fun i _=>L.lr_lt hz bz hd i
 have hr2:∀ x y,x<n->y<n->f x y=y->f (Lad.lr n f z d x) (Lad.lr n f z d y)=Lad.lr n f z d y:=fun x y hx hy e=>L.lr_rises hz bz hd hx hy e
 generalize Lad.lr n f z d=r at *
 refine(x0g (ρ1:=G19 ns n f z (some (.int (Int.ofNat C.p),9)) (some (.tup (C.W.map (x1r n)),9)) (some (.tup (C.B.map x14),9)) (some (x0d n (fun i=>i),9)) (some (x06 n C,9)) (some (.int (Int.ofNat pl),9)) (some (.int (Int.ofNat v),9)) (some (.tup (x0h u),9)) (some (.int (Int.ofNat (gv y pl)),9)) (some (.lst ((C.B.filter fun b=>!decide (f b.2 (gv u b.1)=gv u b.1)).map x14),0)) (some (.int (Int.ofNat (gv y3 pl)),9)) a14 a15 a16 (some (x0d n r,9)) none) (x21 (x0x (ds:=[scr ns,.int 202,x0n n f]) rfl rfl hR) rfl)).trans ?_
 have hO:Cht.Ok n f ⟨C.p,C.W++[(0,0,r)],C.B⟩:=⟨hC.p1,hC.p8,by show(C.W++[(0,0,r)]).length<=60;rw[List.length_append];simp;omega,hC.b60,fun w hw=>by
  rcases List.mem_append.mp hw with h|h
  ·exact hC.ws w h
  ·rw[List.mem_singleton.mp h]
   exact⟨hp1,hp1,hr1,hr2⟩,hC.bs⟩
 have eO:D.tup [.int (Int.ofNat C.p),.tup (C.W.map (x1r n)++[.tup [.int 0,.int 0,x0d n r]]),.tup (C.B.map x14)]=x06 n ⟨C.p,C.W++[(0,0,r)],C.B⟩:=by
  unfold x06
  simp only[List.map_append]
  rfl
 have ec:z5b (x05 4) (x4i (x01 (x4i (x01 (eC (.int 0)) (x01 (eC (.int 0)) (x01 (x05 17) x0f)))) x0f)) (G19 ns n f z (some (.int (Int.ofNat C.p),9)) (some (.tup (C.W.map (x1r n)),9)) (some (.tup (C.B.map x14),9)) (some (x0d n (fun i=>i),9)) (some (x06 n C,9)) (some (.int (Int.ofNat pl),9)) (some (.int (Int.ofNat v),9)) (some (.tup (x0h u),9)) (some (.int (Int.ofNat (gv y pl)),9)) (some (.lst ((C.B.filter fun b=>!decide (f b.2 (gv u b.1)=gv u b.1)).map x14),0)) (some (.int (Int.ofNat (gv y3 pl)),9)) a14 a15 a16 (some (x0d n r,9)) none)=some (.tup (C.W.map (x1r n)++[.tup [.int 0,.int 0,x0d n r]]),9,G19 ns n f z (some (.int (Int.ofNat C.p),9)) (some (.tup (C.W.map (x1r n)),9)) (some (.tup (C.B.map x14),9)) (some (x0d n (fun i=>i),9)) (some (x06 n C,9)) (some (.int (Int.ofNat pl),9)) (some (.int (Int.ofNat v),9)) (some (.tup (x0h u),9)) (some (.int (Int.ofNat (gv y pl)),9)) (some (.lst ((C.B.filter fun b=>!decide (f b.2 (gv u b.1)=gv u b.1)).map x14),0)) (some (.int (Int.ofNat (gv y3 pl)),9)) a14 a15 a16 (some (x0d n r,9)) none):=by
  have hl:(C.W.map (x1r n)).length + [D.tup [.int 0,.int 0,x0d n r]].length<=1000:=by rw[List.length_map];show C.W.length+1<=1000;omega
  have e4:x05 4 (G19 ns n f z (some (.int (Int.ofNat C.p),9)) (some (.tup (C.W.map (x1r n)),9)) (some (.tup (C.B.map x14),9)) (some (x0d n (fun i=>i),9)) (some (x06 n C,9)) (some (.int (Int.ofNat pl),9)) (some (.int (Int.ofNat v),9)) (some (.tup (x0h u),9)) (some (.int (Int.ofNat (gv y pl)),9)) (some (.lst ((C.B.filter fun b=>!decide (f b.2 (gv u b.1)=gv u b.1)).map x14),0)) (some (.int (Int.ofNat (gv y3 pl)),9)) a14 a15 a16 (some (x0d n r,9)) none)=some (.tup (C.W.map (x1r n)),9,G19 ns n f z (some (.int (Int.ofNat C.p),9)) (some (.tup (C.W.map (x1r n)),9)) (some (.tup (C.B.map x14),9)) (some (x0d n (fun i=>i),9)) (some (x06 n C,9)) (some (.int (Int.ofNat pl),9)) (some (.int (Int.ofNat v),9)) (some (.tup (x0h u),9)) (some (.int (Int.ofNat (gv y pl)),9)) (some (.lst ((C.B.filter fun b=>!decide (f b.2 (gv u b.1)=gv u b.1)).map x14),0)) (some (.int (Int.ofNat (gv y3 pl)),9)) a14 a15 a16 (some (x0d n r,9)) none):=rfl
  have e5:x4i (x01 (x4i (x01 (eC (.int 0)) (x01 (eC (.int 0)) (x01 (x05 17) x0f)))) x0f) (G19 ns n f z (some (.int (Int.ofNat C.p),9)) (some (.tup (C.W.map (x1r n)),9)) (some (.tup (C.B.map x14),9)) (some (x0d n (fun i=>i),9)) (some (x06 n C,9)) (some (.int (Int.ofNat pl),9)) (some (.int (Int.ofNat v),9)) (some (.tup (x0h u),9)) (some (.int (Int.ofNat (gv y pl)),9)) (some (.lst ((C.B.filter fun b=>!decide (f b.2 (gv u b.1)=gv u b.1)).map x14),0)) (some (.int (Int.ofNat (gv y3 pl)),9)) a14 a15 a16 (some (x0d n r,9)) none)=some (.tup [D.tup [.int 0,.int 0,x0d n r]],9,G19 ns n f z (some (.int (Int.ofNat C.p),9)) (some (.tup (C.W.map (x1r n)),9)) (some (.tup (C.B.map x14),9)) (some (x0d n (fun i=>i),9)) (some (x06 n C,9)) (some (.int (Int.ofNat pl),9)) (some (.int (Int.ofNat v),9)) (some (.tup (x0h u),9)) (some (.int (Int.ofNat (gv y pl)),9)) (some (.lst ((C.B.filter fun b=>!decide (f b.2 (gv u b.1)=gv u b.1)).map x14),0)) (some (.int (Int.ofNat (gv y3 pl)),9)) a14 a15 a16 (some (x0d n r,9)) none):=rfl
  unfold z5b
  rw[e4]
  simp only[e5]
  exact if_pos hl
 refine(x0g (ρ1:=G19 ns n f z (some (.int (Int.ofNat C.p),9)) (some (.tup (C.W.map (x1r n)),9)) (some (.tup (C.B.map x14),9)) (some (x0d n (fun i=>i),9)) (some (x06 n C,9)) (some (.int (Int.ofNat pl),9)) (some (.int (Int.ofNat v),9)) (some (.tup (x0h u),9)) (some (.int (Int.ofNat (gv y pl)),9)) (some (.lst ((C.B.filter fun b=>!decide (f b.2 (gv u b.1)=gv u b.1)).map x14),0)) (some (.int (Int.ofNat (gv y3 pl)),9)) a14 a15 a16 (some (x0d n r,9)) (some (x06 n ⟨C.p,C.W++[(0,0,r)],C.B⟩,9))) (by
  rw[<- eO]
  exact x21 (y0a (x1a (f:=x05 3) (q:=9) rfl (x1a ec (x18 (f:=x05 5) (q:=9) rfl))) (by show 3<=1000;decide)) rfl)).trans ?_
 have xo:=y47 L hz bz hO (v:=v) hpl (fun r=>@decide (wh n f z r) (Classical.propDecidable _)) (fun w hw=>by simp)
 have xo':((C.W++[(0,0,r)]).all fun w=>@decide (wh n f z w.2.2) (Classical.propDecidable _)) = @decide (wh n f z r) (Classical.propDecidable _):=by
  rw[List.all_append,xall]
  simp
 have bk:=x9f L hz bz hr1
 have tri:∃ d,x1i [x0n n f,x06 n ⟨C.p,C.W++[(0,0,r)],C.B⟩,.int (Int.ofNat pl),.int (Int.ofNat v)]=some (d,9)/\dEq d (.str "no rule")=some (.bl (((List.range n).map (x5s n f z r)).any y0l)):=by
  by_cases h:wh n f z r
  ·obtain⟨u5,hu5,eu5⟩:=y2e L hz bz hO (fun w hw=>by
    rcases List.mem_append.mp hw with q|q
    ·exact hwh w q
    ·rw[List.mem_singleton.mp q];exact h) hpl hv
   have xo2:x1l [x0n n f,x06 n ⟨C.p,C.W++[(0,0,r)],C.B⟩,.int (Int.ofNat pl),.int (Int.ofNat v)]=none:=by
    rw[xo]
    exact if_pos (by
     show((C.W++[(0,0,r)]).all fun w=>@decide (wh n f z w.2.2) (Classical.propDecidable _))=true
     rw[xo'];simpa using h)
   refine⟨_,y4e xo2 eu5,?_⟩
   rw[x85.mpr h]
   exact z98 u5
  ·have xo2:x1l [x0n n f,x06 n ⟨C.p,C.W++[(0,0,r)],C.B⟩,.int (Int.ofNat pl),.int (Int.ofNat v)]=some ("NoRule":Str):=by
    rw[xo]
    exact if_neg (by
     show ¬ ((C.W++[(0,0,r)]).all fun w=>@decide (wh n f z w.2.2) (Classical.propDecidable _))=true
     rw[xo'];simpa using h)
   refine⟨_,y6l (by simp) xo2 z91,?_⟩
   have:(((List.range n).map (x5s n f z r)).any y0l)=true:=by
    cases q:(((List.range n).map (x5s n f z r)).any y0l)with
    | true=>rfl
    | false=>exact absurd (x85.mp q) h
   rw[this]
   exact z0d (by decide +kernel)
 obtain⟨d5,et5,ed5⟩:=tri
 refine(x0g (ρ1:=G19 ns n f z (some (.int (Int.ofNat C.p),9)) (some (.tup (C.W.map (x1r n)),9)) (some (.tup (C.B.map x14),9)) (some (x0d n (fun i=>i),9)) (some (x06 n C,9)) (some (.int (Int.ofNat pl),9)) (some (.int (Int.ofNat v),9)) (some (.tup (x0h u),9)) (some (.int (Int.ofNat (gv y pl)),9)) (some (.lst ((C.B.filter fun b=>!decide (f b.2 (gv u b.1)=gv u b.1)).map x14),0)) (some (.int (Int.ofNat (gv y3 pl)),9)) a14 a15 a16 (some (x0d n r,9)) (some (x06 n ⟨C.p,C.W++[(0,0,r)],C.B⟩,9))) (by
  refine(y2p ?_).trans rfl
  have e1:=x8a (g:=dEq) (fa:=x0l x1i 4 (x01 (x05 1) (x01 (x05 18) (x01 (x05 8) (x01 (x05 9) x0f))))) (fb:=eC (.str "no rule")) (ρ:=G19 ns n f z (some (.int (Int.ofNat C.p),9)) (some (.tup (C.W.map (x1r n)),9)) (some (.tup (C.B.map x14),9)) (some (x0d n (fun i=>i),9)) (some (x06 n C,9)) (some (.int (Int.ofNat pl),9)) (some (.int (Int.ofNat v),9)) (some (.tup (x0h u),9)) (some (.int (Int.ofNat (gv y pl)),9)) (some (.lst ((C.B.filter fun b=>!decide (f b.2 (gv u b.1)=gv u b.1)).map x14),0)) (some (.int (Int.ofNat (gv y3 pl)),9)) a14 a15 a16 (some (x0d n r,9)) (some (x06 n ⟨C.p,C.W++[(0,0,r)],C.B⟩,9))) (q':=9) (x0x (ds:=[x0n n f,x06 n ⟨C.p,C.W++[(0,0,r)],C.B⟩,.int (Int.ofNat pl),.int (Int.ofNat v)]) rfl rfl et5) rfl ed5
  have e2':=x8a (g:=dIn) (fa:=eC .non) (fb:=x0l x1x 2 (x01 (x05 1) (x01 (x05 17) x0f))) (ρ:=G19 ns n f z (some (.int (Int.ofNat C.p),9)) (some (.tup (C.W.map (x1r n)),9)) (some (.tup (C.B.map x14),9)) (some (x0d n (fun i=>i),9)) (some (x06 n C,9)) (some (.int (Int.ofNat pl),9)) (some (.int (Int.ofNat v),9)) (some (.tup (x0h u),9)) (some (.int (Int.ofNat (gv y pl)),9)) (some (.lst ((C.B.filter fun b=>!decide (f b.2 (gv u b.1)=gv u b.1)).map x14),0)) (some (.int (Int.ofNat (gv y3 pl)),9)) a14 a15 a16 (some (x0d n r,9)) (some (x06 n ⟨C.p,C.W++[(0,0,r)],C.B⟩,9))) (q:=9) rfl (x0x (ds:=[x0n n f,x0d n r]) rfl rfl bk) (z03 y42)
  refine(x5r (x8a e1 e2' (z6a _ _))).trans ?_
  simp)).trans ?_
 -- no such place
 obtain⟨k2,hk2,e222⟩:=y5k ns (c:=222) (by decide) (n:=2) (by decide)
 have fin:∀ i:Int,x64 C.p (.int i)=false->atD (.lst [.int (-1),.int (Int.ofNat C.p)]) (Int.ofNat k2)=some (.int i)->x36 (e2 dEq (x0l x1i 4 (x01 (x05 1) (x01 (x05 18) (x01 (eIx (x5j (x01 (z9g (eC (.int 1))) (x01 (x05 3) x0f))) (x0l x0c 3 (x01 (x05 0) (x01 (eC (.int 222)) (x01 (eC (.int 2)) x0f))))) (x01 (x05 9) x0f))))) (eC (.str "no place"))) (G19 ns n f z (some (.int (Int.ofNat C.p),9)) (some (.tup (C.W.map (x1r n)),9)) (some (.tup (C.B.map x14),9)) (some (x0d n (fun i=>i),9)) (some (x06 n C,9)) (some (.int (Int.ofNat pl),9)) (some (.int (Int.ofNat v),9)) (some (.tup (x0h u),9)) (some (.int (Int.ofNat (gv y pl)),9)) (some (.lst ((C.B.filter fun b=>!decide (f b.2 (gv u b.1)=gv u b.1)).map x14),0)) (some (.int (Int.ofNat (gv y3 pl)),9)) a14 a15 a16 (some (x0d n r,9)) (some (x06 n ⟨C.p,C.W++[(0,0,r)],C.B⟩,9)))=some (.rt (.bl true) 9):=fun i hi ha=>by
  have x:=y8c L hz bz (C:=⟨C.p,C.W++[(0,0,r)],C.B⟩) (v:=v) hi
  have t:=y6l (by simp) x z8l
  have ei:eIx (x5j (x01 (z9g (eC (.int 1))) (x01 (x05 3) x0f))) (x0l x0c 3 (x01 (x05 0) (x01 (eC (.int 222)) (x01 (eC (.int 2)) x0f)))) (G19 ns n f z (some (.int (Int.ofNat C.p),9)) (some (.tup (C.W.map (x1r n)),9)) (some (.tup (C.B.map x14),9)) (some (x0d n (fun i=>i),9)) (some (x06 n C,9)) (some (.int (Int.ofNat pl),9)) (some (.int (Int.ofNat v),9)) (some (.tup (x0h u),9)) (some (.int (Int.ofNat (gv y pl)),9)) (some (.lst ((C.B.filter fun b=>!decide (f b.2 (gv u b.1)=gv u b.1)).map x14),0)) (some (.int (Int.ofNat (gv y3 pl)),9)) a14 a15 a16 (some (x0d n r,9)) (some (x06 n ⟨C.p,C.W++[(0,0,r)],C.B⟩,9)))=some (.int i,9,G19 ns n f z (some (.int (Int.ofNat C.p),9)) (some (.tup (C.W.map (x1r n)),9)) (some (.tup (C.B.map x14),9)) (some (x0d n (fun i=>i),9)) (some (x06 n C,9)) (some (.int (Int.ofNat pl),9)) (some (.int (Int.ofNat v),9)) (some (.tup (x0h u),9)) (some (.int (Int.ofNat (gv y pl)),9)) (some (.lst ((C.B.filter fun b=>!decide (f b.2 (gv u b.1)=gv u b.1)).map x14),0)) (some (.int (Int.ofNat (gv y3 pl)),9)) a14 a15 a16 (some (x0d n r,9)) (some (x06 n ⟨C.p,C.W++[(0,0,r)],C.B⟩,9))):=by
   have el:x5j (x01 (z9g (eC (.int 1))) (x01 (x05 3) x0f)) (G19 ns n f z (some (.int (Int.ofNat C.p),9)) (some (.tup (C.W.map (x1r n)),9)) (some (.tup (C.B.map x14),9)) (some (x0d n (fun i=>i),9)) (some (x06 n C,9)) (some (.int (Int.ofNat pl),9)) (some (.int (Int.ofNat v),9)) (some (.tup (x0h u),9)) (some (.int (Int.ofNat (gv y pl)),9)) (some (.lst ((C.B.filter fun b=>!decide (f b.2 (gv u b.1)=gv u b.1)).map x14),0)) (some (.int (Int.ofNat (gv y3 pl)),9)) a14 a15 a16 (some (x0d n r,9)) (some (x06 n ⟨C.p,C.W++[(0,0,r)],C.B⟩,9)))=some (.lst [.int (-1),.int (Int.ofNat C.p)],1,G19 ns n f z (some (.int (Int.ofNat C.p),9)) (some (.tup (C.W.map (x1r n)),9)) (some (.tup (C.B.map x14),9)) (some (x0d n (fun i=>i),9)) (some (x06 n C,9)) (some (.int (Int.ofNat pl),9)) (some (.int (Int.ofNat v),9)) (some (.tup (x0h u),9)) (some (.int (Int.ofNat (gv y pl)),9)) (some (.lst ((C.B.filter fun b=>!decide (f b.2 (gv u b.1)=gv u b.1)).map x14),0)) (some (.int (Int.ofNat (gv y3 pl)),9)) a14 a15 a16 (some (x0d n r,9)) (some (x06 n ⟨C.p,C.W++[(0,0,r)],C.B⟩,9))):=rfl
   have ek:=x0x (F:=x0c) (n:=3) (g:=x01 (x05 0) (x01 (eC (.int 222)) (x01 (eC (.int 2)) x0f))) (ρ:=G19 ns n f z (some (.int (Int.ofNat C.p),9)) (some (.tup (C.W.map (x1r n)),9)) (some (.tup (C.B.map x14),9)) (some (x0d n (fun i=>i),9)) (some (x06 n C,9)) (some (.int (Int.ofNat pl),9)) (some (.int (Int.ofNat v),9)) (some (.tup (x0h u),9)) (some (.int (Int.ofNat (gv y pl)),9)) (some (.lst ((C.B.filter fun b=>!decide (f b.2 (gv u b.1)=gv u b.1)).map x14),0)) (some (.int (Int.ofNat (gv y3 pl)),9)) a14 a15 a16 (some (x0d n r,9)) (some (x06 n ⟨C.p,C.W++[(0,0,r)],C.B⟩,9))) (ds:=[scr ns,.int 222,.int (Int.ofNat 2)]) rfl rfl e222
   unfold eIx
   rw[el]
   simp only[ek,ha]
   rfl
  exact x37 (x8a (q':=9) (x0x (x1a (q:=9) rfl (x1a (q:=9) rfl (x1a ei (x18 (q:=9) rfl)))) rfl t) rfl (z0d (by decide +kernel)))
 have hk3:k2=0\/k2=1:=by omega
 rcases hk3 with rfl|rfl
 ·exact fin (-1) (by simp[x64]) rfl
 ·exact fin (Int.ofNat C.p) (by
   show(decide ((0:Int)<=(C.p:Int))&&decide ((C.p:Int)<(C.p:Int)))=false
   simp) rfl
def A0 (K:PySem.W.Frag)(mg:Str->Option Value)(x:Str)(st:Stmt):Prop:=∃ f fd,Fun K x x st f fd/\mg x=some (.ref f)
theorem A0.mk {K:PySem.W.Frag}{h:Heap}{mg:Str->Option Value}{x:Str}{st:Stmt}{f:Addr}{od an:Option Addr}{sl:Array (Option Value)}{oc kV dc pm cd ct:Value}(X:K.In h)(G:h.Ns mainGlobals mg)(a:PySem.W.nsIn K mainGlobals x=some (some (.ref f)))(l:K.lookup f=some ⟨oc,od,.func (PySem.W.fnOf x x (x6h st) (x32 st) (x0a st) .none kV dc pm an cd ct),sl⟩)(c:PySem.W.codeIn K cd x=true)(k:PySem.W.keepIn K (.ref f)=true):A0 K mg x st:=⟨_,_,z5w l c k,PySem.W.mg_of X G a⟩
theorem A0.at {K:PySem.W.Frag}{mg:Str->Option Value}{x:Str}{st:Stmt}{ps:List Str}(a:A0 K mg x st)(h:∀ (kV doc pm:Value) (an:Option Addr) (cdv ct:Value) (us:List Value),us.length=ps.length->bindArgs (PySem.W.fnOf x x (x6h st) (x32 st) (x0a st) .none kV doc pm an cdv ct) ⟨us,[]⟩=pure (ps.zip us)):At K mg x st ps:=by
 obtain⟨f,fd,F,m⟩:=a
 exact⟨f,fd,F,m,F.binds h⟩
theorem all_mk {l:PySem.W.OpenLaw}{w:World}{K:PySem.W.Frag}{h:Heap}{mg:Str->Option Value}{fa:Addr}{f44:Addr}{od44 an44:Option Addr}{sl44:Array (Option Value)}{oc44 kV44 dc44 pm44 cd44 ct44:Value}{xr xe0 xe1 y0 y1 y2 y3:Addr}(X:K.In h)(G:h.Ns mainGlobals mg)(hfa:mg "law" = some (.ref fa))
  (A1:A0 K mg "row_of_least" (top 13))
  (A2:A0 K mg "least_of" (top 14))
  (A3:A0 K mg "joined_all" (top 17))
  (A4:A0 K mg "is_below" (top 15))
  (A5:A0 K mg "below" (top 16))
  (A6:A0 K mg "met" (top 18))
  (A7:A0 K mg "_law_cell" (top 42))
  (A8:A0 K mg "_law_pick" (top 43))
  (A9:A0 K mg "_law_chain" (top 44))
  (A10:A0 K mg "_law_couples" (top 45))
  (A11:A0 K mg "_law_side_by_side" (top 46))
  (A12:A0 K mg "_law_base" (top 47))
  (A13:A0 K mg "_law_ladder" (top 48))
  (A14:A0 K mg "_law_low" (top 49))
  (A15:A0 K mg "_law_join" (top 50))
  (A16:A0 K mg "_law_under" (top 51))
  (A17:A0 K mg "_law_rule" (top 52))
  (A18:A0 K mg "_law_spreads" (top 53))
  (A19:A0 K mg "_law_spread_rule" (top 54))
  (A20:A0 K mg "_law_chart" (top 55))
  (A21:A0 K mg "_law_word" (top 56))
  (A22:A0 K mg "is_whole" (top 9))
  (A23:A0 K mg "is_number_of" (top 10))
  (A24:A0 K mg "refuse_no_place" (top 24))
  (A25:A0 K mg "is_named_number" (top 11))
  (A26:A0 K mg "is_step" (top 29))
  (A27:A0 K mg "refuse_no_step" (top 30))
  (A28:A0 K mg "place_and_worth" (top 31))
  (A29:A0 K mg "worths_behind" (top 32))
  (A30:A0 K mg "risen" (top 33))
  (A31:A0 K mg "lowest" (top 26))
  (A32:A0 K mg "least_by" (top 34))
  (A33:A0 K mg "all_steps" (top 28))
  (A34:A0 K mg "least" (top 27))
  (A35:A0 K mg "table_of" (top 19))
  (A36:A0 K mg "turned" (top 20))
  (A37:A0 K mg "greatest" (top 36))
  (A38:A0 K mg "led_below" (top 22))
  (A39:A0 K mg "greatest_led_below" (top 38))
  (A40:A0 K mg "back_rule" (top 37))
  (A41:A0 K mg "whole_back_rule" (top 40))
  (A42:A0 K mg "demands" (top 39))
  (A43:A0 K mg "_law_tried" (top 57))
  (a44:PySem.W.nsIn K mainGlobals "law" = some (some (.ref f44))) (l44:K.lookup f44=some ⟨oc44,od44,.func (PySem.W.fnOf "law" "law" (x6h (top 58)) (x32 (top 58)) (x0a (top 58)) .none kV44 dc44 pm44 an44 cd44 ct44),sl44⟩) (c44:PySem.W.codeIn K cd44 "law" = true) (k44:PySem.W.keepIn K (.ref f44)=true)
  (z1:PySem.W.nsIn K mainGlobals "ValueError" = some none) (z2:PySem.W.nsIn K mainGlobals "all" = some none) (z3:PySem.W.nsIn K mainGlobals "bool" = some none) (z4:PySem.W.nsIn K mainGlobals "enumerate" = some none) (z5:PySem.W.nsIn K mainGlobals "int" = some none) (z6:PySem.W.nsIn K mainGlobals "isinstance" = some none) (z7:PySem.W.nsIn K mainGlobals "len" = some none) (z8:PySem.W.nsIn K mainGlobals "list" = some none) (z9:PySem.W.nsIn K mainGlobals "max" = some none) (z10:PySem.W.nsIn K mainGlobals "range" = some none) (z11:PySem.W.nsIn K mainGlobals "str" = some none) (z12:PySem.W.nsIn K mainGlobals "tuple" = some none) (t_turned:∃ c Pt,PySem.W.tabIn K "turned" = some (c,Pt)) (xrN:PySem.W.nsIn K mainGlobals "RiseError" = some (some (.ref xr))) (xcg:PySem.W.specialIn K (.builtin "object.__class__") "__get__" = some (some (.builtin "getset_descriptor.__get__"))) (xct:PySem.W.takesIn K (.builtin "object.__class__")=some true) (xrg:PySem.W.findIn K (.ref xr) "__getattribute__" = some (some (.builtin "BaseException.__getattribute__"))) (xrt:PySem.W.findIn K (.ref xr) "__getattr__" = some none) (xrc:PySem.W.findIn K (.ref xr) "__class__" = some (some (.builtin "object.__class__"))) (xro:PySem.W.mroIn K xr (.type "object")=some true) (xrb:PySem.W.mroIn K xr (.type "BaseException")=some true) (xrT:PySem.W.typeIn K (.ref xr)=some (.type "type")) (xe0N:PySem.W.nsIn K mainGlobals "NoPlace" = some (some (.ref xe0))) (xe0g:PySem.W.findIn K (.ref xe0) "__getattribute__" = some (some (.builtin "BaseException.__getattribute__"))) (xe0t:PySem.W.findIn K (.ref xe0) "__getattr__" = some none) (xe0c:PySem.W.findIn K (.ref xe0) "__class__" = some (some (.builtin "object.__class__"))) (xe0o:PySem.W.mroIn K xe0 (.type "object")=some true) (xe0b:PySem.W.mroIn K xe0 (.type "BaseException")=some true) (xe0V:PySem.W.mroIn K xe0 (.type "ValueError")=some true) (xe0n0:PySem.W.mroIn K xe0 (.type "int")=some false) (xe0n1:PySem.W.mroIn K xe0 (.type "bool")=some false) (xe0n2:PySem.W.mroIn K xe0 (.type "tuple")=some false) (xe0n3:PySem.W.mroIn K xe0 (.type "list")=some false) (xe0n4:PySem.W.mroIn K xe0 (.type "str")=some false) (xe0R:PySem.W.mroIn K xe0 (.ref xr)=some true) (xe0X:PySem.W.excIn K xe0 L3.bmV "ValueError.__new__" = true) (xe1N:PySem.W.nsIn K mainGlobals "NoRule" = some (some (.ref xe1))) (xe1g:PySem.W.findIn K (.ref xe1) "__getattribute__" = some (some (.builtin "BaseException.__getattribute__"))) (xe1t:PySem.W.findIn K (.ref xe1) "__getattr__" = some none) (xe1c:PySem.W.findIn K (.ref xe1) "__class__" = some (some (.builtin "object.__class__"))) (xe1o:PySem.W.mroIn K xe1 (.type "object")=some true) (xe1b:PySem.W.mroIn K xe1 (.type "BaseException")=some true) (xe1V:PySem.W.mroIn K xe1 (.type "ValueError")=some true) (xe1n0:PySem.W.mroIn K xe1 (.type "int")=some false) (xe1n1:PySem.W.mroIn K xe1 (.type "bool")=some false) (xe1n2:PySem.W.mroIn K xe1 (.type "tuple")=some false) (xe1n3:PySem.W.mroIn K xe1 (.type "list")=some false) (xe1n4:PySem.W.mroIn K xe1 (.type "str")=some false) (xe1R:PySem.W.mroIn K xe1 (.ref xr)=some true) (xe1X:PySem.W.excIn K xe1 L3.bmV "ValueError.__new__" = true) (y0N:PySem.W.nsIn K mainGlobals "NoHouse" = some (some (.ref y0))) (y0O:PySem.W.mroIn K y0 (.type "object")=some true) (y0T:PySem.W.typeIn K (.ref y0)=some (.type "type")) (y0Sxe0:PySem.W.mroIn K xe0 (.ref y0)=some false) (y0Dxe0:xe0≠y0) (y0Sxe1:PySem.W.mroIn K xe1 (.ref y0)=some false) (y0Dxe1:xe1≠y0) (y1N:PySem.W.nsIn K mainGlobals "NoMap" = some (some (.ref y1))) (y1O:PySem.W.mroIn K y1 (.type "object")=some true) (y1T:PySem.W.typeIn K (.ref y1)=some (.type "type")) (y1Sxe0:PySem.W.mroIn K xe0 (.ref y1)=some false) (y1Dxe0:xe0≠y1) (y1Sxe1:PySem.W.mroIn K xe1 (.ref y1)=some false) (y1Dxe1:xe1≠y1) (xe0T:PySem.W.typeIn K (.ref xe0)=some (.type "type")) (xe0Sxe1:PySem.W.mroIn K xe1 (.ref xe0)=some false) (xe0Dxe1:xe1≠xe0) (xe1T:PySem.W.typeIn K (.ref xe1)=some (.type "type")) (xe1Sxe0:PySem.W.mroIn K xe0 (.ref xe1)=some false) (xe1Dxe0:xe0≠xe1) (y2N:PySem.W.nsIn K mainGlobals "NoStep" = some (some (.ref y2))) (y2O:PySem.W.mroIn K y2 (.type "object")=some true) (y2T:PySem.W.typeIn K (.ref y2)=some (.type "type")) (y2Sxe0:PySem.W.mroIn K xe0 (.ref y2)=some false) (y2Dxe0:xe0≠y2) (y2Sxe1:PySem.W.mroIn K xe1 (.ref y2)=some false) (y2Dxe1:xe1≠y2) (y3N:PySem.W.nsIn K mainGlobals "TooGreat" = some (some (.ref y3))) (y3O:PySem.W.mroIn K y3 (.type "object")=some true) (y3T:PySem.W.typeIn K (.ref y3)=some (.type "type")) (y3Sxe0:PySem.W.mroIn K xe0 (.ref y3)=some false) (y3Dxe0:xe0≠y3) (y3Sxe1:PySem.W.mroIn K xe1 (.ref y3)=some false) (y3Dxe1:xe1≠y3) :
  ∃ fd:FuncData,(∀ (s:Shared) (v:Value),BindsTo s fd ⟨[v],[]⟩ [("_law_script",v)])/\∀ base:Heap,K.In base->base.Ns mainGlobals mg->Lm K mg base->FnOk l.prog w K mg base CX0 11 fa fd ["_law_script"] (spD K 1 y8r):=by
 have e:=hfa.symm.trans (PySem.W.mg_of X G a44)
 cases e
 have B:Bt mg:=⟨PySem.W.mg_none_of X G z1,PySem.W.mg_none_of X G z2,PySem.W.mg_none_of X G z3,PySem.W.mg_none_of X G z4,PySem.W.mg_none_of X G z5,PySem.W.mg_none_of X G z6,PySem.W.mg_none_of X G z7,PySem.W.mg_none_of X G z8,PySem.W.mg_none_of X G z9,PySem.W.mg_none_of X G z10,PySem.W.mg_none_of X G z11,PySem.W.mg_none_of X G z12⟩
 have xk_xe0:XKls K "NoPlace" xe0:=XKls.of xe0N ⟨L3.j4z xe0o,xe0g,xe0t,xe0c,xcg,xct,xe0o,xe0b⟩ xe0X xe0V xe0n0 xe0n1 xe0n2 xe0n3 xe0n4
 have xk_xe1:XKls K "NoRule" xe1:=XKls.of xe1N ⟨L3.j4z xe1o,xe1g,xe1t,xe1c,xcg,xct,xe1o,xe1b⟩ xe1X xe1V xe1n0 xe1n1 xe1n2 xe1n3 xe1n4
 have T:Xt K mg:=⟨(y04.cons (y04.cons (y04.nil ⟨L3.j4z xro,xrg,xrt,xrc,xcg,xct,xro,xrb⟩ xrT (PySem.W.mg_of X G xrN)) (PySem.W.mg_of X G xrN) xk_xe1 xe1R) (PySem.W.mg_of X G xrN) xk_xe0 xe0R),⟨xe0,⟨xk_xe0,PySem.W.mg_of X G xe0N⟩⟩,⟨xe1,⟨xk_xe1,PySem.W.mg_of X G xe1N⟩⟩,(IsC.other (IsC.other (IsC.nil (PySem.W.mg_of X G y0N)) xe1N (PySem.W.mg_of X G y0N) (by decide) y0Dxe1 y0T y0O y0Sxe1) xe0N (PySem.W.mg_of X G y0N) (by decide) y0Dxe0 y0T y0O y0Sxe0),(IsC.other (IsC.other (IsC.nil (PySem.W.mg_of X G y1N)) xe1N (PySem.W.mg_of X G y1N) (by decide) y1Dxe1 y1T y1O y1Sxe1) xe0N (PySem.W.mg_of X G y1N) (by decide) y1Dxe0 y1T y1O y1Sxe0),(IsC.self (IsC.other (IsC.nil (PySem.W.mg_of X G xe0N)) xe1N (PySem.W.mg_of X G xe0N) (by decide) xe0Dxe1 xe0T xe0o xe0Sxe1) xe0N (PySem.W.mg_of X G xe0N)),(IsC.other (IsC.self (IsC.nil (PySem.W.mg_of X G xe1N)) xe1N (PySem.W.mg_of X G xe1N)) xe0N (PySem.W.mg_of X G xe1N) (by decide) xe1Dxe0 xe1T xe1o xe1Sxe0),(IsC.other (IsC.other (IsC.nil (PySem.W.mg_of X G y2N)) xe1N (PySem.W.mg_of X G y2N) (by decide) y2Dxe1 y2T y2O y2Sxe1) xe0N (PySem.W.mg_of X G y2N) (by decide) y2Dxe0 y2T y2O y2Sxe0),(IsC.other (IsC.other (IsC.nil (PySem.W.mg_of X G y3N)) xe1N (PySem.W.mg_of X G y3N) (by decide) y3Dxe1 y3T y3O y3Sxe1) xe0N (PySem.W.mg_of X G y3N) (by decide) y3Dxe0 y3T y3O y3Sxe0)⟩
 refine⟨PySem.W.fnOf "law" "law" (x6h (top 58)) (x32 (top 58)) (x0a (top 58)) .none kV44 dc44 pm44 an44 cd44 ct44,fun s v=>.of_eq rfl,fun base KX NG L=>?_⟩
 have E_row_of_least:∀ base:Heap,Cal l.prog w K mg base 1 "row_of_least" 1 x2u:=fun base=>x75 B (A1.at fun _ _ _ _ _ _ _ h=>by obtain⟨_,rfl⟩:=L3.j75 h;rfl)
 have E_least_of:∀ base:Heap,Cal l.prog w K mg base 2 "least_of" 1 x3g:=fun base=>y2l B (E_row_of_least base) (A2.at fun _ _ _ _ _ _ _ h=>by obtain⟨_,rfl⟩:=L3.j75 h;rfl)
 have E_joined_all:∀ base:Heap,Cal l.prog w K mg base 3 "joined_all" 2 x23:=fun base=>x91 B (E_least_of base) (A3.at fun _ _ _ _ _ _ _ h=>by obtain⟨_,_,rfl⟩:=L3.j7j h;rfl)
 have E_is_below:∀ base:Heap,Cal l.prog w K mg base 1 "is_below" 3 x2t:=fun base=>y1y B (A4.at fun _ _ _ _ _ _ _ h=>by obtain⟨_,_,_,rfl⟩:=L3.j7a h;rfl)
 have E_below:∀ base:Heap,Cal l.prog w K mg base 2 "below" 2 x8w:=fun base=>z1l B (E_is_below base) (A5.at fun _ _ _ _ _ _ _ h=>by obtain⟨_,_,rfl⟩:=L3.j7j h;rfl)
 have E_met:∀ base:Heap,Cal l.prog w K mg base 4 "met" 3 y8k:=fun base=>j38 B (E_joined_all base) (E_below base) (E_is_below base) (A6.at fun _ _ _ _ _ _ _ h=>by obtain⟨_,_,_,rfl⟩:=L3.j7a h;rfl)
 have hy_table_of:∃ fn,mg "table_of" = some (.ref fn)/\PySem.W.keepIn K (.ref fn)=true:=by
  obtain⟨f,fd,F,m⟩:=A35
  exact⟨f,m,F.kp⟩
 have hT_table_of:∀ (base:Heap) (ob:D) (G:List D->OD),z6h l.prog w K mg base 5 ob 2 G->Cal l.prog w K mg base 6 "table_of" 2 (x3h ob G):=fun base ob G co=>y7u B co (A35.at fun _ _ _ _ _ _ _ h=>by obtain⟨_,_,rfl⟩:=L3.j7j h;rfl)
 have D_row_of_least:=x75 (P:=l.prog) (w:=w) (base:=base) B (A1.at fun _ _ _ _ _ _ _ h=>by obtain⟨_,rfl⟩:=L3.j75 h;rfl)
 have D_least_of:=y2l B D_row_of_least (A2.at fun _ _ _ _ _ _ _ h=>by obtain⟨_,rfl⟩:=L3.j75 h;rfl)
 have D_joined_all:=x91 B D_least_of (A3.at fun _ _ _ _ _ _ _ h=>by obtain⟨_,_,rfl⟩:=L3.j7j h;rfl)
 have D_is_below:=y1y (P:=l.prog) (w:=w) (base:=base) B (A4.at fun _ _ _ _ _ _ _ h=>by obtain⟨_,_,_,rfl⟩:=L3.j7a h;rfl)
 have D_below:=z1l B D_is_below (A5.at fun _ _ _ _ _ _ _ h=>by obtain⟨_,_,rfl⟩:=L3.j7j h;rfl)
 have D_met:=j38 B D_joined_all D_below D_is_below (A6.at fun _ _ _ _ _ _ _ h=>by obtain⟨_,_,_,rfl⟩:=L3.j7a h;rfl)
 have D__law_cell:=y6a (P:=l.prog) (w:=w) (base:=base) B (A7.at fun _ _ _ _ _ _ _ h=>by obtain⟨_,_,rfl⟩:=L3.j7j h;rfl)
 have D__law_pick:=y5c B D__law_cell (A8.at fun _ _ _ _ _ _ _ h=>by obtain⟨_,_,_,rfl⟩:=L3.j7a h;rfl)
 have D__law_chain:=y56 (P:=l.prog) (w:=w) (base:=base) B (A9.at fun _ _ _ _ _ _ _ h=>by obtain⟨_,rfl⟩:=L3.j75 h;rfl)
 have D__law_couples:=y1b (P:=l.prog) (w:=w) (base:=base) B (A10.at fun _ _ _ _ _ _ _ h=>by obtain⟨_,_,rfl⟩:=L3.j7j h;rfl)
 have D__law_side_by_side:=x7f (P:=l.prog) (w:=w) (base:=base) B (A11.at fun _ _ _ _ _ _ _ h=>by obtain⟨_,rfl⟩:=L3.j75 h;rfl)
 have D__law_base:=y6h B D__law_pick D__law_chain D__law_couples D__law_side_by_side (A12.at fun _ _ _ _ _ _ _ h=>by obtain⟨_,_,rfl⟩:=L3.j7j h;rfl)
 have D__law_ladder:=y3q B D__law_base D__law_pick (A13.at fun _ _ _ _ _ _ _ h=>by obtain⟨_,_,rfl⟩:=L3.j7j h;rfl)
 have D__law_low:=y8n (P:=l.prog) (w:=w) (base:=base) B (A14.at fun _ _ _ _ _ _ _ h=>by obtain⟨_,rfl⟩:=L3.j75 h;rfl)
 have D__law_join:=y5o B D__law_low (A15.at fun _ _ _ _ _ _ _ h=>by obtain⟨_,_,rfl⟩:=L3.j7j h;rfl)
 have D__law_under:=y45 (P:=l.prog) (w:=w) (base:=base) B (A16.at fun _ _ _ _ _ _ _ h=>by obtain⟨_,_,rfl⟩:=L3.j7j h;rfl)
 have D__law_rule:=y64 B D__law_low D__law_pick D__law_join D__law_under (A17.at fun _ _ _ _ _ _ _ h=>by obtain⟨_,_,_,rfl⟩:=L3.j7a h;rfl)
 have D__law_spreads:=y1l (P:=l.prog) (w:=w) (base:=base) B (A18.at fun _ _ _ _ _ _ _ h=>by obtain⟨_,_,rfl⟩:=L3.j7j h;rfl)
 have D__law_spread_rule:=x86 B D__law_rule D__law_spreads D__law_pick (A19.at fun _ _ _ _ _ _ _ h=>by obtain⟨_,_,_,rfl⟩:=L3.j7a h;rfl)
 have D__law_chart:=y4k B D__law_pick D__law_rule D__law_spread_rule (A20.at fun _ _ _ _ _ _ _ h=>by obtain⟨_,_,_,_,rfl⟩:=L3.j7k h;rfl)
 have D__law_word:=y5m (P:=l.prog) (w:=w) (base:=base) B T (A21.at fun _ _ _ _ _ _ _ h=>by obtain⟨_,rfl⟩:=L3.j75 h;rfl)
 have D_is_whole:=y82 (P:=l.prog) (w:=w) (base:=base) B (A22.at fun _ _ _ _ _ _ _ h=>by obtain⟨_,rfl⟩:=L3.j75 h;rfl)
 have D_is_number_of:=y1d B D_is_whole (A23.at fun _ _ _ _ _ _ _ h=>by obtain⟨_,_,rfl⟩:=L3.j7j h;rfl)
 have D_refuse_no_place:=x8v B D_is_number_of (A24.at fun _ _ _ _ _ _ _ h=>by obtain⟨_,_,rfl⟩:=L3.j7j h;rfl)
 have DX_refuse_no_place:=x7o B T D_is_number_of (A24.at fun _ _ _ _ _ _ _ h=>by obtain⟨_,_,rfl⟩:=L3.j7j h;rfl)
 have D_is_named_number:=x90 B D_is_number_of (A25.at fun _ _ _ _ _ _ _ h=>by obtain⟨_,_,rfl⟩:=L3.j7j h;rfl)
 have D_is_step:=z0x B D_is_named_number (A26.at fun _ _ _ _ _ _ _ h=>by obtain⟨_,_,rfl⟩:=L3.j7j h;rfl)
 have D_refuse_no_step:=x9n B D_is_step (A27.at fun _ _ _ _ _ _ _ h=>by obtain⟨_,_,rfl⟩:=L3.j7j h;rfl)
 have D_place_and_worth:=x8p (P:=l.prog) (w:=w) (base:=base) B (A28.at fun _ _ _ _ _ _ _ h=>by obtain⟨_,_,_,rfl⟩:=L3.j7a h;rfl)
 have D_worths_behind:=y14 B D_place_and_worth (A29.at fun _ _ _ _ _ _ _ h=>by obtain⟨_,_,_,_,rfl⟩:=L3.j7k h;rfl)
 have D_risen:=z6k B D_worths_behind (A30.at fun _ _ _ _ _ _ _ h=>by obtain⟨_,_,_,_,rfl⟩:=L3.j7k h;rfl)
 have D_lowest:=z4h B D_least_of (A31.at fun _ _ _ _ _ _ _ h=>by obtain⟨_,_,rfl⟩:=L3.j7j h;rfl)
 have D_least_by:=y8e B D_refuse_no_step D_risen D_lowest (A32.at fun _ _ _ _ _ _ _ h=>by obtain⟨_,_,_,rfl⟩:=L3.j7a h;rfl)
 have D_all_steps:=y6k (P:=l.prog) (w:=w) (base:=base) B (A33.at fun _ _ _ _ _ _ _ h=>by obtain⟨_,rfl⟩:=L3.j75 h;rfl)
 have D_least:=j03 B D_least_by D_all_steps (A34.at fun _ _ _ _ _ _ _ h=>by obtain⟨_,_,rfl⟩:=L3.j7j h;rfl)
 have D_turned:=z3s B L KX NG t_turned hT_table_of hy_table_of E_met (A36.at fun _ _ _ _ _ _ _ h=>by obtain⟨_,rfl⟩:=L3.j75 h;rfl)
 have D_greatest:=y84 B D_least D_turned (A37.at fun _ _ _ _ _ _ _ h=>by obtain⟨_,_,rfl⟩:=L3.j7j h;rfl)
 have D_led_below:=y5n B D_is_below (A38.at fun _ _ _ _ _ _ _ h=>by obtain⟨_,_,_,rfl⟩:=L3.j7a h;rfl)
 have D_greatest_led_below:=x72 B D_led_below D_joined_all (A39.at fun _ _ _ _ _ _ _ h=>by obtain⟨_,_,_,rfl⟩:=L3.j7a h;rfl)
 have D_back_rule:=y5j B D_greatest_led_below (A40.at fun _ _ _ _ _ _ _ h=>by obtain⟨_,_,rfl⟩:=L3.j7j h;rfl)
 have D_whole_back_rule:=x8t B D_back_rule (A41.at fun _ _ _ _ _ _ _ h=>by obtain⟨_,_,rfl⟩:=L3.j7j h;rfl)
 have DX_whole_back_rule:=x82 B T D_back_rule (A41.at fun _ _ _ _ _ _ _ h=>by obtain⟨_,_,rfl⟩:=L3.j7j h;rfl)
 have D_demands:=z0c B D_refuse_no_place D_whole_back_rule D_greatest (A42.at fun _ _ _ _ _ _ _ h=>by obtain⟨_,_,_,_,rfl⟩:=L3.j7k h;rfl)
 have DX_demands:=y7y B T D_whole_back_rule D_refuse_no_place DX_refuse_no_place DX_whole_back_rule (A42.at fun _ _ _ _ _ _ _ h=>by obtain⟨_,_,_,_,rfl⟩:=L3.j7k h;rfl)
 have D__law_tried:=y51 B T D_demands D__law_word DX_demands (A43.at fun _ _ _ _ _ _ _ h=>by obtain⟨_,_,_,_,rfl⟩:=L3.j7k h;rfl)
 exact z8o B D__law_ladder D__law_low D__law_chart D__law_pick D__law_tried D_least D__law_rule D_back_rule (z5w (st:=top 58) l44 c44 k44)
theorem walk {l:PySem.W.OpenLaw}{q:Program}{loose:List Str}{XP:(Str->Option Value)->Heap->Prop}{YP:World->Heap->Prop}{d:DefRec}{K:Params->PySem.W.Frag}(hn:l.most=some 63)(hdf:d.params.defaults=[])
  (hY:∀ (w:World) (h:Heap),YP w h->(K w.params).In h)
  (F:∀ (w:World) (mg:Str->Option Value) (fa:Addr) (h:Heap),(K w.params).In h->h.Ns mainGlobals mg->mg d.name=some (.ref fa)->j4m q (K w.params)/\PySem.W.noTabs (K w.params)=true /\
    ∃ fd:FuncData,(∀ (s:Shared) (u:Value),BindsTo s fd ⟨[u],[]⟩ [("_law_script",u)])/\∀ base:Heap,(K w.params).In base->base.Ns mainGlobals mg->Lm (K w.params) mg base->FnOk l.prog w (K w.params) mg base CX0 11 fa fd ["_law_script"] (spD (K w.params) 1 y8r)) :
  PySem.W.WalkO q loose XP YP l.row.toRowW d [] (fun f vs=>PySem.call f vs):=
 z52 (n:=63) (k:=11) (x:="_law_script") (CX:=fun _=>CX0) (sp:=fun w=>spD (K w.params) 1 y8r) hn (by decide) hdf ⟨rfl,by decide,by decide⟩ hY F (fun _ _ a ns hl tb hS=>j3s law_true hl hS tb) fun _ _ _ _ _ z=>z
end My
namespace PySem.W.Fast
def tw10068550312729565894:=0
def tw10112528022936180515:=0
def tw10127115998526879308:=0
def tw10168824960181897703:=0
def tw10184542608197224053:=0
def tw10206538419876044013:=0
def tw10243223685281573863:=0
def tw1040431218549173641:=0
def tw10412765368762549210:=0
def tw10463337833078429286:=0
def tw1047648468950434188:=0
def tw10512396121500072160:=0
def tw10522295820566163745:=0
def tw10524238841178569364:=0
def tw10573042341967935982:=0
def tw10644661931233597452:=0
def tw10727617853587699397:=0
def tw10760509080896287503:=0
def tw10793504580598281965:=0
def tw10821620063532256936:=0
def tw10943065404783174903:=0
def tw11004205434841238106:=0
def tw11038638342570664281:=0
def tw11163092991328545026:=0
def tw11196179593175376777:=0
def tw11268351867051062508:=0
def tw11272596679610259454:=0
def tw11355168471055306145:=0
def tw11401959437967163548:=0
def tw11451695236759626825:=0
def tw11515548025658125401:=0
def tw11664566149914509053:=0
def tw11703608613006842625:=0
def tw1175642989490781832:=0
def tw11853805226930497177:=0
def tw1191638627515446027:=0
def tw11926889690165919766:=0
def tw11981523900870587964:=0
def tw12104558957832261862:=0
def tw12128567348795438854:=0
def tw12143291081322572285:=0
def tw1216456703352639424:=0
def tw1216707287685971234:=0
def tw12170148787284978534:=0
def tw12206421500879065393:=0
def tw12209439966195760656:=0
def tw12210494594190116064:=0
def tw12261250011350770829:=0
def tw12279769598772868748:=0
def tw12385487713431519871:=0
def tw12445114004066517409:=0
def tw12638679553119837308:=0
def tw12652908524453718715:=0
def tw1268006316638894669:=0
def tw12731898167666620636:=0
def tw12782663472054919781:=0
def tw12794795003070047475:=0
def tw12890291121788789838:=0
def tw12912684863894510017:=0
def tw12941970147874796757:=0
def tw12948329951877255320:=0
def tw12971448197884472769:=0
def tw13061883684171522189:=0
def tw13066628777131659266:=0
def tw13078070544340446757:=0
def tw13179732248962077839:=0
def tw13185443029991693104:=0
def tw13403591759117219215:=0
def tw13489184457097011239:=0
def tw1350592977338522558:=0
def tw13577229270407825155:=0
def tw13605025841107378802:=0
def tw13624296730936007483:=0
def tw13629432332614301012:=0
def tw13741992502074802422:=0
def tw13797805060055782902:=0
def tw13816110066884932199:=0
def tw13872190788404729399:=0
def tw13925563264008568771:=0
def tw13930074311418329313:=0
def tw14009860314460002176:=0
def tw14029255529098605315:=0
def tw14055102348909329546:=0
def tw14061494518458317286:=0
def tw14153875095979743283:=0
def tw14155466025082038098:=0
def tw14164095999013213936:=0
def tw14198380842336621577:=0
def tw14250983848945137409:=0
def tw14261985639899323769:=0
def tw1427977617193666212:=0
def tw14327354138326131725:=0
def tw14330071347892278049:=0
def tw14412566202643706073:=0
def tw14438760613503242746:=0
def tw14515983297565745704:=0
def tw14576544542869021780:=0
def tw14599445340466012403:=0
def tw1461041256072644877:=0
def tw14646377445089405491:=0
def tw14739842996776715986:=0
def tw14812028696708167399:=0
def tw14924062665221116203:=0
def tw14956061756067149889:=0
def tw15000417326474208923:=0
def tw15013730491316906737:=0
def tw15049363572025618948:=0
def tw15111197304074226445:=0
def tw15113705611727461974:=0
def tw15147960220689396247:=0
def tw15164614549177130194:=0
def tw15182188295299795772:=0
def tw15200622642857898473:=0
def tw15203028755616446266:=0
def tw15404884882023084738:=0
def tw15407456866008184725:=0
def tw15481177479360946346:=0
def tw15488109930078769592:=0
def tw15732083249100425713:=0
def tw15751555851034034926:=0
def tw15897394508366765345:=0
def tw15931764858771854093:=0
def tw15986061664510741097:=0
def tw15996720249405670625:=0
def tw16055952760731139623:=0
def tw16090668619490750126:=0
def tw16155515494163179367:=0
def tw16201350948863505314:=0
def tw16206113280186726754:=0
def tw16229660647817875171:=0
def tw16256091951354790897:=0
def tw16337400418072560104:=0
def tw16403590173639141191:=0
def tw1640365281059913472:=0
def tw16420507553345804457:=0
def tw16460774096926860386:=0
def tw16498176621772934624:=0
def tw16508994406724543536:=0
def tw16573451839905377632:=0
def tw16748689829138835877:=0
def tw16776763999604468424:=0
def tw16778309065317000959:=0
def tw16870341367450944648:=0
def tw16914285635614990530:=0
def tw16953073663555264421:=0
def tw16962976727529968588:=0
def tw16989569925166143812:=0
def tw1699695368150478808:=0
def tw17049610913338314580:=0
def tw17066494117408982554:=0
def tw17427878532604775603:=0
def tw17461690481842400172:=0
def tw17490586414718924572:=0
def tw1758446336440697920:=0
def tw17592715508298354468:=0
def tw17626846194960554867:=0
def tw17764171417908490060:=0
def tw17782127993883376615:=0
def tw1780061274934199853:=0
def tw17803354945139512641:=0
def tw1787460204645387104:=0
def tw17889469445299750122:=0
def tw17893405829604261494:=0
def tw17920596662267817916:=0
def tw17980287125975631014:=0
def tw18010333628065199007:=0
def tw18093415866247973136:=0
def tw18117434076905119874:=0
def tw18120710556586528929:=0
def tw18165109010140750856:=0
def tw18169365390621945115:=0
def tw18259873812398453015:=0
def tw18322492047621981276:=0
def tw18335068530422662616:=0
def tw18350177494696606257:=0
def tw18364407257760733036:=0
def tw18370376190770712296:=0
def tw18374126431523381367:=0
def tw18379911824405175483:=0
def tw18394111701973346214:=0
def tw1876154003870400094:=0
def tw1898376482485554855:=0
def tw1903622861082643587:=0
def tw1929348814395639377:=0
def tw2024282508607368751:=0
def tw205082916561799825:=0
def tw2137166144408118625:=0
def tw2142991276609145950:=0
def tw216348956591200321:=0
def tw2217010188543377287:=0
def tw2217865028572946425:=0
def tw2256771892475062451:=0
def tw2290093890539374505:=0
def tw2295048368173076129:=0
def tw2307057210564958965:=0
def tw2334137156686441975:=0
def tw2355041373699174090:=0
def tw2529708814180427490:=0
def tw2566637620243515961:=0
def tw2612844243344818293:=0
def tw2622716540967914689:=0
def tw2682236790981820417:=0
def tw2708288955204165039:=0
def tw2886359512423055210:=0
def tw2894828852751371484:=0
def tw2900173570882983991:=0
def tw2941380142549130783:=0
def tw2949021517125404804:=0
def tw3298806396085229587:=0
def tw3299733399690205602:=0
def tw3330139602253192655:=0
def tw3373694552388547270:=0
def tw3534763401914689758:=0
def tw3558655423116880411:=0
def tw3666902816074925278:=0
def tw3680889901535298879:=0
def tw3688415905879918967:=0
def tw3799247947248203130:=0
def tw3827902203498027131:=0
def tw3841410650097143823:=0
def tw3970464761020833789:=0
def tw3975284282510577575:=0
def tw4070345201561376647:=0
def tw4163830685003029396:=0
def tw4186040544812816007:=0
def tw4343464684476421951:=0
def tw4358428696162709121:=0
def tw4387215603364714057:=0
def tw4406357154428825759:=0
def tw4512117095641844792:=0
def tw4571649011942206569:=0
def tw4646331887070717453:=0
def tw4724863384195914776:=0
def tw4741684021643386784:=0
def tw4746914782011931309:=0
def tw4764035010442542079:=0
def tw4833134158811931576:=0
def tw4835854302619397513:=0
def tw4920574740765762964:=0
def tw496804014993691285:=0
def tw4984367412926093878:=0
def tw5015393556373350578:=0
def tw5094574124280171473:=0
def tw5225734893922392444:=0
def tw5234601915337962984:=0
def tw523672901294192606:=0
def tw5259306846991046552:=0
def tw535394362715997663:=0
def tw536456768591246761:=0
def tw53692069067963559:=0
def tw5394809610558957788:=0
def tw5447379029689212246:=0
def tw5449375967528273699:=0
def tw5484044811795675143:=0
def tw5529454556856490786:=0
def tw5618610011724229944:=0
def tw5671441757158768218:=0
def tw5693501824807175505:=0
def tw5720052345037982176:=0
def tw5748919261427897666:=0
def tw5777132108622283735:=0
def tw578603681669280400:=0
def tw5865956744579917640:=0
def tw5875585422031352034:=0
def tw5888677772247021392:=0
def tw5942896833164651046:=0
def tw6003307851426804766:=0
def tw604582271255768570:=0
def tw6101008871266489069:=0
def tw6123803246673220840:=0
def tw6216565733204933508:=0
def tw6288410624421445168:=0
def tw6344055435840351906:=0
def tw6347694865889140409:=0
def tw6355253422214740781:=0
def tw6362098915194211270:=0
def tw6370312588910506660:=0
def tw6417318926449852579:=0
def tw6478043340337311284:=0
def tw654966068271482426:=0
def tw6567740703442370969:=0
def tw6676902882173948055:=0
def tw6688610129525027980:=0
def tw6698658333053918949:=0
def tw6842247985014755999:=0
def tw6848325809674052093:=0
def tw6933215360057726811:=0
def tw6953217877836116700:=0
def tw6960113943386420957:=0
def tw6966884871718177087:=0
def tw7069004174926805387:=0
def tw7073238082696548991:=0
def tw7078211086746022218:=0
def tw7105434274865697883:=0
def tw71113992364153362:=0
def tw7150095188849291645:=0
def tw7392669714712827661:=0
def tw7475650727499604137:=0
def tw7477052418190661895:=0
def tw7485906844445720912:=0
def tw750241740315371488:=0
def tw7532577158974181161:=0
def tw7607938860482346945:=0
def tw7609721683945652302:=0
def tw7638552067478046650:=0
def tw7650884287535842802:=0
def tw7673275384662802579:=0
def tw7681727176269575248:=0
def tw7695983475304166657:=0
def tw7703108118828345952:=0
def tw7725272274889479278:=0
def tw7853243996994220307:=0
def tw7879245312772193032:=0
def tw7919459892185541844:=0
def tw7941607238997541272:=0
def tw8035308195947797793:=0
def tw8088208208477190002:=0
def tw813009580015691051:=0
def tw8171083400607960784:=0
def tw8172397502549290442:=0
def tw8179024958999988120:=0
def tw8322353034656808063:=0
def tw8371358840265766478:=0
def tw8508612747845941278:=0
def tw8519377004255922332:=0
def tw8520782803361883660:=0
def tw8534547779340126585:=0
def tw8605173975649568075:=0
def tw8645363337560446896:=0
def tw8651395855908114242:=0
def tw8659770168284372047:=0
def tw8677552929407384890:=0
def tw8681930972140446739:=0
def tw8686911748386811733:=0
def tw8723081436783313560:=0
def tw8774843667383551076:=0
def tw8862069591312652071:=0
def tw8941267657491798317:=0
def tw896491641958006887:=0
def tw8976764910323133414:=0
def tw9044867604126784364:=0
def tw9119408585055105690:=0
def tw9126817943980474583:=0
def tw9152696786131796650:=0
def tw9162670569530832866:=0
def tw9181523768323546965:=0
def tw9232754220650519097:=0
def tw9264016754269670168:=0
def tw9333902235979498697:=0
def tw9454678036976514451:=0
def tw9459085522391897127:=0
def tw9464822682662717425:=0
def tw9644018857231450665:=0
def tw9750069528875075861:=0
def tw9750730435175396486:=0
def tw9769184628560275148:=0
def tw978552308024306893:=0
def tw9815244759335462160:=0
def tw9815520872225091552:=0
def tw9860391261195623379:=0
def tw9912383167054550157:=0
def tw9941191089723177454:=0
end PySem.W.Fast
open PySem PySem.W PyProof.Rows
set_option maxRecDepth 100000 in
set_option maxHeartbeats 0 in
theorem PySem.Challenge.cw_ladderhall_k53_whole_demands_holds : PySem.Challenge.rw_ladderhall_k53_whole_demands.Holds := by
  w_on; o_law; k_head; (case hw => w_witness2)
  k_fill
  refine My.walk (l := PySem.Challenge.rw_ladderhall_k53_whole_demands) rfl rfl (fun w h Y => PySem.W.km_in_of Y) ?F
  case F =>
    intro w mg fa h KX G hmg
    refine' ⟨L3.j4m.of ?r1 ?r2 ?r3 ?r4, ?nt, ?al⟩
    (case r1 => exact .inl ⟨_, rfl⟩)
    (case r2 => refine' .inr (L3.j4d ?_); k_is)
    (case r3 => refine' .inr (L3.j4d ?_); k_is)
    (case r4 => refine' .inr (L3.j4d ?_); k_is)
    (case nt => kernel_rfl)
    refine' My.all_mk KX G hmg ?A1 ?A2 ?A3 ?A4 ?A5 ?A6 ?A7 ?A8 ?A9 ?A10 ?A11 ?A12 ?A13 ?A14 ?A15 ?A16 ?A17 ?A18 ?A19 ?A20 ?A21 ?A22 ?A23 ?A24 ?A25 ?A26 ?A27 ?A28 ?A29 ?A30 ?A31 ?A32 ?A33 ?A34 ?A35 ?A36 ?A37 ?A38 ?A39 ?A40 ?A41 ?A42 ?A43 ?a44 ?l44 ?c44 ?k44 ?z1 ?z2 ?z3 ?z4 ?z5 ?z6 ?z7 ?z8 ?z9 ?z10 ?z11 ?z12 ?t_turned ?xrN ?xcg ?xct ?xrg ?xrt ?xrc ?xro ?xrb ?xrT ?xe0N ?xe0g ?xe0t ?xe0c ?xe0o ?xe0b ?xe0V ?xe0n0 ?xe0n1 ?xe0n2 ?xe0n3 ?xe0n4 ?xe0R ?xe0X ?xe1N ?xe1g ?xe1t ?xe1c ?xe1o ?xe1b ?xe1V ?xe1n0 ?xe1n1 ?xe1n2 ?xe1n3 ?xe1n4 ?xe1R ?xe1X ?y0N ?y0O ?y0T ?y0Sxe0 ?y0Dxe0 ?y0Sxe1 ?y0Dxe1 ?y1N ?y1O ?y1T ?y1Sxe0 ?y1Dxe0 ?y1Sxe1 ?y1Dxe1 ?xe0T ?xe0Sxe1 ?xe0Dxe1 ?xe1T ?xe1Sxe0 ?xe1Dxe0 ?y2N ?y2O ?y2T ?y2Sxe0 ?y2Dxe0 ?y2Sxe1 ?y2Dxe1 ?y3N ?y3O ?y3T ?y3Sxe0 ?y3Dxe0 ?y3Sxe1 ?y3Dxe1
    (case A1 | A2 | A3 | A4 | A5 | A6 | A7 | A8 | A9 | A10 | A11 | A12 | A13 | A14 | A15 | A16 | A17 | A18 | A19 | A20 | A21 | A22 | A23 | A24 | A25 | A26 | A27 | A28 | A29 | A30 | A31 | A32 | A33 | A34 | A35 | A36 | A37 | A38 | A39 | A40 | A41 | A42 | A43 => refine' My.A0.mk KX G ?a ?l ?c ?k; (case a => k_is); (case l => k_is); (case c => k_is); (case k => k_is))
    (case a44 => k_is)
    (case l44 => k_is)
    (case c44 => k_is)
    (case k44 => k_is)
    (case z1 => k_is)
    (case z2 => k_is)
    (case z3 => k_is)
    (case z4 => k_is)
    (case z5 => k_is)
    (case z6 => k_is)
    (case z7 => k_is)
    (case z8 => k_is)
    (case z9 => k_is)
    (case z10 => k_is)
    (case z11 => k_is)
    (case z12 => k_is)
    (case t_turned => refine' L3.j6l ?a ?l ?c ?m ?v; (case a => k_is); (case l => k_is); (case c => exact rfl); (case m => k_is); (case v => exact rfl))
    (case xrN => k_is)
    (case xcg => k_is)
    (case xct => k_is)
    (case xrg => k_is)
    (case xrt => k_is)
    (case xrc => k_is)
    (case xro => k_is)
    (case xrb => k_is)
    (case xrT => k_is)
    (case xe0N => k_is)
    (case xe0g => k_is)
    (case xe0t => k_is)
    (case xe0c => k_is)
    (case xe0o => k_is)
    (case xe0b => k_is)
    (case xe0V => k_is)
    (case xe0n0 => k_is)
    (case xe0n1 => k_is)
    (case xe0n2 => k_is)
    (case xe0n3 => k_is)
    (case xe0n4 => k_is)
    (case xe0R => k_is)
    (case xe0X => k_exc)
    (case xe1N => k_is)
    (case xe1g => k_is)
    (case xe1t => k_is)
    (case xe1c => k_is)
    (case xe1o => k_is)
    (case xe1b => k_is)
    (case xe1V => k_is)
    (case xe1n0 => k_is)
    (case xe1n1 => k_is)
    (case xe1n2 => k_is)
    (case xe1n3 => k_is)
    (case xe1n4 => k_is)
    (case xe1R => k_is)
    (case xe1X => k_exc)
    (case y0N => k_is)
    (case y0O => k_is)
    (case y0T => k_is)
    (case y0Sxe0 => k_is)
    (case y0Dxe0 => decide)
    (case y0Sxe1 => k_is)
    (case y0Dxe1 => decide)
    (case y1N => k_is)
    (case y1O => k_is)
    (case y1T => k_is)
    (case y1Sxe0 => k_is)
    (case y1Dxe0 => decide)
    (case y1Sxe1 => k_is)
    (case y1Dxe1 => decide)
    (case xe0T => k_is)
    (case xe0Sxe1 => k_is)
    (case xe0Dxe1 => decide)
    (case xe1T => k_is)
    (case xe1Sxe0 => k_is)
    (case xe1Dxe0 => decide)
    (case y2N => k_is)
    (case y2O => k_is)
    (case y2T => k_is)
    (case y2Sxe0 => k_is)
    (case y2Dxe0 => decide)
    (case y2Sxe1 => k_is)
    (case y2Dxe1 => decide)
    (case y3N => k_is)
    (case y3O => k_is)
    (case y3T => k_is)
    (case y3Sxe0 => k_is)
    (case y3Dxe0 => decide)
    (case y3Sxe1 => k_is)
    (case y3Dxe1 => decide)
