import PyProof.Rows.All
import Wide.All
import OpenK.AllK
import Wide.FinOn
import Lean
import PyProof.EqAt
import PyProof.EqKinds
import PyProof.TupleCall
import KE.KIsNot
import PyProof.ExcArgs
import OpenK.KOwn
import KE.LcSums
import PyProof.EnumMake
import PyProof.Draws
import PyProof.Rows.EnumRows
import PyProof.ExcBaseAll.ValueError
import PyProof.NsDelKeeps
import PyProof.Rows.SetFrom
import PyProof.WalksMore
import PySem.Challenge.RW_ladderhall_k91_whole_mapped
set_option Elab.async false
set_option linter.all false
set_option maxRecDepth 100000
set_option maxHeartbeats 0
namespace L2
open PySem PySem.Spec PyProof.Rows
abbrev Key:=Sum Int Str
def z24:Key->Value->Bool
 | .inl k,v=>Value.isInt k v
 | .inr x,v=>Value.isStrOf x v
def j9t (w:World):Key->Int
 | .inl k=>hashInt k
 | .inr x=>hashStr w x
theorem x31:∀ {k:Key} {v:Value},z24 k v=true->(∃ i t,k=Sum.inl i/\v=Value.int i t)\/(∃ x t,k=Sum.inr x/\v=Value.str x t)
 | .inl i,v,h=>by
  obtain⟨t,e⟩:=Value.isInt_shape (k:=i) (v:=v) h
  exact .inl ⟨i,t,rfl,e⟩
 | .inr x,v,h=>by
  obtain⟨t,e⟩:=Value.isStrOf_shape (x:=x) (v:=v) h
  exact .inr ⟨x,t,rfl,e⟩
theorem z3n (i:Int)(t:Tok):z24 (.inl i) (.int i t)=true:=by simp[z24,Value.isInt]
theorem z4g (x:Str)(t:Tok):z24 (.inr x) (.str x t)=true:=by simp[z24,Value.isStrOf]
theorem j52 (a b:Int):decide ((Sum.inl a:Key)=Sum.inl b)=(a==b):=by
 by_cases e:a=b
 ·subst e;simp
 ·have h:¬ (Sum.inl a:Key)=Sum.inl b:=fun q=>e (Sum.inl.inj q)
  rw[decide_eq_false h]
  exact(beq_eq_false_iff_ne.mpr e).symm
theorem j6z (a b:Str):decide ((Sum.inr a:Key)=Sum.inr b)=decide (a=b):=by
 by_cases e:a=b
 ·subst e;simp
 ·have h:¬ (Sum.inr a:Key)=Sum.inr b:=fun q=>e (Sum.inr.inj q)
  rw[decide_eq_false h,decide_eq_false e]
theorem j3r (a:Int)(b:Str):decide ((Sum.inl a:Key)=Sum.inr b)=false:=decide_eq_false (fun q=>nomatch q)
theorem j4n (a:Str)(b:Int):decide ((Sum.inr a:Key)=Sum.inl b)=false:=decide_eq_false (fun q=>nomatch q)
def x3i (prog:Program)(w:World):PySem.KeyKind prog w Key where
 is:=z24
 hash:=j9t w
 inj:=fun v a b ha hb=>by
  rcases x31 ha with⟨i,t,rfl,rfl⟩|⟨x,t,rfl,rfl⟩
  ·rcases x31 hb with⟨j,u,rfl,e⟩|⟨y,u,rfl,e⟩
   ·injection e with e1 _;rw[e1]
   ·exact nomatch e
  ·rcases x31 hb with⟨j,u,rfl,e⟩|⟨y,u,rfl,e⟩
   ·exact nomatch e
   ·injection e with e1 _;rw[e1]
 byValue:=fun k v h=>by
  rcases x31 h with⟨i,t,rfl,rfl⟩|⟨x,t,rfl,rfl⟩<;>rfl
 pyHash:=fun hv h=>by
  rcases x31 hv with⟨i,t,rfl,rfl⟩|⟨x,t,rfl,rfl⟩
  ·exact wpAny_pyHash_int h
  ·exact wpAny_pyHash_str h
 eqBool:=fun hu hv h=>by
  rcases x31 hu with⟨i,t,rfl,rfl⟩|⟨x,t,rfl,rfl⟩
  ·rcases x31 hv with⟨j,u,rfl,rfl⟩|⟨y,u,rfl,rfl⟩
   ·rw[j52]at h;exact wpAny_eqBool_int h
   ·rw[j3r]at h;exact SeqAt.EqAt.int_str i t y u _ _ _ _ h
  ·rcases x31 hv with⟨j,u,rfl,rfl⟩|⟨y,u,rfl,rfl⟩
   ·rw[j4n]at h;exact SeqAt.EqAt.str_int x t j u _ _ _ _ h
   ·rw[j6z]at h;exact wpAny_eqBool_str h
 «strs»:=fun k x t v h=>by
  rcases x31 h with⟨i,u,rfl,e⟩|⟨y,u,rfl,e⟩
  ·exact nomatch e
  ·injection e with e1 _
   subst e1
   cases v<;>rfl
theorem y8o (prog:Program)(w:World)(i:Int)(t:Tok):(x3i prog w).is (.inl i) (.int i t)=true:=z3n i t
theorem y9p (prog:Program)(w:World)(x:Str)(t:Tok):(x3i prog w).is (.inr x) (.str x t)=true:=z4g x t
inductive V where
 | non|bl (b:Bool)|int (i:Int)|str (x:Str)|byt (b:Array UInt8)|flt (b:UInt64)|ref (a:Addr)|ty (n:String)
 deriving DecidableEq
def x4g:V->Value->Prop
 | .non,u=>u=Value.none
 | .bl b,u=>u=Value.bool b
 | .int i,u=>∃ t,u=Value.int i t
 | .str x,u=>∃ t,u=Value.str x t
 | .byt b,u=>∃ t,u=Value.bytes b t
 | .flt b,u=>∃ t,u=Value.float b t
 | .ref a,u=>u=Value.ref a
 | .ty n,u=>u=Value.type n
abbrev x37:List V->List Value->Prop:=Paired x4g
theorem x37.length {xs:List V}{us:List Value}(r:x37 xs us):xs.length=us.length:=Paired.length r
theorem x37.get:∀ {xs:List V} {us:List Value} {i:Nat} {x:V},x37 xs us->xs[i]? = some x->∃ u,us[i]? = some u/\x4g x u
 | _,_,_,_,.nil,e=>by simp at e
 | _,_,0,_,.cons r _,e=>by simp at e;subst e;exact⟨_,rfl,r⟩
 | _,_,i+1,x,.cons _ t,e=>by
  obtain⟨u,h1,h2⟩:=x37.get (i:=i) (x:=x) t (by simpa using e)
  exact⟨u,by simpa using h1,h2⟩
theorem x37.set {x:V}{u:Value}(r:x4g x u):∀ {xs:List V} {us:List Value} (i:Nat),x37 xs us->x37 (xs.set i x) (us.set i u)
 | _,_,_,.nil=>.nil
 | _,_,0,.cons _ t=>.cons r t
 | _,_,i+1,.cons q t=>.cons q (x37.set r i t)
theorem x37.append:∀ {xs ys:List V} {us ws:List Value},x37 xs us->x37 ys ws->x37 (xs++ys) (us++ws)
 | _,_,_,_,.nil,s=>s
 | _,_,_,_,.cons r t,s=>.cons r (x37.append t s)
theorem x37.take:∀ {xs:List V} {us:List Value} (n:Nat),x37 xs us->x37 (xs.take n) (us.take n)
 | _,_,0,_=>.nil
 | _,_,_+1,.nil=>.nil
 | _,_,n+1,.cons r t=>.cons r (x37.take n t)
theorem x37.drop:∀ {xs:List V} {us:List Value} (n:Nat),x37 xs us->x37 (xs.drop n) (us.drop n)
 | _,_,0,r=>r
 | _,_,_+1,.nil=>.nil
 | _,_,n+1,.cons _ t=>x37.drop n t
def j1i:Option V->Option Value->Prop
 | some v,some u=>x4g v u
 | none,none=>True
 | _,_=>False
def KV {κ:Type}:List (κ×V)->List (κ×Value)->Prop:=Paired fun(p:κ×V) (q:κ×Value)=>p.1=q.1/\x4g p.2 q.2
def kV:Key->V
 | .inl i=>.int i
 | .inr x=>.str x
inductive HO where
 /-- a list -/
 | lst (xs:List V)
 /-- a tuple (never changes) -/
 | tup (xs:List V)
 /-- a dict whose keys are ints and texts;one whose keys are tuples of ints and texts (the empty one is both) -/
 | dK (kvs:List (Key×V))|dT (kvs:List (List Key×V))
 /-- a set of ints: its members,its size -/
 | set (S:Int->Bool) (n:Nat)
 /-- an instance of the class at C,its dict at dx,its attributes -/
 | ins (C dx:Addr) (fs:List (Str×V))
 /-- the dict of the instance at x -/
 | own (x:Addr)
 /-- the dict of an exception -/
 | xd (fs:List (Str×V))
 /-- a bound method,f of x -/
 | met (f x:Addr)
 /-- a range object lo,lo+1,.. below hi -/
 | rng (lo hi:Int)
 /-- a thing that is known to the object (the script;a dict while a loop walks it): read,never written while it is so -/
 | frz (o:Obj) (u:HO)
 /-- a code object's table -/
 | tbl (ps:Array Value)
 /-- any other thing,by what is true of its one object (a def of one's own: SetO a S n:=HO.ext fun h=>..) -/
 | ext (φ:Heap->Prop)
abbrev Hp:=Addr->Option HO
def upd (H:Hp)(a:Addr)(o:HO):Hp:=fun b=>if b=a then some o else H b
theorem x1z {H:Hp}{a:Addr}{o:HO}:upd H a o a=some o:=by unfold upd;rw[if_pos rfl]
theorem x0y {H:Hp}{a b:Addr}{o:HO}(h:b≠a):upd H a o b=H b:=by unfold upd;rw[if_neg h]
theorem j0y {H:Hp}{a:Addr}{o u:HO}:upd (upd H a o) a u=upd H a u:=by
 funext b;unfold upd;split<;>rfl
theorem x1r {H:Hp}{a b:Addr}{o:HO}(h:H a=some o)(h':H b=none):a≠b:=by
 intro e;subst e;rw[h]at h';cases h'
def x5n (h:Heap)(a:Addr)(items:Array Value):Prop:=∃ o,h.get? a=some o/\o.cls=.type "tuple" /\ (∃ n,o.data=.seq items n)/\o.dict=none
theorem x5n.tup {h:Heap}{a:Addr}{items:Array Value}(x:x5n h a items):IsTup h a items:=let ⟨o,e,c,n,_⟩:=x;⟨o,e,c,n⟩
theorem x5n.new (h:Heap)(items:Array Value):x5n (h.push { cls:=.type "tuple",data:=.seq items }) h.objs.size items:=⟨_,Heap.get?_push_size _ rfl,rfl,⟨_,rfl⟩,rfl⟩
theorem x5n.lt {h:Heap}{a:Addr}{items:Array Value}(x:x5n h a items):a<h.objs.size:=let ⟨_,e,_⟩:=x;Heap.lt_size e
section
variable (P:Program)(w:World)
def x32 (H:Hp)(h:Heap)(a:Addr):HO->Prop
 | .lst xs=>xs.length<=sizeLine/\∃ (its:List Value) (n:Nat),x37 xs its/\h.get? a=some { cls:=.type "list",data:=.seq its.toArray n }
 | .tup xs=>xs.length<=sizeLine/\∃ its:List Value,x37 xs its/\x5n h a its.toArray
 | .dK kvs=>kvs.length<=sizeLine/\(a==sysModules)=false/\∃ vs,KV kvs vs/\h.DictOf (x3i P w) a vs
 | .dT kvs=>kvs.length<=sizeLine/\(a==sysModules)=false/\∃ xs:List (List Key×Addr×Value),
   Paired (fun(p:List Key×V) (q:List Key×Addr×Value)=>p.1=q.1/\H q.2.1=some (.tup (p.1.map kV))/\x4g p.2 q.2.2) kvs xs /\
   ∃ o es ep,h.get? a=some o/\o.ExactDict/\o.data=.dict es ep/\es.toList=xs.map (entryOfKey (tupleKind (x3i P w)))/\(xs.map (·.1)).Nodup
 | .set S n=>h.SetOf (intKind P w) a S n
 | .ins C dx fs=>H dx=some (.own a)/\fs.length<=1000/\dx≠a/\h.get? a=some (PySem.W.instObj C dx) /\
   ∃ mA,h.Ns1 dx mA/\(∀ f,j1i (fs.lookup f) (mA f))/\PySem.Within mA (fs.map (·.1))
 | .own _=>∃ o,h.get? a=some o
 | .xd fs=>∃ mA,h.Ns1 a mA/\∀ f,j1i (fs.lookup f) (mA f)
 | .rng lo hi=>∃ t u v,h.get? a=some { cls:=.type "range",data:=.fields #[.int lo t,.int hi u,.int 1 v] }
 | .frz o u=>h.get? a=some o/\x32 H h a u
 | .tbl ps=>h.get? a=some { cls:=.none,data:=.fields ps }
 | .met f x=>h.get? a=some (PySem.W.methodObj (.ref f) (.ref x))
 | .ext φ=>φ h/\(∃ o,h.get? a=some o)/\∀ h1 h2:Heap,φ h1->(∀ o,h1.get? a=some o->h2.get? a=some o)->φ h2
def HOk (H:Hp)(h:Heap):Prop:=∀ a o,H a=some o->x32 P w H h a o
end
section
variable {P:Program}{w:World}{H H':Hp}{h h':Heap}{a:Addr}{o:HO}
theorem x32.lt (x:x32 P w H h a o):a<h.objs.size:=by
 cases o with
 | lst xs=>obtain⟨_,_,_,_,e⟩:=x;exact Heap.lt_size e
 | tup xs=>obtain⟨_,_,_,p⟩:=x;exact p.lt
 | dK kvs=>obtain⟨_,_,_,_,o,_,_,e,_⟩:=x;exact Heap.lt_size e
 | dT kvs=>obtain⟨_,_,_,_,o,_,_,e,_⟩:=x;exact Heap.lt_size e
 | set S n=>obtain⟨o,_,_,_,e,_⟩:=x;exact Heap.lt_size e
 | ins C dx fs=>obtain⟨_,_,_,e,_⟩:=x;exact Heap.lt_size e
 | own y=>obtain⟨_,e⟩:=x;exact Heap.lt_size e
 | xd fs=>obtain⟨_,⟨_,_,_,e,_⟩,_⟩:=x;exact Heap.lt_size e
 | rng lo hi=>obtain⟨_,_,_,e⟩:=x;exact Heap.lt_size e
 | frz ob u=>obtain⟨e,_⟩:=x;exact Heap.lt_size e
 | tbl ps=>exact Heap.lt_size (show h.get? a=some _ from x)
 | met f y=>exact Heap.lt_size (show h.get? a=some _ from x)
 | ext φ=>obtain⟨_,⟨_,e⟩,_⟩:=x;exact Heap.lt_size e
theorem Paired.mapP {α β:Type}{F G:α->β->Prop}:∀ {l₁:List α} {l₂:List β},Paired F l₁ l₂->(∀ a b,F a b->G a b)->Paired G l₁ l₂
 | _,_,.nil,_=>.nil
 | _,_,.cons r t,f=>.cons (f _ _ r) (Paired.mapP t f)
theorem x32.stay (x:x32 P w H h a o)(k:∀ b u,(b=a\/H b=some (.own a))->h.get? b=some u->h'.get? b=some u)
  (ho:∀ b,H b=some (.own a)->H' b=some (.own a)) (ht:∀ b xs,H b=some (.tup xs)->H' b=some (.tup xs)):x32 P w H' h' a o:=by
 induction o with
 | lst xs=>obtain⟨z,its,n,r,e⟩:=x;exact⟨z,its,n,r,k _ _ (.inl rfl) e⟩
 | tup xs=>obtain⟨z,its,r,ob,e,c⟩:=x;exact⟨z,its,r,ob,k _ _ (.inl rfl) e,c⟩
 | dK kvs=>obtain⟨z,y,vs,r,ob,es,ep,e,c⟩:=x;exact⟨z,y,vs,r,ob,es,ep,k _ _ (.inl rfl) e,c⟩
 | dT kvs=>
  obtain⟨z,y,xs,r,ob,es,ep,e,c⟩:=x
  exact⟨z,y,xs,Paired.mapP r fun p q z=>⟨z.1,ht _ _ z.2.1,z.2.2⟩,ob,es,ep,k _ _ (.inl rfl) e,c⟩
 | set S n=>obtain⟨ob,es,ep,t,e,c⟩:=x;exact⟨ob,es,ep,t,k _ _ (.inl rfl) e,c⟩
 | ins C dx fs=>
  obtain⟨d,z,ne,e,mA,⟨od,es,ep,e2,c⟩,r⟩:=x
  exact⟨ho _ d,z,ne,k _ _ (.inl rfl) e,mA,⟨od,es,ep,k _ _ (.inr d) e2,c⟩,r⟩
 | own y=>obtain⟨ob,e⟩:=x;exact⟨ob,k _ _ (.inl rfl) e⟩
 | xd fs=>obtain⟨mA,⟨od,es,ep,e,c⟩,r⟩:=x;exact⟨mA,⟨od,es,ep,k _ _ (.inl rfl) e,c⟩,r⟩
 | rng lo hi=>obtain⟨t,u,v,e⟩:=x;exact⟨t,u,v,k _ _ (.inl rfl) e⟩
 | frz ob u ih=>obtain⟨e,q⟩:=x;exact⟨k _ _ (.inl rfl) e,ih q⟩
 | tbl ps=>
  have e:h.get? a=some { cls:=.none,data:=.fields ps }:=x
  show h'.get? a=some { cls:=.none,data:=.fields ps }
  exact k a _ (.inl rfl) e
 | met f y=>
  have e:h.get? a=some (PySem.W.methodObj (.ref f) (.ref y)):=x
  show h'.get? a=some (PySem.W.methodObj (.ref f) (.ref y))
  exact k a _ (.inl rfl) e
 | ext φ=>obtain⟨p,⟨o,e⟩,st⟩:=x;exact⟨st _ _ p fun o q=>k _ _ (.inl rfl) q,⟨o,k _ _ (.inl rfl) e⟩,st⟩
theorem HOk.lt (x:HOk P w H h)(e:H a=some o):a<h.objs.size:=(x a o e).lt
theorem HOk.fresh (x:HOk P w H h)(e:h.objs.size<=a):H a=none:=by
 cases q:H a with
 | none=>rfl
 | some u=>exact absurd (Nat.lt_of_lt_of_le (x.lt q) e) (Nat.lt_irrefl _)
theorem HOk.kept (x:HOk P w H h)(k:∀ b u,h.get? b=some u->h'.get? b=some u):HOk P w H h':=fun a o e=>
 (x a o e).stay (fun b u _ q=>k b u q) (fun _ q=>q) fun _ _ q=>q
theorem HOk.laid (x:HOk P w H h)(k:∀ b u,h.get? b=some u->h'.get? b=some u)(hp:h.objs.size<=a)(new:x32 P w (upd H a o) h' a o):HOk P w (upd H a o) h':=fun b u e=>by
 have hn:=x.fresh hp
 by_cases hb:b=a
 ·subst hb;rw[x1z]at e;cases e;exact new
 ·rw[x0y hb]at e
  exact(x b u e).stay (fun c v _ q=>k c v q) (fun c q=>by rw[x0y (x1r q hn)];exact q) fun c xs q=>by rw[x0y (x1r q hn)];exact q
end
def Rd (H:Hp)(a:Addr)(u:HO):Prop:=H a=some u\/∃ o,H a=some (.frz o u)
theorem Rd.of {H:Hp}{a:Addr}{u:HO}(h:H a=some u):Rd H a u:=.inl h
theorem Rd.ok {P:Program}{w:World}{H:Hp}{h:Heap}{a:Addr}{u:HO}(r:Rd H a u)(x:HOk P w H h):x32 P w H h a u:=by
 rcases r with r|⟨o,r⟩
 ·exact x a u r
 ·obtain⟨_,q⟩:=x a _ r
  exact q
def Mut:Option HO->Prop
 | some (.lst _)=>True
 | some (.dK _)=>True
 | some (.dT _)=>True
 | some (.set _ _)=>True
 | some (.ins _ _ _)=>True
 | some (.ext _)=>True
 | _=>False
section
variable {P:Program}{w:World}{H:Hp}{h h':Heap}{x e:Addr}{o':HO}
theorem HOk.write (ok:HOk P w H h)(mu:Mut (H x))(he:e=x\/H e=some (.own x))(k:∀ b u,b≠e->h.get? b=some u->h'.get? b=some u)(heo:∃ u,h'.get? e=some u)
  (new:x32 P w (upd H x o') h' x o'):HOk P w (upd H x o') h':=fun b u q=>by
 have nown:∀ c y,H c=some (.own y)->c≠x:=fun c y r z=>by subst z;rw[r]at mu;exact mu
 have ntup:∀ c xs,H c=some (.tup xs)->c≠x:=fun c xs r z=>by subst z;rw[r]at mu;exact mu
 by_cases hb:b=x
 ·subst hb;rw[x1z]at q;cases q;exact new
 ·rw[x0y hb]at q
  by_cases hbe:b=e
  ·have q':H b=some (.own x):=by
    rcases he with z|z
    ·exact absurd (hbe.trans z) hb
    ·rw[hbe];exact z
   rw[q]at q';cases q'
   obtain⟨v,hv⟩:=heo
   exact⟨v,by rw[hbe];exact hv⟩
  ·refine(ok b u q).stay (fun c v hc r=>k c v ?_ r) (fun c r=>by rw[x0y (nown c b r)];exact r) fun c xs r=>by rw[x0y (ntup c xs r)];exact r
   rcases hc with rfl|hc
   ·exact hbe
   ·rintro rfl
    rcases he with z|z
    ·exact nown c b hc z
    ·rw[hc]at z;cases z;exact hb rfl
end
structure Un (fs ex:List Addr) (H H':Hp) (h h':Heap):Prop where
 keep:∀ b o,h.get? b=some o->H b=none->b ∉ fs->b ∉ ex->h'.get? b=some o
 slot:∀ b o,h.get? b=some o->H b=none->b∈fs->b ∉ ex->∃ sl,h'.get? b=some { o with slots:=sl }
 free:∀ b o,h.get? b=some o->H b=none->b ∉ ex->H' b=none
 there:∀ b o,h.get? b=some o->b ∉ ex->∃ o',h'.get? b=some o'
 tups:∀ b xs,H b=some (.tup xs)->H' b=some (.tup xs)
 frzs:∀ b o u,H b=some (.frz o u)->H' b=some (.frz o u)
 tbls:∀ b ps,H b=some (.tbl ps)->∃ more,H' b=some (.tbl (ps++more))
section
variable {fs fs' ex ex':List Addr}{H H1 H2:Hp}{h h1 h2 h':Heap}{a x e:Addr}{o:HO}
theorem Un.any (u:Un fs ex H H1 h h1){b:Addr}{ob:Obj}(q:h.get? b=some ob)(n:H b=none)(hx:b ∉ ex):∃ sl,h1.get? b=some { ob with slots:=sl }:=by
 by_cases hb:b∈fs
 ·exact u.slot b ob q n hb hx
 ·exact⟨ob.slots,u.keep b ob q n hb hx⟩
theorem Un.kept (k:∀ b u,h.get? b=some u->h'.get? b=some u):Un fs ex H H h h':=
 ⟨fun b ob q _ _ _=>k b ob q,fun b ob q _ _ _=>⟨ob.slots,k b ob q⟩,fun _ _ _ n _=>n,fun b ob q _=>⟨ob,k b ob q⟩,fun _ _ q=>q,fun _ _ _ q=>q,fun _ ps q=>⟨#[],by rw[q];simp⟩⟩
theorem Un.refl:Un fs ex H H h h:=Un.kept fun _ _ q=>q
theorem Un.laid (k:∀ b u,h.get? b=some u->h'.get? b=some u)(hp:h.objs.size<=a)(hn:H a=none):Un fs ex H (upd H a o) h h' where
 keep:=fun b u q _ _ _=>k b u q
 slot:=fun b u q _ _ _=>⟨u.slots,k b u q⟩
 free:=fun b u q n _=>by rw[x0y (Nat.ne_of_lt (Nat.lt_of_lt_of_le (Heap.lt_size q) hp))];exact n
 there:=fun b u q _=>⟨u,k b u q⟩
 tups:=fun b xs q=>by rw[x0y (x1r q hn)];exact q
 frzs:=fun b u xs q=>by rw[x0y (x1r q hn)];exact q
 tbls:=fun b ps q=>⟨#[],by rw[x0y (x1r q hn),q];simp⟩
theorem Un.write (mu:Mut (H x))(he:e=x\/H e=some (.own x))(k:∀ b u,b≠e->h.get? b=some u->h'.get? b=some u)(heo:∃ u,h'.get? e=some u):Un fs ex H (upd H x o) h h':=by
 have hx:∀ b,H b=none->b≠x:=fun b n z=>by subst z;rw[n]at mu;exact mu
 have hb:∀ b,H b=none->b≠e:=fun b n z=>by
  subst z
  rcases he with r|r
  ·exact hx b n r
  ·rw[n]at r;cases r
 have hm:∀ b u,H b=some u->¬ Mut (some u)->b≠x:=fun b u q nm z=>by subst z;rw[q]at mu;exact nm mu
 refine⟨fun b u q n _ _=>k b u (hb b n) q,fun b u q n _ _=>⟨u.slots,k b u (hb b n) q⟩,fun b u q n _=>by rw[x0y (hx b n)];exact n,fun b u q _=>?_,
  fun b xs q=>by rw[x0y (hm b _ q fun z=>z)];exact q,fun b u xs q=>by rw[x0y (hm b _ q fun z=>z)];exact q,fun b ps q=>⟨#[],by rw[x0y (hm b _ q fun z=>z),q];simp⟩⟩
 by_cases hbe:b=e
 ·subst hbe;exact heo
 ·exact⟨u,k b u hbe q⟩
end
def trk (h:Heap)(H:Hp):List Addr:=(List.range h.objs.size).filter fun a=>(H a).isSome
def z5y (h:Heap)(H:Hp):Heap:=PySem.W.hideAll h (trk h H)
theorem z59 (h:Heap)(H:Hp):(z5y h H).objs.size=h.objs.size:=PySem.W.hideAll_size _ _
theorem z6t {h:Heap}{H:Hp}{b:Addr}{o:Obj}(e:h.get? b=some o)(n:H b=none):(z5y h H).get? b=some o:=
 PySem.W.hideAll_get _ e fun hm=>by
  have q:(H b).isSome=true:=(List.mem_filter.mp hm).2
  rw[n]at q;simp at q
theorem j1d {h:Heap}{H:Hp}{b:Addr}{o:Obj}(e:(z5y h H).get? b=some o):h.get? b=some o/\H b=none:=by
 have e':h.get? b=some o:=PySem.W.of_hideAll (trk h H) e
 refine⟨e',?_⟩
 cases q:H b with
 | none=>rfl
 | some x=>
  have hm:b∈trk h H:=List.mem_filter.mpr ⟨List.mem_range.mpr (Heap.lt_size e'),by simp[q]⟩
  have z:(z5y h H).get? b=none:=PySem.W.hideAll_none (trk h H) hm
  rw[z]at e;cases e
def j1q (g h:Heap)(L:Addr):List (Addr×Obj):=(List.range h.objs.size).filterMap fun a=>if a=L\/(g.get? a).isSome=true then none else(h.get? a).map fun o=>(a,o)
def x2j (g h:Heap)(L d:Addr):List (Addr×Obj):=(j1q g h L).filter fun p=>decide (p.1≠d)
structure Mod (K:PySem.W.Frag) (mg:Str->Option Value) (base:Heap):Prop where
 kin:K.In base
 glob:base.Ns mainGlobals mg
 blt:∃ mb,base.Ns builtinsNs mb/\∀ x:Str,x ≠ "__name__"->mb x=bootBuiltins x
 nolimit:base.NoLimit
structure Cx where
 prog:Program
 w:World
 K:PySem.W.Frag
 mg:Str->Option Value
 base:Heap
 A:Around
 N:List Str
 s₀:Shared
 H₀:Hp
 env:Env
 outer:List Env
 stack:List Env
 ex:List Addr
 fn:Str->Bool
 calm:Bool
 pn:List (Addr×Obj)
 xe:Value->Shared->Prop
def frs (l:List Env):List Addr:=l.filterMap (·.frame)
abbrev Cx.fs (X:Cx):List Addr:=frs X.outer
def Vis (sc:Scope)(x:Str):Prop:=sc.names.lookup x=some .local\/sc.names.lookup x=some .cell\/sc.names.lookup x=some .free
def Loc (sc:Scope)(x:Str):Prop:=sc.names.lookup x=some .local\/sc.names.lookup x=some .cell
def j9f (env:Env)(h:Heap)(m:Str->Option Value)(x:Str)(u:Value):Prop:=
 (env.kindOf x=some .local/\m x=some u)\/((env.kindOf x=some .cell\/env.kindOf x=some .free)/\∃ c,env.cells.lookup x=some c/\h.IsCell c (some u))
structure Cx.Ok (X:Cx):Prop where
 mod:Mod X.K X.mg X.base
 kind:X.env.scope.kind=.function
 glob:X.env.globals=mainGlobals
 blt:X.env.builtins=builtinsNs
 above:X.s₀.heap.objs.size<=X.env.locals
 inj:∀ x y c,X.env.cells.lookup x=some c->X.env.cells.lookup y=some c->x=y
 has:∀ x,(X.env.kindOf x=some .cell\/X.env.kindOf x=some .free)->∃ c,X.env.cells.lookup x=some c
 cab:∀ x c,X.fn x=true->X.env.cells.lookup x=some c->X.s₀.heap.objs.size<=c
 hd:X.calm=true->X.A.handled=none
 frames:X.A.frames=some X.stack
 stk:X.stack=X.outer\/(X.stack=X.env::X.outer/\X.env.frame=some X.env.locals)
 exf:∀ b∈X.ex,b≠X.env.locals/\∀ x c,X.env.cells.lookup x=some c->c≠b
 bs:∀ b o,X.base.get? b=some o->X.s₀.heap.get? b=some o/\X.H₀ b=none
 bsz:X.base.objs.size<=X.s₀.heap.objs.size
 noex:∀ b o,X.base.get? b=some o->b ∉ X.ex
 exfs:∀ b∈X.ex,b ∉ X.fs
 funs:X.s₀.heap.FunFrames X.base X.outer
 frf:∀ b∈X.fs,X.H₀ b=none
structure Inv (X:Cx) (pins:List (Addr×Obj)) (σ:List (Option V)) (H:Hp) (s:Shared):Prop where
 ok:X.Ok
 os:s.os=X.s₀.os
 bare:AllBare s.gens
 base:Un X.fs X.ex X.H₀ H X.s₀.heap s.heap
 loc:∃ m,s.heap.Ns X.env.locals m/\∀ (i:Nat) (x:Str) (v:V),X.N[i]? = some x->σ[i]? = some (some v)->Vis X.env.scope x->∃ u,x4g v u/\j9f X.env s.heap m x u
 cell:∀ x c,X.env.cells.lookup x=some c->∃ v,s.heap.IsCell c v
 free:H X.env.locals=none
 freeC:∀ x c,X.env.cells.lookup x=some c->H c=none
 pin:∀ p∈X.pn++pins,s.heap.get? p.1=some p.2/\H p.1=none/\p.1≠X.env.locals/\p.1 ∉ X.fs/\∀ v,p.2.data ≠ .cell v
 hok:HOk X.prog X.w H s.heap
 len:σ.length=X.N.length
section
variable {X:Cx}{pins:List (Addr×Obj)}{σ:List (Option V)}{H H':Hp}{s:Shared}{h':Heap}
theorem Cx.Ok.nofr (ok:X.Ok){b:Addr}{o:Obj}(e:X.base.get? b=some o):b ∉ X.fs:=fun hb=>by
 have:=(ok.funs.mem hb).1
 rw[e]at this;cases this
theorem Inv.bs (I:Inv X pins σ H s):∀ b o,X.base.get? b=some o->s.heap.get? b=some o/\H b=none:=fun b o e=>
 ⟨I.base.keep b o (I.ok.bs b o e).1 (I.ok.bs b o e).2 (I.ok.nofr e) (I.ok.noex b o e),I.base.free b o (I.ok.bs b o e).1 (I.ok.bs b o e).2 (I.ok.noex b o e)⟩
theorem Inv.bk (I:Inv X pins σ H s):∀ b o,X.base.get? b=some o->s.heap.get? b=some o:=fun b o e=>(I.bs b o e).1
theorem Inv.mod (I:Inv X pins σ H s):Mod X.K X.mg X.base:=I.ok.mod
theorem Inv.kIn (I:Inv X pins σ H s):X.K.In s.heap:=I.ok.mod.kin.keeps I.bk
theorem Inv.fr (I:Inv X pins σ H s):∃ m,Fr X.base X.env.locals s.heap m:=
 let ⟨m,hn,_⟩:=I.loc
 ⟨m,hn,I.bk,Nat.le_trans I.ok.bsz I.ok.above⟩
theorem Inv.lt (I:Inv X pins σ H s):X.env.locals<s.heap.objs.size:=let ⟨_,hn,_⟩:=I.loc;hn.lt
theorem Inv.sz (I:Inv X pins σ H s):X.s₀.heap.objs.size<=s.heap.objs.size:=Nat.le_trans I.ok.above (Nat.le_of_lt I.lt)
theorem Inv.nofs (I:Inv X pins σ H s){a:Addr}(h:s.heap.objs.size<=a):a ∉ X.fs:=fun hb=>by
 obtain⟨_,o,ho,_⟩:=I.ok.funs.mem hb
 exact absurd (Nat.lt_of_lt_of_le (Heap.lt_size ho) (Nat.le_trans I.sz h)) (Nat.lt_irrefl _)
theorem Inv.cne (I:Inv X pins σ H s):∀ x c,X.env.cells.lookup x=some c->c≠X.env.locals:=fun x c e z=>by
 obtain⟨v,o,ho,hd⟩:=I.cell x c e
 obtain⟨m,⟨o',es,ep,ho',hd',_⟩,_⟩:=I.loc
 rw[z,ho']at ho;cases ho;rw[hd']at hd;cases hd
theorem Inv.funs (I:Inv X pins σ H s):s.heap.FunFrames X.base X.outer:=by
 have all:∀ (l:List Env),(∀ b∈frs l,b∈X.fs)->X.s₀.heap.FunFrames X.base l->s.heap.FunFrames X.base l:=by
  intro l
  induction l with
  | nil=>intro _ _;trivial
  | cons env r ih=>
   intro hs hl
   obtain⟨hk,⟨L,o,hf,hn,ho,hd⟩,hr⟩:=hl
   have hL:L∈X.fs:=hs L (by unfold frs;rw[List.filterMap_cons,hf];exact List.mem_cons_self)
   obtain⟨sl,e⟩:=I.base.slot L o ho (I.ok.frf L hL) hL fun z=>I.ok.exfs L z hL
   exact⟨hk,⟨L,_,hf,hn,e,hd⟩,ih (fun b hb=>hs b (by unfold frs;rw[List.filterMap_cons,hf];exact List.mem_cons_of_mem _ hb)) hr⟩
 exact all X.outer (fun _ hb=>hb) I.ok.funs
theorem Inv.stack (I:Inv X pins σ H s):s.heap.FunFrames X.base X.stack:=by
 rcases I.ok.stk with e|⟨e,hf⟩
 ·rw[e];exact I.funs
 ·rw[e]
  obtain⟨m,hn,_⟩:=I.loc
  refine .cons (by rw[I.ok.kind];decide) hf hn ?_ I.funs
  exact Heap.get?_none_of_le (Nat.le_trans I.ok.bsz I.ok.above)
theorem Inv.stkSub (I:Inv X pins σ H s):∀ b∈frs X.stack,b∈X.env.locals::X.fs:=fun b hb=>by
 rcases I.ok.stk with e|⟨e,hf⟩
 ·rw[e]at hb;exact List.mem_cons_of_mem _ hb
 ·rw[e]at hb
  unfold frs at hb
  rw[List.filterMap_cons,hf]at hb
  exact hb
theorem Inv.stkFree (I:Inv X pins σ H s):∀ b∈frs X.stack,H b=none:=fun b hb=>by
 rcases List.mem_cons.mp (I.stkSub b hb)with e|hb
 ·rw[e];exact I.free
 ·obtain⟨_,o,ho,_⟩:=I.ok.funs.mem hb
  exact I.base.free b o ho (I.ok.frf b hb) fun z=>I.ok.exfs b z hb
theorem Inv.step {g':Array GenState}{t':Nat}{d':Drawn}{ch:List Addr}(I:Inv X pins σ H s)
  (hch:∀ b∈ch,(b∈X.ex\/X.s₀.heap.objs.size<=b)/\b≠X.env.locals/\(∀ x c,X.env.cells.lookup x=some c->c≠b)/\∀ p∈X.pn++pins,p.1≠b)
  (keep:∀ b o,b≠X.env.locals->b ∉ X.fs->b ∉ ch->s.heap.get? b=some o->H b=none->h'.get? b=some o)
  (slot:∀ b o,b≠X.env.locals->b∈X.fs->b ∉ ch->s.heap.get? b=some o->H b=none->∃ sl,h'.get? b=some { o with slots:=sl }) (free:∀ b o,b ∉ ch->s.heap.get? b=some o->H b=none->H' b=none)
  (there:∀ b o,b ∉ ch->s.heap.get? b=some o->∃ o',h'.get? b=some o')
  (tups:∀ b xs,H b=some (.tup xs)->H' b=some (.tup xs)) (frzs:∀ b o u,H b=some (.frz o u)->H' b=some (.frz o u)) (tbls:∀ b ps,H b=some (.tbl ps)->∃ more,H' b=some (.tbl (ps++more)))
  (ns:∀ m,s.heap.Ns X.env.locals m->h'.Ns X.env.locals m) (hok:HOk X.prog X.w H' h') (hg:AllBare g') :
  Inv X pins σ H' { s with heap:=h',gens:=g',drawn:=d',toks:=t' }:=by
 have neL:∀ b o,X.s₀.heap.get? b=some o->b≠X.env.locals:=fun b o e=>Nat.ne_of_lt (Nat.lt_of_lt_of_le (Heap.lt_size e) I.ok.above)
 have neC:∀ b o,X.s₀.heap.get? b=some o->b ∉ X.ex->b ∉ ch:=fun b o e hx hb=>by
  rcases(hch b hb).1 with z|z
  ·exact hx z
  ·exact absurd (Nat.lt_of_lt_of_le (Heap.lt_size e) z) (Nat.lt_irrefl _)
 have cellK:∀ x c,X.env.cells.lookup x=some c->∀ v,s.heap.IsCell c v->h'.IsCell c v:=fun x c e v hh0=>by
  obtain⟨o,ho,hd⟩:=hh0
  have nch:c ∉ ch:=fun z=>(hch c z).2.2.1 x c e rfl
  by_cases hc:c∈X.fs
  ·obtain⟨sl,q⟩:=slot c o (I.cne x c e) hc nch ho (I.freeC x c e)
   exact⟨_,q,hd⟩
  ·exact⟨o,keep c o (I.cne x c e) hc nch ho (I.freeC x c e),hd⟩
 refine⟨I.ok,I.os,hg,⟨fun b o e n hb hx=>?_,fun b o e n hb hx=>?_,fun b o e n hx=>?_,fun b o e hx=>?_,fun b xs e=>tups b xs (I.base.tups b xs e),fun b o xs e=>frzs b o xs (I.base.frzs b o xs e),fun b ps e=>?_⟩,?_,fun x c e=>?_,?_,fun x c e=>?_,fun p hp=>?_,hok,I.len⟩
 ·exact keep b o (neL b o e) hb (neC b o e hx) (I.base.keep b o e n hb hx) (I.base.free b o e n hx)
 ·obtain⟨sl,e1⟩:=I.base.slot b o e n hb hx
  obtain⟨sl',e2⟩:=slot b _ (neL b o e) hb (neC b o e hx) e1 (I.base.free b o e n hx)
  exact⟨sl',e2⟩
 ·obtain⟨o',e1⟩:=I.base.there b o e hx
  exact free b o' (neC b o e hx) e1 (I.base.free b o e n hx)
 ·obtain⟨o',e1⟩:=I.base.there b o e hx
  exact there b o' (neC b o e hx) e1
 ·obtain⟨m1,e1⟩:=I.base.tbls b ps e
  obtain⟨m2,e2⟩:=tbls b _ e1
  exact⟨m1++m2,by rw[e2,Array.append_assoc]⟩
 ·obtain⟨m,hn,hl⟩:=I.loc
  refine⟨m,ns m hn,fun i x v e1 e2 e3=>?_⟩
  obtain⟨u,r,l⟩:=hl i x v e1 e2 e3
  refine⟨u,r,?_⟩
  rcases l with l|⟨k,c,e,z⟩
  ·exact .inl l
  ·exact .inr ⟨k,c,e,cellK x c e _ z⟩
 ·obtain⟨v,z⟩:=I.cell x c e
  exact⟨v,cellK x c e v z⟩
 ·obtain⟨m,⟨o,_,_,ho,_⟩,_⟩:=I.loc
  exact free _ o (fun z=>(hch _ z).2.1 rfl) ho I.free
 ·obtain⟨v,o,ho,hd⟩:=I.cell x c e
  exact free c o (fun z=>(hch c z).2.2.1 x c e rfl) ho (I.freeC x c e)
 ·obtain⟨e,n,ne,nf,d⟩:=I.pin p hp
  have nch:p.1 ∉ ch:=fun z=>(hch p.1 z).2.2.2 p hp rfl
  exact⟨keep p.1 p.2 ne nf nch e n,free p.1 p.2 nch e n,ne,nf,d⟩
theorem Inv.un {t':Nat}(I:Inv X pins σ H s)(u:Un X.fs [] H H' s.heap h')(hok:HOk X.prog X.w H' h'):Inv X pins σ H' { s with heap:=h',toks:=t' }:=by
 obtain⟨m,⟨o,es,ep,ho,r⟩,_⟩:=id I.loc
 obtain⟨sl,hL⟩:=u.any ho I.free (by simp)
 exact I.step (g':=s.gens) (d':=s.drawn) (ch:=[]) (fun _ z=>nomatch z) (fun b o _ hb _ e n=>u.keep b o e n hb (by simp)) (fun b o _ hb _ e n=>u.slot b o e n hb (by simp)) (fun b o _ e n=>u.free b o e n (by simp)) (fun b o _ e=>u.there b o e (by simp)) u.tups u.frzs u.tbls (fun m' hm=>by
  obtain⟨o',es',ep',ho',r'⟩:=hm
  rw[ho]at ho';cases ho'
  exact⟨_,es',ep',hL,r'⟩) hok I.bare
theorem Inv.call {g':Array GenState}{t':Nat}{d':Drawn}{ch:List Addr}(I:Inv X pins σ H s)(u:Un (frs X.stack) ch H H' s.heap h')(hok:HOk X.prog X.w H' h')(hg:AllBare g')
  (hch:∀ b∈ch,(b∈X.ex\/X.s₀.heap.objs.size<=b)/\b≠X.env.locals/\(∀ x c,X.env.cells.lookup x=some c->c≠b)/\∀ p∈X.pn++pins,p.1≠b) :
  Inv X pins σ H' { s with heap:=h',gens:=g',drawn:=d',toks:=t' }:=by
 obtain⟨m,⟨o,es,ep,ho,r⟩,_⟩:=id I.loc
 obtain⟨sl,hL⟩:=u.any ho I.free fun z=>(hch _ z).2.1 rfl
 exact I.step (ch:=ch) hch (fun b o hL hb hc e n=>u.keep b o e n (fun z=>(List.mem_cons.mp (I.stkSub b z)).elim hL hb) hc) (fun b o _ _ hc e n=>u.any e n hc) (fun b o hc e n=>u.free b o e n hc) (fun b o hc e=>u.there b o e hc) u.tups u.frzs u.tbls (fun m' hm=>by
  obtain⟨o',es',ep',ho',r'⟩:=hm
  rw[ho]at ho';cases ho'
  exact⟨_,es',ep',hL,r'⟩) hok hg
theorem Inv.turned {t':Nat}{it:Addr}(I:Inv X pins σ H s)(k:∀ b o,b≠it->s.heap.get? b=some o->h'.get? b=some o)(hn:H it=none)(hL:it≠X.env.locals)
  (h1:it∈X.ex\/X.s₀.heap.objs.size<=it) (h2:∀ x c,X.env.cells.lookup x=some c->c≠it) (h3:∀ p∈X.pn++pins,p.1≠it):Inv X pins σ H { s with heap:=h',toks:=t' }:=by
 have nit:∀ b u,H b=some u->b≠it:=fun b u e z=>by rw[z,hn]at e;cases e
 refine I.step (g':=s.gens) (d':=s.drawn) (ch:=[it]) (fun b hb=>?_) (fun b o _ _ hc e _=>k b o (fun z=>hc (by simp[z])) e) (fun b o _ _ hc e _=>⟨o.slots,k b o (fun z=>hc (by simp[z])) e⟩) (fun _ _ _ _ n=>n)
  (fun b o hc e=>⟨o,k b o (fun z=>hc (by simp[z])) e⟩) (fun _ _ e=>e) (fun _ _ _ e=>e) (fun b ps e=>⟨#[],by rw[e];simp⟩) (fun m hm=>?_) (fun b u e=>?_) I.bare
 ·have e:b=it:=by simpa using hb
  subst e
  exact⟨h1,hL,h2,h3⟩
 ·obtain⟨o,es,ep,ho,r⟩:=hm
  exact⟨o,es,ep,k _ o (Ne.symm hL) ho,r⟩
 ·refine(I.hok b u e).stay (fun c v hc q=>k c v ?_ q) (fun _ q=>q) fun _ _ q=>q
  rcases hc with z|z
  ·rw[z];exact nit b u e
  ·exact nit c _ z
theorem Inv.tok (I:Inv X pins σ H s)(t:Nat):Inv X pins σ H { s with toks:=t }:=I.un (h':=s.heap) (t':=t) Un.refl I.hok
theorem Inv.kept {t':Nat}(I:Inv X pins σ H s)(k:∀ b u,s.heap.get? b=some u->h'.get? b=some u):Inv X pins σ H { s with heap:=h',toks:=t' }:=I.un (Un.kept k) (I.hok.kept k)
theorem Inv.laid {a:Addr}{o:HO}{t':Nat}(I:Inv X pins σ H s)(k:∀ b u,s.heap.get? b=some u->h'.get? b=some u)(hp:s.heap.objs.size<=a)(new:x32 X.prog X.w (upd H a o) h' a o) :
  Inv X pins σ (upd H a o) { s with heap:=h',toks:=t' }:=I.un (Un.laid k hp (I.hok.fresh hp)) (I.hok.laid k hp new)
theorem Inv.write {x e:Addr}{o:HO}{t':Nat}(I:Inv X pins σ H s)(mu:Mut (H x))(he:e=x\/H e=some (.own x))(k:∀ b u,b≠e->s.heap.get? b=some u->h'.get? b=some u)(heo:∃ u,h'.get? e=some u)
  (new:x32 X.prog X.w (upd H x o) h' x o):Inv X pins σ (upd H x o) { s with heap:=h',toks:=t' }:=I.un (Un.write mu he k heo) (I.hok.write mu he k heo new)
theorem Inv.weak {σ':List (Option V)}(I:Inv X pins σ H s)(hl:σ'.length=σ.length)(w:∀ (i:Nat) v,σ'[i]? = some (some v)->σ[i]? = some (some v)):Inv X pins σ' H s:=
 ⟨I.ok,I.os,I.bare,I.base,let ⟨m,hn,hl'⟩:=I.loc;⟨m,hn,fun i x v e1 e2 e3=>hl' i x v e1 (w i v e2) e3⟩,I.cell,I.free,I.freeC,I.pin,I.hok,hl.trans I.len⟩
theorem Inv.pins_of {pins':List (Addr×Obj)}(I:Inv X pins σ H s)(h:∀ p∈pins',s.heap.get? p.1=some p.2/\H p.1=none/\p.1≠X.env.locals/\p.1 ∉ X.fs/\∀ v,p.2.data ≠ .cell v):Inv X pins' σ H s:=
 ⟨I.ok,I.os,I.bare,I.base,I.loc,I.cell,I.free,I.freeC,fun p hp=>(List.mem_append.mp hp).elim (fun z=>I.pin p (List.mem_append_left _ z)) (h p),I.hok,I.len⟩
theorem y6j {N:List Str}(hN:N.Nodup){i j:Nat}{x:Str}(a:N[i]? = some x)(b:N[j]? = some x):i=j:=by
 obtain⟨h1,e1⟩:=List.getElem?_eq_some_iff.mp a
 obtain⟨h2,e2⟩:=List.getElem?_eq_some_iff.mp b
 exact(List.getElem_inj hN).mp (e1.trans e2.symm)
theorem y7c {M:Model}{A:Around}{E:Value->Shared->Prop}{i:Nat}{x:Str}{v:V}{u:Value}{Q:Unit->Shared->Prop}(I:Inv X pins σ H s)(hN:X.N.Nodup)(hi:X.N[i]? = some x)(hx:Loc X.env.scope x)(r:x4g v u)
  (h:∀ s',Inv X pins (σ.set i (some v)) H s'->(∃ a,Heap.SameBut a s.heap s'.heap/\(a=X.env.locals\/X.env.cells.lookup x=some a))->Q () s') (hf:X.fn x=true\/X.env.scope.names.lookup x=some .local:=by first|exact .inl rfl|exact .inr rfl|assumption):wpAny M A (storeName X.env x u) Q E s:=by
 obtain⟨m,hn,hl⟩:=id I.loc
 have hcls:(X.env.scope.kind == .class||(X.env.scope.kind == .module&&X.env.locals != X.env.globals))=false:=by rw[I.ok.kind];rfl
 have hiσ:i<σ.length:=by rw[I.len];exact(List.getElem?_eq_some_iff.mp hi).1
 have cne:=I.cne
 have tracked:∀ {a:Addr} {h':Heap},(∃ o,s.heap.get? a=some o/\H a=none)->Heap.SameBut a s.heap h'->HOk X.prog X.w H h':=fun {a h'} ha hs b ob e=>by
  obtain⟨_,_,hfree⟩:=ha
  refine(I.hok b ob e).stay (fun c w' hc q=>(hs.2 c ?_).trans q) (fun _ q=>q) fun _ _ q=>q
  rintro rfl
  rcases hc with rfl|hc
  ·rw[hfree]at e;cases e
  ·rw[hfree]at hc;cases hc
 rcases hx with hk|hk
 ·refine wpAny_storeName_local hk hn (fun h' hn' hs=>?_) hcls
  obtain⟨oL,_,_,hoL,_⟩:=id hn
  refine h _ ⟨I.ok,I.os,I.bare,⟨fun b o e n hb hx=>?_,fun b o e n hb hx=>?_,I.base.free,fun b o e hx=>?_,I.base.tups,I.base.frzs,I.base.tbls⟩,⟨_,hn',fun j y v' e1 e2 e3=>?_⟩,fun y c e=>?_,I.free,I.freeC,fun p hp=>?_,tracked ⟨oL,hoL,I.free⟩ hs,by simpa using I.len⟩ ⟨_,hs,.inl rfl⟩
  ·exact(hs.2 b (Nat.ne_of_lt (Nat.lt_of_lt_of_le (Heap.lt_size e) I.ok.above))).trans (I.base.keep b o e n hb hx)
  ·obtain⟨sl,e1⟩:=I.base.slot b o e n hb hx
   exact⟨sl,(hs.2 b (Nat.ne_of_lt (Nat.lt_of_lt_of_le (Heap.lt_size e) I.ok.above))).trans e1⟩
  ·obtain⟨o',e1⟩:=I.base.there b o e hx
   exact⟨o',(hs.2 b (Nat.ne_of_lt (Nat.lt_of_lt_of_le (Heap.lt_size e) I.ok.above))).trans e1⟩
  ·by_cases hj:j=i
   ·subst hj
    rw[hi]at e1;cases e1
    rw[List.getElem?_set_self hiσ]at e2
    cases e2
    exact⟨u,r,.inl ⟨hk,by simp⟩⟩
   ·rw[List.getElem?_set_ne (Ne.symm hj)]at e2
    obtain⟨u',r',q⟩:=hl j y v' e1 e2 e3
    refine⟨u',r',?_⟩
    rcases q with⟨k,e⟩|⟨k,c,e,z⟩
    ·refine .inl ⟨k,?_⟩
     have:y≠x:=fun e=>hj (y6j hN e1 (e ▸ hi))
     simp[this,e]
    ·exact .inr ⟨k,c,e,z.sameBut hs (cne y c e)⟩
  ·obtain⟨w',z⟩:=I.cell y c e
   exact⟨w',z.sameBut hs (cne y c e)⟩
  ·obtain⟨e,n,ne,nf,d⟩:=I.pin p hp
   exact⟨(hs.2 p.1 ne).trans e,n,ne,nf,d⟩
 ·have hfn:X.fn x=true:=by
   rcases hf with z|z
   ·exact z
   ·rw[z]at hk;cases hk
  obtain⟨c,hc⟩:=I.ok.has x (.inl hk)
  obtain⟨w',z⟩:=I.cell x c hc
  refine wpAny_storeName_cell I.ok.kind hk hc z (fun h' hc' hs=>?_)
  obtain⟨oc,hoc,hocd⟩:=id z
  refine h { s with heap:=h' } ⟨I.ok,I.os,I.bare,⟨fun b o e n hb hx=>?_,fun b o e n hb hx=>?_,I.base.free,fun b o e hx=>?_,I.base.tups,I.base.frzs,I.base.tbls⟩,⟨m,hn.sameBut hs (Ne.symm (cne x c hc)),fun j y v' e1 e2 e3=>?_⟩,fun y c' e=>?_,I.free,I.freeC,fun p hp=>?_,tracked ⟨oc,hoc,I.freeC x c hc⟩ hs,by simpa using I.len⟩ ⟨c,hs,.inr hc⟩
  ·exact(hs.2 b (Nat.ne_of_lt (Nat.lt_of_lt_of_le (Heap.lt_size e) (I.ok.cab x c hfn hc)))).trans (I.base.keep b o e n hb hx)
  ·obtain⟨sl,e1⟩:=I.base.slot b o e n hb hx
   exact⟨sl,(hs.2 b (Nat.ne_of_lt (Nat.lt_of_lt_of_le (Heap.lt_size e) (I.ok.cab x c hfn hc)))).trans e1⟩
  ·obtain⟨o',e1⟩:=I.base.there b o e hx
   exact⟨o',(hs.2 b (Nat.ne_of_lt (Nat.lt_of_lt_of_le (Heap.lt_size e) (I.ok.cab x c hfn hc)))).trans e1⟩
  ·by_cases hj:j=i
   ·subst hj
    rw[hi]at e1;cases e1
    rw[List.getElem?_set_self hiσ]at e2
    cases e2
    exact⟨u,r,.inr ⟨.inl hk,c,hc,hc'⟩⟩
   ·rw[List.getElem?_set_ne (Ne.symm hj)]at e2
    obtain⟨u',r',q⟩:=hl j y v' e1 e2 e3
    refine⟨u',r',?_⟩
    rcases q with q|⟨k,c',e,z'⟩
    ·exact .inl q
    ·refine .inr ⟨k,c',e,z'.sameBut hs ?_⟩
     rintro rfl
     exact hj (y6j hN e1 (I.ok.inj _ _ _ e hc ▸ hi))
  ·by_cases hcc:c'=c
   ·subst hcc;exact⟨_,hc'⟩
   ·obtain⟨w2,z2⟩:=I.cell y c' e
    exact⟨w2,z2.sameBut hs hcc⟩
  ·obtain⟨e,n,ne,nf,d⟩:=I.pin p hp
   refine⟨(hs.2 p.1 ?_).trans e,n,ne,nf,d⟩
   intro q
   rw[q,hoc]at e
   have q':oc=p.2:=Option.some.inj e
   exact d w' (by rw[<- q'];exact hocd)
theorem y5h {M:Model}{A:Around}{E:Value->Shared->Prop}{i:Nat}{x:Str}{v:V}{u:Value}{Q:Unit->Shared->Prop}(I:Inv X pins σ H s)(hN:X.N.Nodup)(hi:X.N[i]? = some x)(hx:Loc X.env.scope x)(r:x4g v u)
  (h:∀ s',Inv X pins (σ.set i (some v)) H s'->Q () s') (hf:X.fn x=true\/X.env.scope.names.lookup x=some .local:=by first|exact .inl rfl|exact .inr rfl|assumption):wpAny M A (storeName X.env x u) Q E s:=
 y7c I hN hi hx r (fun s' I' _=>h s' I') hf
theorem Inv.call' {s':Shared}{ch:List Addr}(I:Inv X pins σ H s)(ho:s'.os=s.os)(u:Un (frs X.stack) ch H H' s.heap s'.heap)(hok:HOk X.prog X.w H' s'.heap)(hg:AllBare s'.gens)
  (hch:∀ b∈ch,(b∈X.ex\/X.s₀.heap.objs.size<=b)/\b≠X.env.locals/\(∀ x c,X.env.cells.lookup x=some c->c≠b)/\∀ p∈X.pn++pins,p.1≠b):Inv X pins σ H' s':=by
 obtain⟨h',g',d',t',o'⟩:=s'
 have e:o'=s.os:=ho
 subst e
 exact I.call (g':=g') (t':=t') (d':=d') u hok hg hch
end
abbrev XK:=Value->Option Addr->Hp->Prop
abbrev St:=List (Option V)
abbrev VK:=V->Hp->Prop
abbrev TE:=St->Hp->VK->Prop
abbrev TT:=St->Hp->(Bool->Hp->Prop)->Prop
abbrev TA:=St->Hp->(List V->Hp->Prop)->Prop
structure Ends where
 nx:St->Hp->Prop
 rt:VK
 bk:St->Hp->Prop:=fun _ _=>False
 ct:St->Hp->Prop:=fun _ _=>False
abbrev TS:=Ends->St->Hp->Prop
def EP (X:Cx)(pins:List (Addr×Obj))(σ:St)(Q:VK)(u:Value)(s':Shared):Prop:=∃ v H',Inv X pins σ H' s'/\x4g v u/\Q v H'
def TP (X:Cx)(pins:List (Addr×Obj))(σ:St)(Q:Bool->Hp->Prop)(b:Bool)(s':Shared):Prop:=∃ H',Inv X pins σ H' s'/\Q b H'
def AP (X:Cx)(pins:List (Addr×Obj))(σ:St)(Q:List V->Hp->Prop)(us:List Value)(s':Shared):Prop:=∃ vs H',Inv X pins σ H' s'/\x37 vs us/\Q vs H'
def SP (X:Cx)(pins:List (Addr×Obj))(D:Ends)(f:Flow)(s':Shared):Prop:=
 match f with
 | .next=>∃ σ' H',Inv X pins σ' H' s'/\D.nx σ' H'
 | .brk=>∃ σ' H',Inv X pins σ' H' s'/\D.bk σ' H'
 | .cont=>∃ σ' H',Inv X pins σ' H' s'/\D.ct σ' H'
 | .ret u=>∃ v σ' H',Inv X pins σ' H' s'/\x4g v u/\D.rt v H'
def PE (X:Cx)(e:Expr)(t:TE):Prop:=
 ∀ (pins:List (Addr×Obj)) (s:Shared) (σ:St) (H:Hp) (Q:VK),Inv X pins σ H s->t σ H Q->wpAny (model X.prog X.w) X.A (eval e X.env) (EP X pins σ Q) X.xe s
def PT (X:Cx)(e:Expr)(t:TT):Prop:=
 ∀ (pins:List (Addr×Obj)) (s:Shared) (σ:St) (H:Hp) (Q:Bool->Hp->Prop),Inv X pins σ H s->t σ H Q->wpAny (model X.prog X.w) X.A (isTrue e X.env (eval e X.env)) (TP X pins σ Q) X.xe s
def PW (X:Cx)(e:Expr)(t:TT):Prop:=
 ∀ (whole:Sem Value) (pins:List (Addr×Obj)) (s:Shared) (σ:St) (H:Hp) (Q:Bool->Hp->Prop),Inv X pins σ H s->t σ H Q->wpAny (model X.prog X.w) X.A (isTrue e X.env whole) (TP X pins σ Q) X.xe s
theorem PW.pt {X:Cx}{e:Expr}{t:TT}(h:PW X e t):PT X e t:=h _
def PA (X:Cx)(es:List Expr)(t:TA):Prop:=
 ∀ (pos:Pos) (pins:List (Addr×Obj)) (s:Shared) (σ:St) (H:Hp) (Q:List V->Hp->Prop),Inv X pins σ H s->t σ H Q->wpAny (model X.prog X.w) X.A (spliced (backTo pos (starEach es X.env))) (AP X pins σ Q) X.xe s
def PS (X:Cx)(st:Stmt)(t:TS):Prop:=
 ∀ (pins:List (Addr×Obj)) (s:Shared) (σ:St) (H:Hp) (D:Ends),Inv X pins σ H s->t D σ H->wpAny (model X.prog X.w) X.A (exec st X.env) (SP X pins D) X.xe s
def PSs (X:Cx)(st:List Stmt)(t:TS):Prop:=
 ∀ (pins:List (Addr×Obj)) (s:Shared) (σ:St) (H:Hp) (D:Ends),Inv X pins σ H s->t D σ H->wpAny (model X.prog X.w) X.A (execs st X.env) (SP X pins D) X.xe s
theorem thn {α:Type}{t:Sem α}{Q Q':α->Shared->Prop}{M:Model}{A:Around}{E:Value->Shared->Prop}{s:Shared}(h:wpAny M A t Q E s)(hQ:∀ a s,Q a s->Q' a s):wpAny M A t Q' E s:=wpAny_mono h hQ fun _ _ x=>x
section
variable {X:Cx}
def y0z (i:Nat):TE:=fun σ H Q=>∃ v,σ[i]? = some (some v)/\Q v H
def tC (v:V):TE:=fun _ H Q=>Q v H
theorem j4a {i:Nat}{x:Str}{pos:Pos}(hN:X.N[i]? = some x)(hv:Vis X.env.scope x)(hd:(x==("__debug__":Str))=false:=by decide)(hcd:(x==("__classdict__":Str))=false:=by decide):PE X (.Name x pos) (y0z i):=by
 intro pins s σ H Q I h
 obtain⟨v,e,h⟩:=h
 obtain⟨m,hn,hl⟩:=I.loc
 obtain⟨u,r,l⟩:=hl i x v hN e hv
 have fin:EP X pins σ Q u s:=⟨v,H,I,r,h⟩
 rcases l with⟨hk,hm⟩|⟨hk,c,hc,hcell⟩
 ·exact wpAny_Name (wpAny_loadName_local I.ok.kind hk hn hm fin) hd
 ·rcases hk with hk|hk
  ·exact wpAny_Name (wpAny_loadName_cell I.ok.kind hk hc hcell fin) hd
  ·exact wpAny_Name (wpAny_loadName_free I.ok.kind hk hc hcell fin hcd) hd
theorem z9u {i j pos}:PE X (.Constant (.int i) j pos) (tC (.int i)):=fun _ _ _ H _ I h=>wpAny_Constant_int ⟨.int i,H,I.tok _,⟨_,rfl⟩,h⟩
theorem j7t {b j pos}:PE X (.Constant (.bool b) j pos) (tC (.bl b)):=fun _ _ _ H _ I h=>Constant_bool ⟨.bl b,H,I,rfl,h⟩
theorem j6m {j pos}:PE X (.Constant .none j pos) (tC .non):=fun _ _ _ H _ I h=>Constant_none ⟨.non,H,I,rfl,h⟩
theorem z0b {x j pos}:PE X (.Constant (.str x) j pos) (tC (.str x)):=fun _ _ _ H _ I h=>Calls.Constant_str ⟨.str x,H,I.tok _,⟨_,rfl⟩,h⟩
def Gl (X:Cx)(x:Str):Prop:=X.env.kindOf x=some .globalImplicit
theorem y36 {E:Value->Shared->Prop}{pins:List (Addr×Obj)}{s:Shared}{σ:St}{H:Hp}{x:Str}{u:Value}{pos:Pos}{Q:Value->Shared->Prop}(I:Inv X pins σ H s)(hg:Gl X x)(hm:X.mg x=some u)(h:Q u s)
  (hd:(x==("__debug__":Str))=false:=by decide):wpAny (model X.prog X.w) X.A (eval (.Name x pos) X.env) Q E s:=
 Calls.Name_function_global I.ok.kind hg (Calls.loadGlobal_global (by rw[I.ok.glob];exact I.mod.glob.keeps I.bk) hm h) hd
theorem y2i {E:Value->Shared->Prop}{pins:List (Addr×Obj)}{s:Shared}{σ:St}{H:Hp}{x:Str}{u:Value}{pos:Pos}{Q:Value->Shared->Prop}(I:Inv X pins σ H s)(hg:Gl X x)(hm:X.mg x=none)(hv:bootBuiltins x=some u)(h:Q u s)
  (hn:x ≠ "__name__":=by decide) (hd:(x==("__debug__":Str))=false:=by decide):wpAny (model X.prog X.w) X.A (eval (.Name x pos) X.env) Q E s:=by
 obtain⟨mb,h1,h2⟩:=I.mod.blt
 exact Calls.Name_function_global I.ok.kind hg (Calls.loadGlobal_builtin (by rw[I.ok.glob];exact I.mod.glob.keeps I.bk) hm (by rw[I.ok.blt];exact h1.keeps I.bk) ((h2 x hn).trans hv) h) hd
theorem z3w {x:Str}{v:V}{u:Value}{pos:Pos}(hg:Gl X x)(hm:X.mg x=some u)(r:x4g v u)(hd:(x==("__debug__":Str))=false:=by decide):PE X (.Name x pos) (tC v):=
 fun _ _ _ H _ I h=>y36 I hg hm ⟨v,H,I,r,h⟩ hd
theorem z4r {x:Str}{v:V}{u:Value}{pos:Pos}(hg:Gl X x)(hm:X.mg x=none)(hv:bootBuiltins x=some u)(r:x4g v u)(hn:x ≠ "__name__":=by decide)(hd:(x==("__debug__":Str))=false:=by decide):PE X (.Name x pos) (tC v):=
 fun _ _ _ H _ I h=>y2i I hg hm hv ⟨v,H,I,r,h⟩ hn hd
variable {a b:Expr}{ta tb:TE}{pos:Pos}
variable {tA tB':TT}{x2j:List Expr}
def k05 (t u:TT):TT:=fun σ H Q=>t σ H fun c H1=>if c=true then u σ H1 Q else Q false H1
def tOr (t u:TT):TT:=fun σ H Q=>t σ H fun c H1=>if c=true then Q true H1 else u σ H1 Q
def j9s (t:TT):TT:=fun σ H Q=>t σ H fun c H1=>Q (!c) H1
theorem j1m (ha:PT X a tA):PW X (.BoolOp .And [a] pos) tA:=by
 intro wh pins s σ H Q I h
 refine isTrue_and (thn (ha pins s σ H Q I h) fun c s1 e=>?_)
 cases c with
 | true=>exact isTrue_and_nil e
 | false=>exact e
theorem j76 (ha:PT X a tA):PW X (.BoolOp .Or [a] pos) tA:=by
 intro wh pins s σ H Q I h
 refine isTrue_or (thn (ha pins s σ H Q I h) fun c s1 e=>?_)
 cases c with
 | false=>exact isTrue_or_nil e
 | true=>exact e
theorem j48 (ha:PT X a tA)(hb:PW X (.BoolOp .And (b::x2j) pos) tB'):PW X (.BoolOp .And (a::b::x2j) pos) (k05 tA tB'):=by
 intro wh pins s σ H Q I h
 refine isTrue_and (thn (ha pins s σ H _ I h) fun c s1 hh0=>?_)
 obtain⟨H1,I1,q1⟩:=hh0
 cases c with
 | true=>exact hb wh pins s1 σ H1 Q I1 q1
 | false=>exact⟨H1,I1,q1⟩
theorem j8g (ha:PT X a tA)(hb:PW X (.BoolOp .Or (b::x2j) pos) tB'):PW X (.BoolOp .Or (a::b::x2j) pos) (tOr tA tB'):=by
 intro wh pins s σ H Q I h
 refine isTrue_or (thn (ha pins s σ H _ I h) fun c s1 hh0=>?_)
 obtain⟨H1,I1,q1⟩:=hh0
 cases c with
 | true=>exact⟨H1,I1,q1⟩
 | false=>exact hb wh pins s1 σ H1 Q I1 q1
theorem j55 (ha:PT X a tA):PT X (.UnaryOp .Not a pos) (j9s tA):=by
 intro pins s σ H Q I h
 exact isTrue_not (ha pins s σ H (fun c H1=>Q (!c) H1) I h)
def j7s (ta tb:TE):TE:=fun σ H Q=>ta σ H fun x H1=>∃ c,x=.bl c/\if c=true then tb σ H1 Q else Q (.bl false) H1
def j7r (ta:TE):TE:=fun σ H Q=>ta σ H fun x H1=>∃ c,x=.bl c/\Q (.bl (!c)) H1
theorem j7b {op}{t:TE}(h:PE X a t):PE X (.BoolOp op [a] pos) t:=fun pins s σ H Q I hw=>BoolOp_one (h pins s σ H Q I hw)
theorem j41 (ha:PE X a ta)(hb:PE X (.BoolOp .And (b::x2j) pos) tb):PE X (.BoolOp .And (a::b::x2j) pos) (j7s ta tb):=by
 intro pins s σ H Q I h
 refine BoolOp_and (thn (ha pins s σ H _ I h) fun v s1 hh0=>?_)
 obtain⟨x,H1,I1,r1,q1⟩:=hh0
 obtain⟨c,rfl,q1⟩:=q1
 cases r1
 refine wpAny_truthy_bool ?_
 cases c with
 | true=>exact hb pins s1 σ H1 Q I1 q1
 | false=>exact⟨.bl false,H1,I1,rfl,q1⟩
theorem j6x (ha:PE X a ta):PE X (.UnaryOp .Not a pos) (j7r ta):=by
 intro pins s σ H Q I h
 refine UnaryOp_ (thn (ha pins s σ H _ I h) fun v s1 hh0=>?_)
 obtain⟨x,H1,I1,r1,q1⟩:=hh0
 obtain⟨c,rfl,q1⟩:=q1
 cases r1
 exact not_of (wpAny_truthy_bool ⟨.bl (!c),H1,I1,rfl,q1⟩)
def tIf (t:TT)(ta tb:TE):TE:=fun σ H Q=>t σ H fun c H1=>if c=true then ta σ H1 Q else tb σ H1 Q
theorem z8q {c:Expr}(hc:PT X c tA)(ha:PE X a ta)(hb:PE X b tb):PE X (.IfExp c a b pos) (tIf tA ta tb):=by
 intro pins s σ H Q I h
 refine wpAny_IfExp (thn (hc pins s σ H _ I h) fun d s1 hh0=>?_)
 obtain⟨H1,I1,q1⟩:=hh0
 cases d with
 | true=>exact ha pins s1 σ H1 Q I1 q1
 | false=>exact hb pins s1 σ H1 Q I1 q1
end
def SqL (K:PySem.W.Frag)(H:Hp)(a:Addr)(xs:List V):Prop:=
 Rd H a (.lst xs) \/
  ∃ (o:Obj) (its:Array Value) (n:Nat),K.lookup a=some o/\o.cls=.type "list" /\ o.dict=none/\o.data=.seq its n/\its.size<=sizeLine/\x37 xs its.toList
def SqT (K:PySem.W.Frag)(H:Hp)(a:Addr)(xs:List V):Prop:=
 Rd H a (.tup xs) \/
  ∃ (o:Obj) (its:Array Value) (n:Nat),K.lookup a=some o/\o.cls=.type "tuple" /\ o.data=.seq its n/\its.size<=sizeLine/\x37 xs its.toList
def k0a:Value->Option V
 | .none=>some .non
 | .bool b=>some (.bl b)
 | .int i _=>some (.int i)
 | .str x _=>some (.str x)
 | .bytes b _=>some (.byt b)
 | .float b _=>some (.flt b)
 | .ref a=>some (.ref a)
 | .type n=>some (.ty n)
 | _=>none
theorem x4g.abs {x:V}{u:Value}(r:x4g x u):k0a u=some x:=by
 cases x with
 | non=>cases r;rfl
 | bl _=>cases r;rfl
 | int _=>obtain⟨t,rfl⟩:=r;rfl
 | str _=>obtain⟨t,rfl⟩:=r;rfl
 | byt _=>obtain⟨t,rfl⟩:=r;rfl
 | flt _=>obtain⟨t,rfl⟩:=r;rfl
 | ref _=>cases r;rfl
 | ty _=>cases r;rfl
theorem x4g.inj {x y:V}{u:Value}(r:x4g x u)(q:x4g y u):x=y:=Option.some.inj (r.abs.symm.trans q.abs)
theorem x37.inj:∀ {xs ys:List V} {us:List Value},x37 xs us->x37 ys us->xs=ys
 | _,_,_,.nil,.nil=>rfl
 | _,_,_,.cons r t,.cons r' t'=>by rw[r.inj r',x37.inj t t']
section
variable {X:Cx}{pins:List (Addr×Obj)}{σ:St}{H:Hp}{s:Shared}{a:Addr}{xs ys:List V}
theorem SqL.of {K:PySem.W.Frag}(h:H a=some (.lst xs)):SqL K H a xs:=.inl (.inl h)
theorem SqT.of {K:PySem.W.Frag}(h:H a=some (.tup xs)):SqT K H a xs:=.inl (.inl h)
theorem Inv.list (I:Inv X pins σ H s)(h:SqL X.K H a xs):∃ its:List Value,x37 xs its/\PlainL s.heap a its.toArray/\xs.length<=sizeLine:=by
 rcases h with h|⟨o,its,n,hk,hc,hd,hs,hz,r⟩
 ·obtain⟨z,its,n,r,e⟩:=h.ok I.hok
  exact⟨its,r,⟨_,n,e,rfl,rfl,rfl⟩,z⟩
 ·refine⟨its.toList,r,⟨o,n,I.kIn a o hk,hc,hd,by simpa using hs⟩,?_⟩
  have e:=r.length
  simp only[Array.length_toList]at e
  omega
theorem Inv.tuple (I:Inv X pins σ H s)(h:SqT X.K H a xs):∃ its:List Value,x37 xs its/\IsTup s.heap a its.toArray/\xs.length<=sizeLine:=by
 rcases h with h|⟨o,its,n,hk,hc,hs,hz,r⟩
 ·obtain⟨z,its,r,p⟩:=h.ok I.hok
  exact⟨its,r,p.tup,z⟩
 ·refine⟨its.toList,r,⟨o,I.kIn a o hk,hc,n,by simpa using hs⟩,?_⟩
  have e:=r.length
  simp only[Array.length_toList]at e
  omega
theorem Inv.list_inj (I:Inv X pins σ H s)(h:SqL X.K H a xs)(h':SqL X.K H a ys):xs=ys:=by
 obtain⟨its,r,⟨o,n,e,_,_,d⟩,_⟩:=I.list h
 obtain⟨its',r',⟨o',n',e',_,_,d'⟩,_⟩:=I.list h'
 rw[e]at e';cases e'
 rw[d]at d'
 injection d' with d1 _
 have:its=its':=by simpa using congrArg Array.toList d1
 subst this
 exact r.inj r'
theorem Inv.tuple_inj (I:Inv X pins σ H s)(h:SqT X.K H a xs)(h':SqT X.K H a ys):xs=ys:=by
 obtain⟨its,r,⟨o,e,_,n,d⟩,_⟩:=I.tuple h
 obtain⟨its',r',⟨o',e',_,n',d'⟩,_⟩:=I.tuple h'
 rw[e]at e';cases e'
 rw[d]at d'
 injection d' with d1 _
 have:its=its':=by simpa using congrArg Array.toList d1
 subst this
 exact r.inj r'
end
abbrev Cx.wish (X:Cx)(E:Value->Shared->Prop):Cx:={ X with xe:=E }
abbrev Cx.nox (X:Cx):Cx:=X.wish fun _ _=>False
theorem Cx.Ok.wish {X:Cx}(ok:X.Ok)(E:Value->Shared->Prop):(X.wish E).Ok:=
 ⟨ok.mod,ok.kind,ok.glob,ok.blt,ok.above,ok.inj,ok.has,ok.cab,ok.hd,ok.frames,ok.stk,ok.exf,ok.bs,ok.bsz,ok.noex,ok.exfs,ok.funs,ok.frf⟩
theorem Cx.Ok.unwish {X:Cx}{E:Value->Shared->Prop}(ok:(X.wish E).Ok):X.Ok:=
 ⟨ok.mod,ok.kind,ok.glob,ok.blt,ok.above,ok.inj,ok.has,ok.cab,ok.hd,ok.frames,ok.stk,ok.exf,ok.bs,ok.bsz,ok.noex,ok.exfs,ok.funs,ok.frf⟩
section
variable {X:Cx}{pins:List (Addr×Obj)}{σ:St}{H:Hp}{s:Shared}{E:Value->Shared->Prop}
theorem Inv.wish (I:Inv X pins σ H s)(E:Value->Shared->Prop):Inv (X.wish E) pins σ H s:=⟨I.ok.wish E,I.os,I.bare,I.base,I.loc,I.cell,I.free,I.freeC,I.pin,I.hok,I.len⟩
theorem Inv.unwish (I:Inv (X.wish E) pins σ H s):Inv X pins σ H s:=⟨I.ok.unwish,I.os,I.bare,I.base,I.loc,I.cell,I.free,I.freeC,I.pin,I.hok,I.len⟩
theorem SP.unwish {D:Ends}{f:Flow}{s':Shared}(h:SP (X.wish E) pins D f s'):SP X pins D f s':=by
 cases f with
 | next=>obtain⟨σ',H',I,q⟩:=h;exact⟨σ',H',I.unwish,q⟩
 | brk=>obtain⟨σ',H',I,q⟩:=h;exact⟨σ',H',I.unwish,q⟩
 | cont=>obtain⟨σ',H',I,q⟩:=h;exact⟨σ',H',I.unwish,q⟩
 | ret u=>obtain⟨v,σ',H',I,r,q⟩:=h;exact⟨v,σ',H',I.unwish,r,q⟩
theorem PSs.nox {st:List Stmt}{t:TS}(h:PSs X.nox st t):PSs X st t:=fun pins s σ H D I hw=>
 wpAny_mono (h pins s σ H D (I.wish _) hw) (fun _ _ q=>q.unwish) fun _ _ z=>False.elim z
end
section
variable {X:Cx}{st:Stmt}{x2j:List Stmt}{t u:TS}{e:Expr}{te:TE}{pos:Pos}
def j8l:TS:=fun D σ H=>D.nx σ H
def j9g (t u:TS):TS:=fun D σ H=>t { D with nx:=u D } σ H
theorem j1x:PSs X [] j8l:=fun _ _ σ H _ I h=>wpAny_execs_nil ⟨σ,H,I,h⟩
theorem z7k (h1:PS X st t)(h2:PSs X x2j u):PSs X (st::x2j) (j9g t u):=by
 intro pins s σ H D I h
 refine wpAny_execs_cons (thn (h1 pins s σ H { D with nx:=u D } I h) fun f s1 q=>?_)
 cases f with
 | next=>
  obtain⟨σ',H',I',q⟩:=q
  exact h2 pins s1 σ' H' D I' q
 | ret v=>exact q
 | brk=>exact q
 | cont=>exact q
theorem z4k (h1:PS X st t):PSs X [st] t:=by
 intro pins s σ H D I h
 refine wpAny_execs_cons (thn (h1 pins s σ H D I h) fun f s1 q=>?_)
 cases f with
 | next=>exact wpAny_execs_nil q
 | ret v=>exact q
 | brk=>exact q
 | cont=>exact q
theorem Inv.quiet {pins:List (Addr×Obj)}{σ:St}{H:Hp}{s:Shared}(I:Inv X pins σ H s):interactive X.env=false:=by simp[interactive,I.ok.kind]
def j8q (te:TE):TS:=fun D σ H=>te σ H fun _ H1=>D.nx σ H1
theorem z36 (he:PE X e te)(hs:swapsWith e none pos.line X.env=pure false:=by rfl):PS X (.Expr e pos) (j8q te):=by
 intro pins s σ H D I h
 exact wpAny_Expr_any (thn (he pins s σ H _ I h) fun v s1 ⟨x,H1,I1,r1,q1⟩=>⟨σ,H1,I1,q1⟩) I.quiet hs
def j9i (te:TE):TS:=fun D σ H=>te σ H D.rt
theorem j6l (he:PE X e te):PS X (.Return (some e) pos) (j9i te):=by
 intro pins s σ H D I h
 exact wpAny_Return_some (thn (he pins s σ H _ I h) fun v s1 ⟨x,H1,I1,r1,q1⟩=>⟨x,σ,H1,I1,r1,q1⟩)
def j9o (c:TT)(t u:TS):TS:=fun D σ H=>c σ H fun b H1=>if b=true then t D σ H1 else u D σ H1
theorem j4j {c:Expr}{a b:List Stmt}{tc:TT}(hc:PT X c tc)(ha:PSs X a t)(hb:PSs X b u):PS X (.If c a b pos) (j9o tc t u):=by
 intro pins s σ H D I h
 refine wpAny_If (thn (hc pins s σ H _ I h) fun d s1 hh0=>?_)
 obtain⟨H1,I1,q1⟩:=hh0
 cases d with
 | true=>exact ha pins s1 σ H1 D I1 q1
 | false=>exact hb pins s1 σ H1 D I1 q1
def j51:TS:=fun _ _ _=>False
theorem z9b:PS X st j51:=fun _ _ _ _ _ _ h=>h.elim
end
abbrev TG:=V->St->Hp->(St->Hp->Prop)->Prop
abbrev TGs:=List V->St->Hp->(St->Hp->Prop)->Prop
def PG (X:Cx)(target:Expr)(t:TG):Prop:=
 ∀ (pins:List (Addr×Obj)) (s:Shared) (σ:St) (H:Hp) (v:V) (u:Value) (Q:St->Hp->Prop),Inv X pins σ H s->x4g v u->t v σ H Q->
  wpAny (model X.prog X.w) X.A (assign target X.env u) (fun _ s'=>∃ σ' H',Inv X pins σ' H' s'/\Q σ' H') X.xe s
def PGs (X:Cx)(ts:List Expr)(t:TGs):Prop:=
 ∀ (pins:List (Addr×Obj)) (s:Shared) (σ:St) (H:Hp) (vs:List V) (us:List Value) (Q:St->Hp->Prop),Inv X pins σ H s->x37 vs us->t vs σ H Q->
  wpAny (model X.prog X.w) X.A (assignInOrder ((assignEach ts X.env).map (·.2)) us) (fun _ s'=>∃ σ' H',Inv X pins σ' H' s'/\Q σ' H') X.xe s
abbrev j7u:=V->V->V->Hp->(Hp->Prop)->Prop
def j9a (X:Cx)(t:j7u):Prop:=
 ∀ (pins:List (Addr×Obj)) (s:Shared) (σ:St) (H:Hp) (o i v:V) (ov iv u:Value) (Q:Hp->Prop),Inv X pins σ H s->x4g o ov->x4g i iv->x4g v u->t o i v H Q->
  wpAny (model X.prog X.w) X.A (setItem ov iv u) (fun _ s'=>∃ H',Inv X pins σ H' s'/\Q H') X.xe s
section
variable {X:Cx}{pos:Pos}
def j3f (i:Nat):TG:=fun v σ H Q=>Q (σ.set i (some v)) H
theorem j0l {i:Nat}{x:Str}(hN:X.N.Nodup)(hi:X.N[i]? = some x)(hx:Loc X.env.scope x)(hf:X.fn x=true\/X.env.scope.names.lookup x=some .local:=by first|exact .inl rfl|exact .inr rfl|assumption):PG X (.Name x pos) (j3f i):=by
 intro pins s σ H v u Q I r h
 exact wpAny_assign_Name (y5h I hN hi hx r (fun s' I'=>⟨_,H,I',h⟩) hf)
def k08:TGs:=fun vs σ H Q=>vs=[]/\Q σ H
def j7q (t:TG)(u:TGs):TGs:=fun vs σ H Q=>∃ v r,vs=v::r/\t v σ H fun σ' H'=>u r σ' H' Q
theorem j1u:PGs X [] k08:=by
 intro pins s σ H vs us Q I r h
 obtain⟨e,h⟩:=h
 subst e
 cases r
 exact assignInOrder_nil ⟨σ,H,I,h⟩
theorem z8r {e:Expr}{es:List Expr}{t:TG}{u:TGs}(h1:PG X e t)(h2:PGs X es u)
  (hs:(assignEach (e::es) X.env).map (·.2)=assign e X.env::(assignEach es X.env).map (·.2):=by rfl):PGs X (e::es) (j7q t u):=by
 intro pins s σ H vs us Q I r h
 obtain⟨v,vr,e1,h⟩:=h
 subst e1
 cases r with
 | cons r rr=>
  rw[hs]
  refine assignInOrder_cons (thn (h1 pins s σ H _ _ _ I r h) fun _ s1 hh0=>?_)
  obtain⟨σ1,H1,I1,q1⟩:=hh0
  exact h2 pins s1 σ1 H1 _ _ Q I1 rr q1
def j9r (K:PySem.W.Frag)(n:Nat)(t:TGs):TG:=fun v σ H Q=>∃ a xs,v=.ref a/\SqT K H a xs/\xs.length=n/\t xs σ H Q
theorem j3q {es:List Expr}{k:Nat}{t:TGs}{n:Nat}(hc:X.calm=true)(h:PGs X es t)
  (hn:(assignEach es X.env).length=n:=by rfl) (hst:(assignEach es X.env).findIdx? (·.1)=none:=by rfl):PG X (.Tuple es k pos) (j9r X.K n t):=by
 intro pins s σ H v u Q I r hw
 obtain⟨a,xs,e1,hq,hl,hw⟩:=hw
 subst e1
 cases r
 obtain⟨its,rv,ht,hz⟩:=I.tuple hq
 refine assign_Tuple_tuple (I.ok.hd hc) ht (by simp[hn,<- hl,rv.length]) hst fun h' hx=>?_
 have I1:Inv X pins σ H { s with heap:=h' }:=I.kept (t':=s.toks) fun b o e=>hx b o (Nat.ne_of_lt (Heap.lt_size e)) e
 exact h pins _ σ H xs _ Q I1 (by simpa using rv) hw
def j9l (to ti:TE)(t:j7u):TG:=fun v σ H Q=>to σ H fun o H1=>ti σ H1 fun i H2=>t o i v H2 fun H3=>Q σ H3
theorem z9t {o i:Expr}{to ti:TE}{t:j7u}(ho:PE X o to)(hi:PE X i ti)(hs:j9a X t)
  (ha:∀ v,assign (.Subscript o i pos) X.env v=(do
    let ov <- holding [v] (eval o X.env)
    let iv <- holding [v,ov] (eval i X.env)
    standAt pos
    holding [v,ov,iv] (setItem ov iv v)
    release [v,ov,iv] []):=by intro _;rfl):PG X (.Subscript o i pos) (j9l to ti t):=by
 intro pins s σ H v u Q I r h
 rw[ha]
 refine wpAny_bind (wpAny_holding (thn (ho pins s σ H _ I h) fun ov s1 hh0=>?_))
 obtain⟨x,H1,I1,r1,q1⟩:=hh0
 refine wpAny_bind (wpAny_holding (thn (hi pins s1 σ H1 _ I1 q1) fun iv s2 hh0=>?_))
 obtain⟨y,H2,I2,r2,q2⟩:=hh0
 refine wpAny_bind (wpAny_standAt (wpAny_bind (wpAny_holding (thn (hs pins s2 σ H2 x y v ov iv u _ I2 r1 r2 r q2) fun _ s3 hh0=>?_))))
 obtain⟨H3,I3,q3⟩:=hh0
 exact wpAny_release ⟨σ,H3,I3,q3⟩
def j7z (te:TE)(g:TG):TS:=fun D σ H=>te σ H fun x H1=>g x σ H1 D.nx
theorem z5f {tg e:Expr}{te:TE}{g:TG}(he:PE X e te)(hg:PG X tg g)(hs:swapsWithSole [tg] e pos.line X.env=pure false:=by rfl)(hw:swappedStores [tg] e X.env=pure none:=by rfl)
  (h1:(assignEach [tg] X.env).map (·.2)=[assign tg X.env]:=by rfl):PS X (.Assign [tg] e pos) (j7z te g):=by
 intro pins s σ H D I h
 refine wpAny_Assign_stores (thn (he pins s σ H _ I h) fun v s1 ⟨x,H1,I1,r1,q1⟩=>?_) hs hw
 rw[h1]
 exact thn (hg pins s1 σ H1 x v _ I1 r1 q1) fun _ s2 q=>q
theorem z9z {i:Nat}{x:Str}{e:Expr}{te:TE}{pos':Pos}(hN:X.N.Nodup)(hi:X.N[i]? = some x)(hx:Loc X.env.scope x)(he:PE X e te)(hs:swapsWith e (some (.Name x pos')) pos.line X.env=pure false:=by rfl)(hf:X.fn x=true\/X.env.scope.names.lookup x=some .local:=by first|exact .inl rfl|exact .inr rfl|assumption) :
  PS X (.Assign [.Name x pos'] e pos) (j7z te (j3f i)):=by
 intro pins s σ H D I h
 refine wpAny_Assign_Name (thn (he pins s σ H _ I h) fun v s1 ⟨y,H1,I1,r1,q1⟩=>?_) hs
 exact y5h I1 hN hi hx r1 (fun s2 I2=>⟨_,H1,I2,q1⟩) hf
def j78 (c:TT)(tb:TS):TS:=fun D σ H=>∃ W:Nat->St->Hp->Prop,(∃ m,W m σ H)/\∀ m σ H,W m σ H->
 c σ H fun b H1=>if b=true then ∃ N:St->Hp->Prop,(∀ σ' H',N σ' H'->∃ m',m'<m/\W m' σ' H')/\tb { D with nx:=N,ct:=N,bk:=D.nx } σ H1 else D.nx σ H1
theorem z86 {c:Expr}{body:List Stmt}{tc:TT}{tb:TS}(hp:PassesOwn (model X.prog X.w) X.A X.env X.xe)(hc:PT X c tc)(hb:PSs X body tb):PS X (.While c body [] pos) (j78 tc tb):=by
 intro pins s σ H D I h
 obtain⟨W,⟨m0,w0⟩,turn⟩:=h
 refine wpAny_While (codeAny_whileLoop (fun n s'=>∃ σ' H',Inv X pins σ' H' s'/\W n σ' H') ?_ m0 ⟨σ,H,I,w0⟩)
 rintro n s1 ⟨σ1,H1,I1,w1⟩
 refine wpAny_passesOwn hp (thn (hc pins s1 σ1 H1 _ I1 (turn n σ1 H1 w1)) fun b s2 hh0=>?_)
 obtain⟨H2,I2,q2⟩:=hh0
 cases b with
 | true=>
  obtain⟨N,hN,q2⟩:=q2
  rw[if_pos rfl]
  refine wpAny_passesOwn hp (thn (hb pins s2 σ1 H2 _ I2 q2) fun f s3 q3=>?_)
  cases f with
  | next=>
   obtain⟨σ3,H3,I3,n3⟩:=q3
   obtain⟨m',hm,w3⟩:=hN σ3 H3 n3
   exact⟨m',hm,σ3,H3,I3,w3⟩
  | cont=>
   obtain⟨σ3,H3,I3,n3⟩:=q3
   obtain⟨m',hm,w3⟩:=hN σ3 H3 n3
   exact⟨m',hm,σ3,H3,I3,w3⟩
  | brk=>exact q3
  | ret v=>exact q3
 | false=>
  rw[if_neg Bool.false_ne_true]
  exact wpAny_execs_nil ⟨σ1,H2,I2,q2⟩
end
structure It where
 go:Nat->Hp->Prop
 yld:Nat->Hp->V->Hp->Prop
 stop:Nat->Hp->Prop
def z4h (X:Cx)(pins:List (Addr×Obj))(H:Hp)(b:Addr):Prop:=
 H b=none/\b≠X.env.locals/\b ∉ X.fs/\(b∈X.ex\/X.s₀.heap.objs.size<=b)/\(∀ x c,X.env.cells.lookup x=some c->c≠b)/\∀ p∈X.pn++pins,p.1≠b
theorem Inv.fpOk {X:Cx}{pins:List (Addr×Obj)}{σ:St}{H H':Hp}{s:Shared}{b:Addr}(I:Inv X pins σ H s)(hb:s.heap.objs.size<=b)(hn:H' b=none):z4h X pins H' b:=by
 refine⟨hn,Nat.ne_of_gt (Nat.lt_of_lt_of_le I.lt hb),I.nofs hb,.inr (Nat.le_trans I.sz hb),fun x c e z=>?_,fun p hp z=>?_⟩
 ·obtain⟨v,q⟩:=I.cell x c e
  exact absurd (Nat.lt_of_lt_of_le q.lt (by rw[z];exact hb)) (Nat.lt_irrefl _)
 ·exact absurd (Nat.lt_of_lt_of_le (Heap.lt_size (I.pin p hp).1) (by rw[z];exact hb)) (Nat.lt_irrefl _)
structure Turn (P:Program) (w:World) (K:PySem.W.Frag) (tg:Expr) (J:It) (fp:List Addr) (it:Addr) (tn:Nat->Heap->Prop):Prop where
 mem:it∈fp
 obj:∀ i h,tn i h->∀ b∈fp,∃ o,h.get? b=some o/\∀ v,o.data ≠ .cell v
 keep:∀ i h h',tn i h->(∀ b∈fp,∀ o,h.get? b=some o->h'.get? b=some o)->tn i h'
 item:∀ (X:Cx),X.prog=P->X.w=w->X.K=K->X.calm=true->∀ (i:Nat) (pins:List (Addr×Obj)) (s:Shared) (σ:St) (H:Hp) (E:Value->Shared->Prop),Inv X pins σ H s->(∀ b∈fp,z4h X pins H b)->tn i s.heap->J.go i H->
  wpAny (model P w) X.A (pyNext (.ref it)) (fun r s1=>∃ u,r=some u /\
   wpAny (model P w) X.A (letOwnedTupleGo tg (.ref it) u) (fun _ s2=>∃ x H',Inv X pins σ H' s2/\x4g x u/\J.yld i H x H'/\tn (i+1) s2.heap/\∀ b∈fp,H' b=none) E s1) E s
 done:∀ (X:Cx),X.prog=P->X.w=w->X.K=K->X.calm=true->∀ (i:Nat) (pins:List (Addr×Obj)) (s:Shared) (σ:St) (H:Hp) (E:Value->Shared->Prop),Inv X pins σ H s->(∀ b∈fp,z4h X pins H b)->tn i s.heap->J.stop i H->
  wpAny (model P w) X.A (pyNext (.ref it)) (fun r s1=>r=none/\Inv X pins σ H s1) E s
 self:∀ (A:Around) (i:Nat) (s:Shared) (Q:Value->Shared->Prop) (E:Value->Shared->Prop),tn i s.heap->Q (.ref it) s->wpAny (model P w) A (pyIter (.ref it)) Q E s
abbrev TI:=St->Hp->(It->Hp->Prop)->Prop
def PIE (X:Cx)(pins:List (Addr×Obj))(σ:St)(tg:Expr)(R:It->Hp->Prop)(itv:Value)(s2:Shared):Prop:=
 ∃ (it:Addr) (fp:List Addr) (tn:Nat->Heap->Prop) (J:It) (H':Hp),itv=.ref it/\Inv X pins σ H' s2/\Turn X.prog X.w X.K tg J fp it tn/\tn 0 s2.heap/\(∀ b∈fp,z4h X pins H' b)/\R J H'
def PI (X:Cx)(tg iter:Expr)(wi:TI):Prop:=
 ∀ (pins:List (Addr×Obj)) (s:Shared) (σ:St) (H:Hp) (R:It->Hp->Prop),Inv X pins σ H s->wi σ H R->
  wpAny (model X.prog X.w) X.A (eval iter X.env) (fun v s1=>wpAny (model X.prog X.w) X.A (pyIter v) (PIE X pins σ tg R) X.xe s1) X.xe s
theorem j2h {M:Model}{A:Around}{E:Value->Shared->Prop}{s:Shared}{tg:Expr}{it:Addr}{u:Value}{o:Obj}{n:String}{vs:Array Value}{Q:Unit->Shared->Prop}(ho:s.heap.get? it=some o)(hc:o.cls=.type n)(hd:o.data=.fields vs)
  (hn:["enumerate","zip","dict_itemiterator","dict_reverseitemiterator","odict_iterator","itertools.zip_longest","itertools.pairwise"].contains n=false) (hQ:Q () s):wpAny M A (letOwnedTupleGo tg (.ref it) u) Q E s:=by
 unfold letOwnedTupleGo
 cases tg<;>first
  | exact wpAny_pure hQ
  | (cases u<;>first
      | exact wpAny_pure hQ
      | (refine wpAny_bind (wpAny_load ho ?_)
         rw[hc,hd]
         show wpAny M A (if(["enumerate","zip","dict_itemiterator","dict_reverseitemiterator","odict_iterator","itertools.zip_longest","itertools.pairwise"].contains n&&vs[0]? == some (rawInt _))=true then _ else _) Q E s
         rw[if_neg (by intro h;rw[hn,Bool.false_and]at h;cases h)]
         exact wpAny_pure hQ))
def Itl (K:PySem.W.Frag)(a:Addr):It:=
 ⟨fun i H=>∃ xs x,SqL K H a xs/\xs[i]? = some x,fun i H x H'=>H'=H/\∀ xs,SqL K H a xs->xs[i]? = some x,fun i H=>∃ xs,SqL K H a xs/\xs.length<=i⟩
def Itt (K:PySem.W.Frag)(a:Addr):It:=
 ⟨fun i H=>∃ xs x,SqT K H a xs/\xs[i]? = some x,fun i H x H'=>H'=H/\∀ xs,SqT K H a xs->xs[i]? = some x,fun i H=>∃ xs,SqT K H a xs/\xs.length<=i⟩
def Itr (lo:Int)(n:Nat):It:=⟨fun i _=>i<n,fun i H x H'=>H'=H/\x=.int (lo+i),fun i _=>n<=i⟩
theorem z5b {P:Program}{w:World}{K:PySem.W.Frag}{tg:Expr}(a it:Addr):Turn P w K tg (Itl K a) [it] it (fun i h=>h.IsListIter it a i) where
 mem:=by simp
 obj:=fun i h st b hb=>by
  have e:b=it:=by simpa using hb
  subst e
  obtain⟨o,e,c,d⟩:=st
  exact⟨o,e,fun v z=>by rw[d]at z;cases z⟩
 keep:=fun i h h' st k=>st.at fun o e=>k it (by simp) o e
 item:=by
  intro X hP hw hK hc i pins s σ H E I hf st hg
  subst hP hw hK
  obtain⟨xs,x,hq,hx⟩:=hg
  obtain⟨its,rv,p,hz⟩:=I.list hq
  obtain⟨u,hu,ru⟩:=rv.get hx
  obtain⟨f0,f1,f2,f3,f4,f5⟩:=hf it (by simp)
  refine wpAny_pyNext_list_item st p.isList (x:=u) (by simpa using hu) fun h' st' sb=>?_
  have I1:Inv X pins σ H { s with heap:=h' }:=I.turned (t':=s.toks) (fun b o hb e=>(sb.2 b hb).trans e) f0 f1 f3 f4 f5
  obtain⟨o,e,c,d⟩:=id st'
  exact⟨u,rfl,j2h (s:={ s with heap:=h' }) e c d (by decide) ⟨x,H,I1,ru,⟨rfl,fun ys hy=>by rw[I.list_inj hy hq];exact hx⟩,st',fun b hb=>(hf b hb).1⟩⟩
 done:=by
  intro X hP hw hK hc i pins s σ H E I hf st hg
  subst hP hw hK
  obtain⟨xs,hq,hx⟩:=hg
  obtain⟨its,rv,p,hz⟩:=I.list hq
  obtain⟨f0,f1,f2,f3,f4,f5⟩:=hf it (by simp)
  have hl:=rv.length
  exact wpAny_pyNext_list_end (I.ok.hd hc) st p.isList (by simp;omega) fun h' eb=>⟨rfl,I.turned (t':=s.toks) (fun b o hb e=>eb b o hb e) f0 f1 f3 f4 f5⟩
 self:=fun _ _ _ _ _ st h=>wpAny_pyIter_listiter st h
theorem z1w {P:Program}{w:World}{K:PySem.W.Frag}{tg:Expr}(a it:Addr):Turn P w K tg (Itt K a) [it] it (fun i h=>h.IsTupleIter it a i) where
 mem:=by simp
 obj:=fun i h st b hb=>by
  have e:b=it:=by simpa using hb
  subst e
  obtain⟨o,e,c,d⟩:=st
  exact⟨o,e,fun v z=>by rw[d]at z;cases z⟩
 keep:=fun i h h' st k=>st.at fun o e=>k it (by simp) o e
 item:=by
  intro X hP hw hK hc i pins s σ H E I hf st hg
  subst hP hw hK
  obtain⟨xs,x,hq,hx⟩:=hg
  obtain⟨its,rv,p,hz⟩:=I.tuple hq
  obtain⟨u,hu,ru⟩:=rv.get hx
  obtain⟨f0,f1,f2,f3,f4,f5⟩:=hf it (by simp)
  refine wpAny_pyNext_tuple_item st (show s.heap.IsTuple a its.toArray from p) (x:=u) (by simpa using hu) fun h' st' sb=>?_
  have I1:Inv X pins σ H { s with heap:=h' }:=I.turned (t':=s.toks) (fun b o hb e=>(sb.2 b hb).trans e) f0 f1 f3 f4 f5
  obtain⟨o,e,c,d⟩:=id st'
  exact⟨u,rfl,j2h (s:={ s with heap:=h' }) e c d (by decide) ⟨x,H,I1,ru,⟨rfl,fun ys hy=>by rw[I.tuple_inj hy hq];exact hx⟩,st',fun b hb=>(hf b hb).1⟩⟩
 done:=by
  intro X hP hw hK hc i pins s σ H E I hf st hg
  subst hP hw hK
  obtain⟨xs,hq,hx⟩:=hg
  obtain⟨its,rv,p,hz⟩:=I.tuple hq
  obtain⟨f0,f1,f2,f3,f4,f5⟩:=hf it (by simp)
  have hl:=rv.length
  exact wpAny_pyNext_tuple_end (I.ok.hd hc) st (show s.heap.IsTuple a its.toArray from p) (by simp;omega) fun h' eb=>⟨rfl,I.turned (t':=s.toks) (fun b o hb e=>eb b o hb e) f0 f1 f3 f4 f5⟩
 self:=fun _ _ _ _ _ st h=>wpAny_pyIter_tupleiter st h
theorem z1m {P:Program}{w:World}{K:PySem.W.Frag}{tg:Expr}(it:Addr)(lo:Int)(n:Nat):Turn P w K tg (Itr lo n) [it] it (fun i h=>IsRangeIter h it (lo+(i:Nat)*1) ((n:Int)-(i:Nat)) 1) where
 mem:=by simp
 obj:=fun i h st b hb=>by
  have e:b=it:=by simpa using hb
  subst e
  exact⟨_,st,fun v z=>by
   have z':Data.fields _=Data.cell v:=z
   cases z'⟩
 keep:=fun i h h' st k=>k it (by simp) _ st
 item:=by
  intro X hP hw hK hc i pins s σ H E I hf st hg
  subst hP hw hK
  obtain⟨f0,f1,f2,f3,f4,f5⟩:=hf it (by simp)
  have W:=Walks.range (prog:=X.prog) (w:=X.w) (I.ok.hd hc) it lo 1 n
  refine W.item i s _ _ hg st fun v h' tk hv st' kk=>?_
  obtain⟨t,rfl⟩:=hv
  have I1:Inv X pins σ H { s with heap:=h',toks:=tk }:=I.turned (fun b o hb e=>kk b o (by simpa using hb) e) f0 f1 f3 f4 f5
  refine⟨_,rfl,j2h (s:={ s with heap:=h',toks:=tk }) (n:="range_iterator") st' rfl rfl (by decide) ⟨.int (lo+i),H,I1,⟨t,?_⟩,⟨rfl,rfl⟩,st',fun b hb=>(hf b hb).1⟩⟩
  rw[Int.mul_one]
 done:=by
  intro X hP hw hK hc i pins s σ H E I hf st hg
  subst hP hw hK
  obtain⟨f0,f1,f2,f3,f4,f5⟩:=hf it (by simp)
  exact wpAny_pyNext_range_end (I.ok.hd hc) st (by have:n<=i:=hg;omega) fun h' eb=>⟨rfl,I.turned (t':=s.toks) (fun b o hb e=>eb b o hb e) f0 f1 f3 f4 f5⟩
 self:=fun _ _ _ _ _ st h=>wpAny_pyIter_rangeiter st h
section
variable {X:Cx}{tg:Expr}
theorem z8d {pins:List (Addr×Obj)}{σ:St}{H:Hp}{s:Shared}{R:It->Hp->Prop}{E:Value->Shared->Prop}{lo hi:Int}{t u v:Tok}{tk:Nat}(I:Inv X pins σ H s)(h1:-(2 ^ 62)<=lo)(h2:lo<2 ^ 62)(h3:-(2 ^ 62)<=hi)(h4:hi<2 ^ 62)
  (q:R (Itr lo (hi-lo).toNat) H):wpAny (model X.prog X.w) X.A (pyIter (.ref s.heap.objs.size)) (PIE X pins σ tg R) E { s with heap:=s.heap.push { cls:=.type "range",data:=.fields #[.int lo t,.int hi u,.int 1 v] },toks:=tk }:=by
 refine wpAny_pyIter_range (IsRange.new ..) (small_one h1 h2 h3 h4) ?_
 have I1:Inv X pins σ H { s with heap:=s.heap.push { cls:=.type "range",data:=.fields #[.int lo t,.int hi u,.int 1 v] },toks:=tk }:=I.kept fun b o e=>Heap.get?_push_of_some _ e
 refine⟨(s.heap.push { cls:=.type "range",data:=.fields #[.int lo t,.int hi u,.int 1 v] }).objs.size,[(s.heap.push { cls:=.type "range",data:=.fields #[.int lo t,.int hi u,.int 1 v] }).objs.size],_,_,H,rfl,
  I1.kept (t':=tk) fun b o e=>Heap.get?_push_of_some _ e,z1m _ lo (hi-lo).toNat,?_,fun b hb=>?_,q⟩
 ·have e1:lo+((0:Nat):Int)*1=lo:=by simp
  have e2:(((hi-lo).toNat:Nat):Int)-((0:Nat):Int)=Builtin.Range.rangeSize lo hi 1:=by rw[rangeSize_one];split<;>omega
  show IsRangeIter _ _ (lo+((0:Nat):Int)*1) ((((hi-lo).toNat:Nat):Int)-((0:Nat):Int)) 1
  rw[e1,e2]
  exact Heap.get?_push_size _ rfl
 ·have e:b=(s.heap.push { cls:=.type "range",data:=.fields #[.int lo t,.int hi u,.int 1 v] }).objs.size:=by simpa using hb
  subst e
  exact I1.fpOk (Nat.le_refl _) (I1.hok.fresh (Nat.le_refl _))
def j7y (ta:TA):TI:=fun σ H R=>ta σ H fun vs H1=>∃ j:Int,vs=[.int j] /\ -(2 ^ 62)<=j/\j<2 ^ 62/\R (Itr 0 j.toNat) H1
theorem z53 {a:Expr}{ta:TA}{p pos:Pos}(hg:Gl X "range")(hm:X.mg "range" = none)(ha:PA X [a] ta)(hs:starEach [a] X.env=[(false,eval a X.env)]:=by rfl):PI X tg (.Call (.Name "range" p) [a] [] pos) (j7y ta):=by
 intro pins s σ H R I h
 refine Call_ (y2i I hg hm boot_range (PyProof.Rows.callWith_type1 (thn (ha pos pins s σ H _ I h) fun us s1 ⟨vs,H1,I1,r1,q1⟩=>?_) hs rfl))
 obtain⟨j,e,q1,q2,q⟩:=q1
 subst e
 cases r1 with
 | cons r rr=>
  cases rr
  obtain⟨t,rfl⟩:=r
  exact call_range_1 (z8d I1 (by omega) (by omega) q1 q2 (by simpa using q))
def k0d (wi:TI)(g:TG)(tb:TS):TS:=fun D σ H=>wi σ H fun J H1=>∃ W:Nat->Nat->St->Hp->Prop,(∃ m,W 0 m σ H1)/\∀ i m σ H,W i m σ H->
 (J.stop i H/\D.nx σ H)\/(J.go i H/\∃ N:St->Hp->Prop,(∀ σ' H',N σ' H'->∃ m',m'<m/\W (i+1) m' σ' H')/\∀ x H',J.yld i H x H'->g x σ H' fun σ2 H2=>tb { D with nx:=N,ct:=N,bk:=D.nx } σ2 H2)
def y1m (fp:List Addr)(h:Heap):List (Addr×Obj):=fp.filterMap fun b=>(h.get? b).map fun o=>(b,o)
theorem x89 {fp:List Addr}{h:Heap}{b:Addr}{o:Obj}(hb:b∈fp)(e:h.get? b=some o):(b,o)∈y1m fp h:=List.mem_filterMap.mpr ⟨b,hb,by rw[e];rfl⟩
theorem y6p {fp:List Addr}{h:Heap}{p:Addr×Obj}(hp:p∈y1m fp h):p.1∈fp/\h.get? p.1=some p.2:=by
 obtain⟨b,hb,e⟩:=List.mem_filterMap.mp hp
 cases q:h.get? b with
 | none=>rw[q]at e;cases e
 | some o=>
  rw[q]at e
  have e':(b,o)=p:=Option.some.inj e
  subst e'
  exact⟨hb,q⟩
theorem Inv.pinned {pins:List (Addr×Obj)}{σ:St}{H:Hp}{s:Shared}{fp:List Addr}(I:Inv X pins σ H s)(hf:∀ b∈fp,z4h X pins H b)(ho:∀ b∈fp,∃ o,s.heap.get? b=some o/\∀ v,o.data ≠ .cell v):Inv X (pins++y1m fp s.heap) σ H s:=
 I.pins_of fun p hp=>(List.mem_append.mp hp).elim (fun z=>I.pin p (List.mem_append_right _ z)) fun z=>by
  obtain⟨hb,e⟩:=y6p z
  obtain⟨f0,f1,f2,_⟩:=hf p.1 hb
  obtain⟨o,e',d⟩:=ho p.1 hb
  rw[e]at e';cases e'
  exact⟨e,f0,f1,f2,d⟩
theorem Inv.unpinned {pins pl:List (Addr×Obj)}{σ:St}{H:Hp}{s:Shared}(I:Inv X (pins++pl) σ H s):Inv X pins σ H s:=I.pins_of fun p hp=>I.pin p (List.mem_append_right _ (List.mem_append_left _ hp))
theorem j5f {iter:Expr}{body:List Stmt}{wi:TI}{g:TG}{tb:TS}{pos:Pos}(hp:PassesOwn (model X.prog X.w) X.A X.env X.xe)(hc:X.calm=true)(hi:PI X tg iter wi)(hg:PG X tg g)(hb:PSs X body tb)
  (hs:∀ x,foldedSetIterable iter X.env x=pure x:=by intro _;rfl):PS X (.For tg iter body [] pos) (k0d wi g tb):=by
 intro pins s σ H D I h
 refine wpAny_For (thn (hi pins s σ H _ I h) fun v s1 h1=>thn h1 fun itv s2 h2=>?_) hs
 obtain⟨it,fp,tn,J,H2,e,I2,T,st2,f2,W,⟨m0,w0⟩,turn⟩:=h2
 subst e
 -- what stays true of the iterator's objects through the loop
 have stat:∀ {H':Hp},(∀ b∈fp,H' b=none)->∀ b∈fp,z4h X pins H' b:=fun hn b hb=>⟨hn b hb,(f2 b hb).2⟩
 refine codeAny_forLoop_any (fun n s'=>∃ i σ' H',Inv X pins σ' H' s'/\tn i s'.heap/\(∀ b∈fp,H' b=none)/\W i n σ' H') ?_ m0 ⟨0,σ,H2,I2,st2,fun b hb=>(f2 b hb).1,w0⟩
 rintro n s3 ⟨i,σ3,H3,I3,st3,fr3,w3⟩
 rcases turn i n σ3 H3 w3 with⟨stop,qn⟩|⟨go,N,hN,step⟩
 ·refine wpAny_passesOwn hp (thn (T.done X rfl rfl rfl hc i pins s3 σ3 H3 X.xe I3 (stat fr3) st3 stop) fun r s4 ⟨hr,I4⟩=>?_)
  subst hr
  exact wpAny_execs_nil ⟨σ3,H3,I4,qn⟩
 ·refine wpAny_passesOwn hp (thn (T.item X rfl rfl rfl hc i pins s3 σ3 H3 X.xe I3 (stat fr3) st3 go) fun r s4 ⟨u,hr,h4⟩=>?_)
  subst hr
  refine wpAny_passesOwn hp (thn h4 fun _ s5 hh0=>?_)
  obtain⟨x,H5,I5,r5,y5,st5,fr5⟩:=hh0
  have I5':=I5.pinned (stat fr5) (T.obj _ _ st5)
  refine wpAny_passesOwn hp (thn (hg _ s5 σ3 H5 x u _ I5' r5 (step x H5 y5)) fun _ s6 hh0=>?_)
  obtain⟨σ6,H6,I6,q6⟩:=hh0
  refine wpAny_passesOwn hp (thn (hb _ s6 σ6 H6 _ I6 q6) fun f s7 q7=>?_)
  have again:∀ {σ7:St} {H7:Hp},Inv X (pins++y1m fp s5.heap) σ7 H7 s7->N σ7 H7->∃ m,m<n/\∃ i σ' H',Inv X pins σ' H' s7/\tn i s7.heap/\(∀ b∈fp,H' b=none)/\W i m σ' H':=fun {σ7 H7} I7 n7=>by
   obtain⟨m',hm,w7⟩:=hN σ7 H7 n7
   refine⟨m',hm,i+1,σ7,H7,I7.unpinned,T.keep _ _ _ st5 fun b hb o e=>(I7.pin (b,o) (List.mem_append_right _ (List.mem_append_right _ (x89 hb e)))).1,fun b hb=>?_,w7⟩
   obtain⟨o,e,d⟩:=T.obj _ _ st5 b hb
   exact(I7.pin (b,o) (List.mem_append_right _ (List.mem_append_right _ (x89 hb e)))).2.1
  cases f with
  | next=>obtain⟨σ7,H7,I7,n7⟩:=q7;exact again I7 n7
  | cont=>obtain⟨σ7,H7,I7,n7⟩:=q7;exact again I7 n7
  | brk=>obtain⟨σ7,H7,I7,q7⟩:=q7;exact⟨σ7,H7,I7.unpinned,q7⟩
  | ret v=>obtain⟨x7,σ7,H7,I7,r7,q7⟩:=q7;exact⟨x7,σ7,H7,I7.unpinned,r7,q7⟩
end
abbrev R2:=V->V->Hp->VK->Prop
def OpR (X:Cx)(f:Value->Value->Sem Value)(r:R2):Prop:=
 ∀ (pins:List (Addr×Obj)) (s:Shared) (σ:St) (H:Hp) (x y:V) (v u:Value) (Q:VK),Inv X pins σ H s->x4g x v->x4g y u->r x y H Q->
  wpAny (model X.prog X.w) X.A (f v u) (EP X pins σ Q) X.xe s
def UnR (X:Cx)(f:Value->Sem Value)(r:V->Hp->VK->Prop):Prop:=
 ∀ (pins:List (Addr×Obj)) (s:Shared) (σ:St) (H:Hp) (x:V) (v:Value) (Q:VK),Inv X pins σ H s->x4g x v->r x H Q->
  wpAny (model X.prog X.w) X.A (f v) (EP X pins σ Q) X.xe s
def y0c (X:Cx)(f:Value)(r:List V->Hp->VK->Prop):Prop:=
 ∀ (pins:List (Addr×Obj)) (s:Shared) (σ:St) (H:Hp) (xs:List V) (us:List Value) (Q:VK),Inv X pins σ H s->x37 xs us->r xs H Q->
  wpAny (model X.prog X.w) X.A (call f us) (EP X pins σ Q) X.xe s
def k02 (X:Cx)(r:V->Hp->(Bool->Hp->Prop)->Prop):Prop:=
 ∀ (pins:List (Addr×Obj)) (s:Shared) (σ:St) (H:Hp) (x:V) (v:Value) (Q:Bool->Hp->Prop),Inv X pins σ H s->x4g x v->r x H Q->
  wpAny (model X.prog X.w) X.A (truthy v) (TP X pins σ Q) X.xe s
def tOp (r:R2)(ta tb:TE):TE:=fun σ H Q=>ta σ H fun x H1=>tb σ H1 fun y H2=>r x y H2 Q
def tUn (r:V->Hp->VK->Prop)(ta:TE):TE:=fun σ H Q=>ta σ H fun x H1=>r x H1 Q
def rI (C:Int->Int->Prop)(g:Int->Int->V):R2:=fun x y H Q=>∃ i j,x=.int i/\y=.int j/\C i j/\Q (g i j) H
def rI0 (g:Int->Int->V):R2:=fun x y H Q=>∃ i j,x=.int i/\y=.int j/\Q (g i j) H
def rU (g:Int->V):V->Hp->VK->Prop:=fun x H Q=>∃ i,x=.int i/\Q (g i) H
section
variable {X:Cx}{a b c:Expr}{ta tb tc:TE}{pos:Pos}
theorem j7p (ha:PE X a ta)(hb:PE X b tb){pins:List (Addr×Obj)}{s:Shared}{σ:St}{H:Hp}{R:V->V->Hp->Prop}(I:Inv X pins σ H s)
  (h:ta σ H fun x H1=>tb σ H1 fun y H2=>R x y H2) {Q:Value->Shared->Prop} {f:Value->Value->Sem Value}
  (hf:∀ v u s2 x y H2,Inv X pins σ H2 s2->x4g x v->x4g y u->R x y H2->wpAny (model X.prog X.w) X.A (f v u) Q X.xe s2) :
  wpAny (model X.prog X.w) X.A (eval a X.env) (fun v s₁=>wpAny (model X.prog X.w) X.A (eval b X.env) (fun u s₂=>wpAny (model X.prog X.w) X.A (f v u) Q X.xe s₂) X.xe s₁) X.xe s:=by
 refine thn (ha pins s σ H _ I h) fun v s1 hh0=>?_
 obtain⟨x,H1,I1,r1,q1⟩:=hh0
 refine thn (hb pins s1 σ H1 _ I1 q1) fun u s2 hh0=>?_
 obtain⟨y,H2,I2,r2,q2⟩:=hh0
 exact hf v u s2 x y H2 I2 r1 r2 q2
theorem y89 {op:Operator}{r:R2}(ho:OpR X (binaryOp op) r)(ha:PE X a ta)(hb:PE X b tb):PE X (.BinOp a op b pos) (tOp r ta tb):=by
 intro pins s σ H Q I h
 exact wpAny_BinOp (j7p ha hb I h fun v u s2 x y H2 I2 rx ry q=>ho pins s2 σ H2 x y v u Q I2 rx ry q)
theorem j82 {op:UnaryOp}{r:V->Hp->VK->Prop}(ho:UnR X (unaryOp op) r)(ha:PE X a ta):PE X (.UnaryOp op a pos) (tUn r ta):=by
 intro pins s σ H Q I h
 exact UnaryOp_ (thn (ha pins s σ H _ I h) fun v s1 ⟨x,H1,I1,r1,q1⟩=>ho pins s1 σ H1 x v Q I1 r1 q1)
theorem opI {f:Value->Value->Sem Value}{C:Int->Int->Prop}{g:Int->Int->Int}
  (rule:∀ (i j:Int) (t u:Tok) (s:Shared) (Q:Value->Shared->Prop) (E:Value->Shared->Prop),C i j->Q (.int (g i j) s.toks) { s with toks:=s.toks+1 }->wpAny (model X.prog X.w) X.A (f (.int i t) (.int j u)) Q E s) :
  OpR X f (rI C fun i j=>.int (g i j)):=by
 intro pins s σ H x y v u Q I rx ry h
 obtain⟨i,j,rfl,rfl,hc,q⟩:=h
 obtain⟨t,rfl⟩:=rx
 obtain⟨t',rfl⟩:=ry
 exact rule i j t t' s _ _ hc ⟨.int (g i j),H,I.tok _,⟨_,rfl⟩,q⟩
theorem j9p {f:Value->Value->Sem Value}{g:Int->Int->Int}
  (rule:∀ (i j:Int) (t u:Tok) (s:Shared) (Q:Value->Shared->Prop) (E:Value->Shared->Prop),Q (.int (g i j) s.toks) { s with toks:=s.toks+1 }->wpAny (model X.prog X.w) X.A (f (.int i t) (.int j u)) Q E s) :
  OpR X f (rI0 fun i j=>.int (g i j)):=by
 intro pins s σ H x y v u Q I rx ry h
 obtain⟨i,j,rfl,rfl,q⟩:=h
 obtain⟨t,rfl⟩:=rx
 obtain⟨t',rfl⟩:=ry
 exact rule i j t t' s _ _ ⟨.int (g i j),H,I.tok _,⟨_,rfl⟩,q⟩
theorem j8d {f:Value->Value->Sem Value}{g:Int->Int->Bool}
  (rule:∀ (i j:Int) (t u:Tok) (s:Shared) (Q:Value->Shared->Prop) (E:Value->Shared->Prop),Q (.bool (g i j)) s->wpAny (model X.prog X.w) X.A (f (.int i t) (.int j u)) Q E s) :
  OpR X f (rI0 fun i j=>.bl (g i j)):=by
 intro pins s σ H x y v u Q I rx ry h
 obtain⟨i,j,rfl,rfl,q⟩:=h
 obtain⟨t,rfl⟩:=rx
 obtain⟨t',rfl⟩:=ry
 exact rule i j t t' s _ _ ⟨.bl (g i j),H,I,rfl,q⟩
def j9v (i j:Int):Prop:=0<j/\j<1073741824
def j8b (i j:Int):Prop:=(-(2 ^ 64)<i/\i<2 ^ 64)\/(-(2 ^ 64)<j/\j<2 ^ 64)
theorem j8b.ok {i j:Int}(h:j8b i j):IntMulOk i j:=by
 rcases h with⟨h1,h2⟩|⟨h1,h2⟩
 ·exact .of_left (intBits_le_64 h1 h2)
 ·exact .of_right (intBits_le_64 h1 h2)
theorem j5d:OpR X (binaryOp .Add) (rI0 fun i j=>.int (i+j)):=j9p fun _ _ _ _ _ _ _ q=>add_int q
theorem j5s:OpR X (binaryOp .Mult) (rI j8b fun i j=>.int (i*j)):=opI fun _ _ _ _ _ _ _ hc q=>mul_int q hc.ok
theorem j08:OpR X (binaryOp .FloorDiv) (rI j9v fun i j=>.int (i / j)):=opI fun i j _ _ _ _ _ hc q=>by
 have h1:(0:Int)<j:=hc.1
 have h2:j<1073741824:=hc.2
 exact floordiv_int (by omega) (by rw[Int.fdiv_eq_ediv_of_nonneg i (by omega)];exact q) (.inl (PyProof.noPylong_small (by omega)))
theorem j4r:OpR X (binaryOp .Mod) (rI (fun _ j=>0<j) fun i j=>.int (i % j)):=opI fun i j _ _ _ _ _ hc q=>by
 have h1:(0:Int)<j:=hc
 exact mod_int' (by omega) (by rw[Int.fmod_eq_emod_of_nonneg i (by omega)];exact q)
theorem unI {f:Value->Sem Value}{g:Int->Int}
  (rule:∀ (i:Int) (t:Tok) (s:Shared) (Q:Value->Shared->Prop) (E:Value->Shared->Prop),Q (.int (g i) s.toks) { s with toks:=s.toks+1 }->wpAny (model X.prog X.w) X.A (f (.int i t)) Q E s) :
  UnR X f (rU fun i=>.int (g i)):=by
 intro pins s σ H x v Q I rx h
 obtain⟨i,rfl,q⟩:=h
 obtain⟨t,rfl⟩:=rx
 exact rule i t s _ _ ⟨.int (g i),H,I.tok _,⟨_,rfl⟩,q⟩
theorem j61:UnR X (unaryOp .USub) (rU fun i=>.int (-i)):=unI fun _ _ _ _ _ q=>neg_int q
theorem j6t {pins:List (Addr×Obj)}{σ:St}{H:Hp}{s:Shared}{Q:VK}{k k':Bool}(I:Inv X pins σ H s)(q:Q (.bl k) H)(e:k=k'):EP X pins σ Q (.bool k') s:=by
 subst e
 exact⟨.bl k,H,I,rfl,q⟩
theorem j40:OpR X (compareOp .Lt) (rI0 fun i j=>.bl (decide (i<j))):=j8d fun _ _ _ _ _ _ _ q=>lt_int q
theorem j0j:OpR X (compareOp .LtE) (rI0 fun i j=>.bl (decide (i<=j))):=j8d fun _ _ _ _ _ _ _ q=>le_int q
theorem j81:OpR X (compareOp .Gt) (rI0 fun i j=>.bl (decide (j<i))):=j8d fun _ _ _ _ _ _ _ q=>gt_int q
theorem z9n:OpR X (compareOp .Is) (fun x y H Q=>y=.non/\Q (.bl (decide (x=.non))) H):=by
 intro pins s σ H x y v u Q I rx ry h
 obtain⟨rfl,q⟩:=h
 cases ry
 refine is_none_gen (j6t I q ?_)
 cases x<;>first
  | (cases rx;rfl)
  | (obtain⟨t,rfl⟩:=rx;rfl)
theorem OpR.or {f:Value->Value->Sem Value}{r r':R2}(h:OpR X f r)(h':OpR X f r'):OpR X f (fun x y H Q=>r x y H Q\/r' x y H Q):=by
 intro pins s σ H x y v u Q I rx ry q
 rcases q with q|q
 ·exact h pins s σ H x y v u Q I rx ry q
 ·exact h' pins s σ H x y v u Q I rx ry q
theorem y2m (b:Expr){op:CmpOp}(h:op ≠ .In:=by decide)(h2:op ≠ .NotIn:=by decide):behindInMarks op b=false:=by
 have e1:(op==CmpOp.In)=false:=by cases op<;>first|rfl|exact absurd rfl h
 have e2:(op==CmpOp.NotIn)=false:=by cases op<;>first|rfl|exact absurd rfl h2
 cases b<;>simp[behindInMarks,e1,e2]
theorem j1e {op:CmpOp}{r:R2}(ho:OpR X (compareOp op) r)(ha:PE X a ta)(hb:PE X b tb)(hm:behindInMarks op b=false):PE X (.Compare a [op] [b] pos) (tOp r ta tb):=by
 intro pins s σ H Q I h
 exact wpAny_Compare1 (j7p ha hb I h fun v u s2 x y H2 I2 rx ry q=>ho pins s2 σ H2 x y v u Q I2 rx ry q) hm
def j3v (t:TE):TT:=fun σ H Q=>t σ H fun x H'=>∃ k,x=.bl k/\Q k H'
theorem j0i {op:CmpOp}{r:R2}(ho:OpR X (compareOp op) r)(ha:PE X a ta)(hb:PE X b tb)(hm:behindInMarks op b=false):PT X (.Compare a [op] [b] pos) (j3v (tOp r ta tb)):=by
 intro pins s σ H Q I h
 refine wpAny_isTrue_Compare1 (thn (ha pins s σ H _ I h) fun v s1 ⟨x,H1,I1,r1,q1⟩=>thn (hb pins s1 σ H1 _ I1 q1) fun u s2 ⟨y,H2,I2,r2,q2⟩=>
  thn (ho pins s2 σ H2 x y v u _ I2 r1 r2 q2) fun c s3 ⟨z,H3,I3,r3,k,e,q3⟩=>?_) hm
 subst e
 cases r3
 exact wpAny_truthy_bool ⟨H3,I3,q3⟩
def j5e (r r':R2)(ta tb tc:TE):TE:=fun σ H Q=>ta σ H fun x H1=>tb σ H1 fun y H2=>r x y H2 fun z H3=>∃ k,z=.bl k /\
 (if k=true then tc σ H3 fun w' H4=>r' y w' H4 Q else Q (.bl false) H3)
theorem z84 {op op':CmpOp}{r r':R2}(ho:OpR X (compareOp op) r)(ho':OpR X (compareOp op') r')(ha:PE X a ta)(hb:PE X b tb)(hc:PE X c tc)
  (hm:lastMarks [op,op'] [b,c]=false:=by with_unfolding_all rfl):PE X (.Compare a [op,op'] [b,c] pos) (j5e r r' ta tb tc):=by
 intro pins s σ H Q I h
 refine Compare_chain (thn (ha pins s σ H _ I h) fun v s1 ⟨x,H1,I1,r1,q1⟩=>chain_link (thn (hb pins s1 σ H1 _ I1 q1) fun u s2 ⟨y,H2,I2,r2,q2⟩=>
  thn (ho pins s2 σ H2 x y v u _ I2 r1 r2 q2) fun d s3 ⟨z,H3,I3,r3,k,e,q3⟩=>?_)) hm
 subst e
 cases r3
 refine wpAny_truthy_bool ?_
 cases k with
 | false=>exact ite_ff ⟨.bl false,H3,I3,rfl,q3⟩
 | true=>exact ite_tt (chain_last (thn (hc pins s3 σ H3 _ I3 q3) fun w' s4 ⟨z',H4,I4,r4,q4⟩=>ho' pins s4 σ H4 y z' u w' Q I4 r2 r4 q4))
def j97 (K:PySem.W.Frag)(x:V)(H:Hp)(k:Bool):Prop:=
 match x with
 | .non=>k=false
 | .bl b=>k=b
 | .int i=>k=(i != 0)
 | .str y=>y.length<=sizeLine/\k=((y.length:Int) != 0)
 | .byt y=>y.size<=sizeLine/\k=((y.size:Int) != 0)
 | .ref p=>(∃ xs,SqL K H p xs/\k = !xs.isEmpty)\/(∃ xs,SqT K H p xs/\k = !xs.isEmpty)\/∃ kvs,H p=some (.dK kvs)/\k = !kvs.isEmpty
 | _=>False
theorem z1z {κ:Type}{kvs:List (κ×V)}{vs:List (κ×Value)}(r:KV kvs vs):(!vs.isEmpty) = !kvs.isEmpty:=by
 cases r<;>rfl
theorem y53 {xs:List V}{its:List Value}(r:x37 xs its):(!its.toArray.isEmpty) = !xs.isEmpty:=by
 cases r<;>simp
theorem y4w:(sizeLine:Nat)<2 ^ 63:=by rw[sizeLine_eq];decide
theorem j6u:k02 X (fun x H Q=>∃ k,j97 X.K x H k/\Q k H):=by
 intro pins s σ H x v Q I rx h
 obtain⟨k,e,q⟩:=h
 have hl:=y4w
 have hs:sizeLine=16777216:=sizeLine_eq
 cases x with
 | non=>
  cases rx
  have e':k=false:=e
  subst e'
  exact truthy_none ⟨H,I,q⟩
 | bl b=>
  cases rx
  have e':k=b:=e
  subst e'
  exact wpAny_truthy_bool ⟨H,I,q⟩
 | int i=>
  obtain⟨t,rfl⟩:=rx
  have e':k=(i != 0):=e
  subst e'
  exact PySem.P.truthy_int ⟨H,I,q⟩
 | str y=>
  obtain⟨t,rfl⟩:=rx
  obtain⟨hy,e'⟩:y.length<=sizeLine/\k=((y.length:Int) != 0):=e
  subst e'
  exact PySem.P.truthy_str (by omega) ⟨H,I.tok _,q⟩
 | byt y=>
  obtain⟨t,rfl⟩:=rx
  obtain⟨hy,e'⟩:y.size<=sizeLine/\k=((y.size:Int) != 0):=e
  subst e'
  exact PySem.W.truthy_bytes (by omega) ⟨H,I.tok _,q⟩
 | ref p=>
  cases rx
  have e':(∃ xs,SqL X.K H p xs/\k = !xs.isEmpty)\/(∃ xs,SqT X.K H p xs/\k = !xs.isEmpty)\/∃ kvs,H p=some (.dK kvs)/\k = !kvs.isEmpty:=e
  rcases e' with⟨xs,hx,e'⟩|⟨xs,hx,e'⟩|⟨kvs,hx,e'⟩
  ·subst e'
   obtain⟨its,r,pl,hz⟩:=I.list hx
   have hlen:=r.length
   exact wpAny_truthy_list pl.isList (by simp only[List.size_toArray];omega) ⟨H,I.tok _,by rw[y53 r];exact q⟩
  ·subst e'
   obtain⟨its,r,pl,hz⟩:=I.tuple hx
   have hlen:=r.length
   exact truthy_tuple pl (by simp only[List.size_toArray];omega) ⟨H,I.tok _,by rw[y53 r];exact q⟩
  ·subst e'
   obtain⟨hz,hS,vs,r,m⟩:kvs.length<=sizeLine/\(p==sysModules)=false/\∃ vs,KV kvs vs/\s.heap.DictOf (x3i X.prog X.w) p vs:=I.hok p _ hx
   have hlen:kvs.length=vs.length:=Paired.length r
   exact wpAny_truthy_dict hS m (by omega) ⟨H,I.tok _,by rw[z1z r];exact q⟩
 | _=>exact(show False from e).elim
theorem z8f (ha:PE X a ta)(he:∀ whole,isTrue a X.env whole=(do let v <- whole;standAt a.pos;holding [v] (truthy v))) :
  PT X a (fun σ H Q=>ta σ H fun x H'=>∃ k,j97 X.K x H' k/\Q k H'):=by
 intro pins s σ H Q I h
 exact isTrue_plain (thn (ha pins s σ H _ I h) fun v s1 ⟨x,H1,I1,r1,q1⟩=>j6u pins s1 σ H1 x v Q I1 r1 q1) (he _)
theorem y3k {x:V}{us:List Value}(r:x37 [x] us):∃ u,us=[u]/\x4g x u:=by
 cases r with
 | cons r1 r2=>cases r2;exact⟨_,rfl,r1⟩
theorem z7s {x y:V}{us:List Value}(r:x37 [x,y] us):∃ u w',us=[u,w']/\x4g x u/\x4g y w':=by
 cases r with
 | cons r1 r2=>
  cases r2 with
  | cons r3 r4=>cases r4;exact⟨_,_,rfl,r1,r3⟩
theorem z4q (hc:X.calm=true):y0c X (.builtin "max") (fun xs H Q=>∃ i j,xs=[.int i,.int j]/\Q (.int (if j > i then j else i)) H):=by
 intro pins s σ H xs us Q I r h
 obtain⟨i,j,rfl,q⟩:=h
 obtain⟨u,w',rfl,⟨t,rfl⟩,⟨t',rfl⟩⟩:=z7s r
 refine max_two_ints (I.ok.hd hc) fun h' tk k=>⟨_,H,I.kept k,?_,q⟩
 by_cases hj:j > i
 ·rw[if_pos hj,if_pos hj];exact⟨_,rfl⟩
 ·rw[if_neg hj,if_neg hj];exact⟨_,rfl⟩
end
structure ObjM (h:Heap) (x dx C:Addr) (mA:Str->Option Value):Prop where
 obj:h.get? x=some (PySem.W.instObj C dx)
 ns:h.Ns1 dx mA
 ne:dx≠x
theorem z5w {h:Heap}{dx:Addr}{mA:Str->Option Value}(n:h.Ns1 dx mA):∃ od,h.get? dx=some od/\∀ name,PySem.W.lookIn name od=some (mA name):=by
 obtain⟨o,es,ep,ho,hd,hk,_,hm⟩:=n
 refine⟨o,ho,fun name=>?_⟩
 have e:=hm name
 unfold nsFind findBy at e
 rw[<- Array.find?_toList]at e
 unfold PySem.W.lookIn
 rw[hd]
 dsimp only
 split
 ·rename_i y q
  rw[q]at e
  exact congrArg some e
 ·rename_i q
  rw[q]at e
  have a:es.toList.any (·.refKey)=false:=by
   rw[List.any_eq_false]
   intro y hy
   obtain⟨z,t,hkey⟩:=hk y (Array.mem_toList_iff.mp hy)
   simp[DictEntry.refKey,hkey]
  have a':¬ es.toList.any (·.refKey)=true:=by rw[a];exact Bool.false_ne_true
  rw[if_neg a']
  exact congrArg some e
theorem ObjM.look {h:Heap}{x dx C:Addr}{mA:Str->Option Value}(I:ObjM h x dx C mA):∃ od,PySem.W.InstAt h x (PySem.W.instObj C dx) C (some od)/\∀ name,PySem.W.lookIn name od=some (mA name):=
 let ⟨od,ho,hl⟩:=z5w I.ns
 ⟨od,⟨I.obj,rfl,rfl,ho⟩,hl⟩
section
variable {P:Program}{w:World}{H H':Hp}{h h':Heap}{a C dx:Addr}{fs fs':List (Str×V)}
theorem j0a (hok:HOk P w H h)(e:H a=some (.ins C dx fs)):∃ mA,ObjM h a dx C mA/\(∀ f,j1i (fs.lookup f) (mA f))/\PySem.Within mA (fs.map (·.1))/\fs.length<=1000/\H dx=some (.own a):=by
 obtain⟨d,z,ne,ob,mA,n,r,q⟩:=(show x32 P w H h a (.ins C dx fs)from hok a _ e)
 exact⟨mA,⟨ob,n,ne⟩,r,q,z,d⟩
end
structure Cls (K:PySem.W.Frag) (C:Addr):Prop where
 pg:PySem.W.plainGet K C Str.empty=true
 hd:PySem.W.hasDictIn K C=true
 po:PySem.W.plainOver K C=true
 sa:PySem.W.findIn K (.ref C) "__setattr__" = some (some (.builtin "object.__setattr__"))
theorem Cls.get {K:PySem.W.Frag}{C:Addr}(c:Cls K C)(f:Str):PySem.W.plainGet K C f=true:=c.pg
section
variable {X:Cx}{pins:List (Addr×Obj)}{σ:St}{H:Hp}{s:Shared}{A:Around}{E:Value->Shared->Prop}{Q:Value->Shared->Prop}{c:Value}{b:Bool}
inductive TyOf (K:PySem.W.Frag) (H:Hp):V->Value->Prop where
 | non:TyOf K H .non (.type "NoneType")
 | bl (x:Bool):TyOf K H (.bl x) (.type "bool")
 | int (i:Int):TyOf K H (.int i) (.type "int")
 | str (x:Str):TyOf K H (.str x) (.type "str")
 | flt (x:UInt64):TyOf K H (.flt x) (.type "float")
 | lst {a:Addr} {xs:List V} (e:H a=some (.lst xs)):TyOf K H (.ref a) (.type "list")
 | frz {a:Addr} {o:Obj} {xs:List V} (e:H a=some (.frz o (.lst xs))):TyOf K H (.ref a) (.type "list")
 | tup {a:Addr} {xs:List V} (e:H a=some (.tup xs)):TyOf K H (.ref a) (.type "tuple")
 | dK {a:Addr} {kvs:List (Key×V)} (e:H a=some (.dK kvs)):TyOf K H (.ref a) (.type "dict")
 | dT {a:Addr} {kvs:List (List Key×V)} (e:H a=some (.dT kvs)):TyOf K H (.ref a) (.type "dict")
 | ins {a C dx:Addr} {fs:List (Str×V)} (e:H a=some (.ins C dx fs)) (cl:Cls K C) (ha:PySem.W.findIn K (.ref C) "__class__" = some (some (.builtin "object.__class__")))
   (hn:PySem.W.specialIn K (.builtin "object.__class__") "__get__" = some (some (.builtin "getset_descriptor.__get__"))) (htk:PySem.W.takesIn K (.builtin "object.__class__")=some true)
   (hm:PySem.W.mroIn K C (.type "object")=some true):TyOf K H (.ref a) (.ref C)
theorem x4d {x:V}{u t:Value}(I:Inv X pins σ H s)(rx:x4g x u)(ty:TyOf X.K H x t)(e:PySem.W.kitOne X.K t c=some b)(h:∀ tk,Q (.bool b) { s with toks:=tk }) :
  wpAny (model X.prog X.w) A (call (.builtin "isinstance") [u,c]) Q E s:=by
 cases ty with
 | non=>cases (show u=Value.none from rx);exact PySem.W.kia_one PySem.W.kitx_none I.kIn True.intro e (fun z=>nomatch z) h
 | bl y=>cases (show u=Value.bool y from rx);exact PySem.W.kia_one PySem.W.kitx_bool I.kIn True.intro e (fun z=>nomatch z) h
 | int i=>obtain⟨t,q⟩:=(show ∃ t,u=Value.int i t from rx);cases q;exact PySem.W.kia_one PySem.W.kitx_int I.kIn True.intro e (fun z=>nomatch z) h
 | str y=>obtain⟨t,q⟩:=(show ∃ t,u=Value.str y t from rx);cases q;exact PySem.W.kia_one PySem.W.kitx_str I.kIn True.intro e (fun z=>nomatch z) h
 | flt y=>obtain⟨t,q⟩:=(show ∃ t,u=Value.float y t from rx);cases q;exact PySem.W.kia_one PySem.W.kitx_float I.kIn True.intro e (fun z=>nomatch z) h
 | @lst a xs ea=>
  cases (show u=Value.ref a from rx)
  obtain⟨_,_,n,_,h1⟩:=(show x32 X.prog X.w H s.heap a (.lst xs)from I.hok a _ ea)
  exact PySem.W.kia_one PySem.W.kitx_list I.kIn ⟨_,h1,rfl⟩ e (fun z=>nomatch z) h
 | @frz a ob xs ea=>
  cases (show u=Value.ref a from rx)
  obtain⟨_,_,_,n,_,h1⟩:=(show x32 X.prog X.w H s.heap a (.frz ob (.lst xs))from I.hok a _ ea)
  exact PySem.W.kia_one PySem.W.kitx_list I.kIn ⟨_,h1,rfl⟩ e (fun z=>nomatch z) h
 | @tup a xs ea=>
  cases (show u=Value.ref a from rx)
  obtain⟨_,_,_,p⟩:=(show x32 X.prog X.w H s.heap a (.tup xs)from I.hok a _ ea)
  obtain⟨o,h1,h2,_⟩:=p
  exact PySem.W.kia_one PySem.W.kitx_tuple I.kIn ⟨o,h1,h2⟩ e (fun z=>nomatch z) h
 | @dK a kvs ea=>
  cases (show u=Value.ref a from rx)
  obtain⟨_,_,vs,_,p⟩:=(show x32 X.prog X.w H s.heap a (.dK kvs)from I.hok a _ ea)
  obtain⟨o,es,ep,h1,h2,_⟩:=p
  exact PySem.W.kia_one PySem.W.kitx_dict I.kIn ⟨o,h1,h2.1⟩ e (fun z=>nomatch z) h
 | @dT a kvs ea=>
  cases (show u=Value.ref a from rx)
  obtain⟨_,_,xs,_,o,es,ep,h1,h2,_⟩:=(show x32 X.prog X.w H s.heap a (.dT kvs)from I.hok a _ ea)
  exact PySem.W.kia_one PySem.W.kitx_dict I.kIn ⟨o,h1,h2.1⟩ e (fun z=>nomatch z) h
 | @ins a C dx fs ea cl ha hn htk hm=>
  cases (show u=Value.ref a from rx)
  obtain⟨mA,O,_⟩:=j0a I.hok ea
  obtain⟨od,J,_⟩:=O.look
  exact PySem.W.kia_one (PySem.W.kitx_own (cl.get _) cl.hd ha hn htk hm) I.kIn J e (fun z=>nomatch z) h
end
structure Room (k:Nat) (A:Around):Prop where
 hd:A.handled=none
 dp:A.depth+3*k+5<recursionLimit
 un:A.units+16*k+200<cLine
theorem Room.mono {j k:Nat}{A:Around}(r:Room k A)(h:j<=k):Room j A:=⟨r.hd,by have:=r.dp;omega,by have:=r.un;omega⟩
theorem Room.deeper {k:Nat}{A:Around}(r:Room (k+1) A)(env:Env):Room k (A.deeper env):=
 ⟨r.hd,by have:=r.dp;show A.depth+1+3*k+5<_;omega,by have:=r.un;show A.units+3+16*k+200<_;omega⟩
theorem Room.depth {k:Nat}{A:Around}(r:Room k A):A.depth<recursionLimit:=by have:=r.dp;omega
theorem Room.units {k:Nat}{A:Around}(r:Room k A):A.units+64<cLine:=by have:=r.un;omega
def j94:TA:=fun _ H Q=>Q [] H
def j3t (ta:TE)(tr:TA):TA:=fun σ H Q=>ta σ H fun x H1=>tr σ H1 fun xs H2=>Q (x::xs) H2
section
variable {X:Cx}{e:Expr}{es:List Expr}{te:TE}{t:TA}{pos:Pos}
theorem x71:PA X [] j94:=fun _ _ _ _ H Q I h=>Calls.spliced_nil ⟨[],H,I,.nil,h⟩
theorem x3v (ha:PE X e te)(hr:PA X es t)(hs:starEach (e::es) X.env=(false,eval e X.env)::starEach es X.env:=by rfl):PA X (e::es) (j3t te t):=by
 intro pos pins s σ H Q I h
 rw[hs]
 show wpAny _ _ (spliced ((false,eval e X.env)::backTo pos (starEach es X.env))) _ _ s
 refine Calls.spliced_cons (thn (ha pins s σ H _ I h) fun u s1 hh0=>?_)
 obtain⟨x,H1,I1,r1,q1⟩:=hh0
 exact thn (hr pos pins s1 σ H1 _ I1 q1) fun us s2 ⟨xs,H2,I2,r2,q2⟩=>⟨x::xs,H2,I2,.cons r1 r2,q2⟩
def j9x (t:TA):TE:=fun σ H Q=>t σ H fun xs H1=>xs.length<=sizeLine/\∀ p,H1 p=none->Q (.ref p) (upd H1 p (.tup xs))
def j9h (t:TA):TE:=fun σ H Q=>t σ H fun xs H1=>xs.length<=sizeLine/\∀ p,H1 p=none->Q (.ref p) (upd H1 p (.lst xs))
theorem j6f {x1}(h:PA X es t):PE X (.Tuple es x1 pos) (j9x t):=by
 intro pins s σ H Q I hq
 refine wpAny_Tuple_spliced (thn (h pos pins s σ H _ I hq) fun us s1 ⟨xs,H1,I1,r,z,q⟩=>⟨by rw[<- r.length];exact z,?_⟩)
 have hf:H1 s1.heap.objs.size=none:=I1.hok.fresh (Nat.le_refl _)
 refine⟨.ref s1.heap.objs.size,upd H1 s1.heap.objs.size (.tup xs),I1.laid (t':=s1.toks) (fun b u e=>Heap.get?_push_of_some _ e) (Nat.le_refl _) ?_,rfl,q _ hf⟩
 exact⟨z,us,r,⟨_,Heap.get?_push_size _ rfl,rfl,⟨_,rfl⟩,rfl⟩⟩
theorem j4u (h:PA X es t):PE X (.List es pos) (j9h t):=by
 intro pins s σ H Q I hq
 refine wpAny_List_spliced (thn (h pos pins s σ H _ I hq) fun us s1 ⟨xs,H1,I1,r,z,q⟩=>⟨by rw[<- r.length];exact z,?_⟩)
 have hf:H1 s1.heap.objs.size=none:=I1.hok.fresh (Nat.le_refl _)
 refine⟨.ref s1.heap.objs.size,upd H1 s1.heap.objs.size (.lst xs),I1.laid (t':=s1.toks) (fun b u e=>Heap.get?_push_of_some _ e) (Nat.le_refl _) ?_,rfl,q _ hf⟩
 exact⟨z,us,0,r,Heap.get?_push_size _ rfl⟩
end
abbrev Sp:=List V->Hp->VK->XK->Prop
abbrev CXT:=List Env->Hp->Shared->XK->Value->Shared->Prop
structure Env0 (P:Program) (w:World) (K:PySem.W.Frag) (mg:Str->Option Value) (base:Heap) (A:Around) (outer:List Env) (s:Shared) (H:Hp):Prop where
 frames:A.frames=some outer
 mod:Mod K mg base
 bs:∀ b o,base.get? b=some o->s.heap.get? b=some o/\H b=none
 bsz:base.objs.size<=s.heap.objs.size
 funs:s.heap.FunFrames base outer
 frf:∀ b∈frs outer,H b=none
 hok:HOk P w H s.heap
 bare:AllBare s.gens
def CE (outer:List Env)(P:Program)(w:World)(H:Hp)(s:Shared)(Q:VK)(u:Value)(s':Shared):Prop:=
 ∃ v H',s'.os=s.os/\AllBare s'.gens/\Un (frs outer) [] H H' s.heap s'.heap/\HOk P w H' s'.heap/\x4g v u/\Q v H'
def CR (CX:CXT)(outer:List Env)(P:Program)(w:World)(H:Hp)(s:Shared)(Q:VK)(E:XK)(r:Result)(s':Shared):Prop:=
 match r with
 | .ok (.ret u)=>CE outer P w H s Q u s'
 | .ok _=>False
 | .error e=>CX outer H s E e s'
structure FnOk (P:Program) (w:World) (K:PySem.W.Frag) (mg:Str->Option Value) (base:Heap) (CX:CXT) (k:Nat) (f:Addr) (fd:FuncData) (ps:List Str) (sp:Sp):Prop where
 len:∀ vs H Q E,sp vs H Q E->vs.length=ps.length
 run:∀ (A:Around) (outer:List Env) (s:Shared) (H:Hp) (args:Args) (us:List Value) (vs:List V) (Q:VK) (E:XK),Room k A->Env0 P w K mg base A outer s H->BindsTo s fd args (ps.zip us)->x37 vs us->sp vs H Q E->
  codeAny (model P w) A (.call (.ref f) args) (CR CX outer P w H s Q E) s
section
variable {X:Cx}{pins:List (Addr×Obj)}{σ:St}{H:Hp}{s s':Shared}
theorem Inv.env0 (I:Inv X pins σ H s):Env0 X.prog X.w X.K X.mg X.base X.A X.stack s H:=
 ⟨I.ok.frames,I.ok.mod,I.bs,Nat.le_trans I.ok.bsz I.sz,I.stack,I.stkFree,I.hok,I.bare⟩
theorem Inv.after {Q:VK}{u:Value}(I:Inv X pins σ H s)(h:CE X.stack X.prog X.w H s Q u s'):EP X pins σ Q u s':=by
 obtain⟨v,H',os,bare,un,hok,r,q⟩:=h
 obtain⟨hh,g,d,t,os'⟩:=s'
 obtain rfl:os'=s.os:=os
 exact⟨v,H',I.call (h':=hh) (g':=g) (d':=d) (t':=t) (ch:=[]) un hok bare (fun b z=>absurd z (by simp)),r,q⟩
end
def j8z (sp:Sp)(dvs:List V)(E:XK)(t:TA):TE:=fun σ H Q=>t σ H fun vs H1=>sp (vs++dvs) H1 Q E
def y6c (K:PySem.W.Frag)(fd:FuncData)(ps:List Str)(ds:List Value):Prop:=
 ∀ (s:Shared) (us:List Value),K.In s.heap->(us++ds).length=ps.length->BindsTo s fd ⟨us,[]⟩ (ps.zip (us++ds))
theorem y6c.all {K:PySem.W.Frag}{fd:FuncData}{ps:List Str}(h:∀ us:List Value,us.length=ps.length->bindArgs fd ⟨us,[]⟩=pure (ps.zip us)):y6c K fd ps []:=fun s us _ hl=>by
 rw[List.append_nil]at hl ⊢
 exact .of_eq (h us hl)
def z1e (CX:CXT)(X:Cx)(E:XK):Prop:=∀ (pins:List (Addr×Obj)) (σ:St) (H:Hp) (s:Shared) (e:Value) (s':Shared),Inv X pins σ H s->CX X.stack H s E e s'->X.xe e s'
section
variable {X:Cx}{CX:CXT}{k:Nat}{f C:Addr}{fd:FuncData}{ps:List Str}{sp:Sp}{dvs:List V}{ds:List Value}{E:XK}{x m:Str}{p pos apos:Pos}{e o:Expr}{es:List Expr}{ta:TE}{t:TA}
theorem j6d {pins:List (Addr×Obj)}{σ:St}{H:Hp}{s:Shared}{Q:VK}{us:List Value}{vs:List V}(F:FnOk X.prog X.w X.K X.mg X.base CX k f fd ps sp)(hr:Room k X.A)(hb:y6c X.K fd ps ds)(hd:x37 dvs ds)(hx:z1e CX X E)
  (I:Inv X pins σ H s) (r:x37 vs us) (h:sp (vs++dvs) H Q E):wpAny (model X.prog X.w) X.A (call (.ref f) us) (EP X pins σ Q) X.xe s:=by
 have r2:x37 (vs++dvs) (us++ds):=r.append hd
 have hl:(us++ds).length=ps.length:=by rw[<- r2.length];exact F.len _ _ _ _ h
 refine wpAny_call (codeAny_mono (F.run X.A X.stack s H ⟨us,[]⟩ (us++ds) (vs++dvs) Q E hr I.env0 (hb s us I.kIn hl) r2 h) fun r s' hq=>?_)
 cases r with
 | error e=>exact hx pins σ H s e s' I hq
 | ok fl=>
  cases fl with
  | ret u=>exact I.after hq
  | next=>exact False.elim hq
  | brk=>exact False.elim hq
  | cont=>exact False.elim hq
theorem z4p (F:FnOk X.prog X.w X.K X.mg X.base CX k f fd ps sp)(hr:Room k X.A)(hg:Gl X x)(hm:X.mg x=some (.ref f))(hk:PySem.W.keepIn X.K (.ref f)=true)(hb:y6c X.K fd ps ds)(hd:x37 dvs ds)(hx:z1e CX X E)
  (ha:PA X (e::es) t) (hdb:(x==("__debug__":Str))=false:=by decide) (he:starEach (e::es) X.env=(false,eval e X.env)::starEach es X.env:=by rfl) (hpl:(backTo pos (starEach es X.env)).any (·.1)=false:=by rfl) :
  PE X (.Call (.Name x p) (e::es) [] pos) (j8z sp dvs E t):=by
 intro pins s σ H Q I h
 refine wpAny_Call_Name_kw (y36 I hg hm ?_ hdb)
 refine PySem.W.callWith_K (h₀:=X.base) I.ok.mod.kin hk (thn (ha pos pins s σ H _ I h) fun us s1 ⟨vs,H1,I1,r,q⟩=>⟨I1.kIn,?_⟩) he hpl
 exact j6d F hr hb hd hx I1 r q
end
structure FnScope (N P:List Str) (sc:Scope):Prop where
 kind:sc.kind=.function
 co:sc.isCoroutine=false
 gen:sc.isGenerator=false
 nd:N.Nodup
 pre:N.take P.length=P
 par:∀ x∈P,sc.names.lookup x=some .local\/sc.names.lookup x=some .cell
 nofree:∀ y∈sc.names,y.2 ≠ .free
theorem fsq {N P:List Str}{sc:Scope}(a:sc.kind=.function:=by rfl)(b:sc.isCoroutine=false:=by rfl)(c:sc.isGenerator=false:=by rfl)(d:N.Nodup:=by decide +kernel)(e:N.take P.length=P:=by rfl)(f:∀ x∈P,sc.names.lookup x=some .local\/sc.names.lookup x=some .cell:=by decide +kernel)(g:∀ y∈sc.names,y.2 ≠ .free:=by decide +kernel):FnScope N P sc:=⟨a,b,c,d,e,f,g⟩
theorem y7h {kindOf:Str->Option NameKind}{x:Str}:∀ {binds:List (Str×Value)} {m:Str->Option Value},(∀ v,(x,v) ∉ binds)->bindL kindOf binds m x=m x
 | [],_,_=>rfl
 | (n,v)::r,m,h=>by
  unfold bindL
  rw[y7h fun w hw=>h w (List.mem_cons_of_mem _ hw)]
  split
  ·have:x≠n:=by rintro rfl;exact h v List.mem_cons_self
   simp[this]
  ·rfl
theorem y85 {kindOf:Str->Option NameKind}{x:Str}:∀ {binds:List (Str×Value)} {m:Str->Option Value},(∀ v,(x,v) ∉ binds)->bindC kindOf binds m x=m x
 | [],_,_=>rfl
 | (n,v)::r,m,h=>by
  unfold bindC
  rw[y85 fun w hw=>h w (List.mem_cons_of_mem _ hw)]
  split
  ·rfl
  ·have:x≠n:=by rintro rfl;exact h v List.mem_cons_self
   simp[this]
theorem y8g {kindOf:Str->Option NameKind}{x:Str}{v:Value}:∀ {P:List Str} {vs:List Value} {i:Nat} {m:Str->Option Value},P.Nodup->P[i]? = some x->vs[i]? = some v->kindOf x=some .local->
  bindL kindOf (P.zip vs) m x=some v
 | [],_,_,_,_,h,_,_=>by simp at h
 | _::_,[],_,_,_,_,h,_=>by simp at h
 | p::P,w::vs,0,m,nd,h1,h2,hk=>by
  simp at h1 h2;subst h1;subst h2
  show bindL kindOf ((p,w)::P.zip vs) m p=_
  unfold bindL
  rw[y7h fun v hv=>(List.nodup_cons.mp nd).1 (List.of_mem_zip hv).1,if_pos hk]
  simp
 | p::P,w::vs,i+1,m,nd,h1,h2,hk=>by
  show bindL kindOf ((p,w)::P.zip vs) m x=_
  unfold bindL
  exact y8g (i:=i) (List.nodup_cons.mp nd).2 (by simpa using h1) (by simpa using h2) hk
theorem y83 {kindOf:Str->Option NameKind}{x:Str}{v:Value}:∀ {P:List Str} {vs:List Value} {i:Nat} {m:Str->Option Value},P.Nodup->P[i]? = some x->vs[i]? = some v->kindOf x≠some .local->
  bindC kindOf (P.zip vs) m x=some v
 | [],_,_,_,_,h,_,_=>by simp at h
 | _::_,[],_,_,_,_,h,_=>by simp at h
 | p::P,w::vs,0,m,nd,h1,h2,hk=>by
  simp at h1 h2;subst h1;subst h2
  show bindC kindOf ((p,w)::P.zip vs) m p=_
  unfold bindC
  rw[y85 fun v hv=>(List.nodup_cons.mp nd).1 (List.of_mem_zip hv).1,if_neg hk]
  simp
 | p::P,w::vs,i+1,m,nd,h1,h2,hk=>by
  show bindC kindOf ((p,w)::P.zip vs) m x=_
  unfold bindC
  exact y83 (i:=i) (List.nodup_cons.mp nd).2 (by simpa using h1) (by simpa using h2) hk
def y42 (N:List Str)(vs:List V):St:=vs.map some++List.replicate (N.length-vs.length) none
def z2u (CX:CXT)(P:Program)(w:World)(K:PySem.W.Frag)(mg:Str->Option Value)(base:Heap)(N:List Str)(qual:Str)(scope:Scope)(f:Addr)(cd:Value)(A:Around)(outer:List Env)(s:Shared)(H:Hp)(E:XK):Cx where
 prog:=P
 w:=w
 K:=K
 mg:=mg
 base:=base
 A:=A.deeper (envOfC qual scope s.heap.objs.size f cd)
 N:=N
 s₀:=s
 H₀:=H
 env:=envOfC qual scope s.heap.objs.size f cd
 outer:=outer
 stack:=envOfC qual scope s.heap.objs.size f cd::outer
 ex:=[]
 calm:=true
 fn:=fun _=>true
 pn:=[]
 xe:=fun e s'=>wpAny (model P w) (A.deeper (envOfC qual scope s.heap.objs.size f cd)) (leaving (envOfC qual scope s.heap.objs.size f cd) e) (fun _ s''=>CX outer H s E e s'') (fun e' s''=>CX outer H s E e' s'') s'
theorem z0w {sc:Scope}{n:Nat}{x:Str}(h:sc.names.lookup x=some .cell):∃ c,(cellsFrom n sc.names []).lookup x=some c:=by
 have q:=PySem.W.cellsFrom_some sc.names n [] (.inl h)
 exact Option.isSome_iff_exists.mp q
theorem z5s {CX:CXT}{P:Program}{w:World}{K:PySem.W.Frag}{mg:Str->Option Value}{base:Heap}{N ps:List Str}{qual:Str}{scope:Scope}{f:Addr}{cd:Value}{A:Around}{outer:List Env}{s s1:Shared}{H:Hp}{E:XK}{us:List Value}{vs:List V}
  (S:FnScope N ps scope) (hd:A.handled=none) (e0:Env0 P w K mg base A outer s H) (hl:vs.length=ps.length) (r:x37 vs us)
  (x:InCallC s s.heap.objs.size (bindL (envOfC qual scope s.heap.objs.size f cd).kindOf (ps.zip us) fun _=>none) (cellsFrom (s.heap.objs.size+1) scope.names []) (bindC (envOfC qual scope s.heap.objs.size f cd).kindOf (ps.zip us) fun _=>none) s1) :
  Inv (z2u CX P w K mg base N qual scope f cd A outer s H E) [] (y42 N vs) H s1:=by
 have hpl:ps.length<=N.length:=by have:=congrArg List.length S.pre;rw[List.length_take]at this;omega
 obtain⟨h1,tk,rfl,hk⟩:=x.done
 have noA:∀ b:Addr,b ∉ (z2u CX P w K mg base N qual scope f cd A outer s H E).ex:=fun b z=>absurd (show b∈([]:List Addr)from z) (by simp)
 refine⟨⟨e0.mod,S.kind,rfl,rfl,Nat.le_refl _,fun y z c h1 h2=>?_,fun y hy=>?_,fun y c _ h=>?_,fun _=>hd,Around.frames_deeper e0.frames,.inr ⟨rfl,rfl⟩,fun b z=>absurd z (noA b),e0.bs,e0.bsz,fun b _ _=>noA b,fun b z=>absurd z (noA b),e0.funs,e0.frf⟩,
  rfl,e0.bare,Un.kept hk,⟨_,x.toInCall.ns,fun i y v h1 h2 h3=>?_⟩,fun y c h=>⟨_,x.cell y c h⟩,e0.hok.fresh (Nat.le_refl _),fun y c h=>?_,fun p hp=>absurd (show p∈([]:List (Addr×Obj))from hp) (by simp),e0.hok.kept hk,?_⟩
 ·exact name_of_addr x.apart (PySem.mem_of_lookup h1) (PySem.mem_of_lookup h2)
 ·have hy:scope.names.lookup y=some .cell\/scope.names.lookup y=some .free:=hy
  rcases hy with hy|hy
  ·exact z0w hy
  ·exact absurd rfl (S.nofree _ (PySem.mem_of_lookup hy))
 ·exact Nat.le_of_lt (x.above y c (PySem.mem_of_lookup h))
 ·have hi:i<vs.length:=by
   unfold y42 at h2
   by_cases hi:i<vs.length
   ·exact hi
   ·rw[List.getElem?_append_right (by simpa using hi)]at h2
    rw[List.getElem?_replicate]at h2
    split at h2<;>cases h2
  have ha:vs[i]? = some v:=by
   unfold y42 at h2
   rw[List.getElem?_append_left (by simpa using hi),List.getElem?_map]at h2
   cases e:vs[i]? with
   | none=>rw[e]at h2;cases h2
   | some a=>rw[e]at h2;cases h2;rfl
  obtain⟨u,hu,rv⟩:=r.get ha
  have hp:ps[i]? = some y:=by
   rw[<- S.pre,List.getElem?_take_of_lt (by omega)];exact h1
  have ndP:ps.Nodup:=by rw[<- S.pre];exact S.nd.sublist (List.take_sublist _ _)
  refine⟨u,rv,?_⟩
  rcases S.par y (List.mem_of_getElem? hp)with k|k
  ·exact .inl ⟨k,y8g ndP hp hu k⟩
  ·obtain⟨c,e⟩:=z0w (n:=s.heap.objs.size+1) k
   refine .inr ⟨.inl k,c,e,?_⟩
   have q:=x.cell y c e
   rw[y83 ndP hp hu (by show scope.names.lookup y≠_;rw[k];decide)]at q
   exact q
 ·exact e0.hok.fresh (Nat.le_of_lt (x.above y c (PySem.mem_of_lookup h)))
 ·unfold y42
  show _=N.length
  rw[List.length_append,List.length_map,List.length_replicate]
  omega
theorem j6a {CX:CXT}{P:Program}{w:World}{K:PySem.W.Frag}{mg:Str->Option Value}{base:Heap}{k:Nat}{f:Addr}{name qual:Str}{params:Arguments}{body:List Stmt}{scope:Scope}{dV kV doc pm cdv ct oc:Value}{an od:Option Addr}
  {osl:Array (Option Value)} {N ps:List Str} {sp:Sp} (lk:K.lookup f=some ⟨oc,od,.func (PySem.W.fnOf name qual params body scope dV kV doc pm an cdv ct),osl⟩) (hcd:PySem.W.codeIn K cdv qual=true) (S:FnScope N ps scope)
  (len:∀ vs H Q E,sp vs H Q E->vs.length=ps.length)
  (hbody:∀ (A:Around) (outer:List Env) (s:Shared) (H:Hp) (vs:List V) (Q:VK) (E:XK),Room k (A.deeper (envOfC qual scope s.heap.objs.size f cdv))->sp vs H Q E->
    ∃ t,PSs (z2u CX P w K mg base N qual scope f cdv A outer s H E) body t/\t { nx:=fun _ H'=>Q .non H',rt:=Q } (y42 N vs) H) :
  FnOk P w K mg base CX (k+1) f (PySem.W.fnOf name qual params body scope dV kV doc pm an cdv ct) ps sp:=by
 refine⟨len,fun A outer s H args us vs Q E hr e0 hb r hsp=>?_⟩
 have hl:=len _ _ _ _ hsp
 have KX:K.In s.heap:=e0.mod.kin.keeps fun b o e=>(e0.bs b o e).1
 have lim:s.heap.NoLimit:=e0.mod.nolimit.keeps fun b o e=>(e0.bs b o e).1
 have hkind:∀ y∈ps.zip us,scope.names.lookup y.1=some .local\/(scope.names.lookup y.1=some .cell/\((cellsFrom (s.heap.objs.size+1) scope.names []).lookup y.1).isSome=true):=fun⟨n,v⟩ hy=>by
  rcases S.par n (List.of_mem_zip hy).1 with q|q
  ·exact .inl q
  ·exact .inr ⟨q,PySem.W.cellsFrom_some _ _ _ (.inl q)⟩
 refine codeAny_call_function hr.depth (KX _ _ lk) rfl S.co S.gen rfl (PySem.W.codeRec_of KX hcd) (hb _ _ _ _ ?_)
 refine wpAny_newFunctionEnv_cells S.kind hkind fun env he s1 x=>?_
 subst he
 refine⟨lim.keeps x.toInCall.keep,codeAny_func ?_⟩
 obtain⟨t,ht,hq⟩:=hbody A outer s H vs Q E (hr.deeper _) hsp
 have I:Inv (z2u CX P w K mg base N qual scope f cdv A outer s H E) [] (y42 N vs) H s1:=z5s S hr.hd e0 hl r x
 refine wpAny_mono (ht [] s1 (y42 N vs) H _ I hq) (fun fl s' hs=>?_) fun e s' hs=>hs
 have fin:∀ {σ':St} {H':Hp} {v:V} {u:Value},Inv (z2u CX P w K mg base N qual scope f cdv A outer s H E) [] σ' H' s'->x4g v u->Q v H'->CE outer P w H s Q u s':=
  fun {σ' H' v u} J rv q=>⟨v,H',J.os,J.bare,J.base,J.hok,rv,q⟩
 cases fl with
 | ret u=>
  obtain⟨v,σ',H',J,rv,q⟩:=hs
  exact fin J rv q
 | next=>
  obtain⟨σ',H',J,q⟩:=hs
  exact fin (v:=V.non) (u:=Value.none) J rfl q
 | brk=>
  obtain⟨_,_,_,q⟩:=hs
  exact False.elim q
 | cont=>
  obtain⟨_,_,_,q⟩:=hs
  exact False.elim q
section
variable {X:Cx}{x:Str}{p pos:Pos}{e:Expr}{es:List Expr}{t:TA}{id T:String}{r:List V->Hp->VK->Prop}
def tCB (r:List V->Hp->VK->Prop)(t:TA):TE:=fun σ H Q=>t σ H fun vs H1=>r vs H1 Q
theorem x51 (hc:y0c X (.builtin id) r)(hg:Gl X x)(hm:X.mg x=none)(hv:bootBuiltins x=some (.builtin id))(ha:PA X (e::es) t)(hn:x ≠ "__name__":=by decide)(hdb:(x==("__debug__":Str))=false:=by decide)
  (he:starEach (e::es) X.env=(false,eval e X.env)::starEach es X.env:=by rfl) (hpl:(backTo pos (starEach es X.env)).any (·.1)=false:=by rfl):PE X (.Call (.Name x p) (e::es) [] pos) (tCB r t):=by
 intro pins s σ H Q I h
 refine wpAny_Call_Name_kw (y2i I hg hm hv ?_ hn hdb)
 exact PyProof.Rows.callWith_builtin1 (thn (ha pos pins s σ H _ I h) fun us s1 ⟨vs,H1,I1,r1,q1⟩=>hc pins s1 σ H1 vs us Q I1 r1 q1) he hpl
theorem x67 (hc:y0c X (.type T) r)(hg:Gl X x)(hm:X.mg x=none)(hv:bootBuiltins x=some (.type T))(ha:PA X (e::es) t)(hn:x ≠ "__name__":=by decide)(hdb:(x==("__debug__":Str))=false:=by decide)
  (he:starEach (e::es) X.env=(false,eval e X.env)::starEach es X.env:=by rfl) (hpl:(backTo pos (starEach es X.env)).any (·.1)=false:=by rfl):PE X (.Call (.Name x p) (e::es) [] pos) (tCB r t):=by
 intro pins s σ H Q I h
 refine wpAny_Call_Name_kw (y2i I hg hm hv ?_ hn hdb)
 exact PyProof.Rows.callWith_type1 (thn (ha pos pins s σ H _ I h) fun us s1 ⟨vs,H1,I1,r1,q1⟩=>hc pins s1 σ H1 vs us Q I1 r1 q1) he hpl
end
end L2
namespace HT
open PySem PyProof.Rows
section
open PySem.SeqAt
open PySem.AutoSeq1 (wpAny_loadPart')
open PySem.MeetsSeq PySem.MeetsSeq2 PySem.MeetsSeq3
end
section
variable {prog:Program}{w:World}{A:Around}{E:Value->Shared->Prop}{s:Shared}
theorem j8h {t b:Addr}{vs ws:List Value}{Q:Value->Shared->Prop}(ht:IsTup s.heap t vs.toArray)(hb:IsTup s.heap b ws.toArray)(hv:vs ≠ [])
  (h1:ws=[]->Q (.ref t) s) (h2:ws ≠ []->Q (.ref s.heap.objs.size) { s with heap:=s.heap.push { cls:=.type "tuple",data:=.seq (vs++ws).toArray } })
  (hsz:vs.length+ws.length<=sizeLine):wpAny (model prog w) A (binaryOp .Add (.ref t) (.ref b)) Q E s:=by
 obtain⟨⟨cls,dd,data,sl⟩,ho,hc,n,hd⟩:=id ht
 obtain⟨⟨cls2,dd2,data2,sl2⟩,ho2,hc2,n2,hd2⟩:=id hb
 simp only at hc hd hc2 hd2
 subst hc hd hc2 hd2
 have e:vs.toArray++ws.toArray=(vs++ws).toArray:=by simp
 by_cases hw:ws=[]
 ·exact concat_meets ⟨_,ho,rfl⟩ ⟨_,ho2,rfl⟩ noFill_tuple_add seq_tuple_add PySem.F.slot_tuple_add PySem.F.entry_tuple_add (PySem.F.args_tuple_add_2 _ _)
   (tuple_addW1 t b vs.toArray ws.toArray n n2 dd dd2 sl sl2 (by simpa using hv) (by simp[hw])) ⟨ho,ho2,h1 hw⟩
 ·refine concat_meets ⟨_,ho,rfl⟩ ⟨_,ho2,rfl⟩ noFill_tuple_add seq_tuple_add PySem.F.slot_tuple_add PySem.F.entry_tuple_add (PySem.F.args_tuple_add_2 _ _)
   (tuple_addW2 t b vs.toArray ws.toArray n n2 dd dd2 sl sl2 (by simpa using hv) (by simpa using hw) (by rw[List.size_toArray,List.size_toArray];exact hsz)) ⟨ho,ho2,?_⟩
  rw[e]
  exact h2 hw
def sIx (n d:Nat):Option Int->Nat
 | none=>d
 | some v=>if v<0 then(v+(n:Int)).toNat else min v.toNat n
theorem j73 (n d:Nat)(hd:d<=n)(o:Option Int):sIx n d o<=n:=by
 cases o with
 | none=>exact hd
 | some v=>
  show(if v<0 then(v+(n:Int)).toNat else min v.toNat n)<=n
  by_cases hv:v<0
  ·rw[if_pos hv];omega
  ·rw[if_neg hv];exact Nat.min_le_right _ _
theorem z3p (v:Int)(n d:Nat):(if v<0 then max (v+(n:Int)) 0 else min v (n:Int))=((sIx n d (some v):Nat):Int):=by
 show(if v<0 then max (v+(n:Int)) 0 else min v (n:Int))=(((if v<0 then(v+(n:Int)).toNat else min v.toNat n):Nat):Int)
 by_cases hv:v<0
 ·simp only[if_pos hv];omega
 ·simp only[if_neg hv];omega
theorem z2r (lo hi:Option Int)(n:Nat):Builtin.Slice.sliceAdjust lo hi 1 (n:Int)=(((sIx n 0 lo:Nat):Int),((sIx n n hi:Nat):Int)):=by
 have h1:¬ ((1:Int)<0):=by omega
 unfold Builtin.Slice.sliceAdjust
 simp only[h1,if_false]
 refine Prod.ext ?_ ?_
 ·cases lo with
  | none=>rfl
  | some v=>exact z3p v n 0
 ·cases hi with
  | none=>rfl
  | some v=>exact z3p v n n
theorem z1q (i j:Nat):Builtin.Slice.slicePlaces (i:Int) (j:Int) 1=j-i:=by
 unfold Builtin.Slice.slicePlaces
 have h1:(1:Int) > 0:=by omega
 simp only[h1,if_true,Int.ediv_one]
 split<;>omega
theorem y4a {v:Value}{o:Option Int}{Q:Option Int->Shared->Prop}(p:IsPart v o)(h:Q o s):wpAny (model prog w) A (Builtin.Slice.slicePartIndex v) Q E s:=by
 cases p with
 | none=>exact slicePart_none h
 | int i t=>exact slicePart_int h
theorem y23 {sl:Addr}{vl vu:Value}{lo hi:Option Int}{n:Nat}{Q:Int×Int×Nat->Shared->Prop}(hs:s.heap.IsSliceOf sl vl vu .none)(pl:IsPart vl lo)(pu:IsPart vu hi)
  (h:Q (((sIx n 0 lo:Nat):Int),1,sIx n n hi-sIx n 0 lo) s):wpAny (model prog w) A (Builtin.Slice.sliceApplied (.ref sl) (pure (n:Int))) Q E s:=by
 obtain⟨os,hos,hcs,hds⟩:=id hs
 unfold Builtin.Slice.sliceApplied Builtin.Slice.sliceFields
 refine wpAny_bind (wpAny_bind (wpAny_field hos hds (x:=vl) rfl (wpAny_bind (wpAny_field hos hds (x:=vu) rfl (wpAny_bind (wpAny_field hos hds (x:=.none) rfl (wpAny_pure ?_)))))))
 refine wpAny_bind (slicePart_none ?_)
 show wpAny _ _ (if((1:Int)==0)=true then _ else _) _ _ s
 rw[if_neg (by decide)]
 refine wpAny_bind (y4a pl (wpAny_bind (y4a pu (wpAny_bind (wpAny_pure ?_)))))
 show wpAny _ _ (match Builtin.Slice.sliceAdjust lo hi 1 (n:Int)with|(lo,hi)=>pure (lo,(1:Int),Builtin.Slice.slicePlaces lo hi 1)) _ _ s
 rw[z2r lo hi n]
 show wpAny _ _ (pure (((sIx n 0 lo:Nat):Int),(1:Int),Builtin.Slice.slicePlaces ((sIx n 0 lo:Nat):Int) ((sIx n n hi:Nat):Int) 1)) _ _ s
 rw[z1q]
 exact wpAny_pure h
theorem z68 (xs:Array Value)(i k:Nat):((List.range k).filterMap fun(m:Nat)=>xs[((i:Int)+(m:Int)*1).toNat]?).toArray=((xs.toList.drop i).take k).toArray:=by
 have e:(fun(m:Nat)=>xs[((i:Int)+(m:Int)*1).toNat]?)=fun m=>xs[i+m]?:=by
  funext m
  have:((i:Int)+(m:Int)*1).toNat=i+m:=by omega
  rw[this]
 rw[e]
 have:=pick_run xs i k
 rw[List.filterMap_map]at this
 have e2:((fun x=>xs[x]?) ∘ fun x=>i+x)=fun m=>xs[i+m]?:=rfl
 rw[e2]at this
 rw[this]
theorem z1r {t sl:Addr}{items:Array Value}{vl vu:Value}{lo hi:Option Int}{Q:Value->Shared->Prop}(ht:IsTup s.heap t items)(hs:s.heap.IsSliceOf sl vl vu .none)(pl:IsPart vl lo)(pu:IsPart vu hi)
  (hw:¬ (sIx items.size 0 lo=0/\sIx items.size items.size hi=items.size))
  (h:Q (.ref s.heap.objs.size) { s with heap:=s.heap.push { cls:=.type "tuple",data:=.seq ((items.toList.drop (sIx items.size 0 lo)).take (sIx items.size items.size hi-sIx items.size 0 lo)).toArray } })
  (hsz:items.size<=sizeLine):wpAny (model prog w) A (getItem (.ref t) (.ref sl)) Q E s:=by
 have htake:sizeOk (.seq ((items.toList.drop (sIx items.size 0 lo)).take (sIx items.size items.size hi-sIx items.size 0 lo)).toArray):=by
  show((items.toList.drop (sIx items.size 0 lo)).take (sIx items.size items.size hi-sIx items.size 0 lo)).toArray.size<=sizeLine
  rw[List.size_toArray,List.length_take,List.length_drop,Array.length_toList]
  omega
 have hj:sIx items.size items.size hi<=items.size:=j73 _ _ (Nat.le_refl _) hi
 obtain⟨os,hos,hcs,hds⟩:=id hs
 have hTs:s.TypeIs (.ref sl) "slice":=⟨os,hos,hcs⟩
 unfold getItem
 try with_reducible refine wpAny_holding ?_
 first|refine wpAny_bind (wpAny_pure ?_)|skip
 refine wpAny_bind (wpAny_sequenceKey ht.typeIs (by decide) ?_)
 refine wpAny_bind (wpAny_callSpecial?_slot (name:=Str.ofString "__getitem__") ht.typeIs PyProof.Rows.slot_tuple_getitem
  (wpAny_call_entry PyProof.Rows.slot_tuple_getitem ht.typeIs entry_tuple_getitem ?_ (args_tuple_getitem _ _)))
 show wpAny _ _ (Builtin.Tuple.tupleItemsOf (.ref t) >>= _) _ _ s
 refine wpAny_bind (tupleItemsOf_ ht ?_)
 refine wpAny_bind (wpAny_typeOf hTs ?_)
 rw[if_pos (by decide)]
 refine wpAny_bind (y23 hs pl pu ?_)
 have hno:¬ ((((sIx items.size 0 lo:Nat):Int)==0&&(1:Int)==1&&(sIx items.size items.size hi-sIx items.size 0 lo)==items.size)=true):=by
  intro q
  rw[Bool.and_eq_true,Bool.and_eq_true]at q
  have q1:((sIx items.size 0 lo:Nat):Int)=0:=eq_of_beq q.1.1
  have q2:sIx items.size items.size hi-sIx items.size 0 lo=items.size:=eq_of_beq q.2
  exact hw ⟨by omega,by omega⟩
 show wpAny _ _ (if(((sIx items.size 0 lo:Nat):Int)==0&&(1:Int)==1&&(sIx items.size items.size hi-sIx items.size 0 lo)==items.size)=true then _ else _) _ _ s
 rw[if_neg hno,z68]
 first
  | exact wpAny_bind (m:=Builtin.Tuple.tupleExact _) (wpAny_newObj_type (wpAny_pure ⟨_,rfl,wpAny_pure h⟩) htake)
  | exact wpAny_bind (m:=Builtin.Tuple.tupleExact _) (wpAny_newObj_type (wpAny_bind (wpAny_pure (wpAny_pure ⟨_,rfl,wpAny_pure h⟩))) htake)
  | exact wpAny_bind (wpAny_bind (m:=Builtin.Tuple.tupleExact _) (wpAny_newObj_type (wpAny_pure (wpAny_pure ⟨_,rfl,wpAny_pure h⟩)) htake))
  | exact wpAny_bind (wpAny_bind (m:=Builtin.Tuple.tupleExact _) (wpAny_newObj_type (wpAny_pure ⟨_,rfl,wpAny_pure h⟩) htake))
end
end HT
namespace L2
open PySem PySem.Spec PyProof.Rows
abbrev TO:=St->Hp->(Option Int->Hp->Prop)->Prop
def PO (X:Cx)(e:Option Expr)(t:TO):Prop:=
 ∀ (pins:List (Addr×Obj)) (s:Shared) (σ:St) (H:Hp) (Q:Option Int->Hp->Prop),Inv X pins σ H s->t σ H Q->
  wpAny (model X.prog X.w) X.A (evalPart e X.env) (fun u s'=>∃ o H',Inv X pins σ H' s'/\IsPart u o/\Q o H') X.xe s
def j2c:TO:=fun _ H Q=>Q none H
def j80 (t:TE):TO:=fun σ H Q=>t σ H fun x H1=>∃ i,x=.int i/\Q (some i) H1
section
variable {X:Cx}{e:Expr}{te:TE}{lo hi:Option Expr}{tl th:TO}{pos p2:Pos}
theorem j0k:PO X none j2c:=by
 intro pins s σ H Q I h
 rw[evalPart_none]
 exact wpAny_pure ⟨none,H,I,.none,h⟩
theorem j31 (h:PE X e te):PO X (some e) (j80 te):=by
 intro pins s σ H Q I hw
 rw[evalPart_some]
 refine thn (h pins s σ H _ I hw) fun u s1 hh0=>?_
 obtain⟨x,H1,I1,r1,q1⟩:=hh0
 obtain⟨i,rfl,q⟩:=q1
 obtain⟨t,rfl⟩:=r1
 exact⟨some i,H1,I1,.int i t,q⟩
def SlR (X:Cx)(r:V->Option Int->Option Int->Hp->VK->Prop):Prop:=
 ∀ (pins:List (Addr×Obj)) (s:Shared) (σ:St) (H:Hp) (x:V) (v vl vu:Value) (lo hi:Option Int) (sl:Addr) (Q:VK),Inv X pins σ H s->x4g x v->s.heap.IsSliceOf sl vl vu .none->IsPart vl lo->IsPart vu hi->r x lo hi H Q->
  ∃ T id,typeLookup (.type T) "__getitem__" = pure (some (.builtin id))/\s.TypeIs v T/\wpAny (model X.prog X.w) X.A (getItem v (.ref sl)) (EP X pins σ Q) X.xe s
theorem SlR.or {r r':V->Option Int->Option Int->Hp->VK->Prop}(h:SlR X r)(h':SlR X r'):SlR X (fun x lo hi H Q=>r x lo hi H Q\/r' x lo hi H Q):=by
 intro pins s σ H x v vl vu lo hi sl Q I rx hs pl pu q
 rcases q with q|q
 ·exact h pins s σ H x v vl vu lo hi sl Q I rx hs pl pu q
 ·exact h' pins s σ H x v vl vu lo hi sl Q I rx hs pl pu q
def tSl (r:V->Option Int->Option Int->Hp->VK->Prop)(te:TE)(tl th:TO):TE:=fun σ H Q=>te σ H fun x H1=>tl σ H1 fun l H2=>th σ H2 fun u H3=>r x l u H3 Q
theorem z85 {r:V->Option Int->Option Int->Hp->VK->Prop}(hr:SlR X r)(he:PE X e te)(hl:PO X lo tl)(hu:PO X hi th):PE X (.Subscript e (.Slice lo hi none p2) pos) (tSl r te tl th):=by
 intro pins s σ H Q I h
 refine Subscript_ (thn (he pins s σ H _ I h) fun v s1 hh0=>?_)
 obtain⟨x,H1,I1,r1,q1⟩:=hh0
 refine wpAny_Slice (thn (hl pins s1 σ H1 _ I1 q1) fun vl s2 ⟨l,H2,I2,pl,q2⟩=>thn (hu pins s2 σ H2 _ I2 q2) fun vu s3 hh0=>?_)
 obtain⟨u,H3,I3,pu,q3⟩:=hh0
 rw[evalPart_none]
 refine wpAny_pure ?_
 have I4:Inv X pins σ H3 { s3 with heap:=s3.heap.push { cls:=.type "slice",data:=.fields #[vl,vu,.none] } }:=I3.kept (t':=s3.toks) fun b ob q=>Heap.get?_push_of_some _ q
 obtain⟨T,id,hT,ht,hg⟩:=hr pins { s3 with heap:=s3.heap.push { cls:=.type "slice",data:=.fields #[vl,vu,.none] } } σ H3 x v vl vu l u s3.heap.objs.size Q I4 r1 (Heap.IsSliceOf.new ..) pl pu q3
 show wpAny (model X.prog X.w) X.A (subscriptTail e (.Slice lo hi none p2) v (.ref s3.heap.objs.size)) (EP X pins σ Q) X.xe { s3 with heap:=s3.heap.push { cls:=.type "slice",data:=.fields #[vl,vu,.none] } }
 exact tail_any (ops:=[.ref s3.heap.objs.size,v]) ht hT hg (by with_unfolding_all rfl)
def z9y (xs:List V)(lo hi:Option Int):List V:=(xs.drop (HT.sIx xs.length 0 lo)).take (HT.sIx xs.length xs.length hi-HT.sIx xs.length 0 lo)
theorem y3i (xs:List V)(lo hi:Option Int):(z9y xs lo hi).length<=xs.length:=by
 unfold z9y
 rw[List.length_take,List.length_drop]
 omega
def j9q (K:PySem.W.Frag):V->Option Int->Option Int->Hp->VK->Prop:=fun x lo hi H Q=>∃ a xs,x=.ref a/\SqT K H a xs /\
 ¬ (HT.sIx xs.length 0 lo=0/\HT.sIx xs.length xs.length hi=xs.length)/\∀ p,H p=none->Q (.ref p) (upd H p (.tup (z9y xs lo hi)))
theorem j63:SlR X (j9q X.K):=by
 intro pins s σ H x v vl vu lo hi sl Q I rx hs pl pu h
 obtain⟨a,xs,rfl,hx,hw,q⟩:=h
 cases rx
 obtain⟨its,r,ht,hz⟩:=I.tuple hx
 have hlen:its.toArray.size=xs.length:=by rw[List.size_toArray];exact r.length.symm
 refine⟨"tuple",_,PyProof.Rows.slot_tuple_getitem.lookup,ht.typeIs,?_⟩
 refine HT.z1r ht hs pl pu (by rw[hlen];exact hw) ?_ (by rw[hlen];exact hz)
 rw[hlen]
 refine⟨.ref s.heap.objs.size,_,I.laid (t':=s.toks) (o:=.tup (z9y xs lo hi)) (fun b ob q=>Heap.get?_push_of_some _ q) (Nat.le_refl _) ?_,rfl,q _ (I.hok.fresh (Nat.le_refl _))⟩
 exact⟨Nat.le_trans (y3i xs lo hi) hz,_,(r.drop (HT.sIx xs.length 0 lo)).take (HT.sIx xs.length xs.length hi-HT.sIx xs.length 0 lo),x5n.new _ _⟩
def j8w (K:PySem.W.Frag):R2:=fun x y H Q=>∃ a b xs ys,x=.ref a/\y=.ref b/\SqT K H a xs/\SqT K H b ys/\xs ≠ []/\xs.length+ys.length<=sizeLine /\
 (ys=[]->Q (.ref a) H)/\(ys ≠ []->∀ p,H p=none->Q (.ref p) (upd H p (.tup (xs++ys))))
theorem x37.nil_iff {xs:List V}{us:List Value}(r:x37 xs us):us=[] ↔ xs=[]:=by
 cases r with
 | nil=>simp
 | cons _ _=>simp
theorem j0p:OpR X (binaryOp .Add) (j8w X.K):=by
 intro pins s σ H x y v u Q I rx ry h
 obtain⟨a,b,xs,ys,rfl,rfl,ha,hb,hx,hz,q1,q2⟩:=h
 cases rx
 cases ry
 obtain⟨its,r1,p1,_⟩:=I.tuple ha
 obtain⟨its2,r2,p2,_⟩:=I.tuple hb
 refine HT.j8h p1 p2 (fun z=>hx (r1.nil_iff.mp z)) (fun z=>⟨.ref a,H,I,rfl,q1 (r2.nil_iff.mp z)⟩) (fun z=>?_) (by rw[<- r1.length,<- r2.length];exact hz)
 refine⟨.ref s.heap.objs.size,_,I.laid (t':=s.toks) (o:=.tup (xs++ys)) (fun b ob q=>Heap.get?_push_of_some _ q) (Nat.le_refl _) ?_,rfl,q2 (fun w=>z (r2.nil_iff.mpr w)) _ (I.hok.fresh (Nat.le_refl _))⟩
 exact⟨by rw[List.length_append];exact hz,_,r1.append r2,x5n.new _ _⟩
end
def ixN (n:Nat)(i:Int):Option Nat:=if 0<=i then(if i<n then some i.toNat else none)else if -(n:Int)<=i then some (i+n).toNat else none
def atI {α:Type}(xs:List α)(i:Int):Option α:=(ixN xs.length i).bind fun j=>xs[j]?
theorem y6i {n:Nat}{i:Int}{j:Nat}(h:ixN n i=some j):seqIndex? i n=some j/\j<n /\ -(n:Int)<=i/\i<n:=by
 unfold ixN at h
 by_cases h0:0<=i
 ·rw[if_pos h0]at h
  by_cases h1:i<n
  ·rw[if_pos h1]at h
   have e:i.toNat=j:=Option.some.inj h
   exact⟨by rw[seqIndex_of h0 h1,e],by omega,by omega,h1⟩
  ·rw[if_neg h1]at h;cases h
 ·rw[if_neg h0]at h
  by_cases h1:-(n:Int)<=i
  ·rw[if_pos h1]at h
   have e:(i+n).toNat=j:=Option.some.inj h
   exact⟨by rw[seqIndex_neg (by omega) h1,e],by omega,h1,by omega⟩
  ·rw[if_neg h1]at h;cases h
theorem y9m {α:Type}{xs:List α}{i:Int}{v:α}(h:atI xs i=some v):∃ j,seqIndex? i xs.length=some j/\xs[j]? = some v/\j<xs.length /\ -(xs.length:Int)<=i/\i<xs.length:=by
 unfold atI at h
 cases e:ixN xs.length i with
 | none=>rw[e]at h;cases h
 | some j=>
  rw[e]at h
  obtain⟨h1,h2,h3,h4⟩:=y6i e
  exact⟨j,h1,h,h2,h3,h4⟩
def x5i (b:Expr):Prop:=∀ o i,subscripted b false o i=operate [o,i] (getItem o i)
def IxR (X:Cx)(r:R2):Prop:=
 ∀ (value slice:Expr) (pins:List (Addr×Obj)) (s:Shared) (σ:St) (H:Hp) (x y:V) (v u:Value) (Q:VK),Inv X pins σ H s->x4g x v->x4g y u->r x y H Q->
  subscripted slice false v u=operate [v,u] (getItem v u)->wpAny (model X.prog X.w) X.A (subscriptTail value slice v u) (EP X pins σ Q) X.xe s
def MtR (X:Cx)(id:String)(r:V->List V->Hp->VK->Prop):Prop:=
 ∀ (pins:List (Addr×Obj)) (s:Shared) (σ:St) (H:Hp) (x:V) (xs:List V) (v:Value) (us:List Value) (Q:VK),Inv X pins σ H s->x4g x v->x37 xs us->r x xs H Q->
  wpAny (model X.prog X.w) X.A (call (.builtin id) (v::us)) (EP X pins σ Q) X.xe s
section
variable {X:Cx}{a b:Expr}{ta tb:TE}{pos:Pos}
theorem IxR.or {r r':R2}(h:IxR X r)(h':IxR X r'):IxR X (fun x y H Q=>r x y H Q\/r' x y H Q):=by
 intro value slice pins s σ H x y v u Q I rx ry q hs
 rcases q with q|q
 ·exact h value slice pins s σ H x y v u Q I rx ry q hs
 ·exact h' value slice pins s σ H x y v u Q I rx ry q hs
theorem z5h {r:R2}(hr:IxR X r)(ha:PE X a ta)(hb:PE X b tb)(hs:x5i b):PE X (.Subscript a b pos) (tOp r ta tb):=by
 intro pins s σ H Q I h
 exact Subscript_ (j7p ha hb I h fun v u s2 x y H2 I2 rx ry q=>hr a b pins s2 σ H2 x y v u Q I2 rx ry q (hs _ _))
def j93 (K:PySem.W.Frag):R2:=fun x y H Q=>∃ p xs i v,x=.ref p/\y=.int i/\SqL K H p xs/\atI xs i=some v/\Q v H
def j9c (K:PySem.W.Frag):R2:=fun x y H Q=>∃ p xs i v,x=.ref p/\y=.int i/\SqT K H p xs/\atI xs i=some v/\Q v H
def j95:R2:=fun x y H Q=>∃ z i c,x=.str z/\y=.int i/\z.length<=sizeLine/\atI z.cps.toList i=some c/\Q (.str ⟨#[c]⟩) H
theorem j12:IxR X (j93 X.K):=by
 intro value slice pins s σ H x y v u Q I rx ry h hs
 obtain⟨p,xs,i,z,rfl,rfl,hq,he,q⟩:=h
 cases rx
 obtain⟨t,rfl⟩:=ry
 obtain⟨its,r,pl,hz⟩:=I.list hq
 obtain⟨j,h1,h2,h3,h4,h5⟩:=y9m he
 obtain⟨w,ew,rw'⟩:=r.get h2
 have hl:=r.length
 have hn:=y4w
 have fin:EP X pins σ Q w s:=⟨z,H,I,rw',q⟩
 by_cases h0:0<=i
 ·have hj:i.toNat=j:=by
   rw[seqIndex_of h0 h5]at h1
   exact Option.some.inj h1
  exact item_listR pl.isList h0 (by omega) (by rw[hj];simpa using ew) fin hs
 ·have hj:(i+(its.toArray.size:Int)).toNat=j:=by
   rw[seqIndex_neg (by omega) h4]at h1
   rw[List.size_toArray,<- hl]
   exact Option.some.inj h1
  exact subscriptTail_builtinR (x:=w) pl.isList.typeIs slot_list_getitem.lookup
   (wpAny_getItem_list_neg (Q:=fun r s'=>r=w/\EP X pins σ Q r s') pl.isList (by omega) (by rw[List.size_toArray]<;>omega) (by omega) (by rw[hj];simpa using ew) ⟨rfl,fin⟩) hs
theorem j57:IxR X (j9c X.K):=by
 intro value slice pins s σ H x y v u Q I rx ry h hs
 obtain⟨p,xs,i,z,rfl,rfl,hq,he,q⟩:=h
 cases rx
 obtain⟨t,rfl⟩:=ry
 obtain⟨its,r,pl,hz⟩:=I.tuple hq
 obtain⟨j,h1,h2,h3,h4,h5⟩:=y9m he
 obtain⟨w,ew,rw'⟩:=r.get h2
 have hl:=r.length
 have hn:=y4w
 have fin:EP X pins σ Q w s:=⟨z,H,I,rw',q⟩
 exact subscriptTail_builtinR (x:=w) pl.typeIs slot_tuple_getitem.lookup
  (getItem_tuple (j:=j) (Q:=fun r s'=>r=w/\EP X pins σ Q r s') pl (by omega) (by omega) (by rw[List.size_toArray,<- hl];exact h1) (by simpa using ew) ⟨rfl,fin⟩) hs
theorem j68:IxR X j95:=by
 intro value slice pins s σ H x y v u Q I rx ry h hs
 obtain⟨z,i,c,rfl,rfl,hz,he,q⟩:=h
 obtain⟨t,rfl⟩:=rx
 obtain⟨t',rfl⟩:=ry
 obtain⟨j,h1,h2,h3,h4,h5⟩:=y9m he
 have hl:z.cps.toList.length=z.length:=by simp[Str.length]
 rw[hl]at h1 h4 h5
 have hn:=y4w
 exact tail_any (typeIs_str s z t) slot_str_getitem.lookup (getItem_str (c:=c) (by
  have e1:decide (i < -(2 ^ 63:Int))=false:=decide_eq_false (by omega)
  have e2:decide (i ≥ 2 ^ 63)=false:=decide_eq_false (by omega)
  rw[e1,e2,Bool.or_false]) (by rw[h1];simpa using h2) ⟨.str ⟨#[c]⟩,H,I.tok _,⟨_,rfl⟩,q⟩) hs
def rIx (K:PySem.W.Frag):R2:=fun x y H Q=>j93 K x y H Q\/j9c K x y H Q\/j95 x y H Q
theorem y84:IxR X (rIx X.K):=j12.or (j57.or j68)
theorem z1s (its:List Value)(n j:Nat)(u:Value):Obj.mapSeq (·.setIfInBounds j u) { cls:=.type "list",data:=.seq its.toArray n }={ cls:=.type "list",data:=.seq (its.set j u).toArray n }:=by
 simp[Obj.mapSeq]
theorem Inv.lst {pins:List (Addr×Obj)}{σ:St}{H:Hp}{s:Shared}{p:Addr}{xs:List V}(I:Inv X pins σ H s)(h:H p=some (.lst xs)) :
  ∃ (its:List Value) (n:Nat),x37 xs its/\s.heap.get? p=some { cls:=.type "list",data:=.seq its.toArray n }/\xs.length<=sizeLine:=by
 obtain⟨z,its,n,r,e⟩:=I.hok p _ h
 exact⟨its,n,r,e,z⟩
theorem Inv.lstUpd {pins:List (Addr×Obj)}{σ:St}{H:Hp}{s:Shared}{p:Addr}{xs ys:List V}{its its':List Value}{n n':Nat}{f:Obj->Obj}(I:Inv X pins σ H s)(h:H p=some (.lst xs))
  (ho:s.heap.get? p=some { cls:=.type "list",data:=.seq its.toArray n }) (hf:f { cls:=.type "list",data:=.seq its.toArray n }={ cls:=.type "list",data:=.seq its'.toArray n' }) (r:x37 ys its') (hz:ys.length<=sizeLine) (t:Nat) :
  Inv X pins σ (upd H p (.lst ys)) { s with heap:=s.heap.update p f,toks:=t }:=by
 have e:(s.heap.update p f).get? p=some { cls:=.type "list",data:=.seq its'.toArray n' }:=by
  rw[Heap.get?_update_self f ho (by rw[hf]<;>rfl),hf]
 refine I.write (x:=p) (e:=p) (by rw[h];trivial) (.inl rfl) (fun b u hb q=>(Heap.get?_update_other _ _ (Ne.symm hb)).trans q) ⟨_,e⟩ ?_
 exact⟨hz,its',n',r,e⟩
def j84:V->V->V->Hp->(Hp->Prop)->Prop:=fun o i v H Q=>∃ p xs k j,o=.ref p/\i=.int k/\H p=some (.lst xs)/\ixN xs.length k=some j/\Q (upd H p (.lst (xs.set j v)))
theorem z17:j9a X j84:=by
 intro pins s σ H o i v ov iv u Q I ro ri rv h
 obtain⟨p,xs,k,j,rfl,rfl,hp,hj,q⟩:=h
 cases ro
 obtain⟨t,rfl⟩:=ri
 obtain⟨its,n,r,ho,hz⟩:=I.lst hp
 obtain⟨h1,h2,h3,h4⟩:=y6i hj
 have hl:=r.length
 have hn:=y4w
 have I':Inv X pins σ (upd H p (.lst (xs.set j v))) { s with heap:=s.heap.update p (Obj.mapSeq (·.setIfInBounds j u)) }:=
  I.lstUpd hp ho (z1s its n j u) (r.set rv j) (by rw[List.length_set];exact hz) s.toks
 by_cases h0:0<=k
 ·have hk:k.toNat=j:=by
   rw[seqIndex_of h0 h4]at h1
   exact Option.some.inj h1
  exact PySem.W.ki_setAt ho h0 (by omega) (by rw[List.size_toArray,<- hl];exact h4) (by rw[hk];exact⟨_,I',q⟩)
 ·have hk:(k+(its.toArray.size:Int)).toNat=j:=by
   rw[seqIndex_neg (by omega) h3]at h1
   rw[List.size_toArray,<- hl]
   exact Option.some.inj h1
  exact PySem.W.ki_setBack ho (by omega) (by rw[List.size_toArray,<- hl];exact h3) (by omega) (by rw[hk];exact⟨_,I',q⟩)
theorem y6x (lo hi:Option Int)(n:Nat):(sliceBounds lo hi none n).1=((HT.sIx n 0 lo:Nat):Int)/\(sliceBounds lo hi none n).2.1=((HT.sIx n n hi:Nat):Int)/\(sliceBounds lo hi none n).2.2=1:=by
 refine⟨?_,?_,rfl⟩
 ·cases lo with
  | none=>simp[sliceBounds,HT.sIx]
  | some i=>
   simp only[sliceBounds,HT.sIx,Option.getD_none,show(1:Int) > 0 by decide,if_true]
   by_cases h:i<0
   ·simp only[h,if_true]<;>omega
   ·simp only[h,if_false]<;>omega
 ·cases hi with
  | none=>simp[sliceBounds,HT.sIx]
  | some i=>
   simp only[sliceBounds,HT.sIx,Option.getD_none,show(1:Int) > 0 by decide,if_true]
   by_cases h:i<0
   ·simp only[h,if_true]<;>omega
   ·simp only[h,if_false]<;>omega
theorem y5t (its:List Value)(lo hi:Option Int):slicePick its.toArray lo hi none=((its.drop (HT.sIx its.length 0 lo)).take (HT.sIx its.length its.length hi-HT.sIx its.length 0 lo)).toArray:=by
 obtain⟨h1,h2,h3⟩:=y6x lo hi its.toArray.size
 unfold slicePick
 rw[h1,h2,h3]
 simp only[sliceRange_one,pick_run,List.size_toArray]<;>rfl
def j9j (K:PySem.W.Frag):V->Option Int->Option Int->Hp->VK->Prop:=fun x lo hi H Q=>∃ a xs,x=.ref a/\SqL K H a xs/\∀ p,H p=none->Q (.ref p) (upd H p (.lst (z9y xs lo hi)))
theorem j8t:SlR X (j9j X.K):=by
 intro pins s σ H x v vl vu lo hi sl Q I rx hs pl pu h
 obtain⟨a,xs,rfl,hx,q⟩:=h
 cases rx
 obtain⟨its,r,ht,hz⟩:=I.list hx
 have hlen:=r.length
 refine⟨"list",_,slot_list_getitem.lookup,ht.isList.typeIs,?_⟩
 refine wpAny_getItem_list_slice ht.isList hs pl pu .none (by simp) ?_ (by rw[List.size_toArray]<;>omega)
 rw[y5t,<- hlen]
 refine⟨.ref s.heap.objs.size,_,I.laid (t':=s.toks) (o:=.lst (z9y xs lo hi)) (fun b ob q=>Heap.get?_push_of_some _ q) (Nat.le_refl _) ?_,rfl,q _ (I.hok.fresh (Nat.le_refl _))⟩
 exact⟨Nat.le_trans (y3i xs lo hi) hz,_,0,(r.drop (HT.sIx xs.length 0 lo)).take (HT.sIx xs.length xs.length hi-HT.sIx xs.length 0 lo),Heap.get?_push_size _ rfl⟩
theorem x7o:y0c X (.builtin "len") (fun xs H Q=>∃ p ys,xs=[.ref p]/\(SqL X.K H p ys\/SqT X.K H p ys)/\Q (.int ys.length) H):=by
 intro pins s σ H xs us Q I r h
 obtain⟨p,ys,rfl,hq,q⟩:=h
 obtain⟨u,rfl,rx⟩:=y3k r
 cases rx
 have hn:=y4w
 rcases hq with hq|hq
 ·obtain⟨its,r',pl,hz⟩:=I.list hq
  have hlen:=r'.length
  exact Calls.call_len_list pl.isList (by simp only[List.size_toArray]<;>omega) ⟨.int ys.length,H,I.tok _,⟨s.toks+1,by rw[List.size_toArray,hlen]⟩,q⟩
 ·obtain⟨its,r',pl,hz⟩:=I.tuple hq
  have hlen:=r'.length
  exact len_tuple pl (by simp only[List.size_toArray]<;>omega) ⟨.int ys.length,H,I.tok _,⟨s.toks+1,by rw[List.size_toArray,hlen]⟩,q⟩
theorem y1d:y0c X (.type "list") (fun xs H Q=>∃ p ys,xs=[.ref p]/\(SqL X.K H p ys\/SqT X.K H p ys)/\∀ l,H l=none->Q (.ref l) (upd H l (.lst ys))):=by
 intro pins s σ H xs us Q I r h
 obtain⟨p,ys,rfl,hq,q⟩:=h
 obtain⟨u,rfl,rx⟩:=y3k r
 cases rx
 have fin:∀ (its:List Value),x37 ys its->ys.length<=sizeLine->∀ (h':Heap) (c':Nat),(∀ b o',s.heap.get? b=some o'->h'.get? b=some o')->
   h'.get? s.heap.objs.size=some { cls:=.type "list",dict:=none,data:=.seq its.toArray c',slots:=#[] }->EP X pins σ Q (.ref s.heap.objs.size) { s with heap:=h' }:=fun its r' hz h' c' kp e=>
  ⟨.ref s.heap.objs.size,_,I.laid (t':=s.toks) kp (Nat.le_refl _) (show x32 X.prog X.w _ h' _ (.lst ys)from⟨hz,its,c',r',e⟩),rfl,q _ (I.hok.fresh (Nat.le_refl _))⟩
 rcases hq with hq|hq
 ·obtain⟨its,r',pl,hz⟩:=I.list hq
  have hlen:=r'.length
  obtain⟨o,ho,hc,n,hd⟩:=pl.isList
  exact call_list_seq p (.inl rfl) ho hc hd (fun h' c' kp e=>fin its r' hz h' c' kp e) (by simp only[List.size_toArray]<;>omega)
 ·obtain⟨its,r',pl,hz⟩:=I.tuple hq
  have hlen:=r'.length
  obtain⟨o,ho,hc,n,hd⟩:=pl
  exact call_list_seq p (.inr rfl) ho hc hd (fun h' c' kp e=>fin its r' hz h' c' kp e) (by simp only[List.size_toArray]<;>omega)
theorem y5z:y0c X (.type "tuple") (fun xs H Q=>∃ p ys,xs=[.ref p]/\((SqL X.K H p ys/\∀ l,H l=none->Q (.ref l) (upd H l (.tup ys)))\/(SqT X.K H p ys/\Q (.ref p) H))):=by
 intro pins s σ H xs us Q I r h
 obtain⟨p,ys,rfl,h⟩:=h
 obtain⟨u,rfl,rx⟩:=y3k r
 cases rx
 rcases h with⟨hq,q⟩|⟨hq,q⟩
 ·obtain⟨its,r',pl,hz⟩:=I.list hq
  have hlen:=r'.length
  refine call_tuple_list pl.isList (fun h' kp=>?_) (by simp only[List.size_toArray]<;>omega)
  have I1:Inv X pins σ H { s with heap:=h' }:=I.kept (t':=s.toks) kp
  have I2:Inv X pins σ (upd H h'.objs.size (.tup ys)) { s with heap:=h'.push { cls:=.type "tuple",data:=.seq its.toArray } }:=
   I1.laid (t':=s.toks) (fun b o e=>Heap.get?_push_of_some _ e) (Nat.le_refl _) (show x32 X.prog X.w _ _ _ (.tup ys)from⟨hz,its,r',x5n.new _ _⟩)
  exact⟨.ref h'.objs.size,_,I2,rfl,q _ (I1.hok.fresh (Nat.le_refl _))⟩
 ·obtain⟨its,r',pl,hz⟩:=I.tuple hq
  exact call_tuple_same pl ⟨.ref p,H,I,rfl,q⟩
def tyV (K:PySem.W.Frag)(T:String)(x:V)(H:Hp):Prop:=match x with
 | .str _=>T = "str"
 | .int _=>T = "int"
 | .ref p=>(T = "list" /\ ∃ xs,SqL K H p xs)\/(T = "tuple" /\ ((∃ o,K.lookup p=some o/\o.cls=.type "tuple" /\ o.dict=none)\/∃ xs,H p=some (.tup xs))) \/
   (T = "dict" /\ ((∃ kvs,H p=some (.dK kvs))\/∃ kvs,H p=some (.dT kvs)))\/(T = "set" /\ ∃ S n,H p=some (.set S n))
 | _=>False
theorem j4f {pins:List (Addr×Obj)}{σ:St}{H:Hp}{s:Shared}{T:String}{x:V}{v:Value}(I:Inv X pins σ H s)(r:x4g x v)(ty:tyV X.K T x H) :
  s.TypeIs v T/\∀ a,v=.ref a->∃ ob,s.heap.get? a=some ob/\ob.dict=none:=by
 cases x with
 | str z=>
  obtain⟨t,rfl⟩:=r
  cases (show T = "str" from ty)
  exact⟨typeIs_str s z t,fun _ e=>nomatch e⟩
 | int i=>
  obtain⟨t,rfl⟩:=r
  cases (show T = "int" from ty)
  exact⟨typeIs_int s i t,fun _ e=>nomatch e⟩
 | ref p=>
  cases r
  rcases ty with⟨rfl,xs,hq⟩|⟨rfl,⟨o,hk,hc,hd⟩|⟨xs,hk⟩⟩|⟨rfl,hk⟩|⟨rfl,S,n,hk⟩
  ·obtain⟨its,_,pl,_⟩:=I.list hq
   refine⟨pl.isList.typeIs,fun a e=>?_⟩
   cases e
   obtain⟨o,n,e,c,hd,_⟩:=pl
   exact⟨o,e,hd⟩
  ·refine⟨⟨o,I.kIn p o hk,hc⟩,fun a e=>?_⟩
   cases e
   exact⟨o,I.kIn _ o hk,hd⟩
  ·obtain⟨_,its,_,o,e,c,_,hd⟩:=(show x32 X.prog X.w H s.heap p (.tup xs)from I.hok p _ hk)
   refine⟨⟨o,e,c⟩,fun a e2=>?_⟩
   cases e2
   exact⟨o,e,hd⟩
  ·have z:∃ o,s.heap.get? p=some o/\o.ExactDict:=by
    rcases hk with⟨kvs,hk⟩|⟨kvs,hk⟩
    ·obtain⟨_,_,_,_,o,_,_,e,ex,_⟩:=I.hok p _ hk
     exact⟨o,e,ex⟩
    ·obtain⟨_,_,_,_,o,_,_,e,ex,_⟩:=I.hok p _ hk
     exact⟨o,e,ex⟩
   obtain⟨o,e,ex⟩:=z
   refine⟨⟨o,e,ex.1⟩,fun a e2=>?_⟩
   cases e2
   exact⟨o,e,ex.2.1⟩
  ·obtain⟨o,_,_,_,e,ex,_⟩:=I.hok p _ hk
   refine⟨⟨o,e,ex.1⟩,fun a e2=>?_⟩
   cases e2
   exact⟨o,e,ex.2.1⟩
 | _=>exact False.elim ty
def tBM (K:PySem.W.Frag)(T:String)(r:V->List V->Hp->VK->Prop)(to:TE)(t:TA):TE:=fun σ H Q=>to σ H fun x H1=>tyV K T x H1/\t σ H1 fun xs H2=>r x xs H2 Q
variable {o e:Expr}{es:List Expr}{to:TE}{t:TA}{name:Str}{apos cpos:Pos}{T id:String}{r:V->List V->Hp->VK->Prop}
theorem z22 (pa:PlainAttrs T)(slot:Slot T name id)(hty:typeOf (.builtin id)=pure (.type "method_descriptor"))(hm:MtR X id r)(ho:PE X o to)(ha:PA X (e::es) t)
  (hbase:attributeBase o name X.env (eval o X.env)=eval o X.env:=by rfl)
  (hfew:((backTo cpos (starEach (e::es) X.env)).all (fun x=>!x.1)&&(backToKw cpos (keywordEach [] X.env)).all (fun x=>x.1.isSome)
    && decide ((e::es).length+([]:List Keyword).length+(if([]:List Keyword).isEmpty then 0 else 1)<30))=true:=by rfl)
  (hline:(apos.endLine==cpos.line)=true:=by rfl) (hs:starEach (e::es) X.env=(false,eval e X.env)::starEach es X.env:=by rfl) (hplain:(backTo cpos (starEach es X.env)).any (·.1)=false:=by rfl) :
  PE X (.Call (.Attribute o name apos) (e::es) [] cpos) (tBM X.K T r to t):=by
 intro pins s σ H Q I h
 refine wpAny_Call_method_late hbase hfew hline rfl (thn (ho pins s σ H _ I h) fun v s1 hh0=>?_)
 obtain⟨x,H1,I1,r1,ty,q1⟩:=hh0
 obtain⟨h1,h2⟩:=j4f I1 r1 ty
 refine⟨T,id,pa,slot,hty,h1,h2,?_⟩
 have hA:=ha cpos pins s1 σ H1 _ I1 q1
 rw[hs]at hA ⊢
 refine Calls.callWith_builtin (by show(false||(backTo cpos (starEach es X.env)).any (·.1))=false;rw[hplain]<;>rfl) (Calls.evalArgs_plain ?_)
 exact thn hA fun us s2 ⟨vs,H2,I2,r2,q2⟩=>hm pins s2 σ H2 x vs v us Q I2 r1 r2 q2
end
def MtM (X:Cx)(id:String)(r:V->List V->Hp->VK->Prop):Prop:=
 ∀ (pins:List (Addr×Obj)) (s:Shared) (σ:St) (H:Hp) (x:V) (xs:List V) (v:Value) (us:List Value) (Q:VK),Inv X pins σ H s->x4g x v->x37 xs us->r x xs H Q->
  wpAny (model X.prog X.w) X.A (call (.builtin id) (v::us)) (EP X pins σ Q) X.xe s
theorem x37.one:∀ {x:V} {us:List Value},x37 [x] us->∃ u,us=[u]/\x4g x u
 | _,_,.cons r .nil=>⟨_,rfl,r⟩
theorem x37.eraseIdx:∀ {xs:List V} {us:List Value} (i:Nat),x37 xs us->x37 (xs.eraseIdx i) (us.eraseIdx i)
 | _,_,_,.nil=>.nil
 | _,_,0,.cons _ t=>t
 | _,_,i+1,.cons r t=>.cons r (x37.eraseIdx i t)
theorem x37.rep {xs:List V}{us:List Value}(h:x37 xs us):∀ k:Nat,x37 (List.replicate k xs).flatten (List.replicate k us).flatten
 | 0=>.nil
 | k+1=>by
  rw[List.replicate_succ,List.replicate_succ,List.flatten_cons,List.flatten_cons]
  exact x37.append h (x37.rep h k)
theorem y86 {α:Type}:∀ (l:List α) (i:Nat),(l.eraseIdx i).length<=l.length
 | [],_=>Nat.le_refl _
 | _::_,0=>Nat.le_succ _
 | _::r,i+1=>Nat.succ_le_succ (y86 r i)
theorem y2k (its:List Value):∀ (k:Nat) (acc:List Value),
  List.foldl (fun x1 x2=>x1++x2) acc.toArray (List.replicate k its.toArray)=(acc++(List.replicate k its).flatten).toArray
 | 0,acc=>by simp
 | k+1,acc=>by
  have e:acc.toArray++its.toArray=(acc++its).toArray:=by simp
  have e2:(acc++its)++(List.replicate k its).flatten=acc++(List.replicate (k+1) its).flatten:=by
   rw[List.replicate_succ,List.flatten_cons,List.append_assoc]
  rw[<- e2,<- y2k its k (acc++its),<- e,List.replicate_succ,List.foldl_cons]
section
variable {X:Cx}{pins:List (Addr×Obj)}{σ:St}{H:Hp}{s:Shared}{l b:Addr}{xs ys zs:List V}
theorem Inv.lset {its its':List Value}{n:Nat}{f:Array Value->Array Value}{t':Nat}(I:Inv X pins σ H s)(hH:H l=some (.lst xs))
  (e:s.heap.get? l=some { cls:=.type "list",data:=.seq its.toArray n }) (hf:f its.toArray=its'.toArray) (hv:x37 ys its') (hz:ys.length<=sizeLine) :
  Inv X pins σ (upd H l (.lst ys)) { s with heap:=s.heap.update l (Obj.mapSeq f),toks:=t' }:=by
 have q:=PySem.IsL.update e f
 rw[hf]at q
 refine I.write (x:=l) (e:=l) (by rw[hH];exact trivial) (.inl rfl) (fun b' u hb hu=>(Heap.get?_update_other s.heap (Obj.mapSeq f) (Ne.symm hb)).trans hu) ⟨_,q⟩ ?_
 exact⟨hz,its',_,hv,q⟩
theorem Inv.lnew {its:List Value}{t':Nat}(I:Inv X pins σ H s)(hv:x37 ys its)(hz:ys.length<=sizeLine) :
  Inv X pins σ (upd H s.heap.objs.size (.lst ys)) { s with heap:=s.heap.push { cls:=.type "list",data:=.seq its.toArray },toks:=t' }:=
 I.laid (fun _ _ q=>Heap.get?_push_of_some _ q) (Nat.le_refl _) ⟨hz,its,0,hv,Heap.get?_push_size _ rfl⟩
theorem Inv.fresh (I:Inv X pins σ H s):H s.heap.objs.size=none:=I.hok.fresh (Nat.le_refl _)
theorem Inv.lstM (I:Inv X pins σ H s)(hH:H l=some (.lst xs)):xs.length<=sizeLine/\∃ (its:List Value) (n:Nat),x37 xs its/\xs.length=its.length/\s.heap.get? l=some { cls:=.type "list",data:=.seq its.toArray n }:=by
 obtain⟨z,its,n,r,e⟩:=I.hok l _ hH
 exact⟨z,its,n,r,r.length,e⟩
theorem z0s {n:Nat}(h:n<=sizeLine):Builtin.List.listTooLong n=false:=by
 unfold Builtin.List.listTooLong
 exact decide_eq_false (by omega)
end
section
variable {X:Cx}
def j0c:V->List V->Hp->VK->Prop:=fun x vs H Q=>∃ l xs y,x=.ref l/\vs=[y]/\H l=some (.lst xs)/\xs.length<sizeLine/\Q .non (upd H l (.lst (xs++[y])))
theorem z5c:MtM X "list.append" j0c:=by
 intro pins s σ H x vs v us Q I rx rv h
 obtain⟨l,xs,y,rfl,rfl,hH,hz,q⟩:=h
 cases rx
 obtain⟨u,rfl,ru⟩:=rv.one
 obtain⟨z,its,n,r,hl,e⟩:=I.lstM hH
 refine call_meets F.slot_list_append ⟨_,e,rfl⟩ F.entry_list_append (F.args_list_append_2 _ _) (PySem.list_append l its.toArray n u (by rw[List.size_toArray];omega)) ⟨e,?_⟩
 refine⟨.non,_,I.lset (its':=its++[u]) hH e (by simp) (r.append (.cons ru .nil)) ?_,rfl,q⟩
 rw[List.length_append,List.length_singleton]
 omega
def j3h:V->List V->Hp->VK->Prop:=fun x vs H Q=>∃ l b xs zs,x=.ref l/\vs=[.ref b]/\H l=some (.lst xs)/\H b=some (.lst zs)/\xs.length+zs.length<=sizeLine/\Q .non (upd H l (.lst (xs++zs)))
theorem z3y:MtM X "list.extend" j3h:=by
 intro pins s σ H x vs v us Q I rx rv h
 obtain⟨l,b,xs,zs,rfl,rfl,hH,hB,hz,q⟩:=h
 cases rx
 obtain⟨u,rfl,ru⟩:=rv.one
 cases ru
 obtain⟨z,its,n,r,hl,e⟩:=I.lstM hH
 obtain⟨z2,its2,n2,r2,hl2,e2⟩:=I.lstM hB
 have hsz:its.toArray.size+its2.toArray.size<=sizeLine:=by rw[List.size_toArray,List.size_toArray];omega
 have hlong:¬ (!its.toArray.isEmpty&&Builtin.List.listTooLong (its.toArray.size+its2.toArray.size))=true:=by
  rw[z0s hsz,Bool.and_false]
  exact Bool.false_ne_true
 refine call_meets F.slot_list_extend ⟨_,e,rfl⟩ F.entry_list_extend (F.args_list_extend_2 _ _)
  (AutoSeq1.list_extend_list_list_0 l its.toArray n b its2.toArray n2 hlong (by rw[List.size_toArray];omega) (by omega)) ⟨e,e2,?_⟩
 refine⟨.non,_,I.lset (its':=its++its2) hH e (by simp) (r.append r2) ?_,rfl,q⟩
 rw[List.length_append]
 omega
def j42:V->List V->Hp->VK->Prop:=fun x vs H Q=>∃ l xs i k y,x=.ref l/\vs=[.int i]/\H l=some (.lst xs) /\ -(2 ^ 63)<=i/\i<2 ^ 63/\seqIndex? i xs.length=some k/\xs[k]? = some y/\Q y (upd H l (.lst (xs.eraseIdx k)))
theorem z6k:MtM X "list.pop" j42:=by
 intro pins s σ H x vs v us Q I rx rv h
 obtain⟨l,xs,i,k,y,rfl,rfl,hH,h1,h2,hk,hy,q⟩:=h
 cases rx
 obtain⟨u,rfl,ru⟩:=rv.one
 obtain⟨t,rfl⟩:=ru
 obtain⟨z,its,n,r,hl,e⟩:=I.lstM hH
 obtain⟨w,hw,rw'⟩:=r.get hy
 refine call_meets F.slot_list_pop ⟨_,e,rfl⟩ F.entry_list_pop (F.args_list_pop_2 _ _)
  (MeetsSeq.list_pop_at l its.toArray n i t k w (fitsIndex_both h1 h2) (by rw[List.size_toArray,<- hl];exact hk) (by rw[<- Array.getElem?_toList];exact hw) (by rw[List.size_toArray];omega)) ⟨e,?_⟩
 refine⟨y,_,I.lset (its':=its.eraseIdx k) hH e ?_ (r.eraseIdx k) ?_,rw',q⟩
 ·show its.toArray.eraseIdxIfInBounds k=(its.eraseIdx k).toArray
  rw[List.eraseIdxIfInBounds_toArray]
 ·have:=y86 xs k
  omega
def k04:R2:=fun x y H Q=>∃ l k xs,x=.ref l/\y=.int k/\H l=some (.lst xs) /\ -(2 ^ 63)<=k/\k<2 ^ 63/\xs.length*k.toNat<=sizeLine /\
 ∀ p,H p=none->Q (.ref p) (upd H p (.lst (List.replicate k.toNat xs).flatten))
theorem y90 {α:Type}(xs:List α)(k:Nat):(List.replicate k xs).flatten.length=k*xs.length:=by
 induction k with
 | zero=>simp
 | succ k ih=>rw[List.replicate_succ,List.flatten_cons,List.length_append,ih,Nat.succ_mul,Nat.add_comm]
theorem j60:OpR X (binaryOp .Mult) k04:=by
 intro pins s σ H x y v u Q I rx ry h
 obtain⟨l,k,xs,rfl,rfl,hH,h1,h2,hz,q⟩:=h
 cases rx
 obtain⟨t,rfl⟩:=ry
 obtain⟨z,its,n,r,hl,e⟩:=I.lstM hH
 have hlen:its.toArray.size*k.toNat<=sizeLine:=by rw[List.size_toArray,<- hl];exact hz
 have hcap:¬ its.toArray.size*k.toNat > (2 ^ 63-1) / 8:=by
  have:(sizeLine:Nat)<=(2 ^ 63-1) / 8:=by decide
  omega
 have hfit:¬ (!Builtin.List.listFitsIndex k)=true:=by
  rw[fitsIndex_both h1 h2]
  exact Bool.false_ne_true
 have hlong:¬ Builtin.List.listTooLong (its.toArray.size*k.toNat)=true:=by
  rw[z0s hlen]
  exact Bool.false_ne_true
 have hnew:List.foldl (fun x1 x2=>x1++x2) #[] (List.replicate (if its.toArray.isEmpty=true then 0 else k.toNat) its.toArray)=(List.replicate k.toNat its).flatten.toArray:=by
  have f0:∀ m:Nat,List.foldl (fun x1 x2=>x1++x2) #[] (List.replicate m its.toArray)=(List.replicate m its).flatten.toArray:=fun m=>by
   have:=y2k its m []
   rw[List.nil_append]at this
   exact this
  rw[f0]
  cases its with
  | nil=>simp
  | cons a r'=>rw[if_neg (by simp)]
 refine wpAny_binaryOp_repeat_ref (T:="list") (U:="int") (by decide) ⟨_,e,rfl⟩ (fun s'=>typeIs_int s' k t) noFill_list_mul F.fills_int_mul F.slot_int_rmul repeat_list F.slot_int_index.lookup
  (call_meets F.slot_int_rmul (typeIs_int s k t) F.entry_int_rmul (F.args_int_rmul_2 _ _) (int___rmul___int_list k t l its.toArray n)
    ⟨e,rfl,⟨_,e,rfl⟩,call_meets F.slot_list_mul ⟨_,e,rfl⟩ F.entry_list_mul (F.args_list_mul_2 _ _) (AutoListH.list___mul___list_int_3 l its.toArray n k t hfit hcap hlong) ⟨e,?_⟩⟩)
 rw[hnew]
 exact⟨.ref _,_,I.lnew (t':=s.toks) (r.rep k.toNat) (by rw[y90,Nat.mul_comm];exact hz),rfl,q _ I.fresh⟩
end
end L2
namespace Att
open PySem PySem.W PySem.Calls PyProof.Rows
theorem y3c {P:Params}{h:Heap}:∀ (ns:List Int) (vs:List Value),WellAll P h vs (ns.map WData.int)->IntsAre vs ns:=by
 intro ns
 induction ns with
 | nil=>
  intro vs w
  rw[List.map_nil]at w
  cases w
  exact .nil
 | cons n ns ih=>
  intro vs w
  rw[List.map_cons]at w
  cases w with
  | cons a b=>
   cases a
   exact .cons _ _ (ih _ b)
theorem z4n {l:OpenLaw}{n:Nat}(hn:l.most=some n){P:Params}{h:Heap}{args:List WData}{vals:List Value}
  (hpre:l.row.toRowW.claim.pre args=true) (hwl:WellAll P h vals args) :
  ∃ a vs ns,vals=[Value.ref a]/\args=[WData.list (ns.map WData.int)]/\h.get? a=some { cls:=.type "list",data:=.seq vs.toArray }/\IntsAre vs ns/\ns.length<=n:=by
 have hsh:WShape.hasAll [] args [.list .int]=true:=(pre_splitW hpre).1
 have hc:l.pre.holds [] { args:=args }=true:=(pre_splitW hpre).2
 obtain⟨d,r,rfl,h1,h2⟩:=hasAllW_cons hsh
 obtain rfl:=hasAllW_nil h2
 obtain⟨xs,rfl,h3⟩:=hasW_list h1
 obtain⟨ns,rfl⟩:=items_int h3
 have hlen:ns.length<=n:=by
  unfold OpenLaw.pre at hc
  have h4:(WTm.not (.lt (.lit (.int (n:Int))) (.len (.arg 0)))).holds [] { args:=[.list (ns.map .int)] }=true:=by
   have h4:=(holds_andW hc).1
   rw[hn]at h4
   exact h4
  have h5:=condW_of h4 (w_not (w_lt w_lit (w_len_list (w_arg rfl))))
  rw[List.length_map]at h5
  refine Nat.le_of_not_lt fun q=>?_
  have q':(n:Int)<((ns.length:Nat):Int):=by omega
  first
   | (rw[decide_eq_true q']at h5;exact absurd h5 (by decide))
   | (simp at h5;omega)
 cases hwl with
 | cons w1 w2=>
  cases w2
  cases w1 with
  | list ho hall=>exact⟨_,_,ns,rfl,rfl,ho,y3c ns _ hall,hlen⟩
theorem z3h (l:OpenLaw)(args:List WData):l.row.toRowW.claim.post args (.bool true) args=true:=
 postW_of (r:=l.row.toRowW) (X:=(true==true))
  (show WShape.has [] (.bool true) .bool=true by first|rfl|decide|simp[WShape.has,WShape.arms,WShape.armsAll])
  (show(WTm.eq .res (.lit (.bool true))).value [] { args:=args,res:=some (.bool true),after:=args }=some (.bool (true==true))from w_eq_bool (w_res rfl) w_lit) rfl
theorem j1b {l:OpenLaw}{n:Nat}{q:Program}{loose:List Str}{XP:(Str->Option Value)->Heap->Prop}{YP:World->Heap->Prop}{d:DefRec}
  (hn:l.most=some n) (hdf:d.params.defaults=[])
  (call:∀ (w:World) (s₀ s₁:Shared) (mg mb:Str->Option Value) (fa:Addr) (o:Obj) (pm cd doc:Value) (a:Addr) (vs:List Value) (ns:List Int),
    Ground q loose [] XP w s₀ mg mb s₁.heap->YP w s₁.heap->
    s₁.heap.get? fa=some o->o.data=.func (docDef d.name d.params d.body d.scope pm cd doc)->s₁.heap.CodeRec cd d.name->mg d.name=some (.ref fa)->
    s₁.heap.get? a=some { cls:=.type "list",data:=.seq vs.toArray }->IntsAre vs ns->ns.length<=n->s₁.gens = #[]->
    codeAny (model l.prog w) callerA (.call (.ref fa) ⟨[.ref a],[]⟩) (fun r s'=>r=.ok (.ret (.bool true))/\OldK s₁.heap s'.heap/\s'.os=s₁.os/\AllBare s'.gens) s₁) :
  WalkO q loose XP YP l.row.toRowW d [] (fun f vs=>PySem.call f vs):=by
 intro w s₀ s₁ mg mb G Y fa o pm cd doc dV kV ho hd hcd hD hmg hg args vals as hpre hlay hrd hwl hlo
 obtain rfl:dV=.none:=Dflts.none hD hdf
 obtain rfl:kV=.none:=Dflts.noKw hD
 obtain⟨a,vs,ns,rfl,rfl,hobj,hints,hlen⟩:=z4n hn hpre hwl
 refine enter_call (codeAny_mono (call w s₀ s₁ mg mb fa o pm cd doc a vs ns G Y ho (fd_plain hd) hcd hmg hobj hints hlen hg) fun r s' hq=>?_)
 obtain⟨rfl,h2,h3,h4⟩:=hq
 exact⟨.inl ⟨.bool true,.bool true,[],rfl,fun _=>rfl,.bool true,z3h l _,fun _=>⟨List.Pairwise.nil,fun _ hm=>(nomatch hm)⟩⟩,h2,h3,h4⟩
end Att
namespace L2
open PySem PySem.Spec PyProof.Rows
theorem y8d:∀ {vs:List Value} {ns:List Int},IntsAre vs ns->x37 (ns.map V.int) vs
 | _,_,.nil=>.nil
 | _,_,.cons n t h=>.cons ⟨t,rfl⟩ (y8d h)
end L2
namespace L2
open PySem PySem.Spec PyProof.Rows
end L2
namespace L2
open PySem PySem.Spec PyProof.Rows
def x7d (s:Stmt):Arguments:=match s with
 | .FunctionDef _ a _ _ _ _ _ _ _ _=>a
 | _=>{ posonlyargs:=[],args:=[],vararg:=none,kwonlyargs:=[],kw_defaults:=[],kwarg:=none,defaults:=[] }
def x3o (s:Stmt):List Stmt:=match s with
 | .FunctionDef _ _ b _ _ _ _ _ _ _=>b
 | _=>[]
def x0b (s:Stmt):Scope:=match s with
 | .FunctionDef _ _ _ _ _ _ sc _ _ _=>sc
 | _=>{ kind:=.function,names:=[],isGenerator:=false,isCoroutine:=false }
abbrev CX0:CXT:=fun _ _ _ _ _ _=>False
abbrev E0:XK:=fun _ _ _=>False
theorem j8p {X:Cx}:z1e CX0 X E0:=fun _ _ _ _ _ _ _ h=>h.elim
structure Fun (K:PySem.W.Frag) (x qual:Str) (st:Stmt) (f:Addr) (fd:FuncData):Prop where
 ex:∃ (oc:Value) (od:Option Addr) (kV doc pm:Value) (an:Option Addr) (cdv ct:Value) (osl:Array (Option Value)),
  fd=PySem.W.fnOf x qual (x7d st) (x3o st) (x0b st) .none kV doc pm an cdv ct/\K.lookup f=some ⟨oc,od,.func fd,osl⟩/\PySem.W.codeIn K cdv qual=true
 kp:PySem.W.keepIn K (.ref f)=true
section
variable {P:Program}{w:World}{K:PySem.W.Frag}{mg:Str->Option Value}{base:Heap}
theorem Fun.ok {x qual:Str}{st:Stmt}{f:Addr}{fd:FuncData}{N ps:List Str}{k:Nat}{sp:Sp}(F:Fun K x qual st f fd)(S:FnScope N ps (x0b st))(len:∀ vs H Q E,sp vs H Q E->vs.length=ps.length)
  (hbody:∀ (cdv:Value) (A:Around) (outer:List Env) (s:Shared) (H:Hp) (vs:List V) (Q:VK) (E:XK),Room k (A.deeper (envOfC qual (x0b st) s.heap.objs.size f cdv))->sp vs H Q E->
    ∃ t,PSs (z2u CX0 P w K mg base N qual (x0b st) f cdv A outer s H E).nox (x3o st) t/\t { nx:=fun _ H'=>Q .non H',rt:=Q } (y42 N vs) H):FnOk P w K mg base CX0 (k+1) f fd ps sp:=by
 obtain⟨oc,od,kV,doc,pm,an,cdv,ct,osl,rfl,lk,hcd⟩:=F.ex
 refine j6a lk hcd S len fun A outer s H vs Q E hr hsp=>?_
 obtain⟨t,h,q⟩:=hbody cdv A outer s H vs Q E hr hsp
 exact⟨t,h.nox,q⟩
theorem Fun.binds {x qual:Str}{st:Stmt}{f:Addr}{fd:FuncData}{ps:List Str}(F:Fun K x qual st f fd)
  (h:∀ (kV doc pm:Value) (an:Option Addr) (cdv ct:Value) (us:List Value),us.length=ps.length->bindArgs (PySem.W.fnOf x qual (x7d st) (x3o st) (x0b st) .none kV doc pm an cdv ct) ⟨us,[]⟩=pure (ps.zip us)):y6c K fd ps []:=by
 obtain⟨oc,od,kV,doc,pm,an,cdv,ct,osl,rfl,lk,hcd⟩:=F.ex
 exact .all (h kV doc pm an cdv ct)
theorem j01 {x qual:Str}{st:Stmt}{f:Addr}{oc:Value}{od an:Option Addr}{osl:Array (Option Value)}{kV doc pm cdv ct:Value}(l:K.lookup f=some ⟨oc,od,.func (PySem.W.fnOf x qual (x7d st) (x3o st) (x0b st) .none kV doc pm an cdv ct),osl⟩)
  (c:PySem.W.codeIn K cdv qual=true) (k:PySem.W.keepIn K (.ref f)=true):Fun K x qual st f (PySem.W.fnOf x qual (x7d st) (x3o st) (x0b st) .none kV doc pm an cdv ct):=⟨⟨oc,od,kV,doc,pm,an,cdv,ct,osl,rfl,l,c⟩,k⟩
end
theorem j85 {A:Around}{k:Nat}(hr:Room k A):A.units+1<cLine:=Nat.lt_of_le_of_lt (Nat.add_le_add_left (by decide:1<=64) _) hr.units
theorem x4a {n:Nat}(h:n<=1000):n<sizeLine:=Nat.lt_of_le_of_lt h (by decide)
section
variable {X:Cx}
theorem pv (i:Nat){x:Str}{pos:Pos}(hN:X.N[i]? = some x:=by rfl)(hv:Vis X.env.scope x:=by first|exact Or.inl rfl|exact Or.inr (Or.inl rfl)|exact Or.inr (Or.inr rfl))(hd:(x==("__debug__":Str))=false:=by decide)
  (hcd:(x==("__classdict__":Str))=false:=by decide):PE X (.Name x pos) (y0z i):=j4a hN hv hd hcd
end
section
variable {κ:Type}[DecidableEq κ]
def z0y (kvs:List (κ×V))(k:κ):Option V:=(kvs.find? fun kv=>decide (kv.1=k)).map (·.2)
def z8m (kvs:List (κ×V))(k:κ)(v:V):List (κ×V):=
 if(kvs.any fun kv=>decide (kv.1=k))=true then kvs.map (fun kv=>if kv.1=k then(kv.1,v)else kv)else kvs++[(k,v)]
theorem y6m {p:κ×V}{r:List (κ×V)}{k:κ}(e:p.1=k):z0y (p::r) k=some p.2:=by simp[z0y,List.find?_cons,e]
theorem y6g {p:κ×V}{r:List (κ×V)}{k:κ}(e:¬ p.1=k):z0y (p::r) k=z0y r k:=by simp[z0y,List.find?_cons,e]
theorem y9o (kvs:List (κ×V))(k:κ)(v:V):(z8m kvs k v).length<=kvs.length+1:=by
 unfold z8m
 split
 ·rw[List.length_map];omega
 ·rw[List.length_append,List.length_cons,List.length_nil];omega
theorem j1i.getD {o:Option V}{u:Option Value}{d:V}{d':Value}(r:j1i o u)(rd:x4g d d'):x4g (o.getD d) (u.getD d'):=by
 cases o with
 | none=>cases u with
  | none=>exact rd
  | some _=>exact(show False from r).elim
 | some _=>cases u with
  | none=>exact(show False from r).elim
  | some _=>exact r
theorem KV.val {kvs:List (κ×V)}{vs:List (κ×Value)}(r:KV kvs vs)(k:κ):j1i (z0y kvs k) (valueAt vs k):=by
 unfold KV at r
 induction r with
 | nil=>exact True.intro
 | @cons p q ps qs h t ih=>
  obtain⟨h1,h2⟩:=h
  by_cases e:p.1=k
  ·have e':q.1=k:=h1.symm.trans e
   have b:valueAt (q::qs) k=some q.2:=by simp[valueAt,List.find?_cons,e']
   rw[y6m e,b];exact h2
  ·have e':¬ q.1=k:=fun z=>e (h1.trans z)
   have b:valueAt (q::qs) k=valueAt qs k:=by simp[valueAt,List.find?_cons,e']
   rw[y6g e,b];exact ih
theorem KV.any {kvs:List (κ×V)}{vs:List (κ×Value)}(r:KV kvs vs)(k:κ):(kvs.any fun kv=>decide (kv.1=k))=vs.any fun kv=>decide (kv.1=k):=by
 unfold KV at r
 induction r with
 | nil=>rfl
 | cons h t ih=>rw[List.any_cons,List.any_cons,ih,h.1]
theorem KV.repl {kvs:List (κ×V)}{vs:List (κ×Value)}(r:KV kvs vs)(k:κ){y:V}{u:Value}(ry:x4g y u) :
  KV (kvs.map fun kv=>if kv.1=k then(kv.1,y)else kv) (vs.map fun kv=>if kv.1=k then(kv.1,u)else kv):=by
 unfold KV at r ⊢
 induction r with
 | nil=>exact .nil
 | @cons p q ps qs h t ih=>
  rw[List.map_cons,List.map_cons]
  refine .cons ?_ ih
  obtain⟨h1,h2⟩:=h
  by_cases e:p.1=k
  ·rw[if_pos e,if_pos (h1.symm.trans e)];exact⟨h1,ry⟩
  ·rw[if_neg e,if_neg (fun z=>e (h1.trans z))];exact⟨h1,h2⟩
theorem KV.put {kvs:List (κ×V)}{vs:List (κ×Value)}(r:KV kvs vs)(k:κ){y:V}{u:Value}(ry:x4g y u):KV (z8m kvs k y) (stored vs k u):=by
 unfold z8m stored
 rw[r.any k]
 by_cases e:(vs.any fun kv=>decide (kv.1=k))=true
 ·rw[if_pos e,if_pos e];exact r.repl k ry
 ·rw[if_neg e,if_neg e];exact Paired.snoc r ⟨rfl,ry⟩
end
theorem j2x {P:Program}{w:World}{k:Key}{u:Value}(r:x4g (kV k) u):(x3i P w).is k u=true:=by
 cases k with
 | inl i=>obtain⟨t,e⟩:=(show ∃ t,u=Value.int i t from r);subst e;exact y8o P w i t
 | inr x=>obtain⟨t,e⟩:=(show ∃ t,u=Value.str x t from r);subst e;exact y9p P w x t
theorem y7u {P:Program}{w:World}:∀ {ks:List Key} {us:List Value},x37 (ks.map kV) us->ItemsAre (x3i P w) ks us
 | [],_,r=>by rw[List.map_nil]at r;cases r;exact .nil
 | k::ks,_,r=>by
  rw[List.map_cons]at r
  cases r with
  | cons h t=>exact .cons (j2x h) (y7u t)
abbrev KT (H:Hp):List (List Key×V)->List (List Key×Addr×Value)->Prop:=Paired fun p q=>p.1=q.1/\H q.2.1=some (.tup (p.1.map kV))/\x4g p.2 q.2.2
theorem KT.val {H:Hp}{kvs:List (List Key×V)}{xs:List (List Key×Addr×Value)}(r:KT H kvs xs)(k:List Key):j1i (z0y kvs k) ((atKey xs k).map (·.2)):=by
 induction r with
 | nil=>exact True.intro
 | @cons p q ps qs h t ih=>
  obtain⟨h1,_,h2⟩:=h
  by_cases e:p.1=k
  ·have e':q.1=k:=h1.symm.trans e
   have b:atKey (q::qs) k=some q.2:=by simp[atKey,List.find?_cons,e']
   rw[y6m e,b];exact h2
  ·have e':¬ q.1=k:=fun z=>e (h1.trans z)
   have b:atKey (q::qs) k=atKey qs k:=by simp[atKey,List.find?_cons,e']
   rw[y6g e,b];exact ih
section
variable {P:Program}{w:World}{H:Hp}{h:Heap}{a:Addr}
theorem j5w {u:HO}(ok:HOk P w H h)(e:Rd H a u):x32 P w H h a u:=e.ok ok
theorem j2i {kvs:List (Key×V)}(ok:HOk P w H h)(e:Rd H a (.dK kvs)):kvs.length<=sizeLine/\(a==sysModules)=false/\∃ vs,KV kvs vs/\h.DictOf (x3i P w) a vs:=
 show x32 P w H h a (.dK kvs)from j5w ok e
theorem j8x {kvs:List (Key×V)}(ok:HOk P w H h)(e:H a=some (.dK kvs)):kvs.length<=sizeLine/\(a==sysModules)=false/\∃ vs,KV kvs vs/\h.DictOf (x3i P w) a vs:=j2i ok (.inl e)
theorem z9d {ks:List Key}(ok:HOk P w H h)(e:H a=some (.tup (ks.map kV))):(tupleKind (x3i P w)).is h ks a:=by
 obtain⟨_,its,r,o,h1,h2,⟨n,h3⟩,_⟩:=(show x32 P w H h a (.tup (ks.map kV))from ok a _ e)
 exact⟨o,its.toArray,n,h1,h2,h3,by simpa using y7u r⟩
theorem j5y {kvs:List (List Key×V)}(ok:HOk P w H h)(e:Rd H a (.dT kvs)):kvs.length<=sizeLine/\(a==sysModules)=false /\
  ∃ xs,KT H kvs xs/\h.DictOfH (tupleKind (x3i P w)) a xs:=by
 obtain⟨z,y,xs,r,o,es,ep,h1,h2,h3,h4,h5⟩:=(show x32 P w H h a (.dT kvs)from j5w ok e)
 refine⟨z,y,xs,r,o,es,ep,h1,h2,h3,h4,fun x hx=>?_,h5⟩
 have all:∀ {l:List (List Key×V)} {m:List (List Key×Addr×Value)},KT H l m->∀ x∈m,(tupleKind (x3i P w)).is h x.1 x.2.1:=by
  intro l m q
  induction q with
  | nil=>intro x hx;exact nomatch hx
  | @cons p q ps qs hq t ih=>
   intro x hx
   rcases List.mem_cons.mp hx with e|hx
   ·subst e
    exact z9d ok (by rw[<- hq.1];exact hq.2.1)
   ·exact ih x hx
 exact all r x hx
end
def j6o (H:Hp)(a:Addr)(y:V)(r:Option V):Prop:=
 (∃ kvs k,Rd H a (.dK kvs)/\y=kV k/\r=z0y kvs k)\/∃ kvs k b,Rd H a (.dT kvs)/\y=.ref b/\H b=some (.tup (k.map kV))/\r=z0y kvs k
theorem j6o.k {H:Hp}{a:Addr}{kvs:List (Key×V)}{k:Key}(e:H a=some (.dK kvs)):j6o H a (kV k) (z0y kvs k):=.inl ⟨kvs,k,.inl e,rfl,rfl⟩
section
variable {X:Cx}{pins:List (Addr×Obj)}{σ:St}{H:Hp}{s:Shared}{a:Addr}{y v:V}{u r:Value}{o:Option V}{A:Around}{E:Value->Shared->Prop}
theorem Inv.big (I:Inv X pins σ H s):sysModules<s.heap.objs.size:=by
 have h:mainGlobals<s.heap.objs.size:=(I.mod.glob.keeps I.bk).lt
 exact Nat.lt_trans (by decide) h
theorem j39 {h':Heap}{t':Nat}{ob:HO}(I:Inv X pins σ H s)(mu:Mut (H a))(hs:Heap.SameBut a s.heap h')(he:∃ q,h'.get? a=some q)(new:x32 X.prog X.w (upd H a ob) h' a ob) :
  Inv X pins σ (upd H a ob) { s with heap:=h',toks:=t' }:=
 I.write (x:=a) (e:=a) mu (.inl rfl) (fun b q hb z=>(hs.2 b hb).trans z) he new
theorem j47 {P:Program}{w:World}{H':Hp}{h':Heap}{kvs:List (Key×V)}{vs:List (Key×Value)}(z:kvs.length<=sizeLine)(hd:(a==sysModules)=false)(rel:KV kvs vs)(dd:h'.DictOf (x3i P w) a vs) :
  x32 P w H' h' a (.dK kvs):=⟨z,hd,vs,rel,dd⟩
end
theorem z90 {P:Program}{w:World}{H:Hp}(h:Heap)(hb:sysModules<h.objs.size):x32 P w H (h.push { cls:=.type "dict",data:=.dict #[] }) h.objs.size (.dK []):=
 ⟨Nat.zero_le _,beq_eq_false_iff_ne.mpr (Ne.symm (Nat.ne_of_lt hb)),[],.nil,Heap.DictOf.new h⟩
def z4f:List (TE×TE)->St->Hp->(List (V×V)->Hp->Prop)->Prop
 | [],_,H,Q=>Q [] H
 | (tk,tv)::r,σ,H,Q=>tk σ H fun x H1=>tv σ H1 fun y H2=>z4f r σ H2 fun ps H3=>Q ((x,y)::ps) H3
abbrev VV:List (V×V)->List (Value×Value)->Prop:=Paired fun p q=>x4g p.1 q.1/\x4g p.2 q.2
def PPs (X:Cx)(pos:Pos)(keys:List (Option Expr))(values:List Expr)(trs:List (TE×TE)):Prop:=
 ∀ (pins:List (Addr×Obj)) (s:Shared) (σ:St) (H:Hp) (Q:List (V×V)->Hp->Prop),Inv X pins σ H s->z4f trs σ H Q->
  wpAny (model X.prog X.w) X.A (evalPairs (pairTrees keys values X.env pos)) (fun vs s'=>∃ ps H',Inv X pins σ H' s'/\VV ps vs/\Q ps H') X.xe s
theorem j21 {X:Cx}{pos:Pos}:PPs X pos [] [] []:=fun pins s σ H Q I h=>pairTrees_nil_walk ⟨[],H,I,.nil,h⟩
theorem z1a {X:Cx}{pos:Pos}{k v:Expr}{ks:List (Option Expr)}{vs:List Expr}{tk tv:TE}{trs:List (TE×TE)}(hk:PE X k tk)(hv:PE X v tv)(hr:PPs X pos ks vs trs) :
  PPs X pos (some k::ks) (v::vs) ((tk,tv)::trs):=fun pins s σ H Q I h=>
 pairTrees_cons_walk (thn (hk pins s σ H _ I h) fun u s1 ⟨x,H1,I1,rx,q1⟩=>thn (hv pins s1 σ H1 _ I1 q1) fun w2 s2 ⟨y,H2,I2,ry,q2⟩=>
  thn (hr pins s2 σ H2 _ I2 q2) fun ws s3 ⟨ps,H3,I3,rel,q3⟩=>⟨(x,y)::ps,H3,I3,.cons ⟨rx,ry⟩ rel,q3⟩)
def y2e (kvs more:List (Key×V)):List (Key×V):=more.foldl (fun acc kv=>z8m acc kv.1 kv.2) kvs
theorem KV.merge:∀ {more:List (Key×V)} {rs:List (Key×Value)} {kvs:List (Key×V)} {vs:List (Key×Value)},KV more rs->KV kvs vs->KV (y2e kvs more) (merged vs rs):=by
 intro more rs kvs vs r
 unfold KV at r
 induction r generalizing kvs vs with
 | nil=>intro q;exact q
 | @cons p q ps qs h t ih=>
  intro r0
  have e:KV (z8m kvs p.1 p.2) (stored vs q.1 q.2):=by
   have:=r0.put p.1 h.2
   rw[<- h.1];exact this
  exact ih e
theorem x9l:∀ (more kvs:List (Key×V)),(y2e kvs more).length<=kvs.length+more.length
 | [],kvs=>by show kvs.length<=kvs.length+0;omega
 | p::r,kvs=>by
  have h1:=x9l r (z8m kvs p.1 p.2)
  have h2:=y9o kvs p.1 p.2
  show(y2e (z8m kvs p.1 p.2) r).length<=_
  rw[List.length_cons];omega
theorem y4c {P:Program}{w:World}:∀ {kvs:List (Key×V)} {ws:List (Value×Value)},VV (kvs.map fun kv=>(kV kv.1,kv.2)) ws->∃ rs,Carries (x3i P w) ws rs/\KV kvs rs
 | [],_,r=>by rw[List.map_nil]at r;cases r;exact⟨[],True.intro,.nil⟩
 | p::kvs,_,r=>by
  rw[List.map_cons]at r
  cases r with
  | @cons a b as bs h t=>
   obtain⟨rs,c,q⟩:=y4c (P:=P) (w:=w) t
   obtain⟨b1,b2⟩:=b
   exact⟨(p.1,b2)::rs,⟨j2x h.1,rfl,c⟩,.cons ⟨rfl,h.2⟩ q⟩
def j90 (trs:List (TE×TE)):TE:=fun σ H Q=>∀ p,H p=none->z4f trs σ (upd H p (.dK [])) fun ps H2=>H2 p=some (.dK [])/\∃ kvs:List (Key×V),ps=kvs.map (fun kv=>(kV kv.1,kv.2))/\kvs.length<=15/\Q (.ref p) (upd H2 p (.dK (y2e [] kvs)))
theorem j2b {X:Cx}{pos:Pos}{keys:List (Option Expr)}{values:List Expr}{trs:List (TE×TE)}(h:PPs X pos keys values trs)(hall:keys.all (·.isSome)=true)(hl:keys.length=values.length)(h0:keys ≠ [])
  (h15:keys.length<=15):PE X (.Dict keys values pos) (j90 trs):=by
 intro pins s σ H Q I q
 have hn:=I.hok.fresh (Nat.le_refl s.heap.objs.size)
 have I1:=I.laid (a:=s.heap.objs.size) (o:=.dK []) (h':=s.heap.push { cls:=.type "dict",data:=.dict #[] }) (t':=s.toks) (fun _ _ q=>Heap.get?_push_of_some _ q) (Nat.le_refl _) (z90 s.heap I.big)
 refine wpAny_Dict_walk (knd:=x3i X.prog X.w) hall hl h0 h15 (thn (h pins _ σ _ _ I1 (q _ hn)) fun ws s2 hh0=>?_)
 obtain⟨ps,H2,I2,rel,e,kvs,ep,lk,q2⟩:=hh0
 subst ep
 obtain⟨rs,c,rk⟩:=y4c (P:=X.prog) (w:=X.w) rel
 obtain⟨z,hd,vs0,r0,dd⟩:=j8x I2.hok e
 cases r0
 refine⟨rs,c,dd,fun h' dd' hs=>⟨.ref s.heap.objs.size,_,?_,rfl,q2⟩⟩
 have hz:(y2e [] kvs).length<=sizeLine:=by
  have h1:=x9l kvs []
  rw[List.length_nil]at h1
  rw[sizeLine_eq];omega
 have he:∃ q,h'.get? s.heap.objs.size=some q:=let ⟨q,_,_,hq,_⟩:=dd';⟨q,hq⟩
 exact j39 I2 (by rw[e];exact True.intro) hs he (j47 hz hd (rk.merge .nil) dd')
structure M2 (X:Cx) (o:Expr) (m:Str) (apos:Pos) (e f:Expr) (cpos:Pos):Prop where
 base:attributeBase o m X.env (eval o X.env)=eval o X.env
 few:((backTo cpos (starEach [e,f] X.env)).all (fun x=>!x.1)&&(backToKw cpos (keywordEach [] X.env)).all (fun x=>x.1.isSome)
  && decide (([e,f]:List Expr).length+([]:List Keyword).length+(if([]:List Keyword).isEmpty then 0 else 1)<30))=true
 line:(apos.endLine==cpos.line)=true
 trees:backTo cpos (starEach [e,f] X.env)=[(false,eval e X.env),(false,eval f X.env)]
def IsD (H:Hp)(a:Addr):Prop:=(∃ kvs,Rd H a (.dK kvs))\/∃ kvs,Rd H a (.dT kvs)
theorem j6j {X:Cx}{pins:List (Addr×Obj)}{σ:St}{H:Hp}{s:Shared}{a:Addr}(I:Inv X pins σ H s)(d:IsD H a) :
  s.TypeIs (.ref a) "dict" /\ (∀ b,Value.ref a=.ref b->∃ ob,s.heap.get? b=some ob/\ob.dict=none)/\(a==sysModules)=false:=by
 rcases d with⟨kvs,e⟩|⟨kvs,e⟩
 ·obtain⟨_,hd,vs,_,dd⟩:=j2i I.hok e
  refine⟨dd.typeIs,fun b q=>?_,hd⟩
  cases q
  obtain⟨ob,_,_,h1,h2,_⟩:=dd
  exact⟨ob,h1,h2.2.1⟩
 ·obtain⟨_,hd,xs,_,dd⟩:=j5y I.hok e
  refine⟨dd.typeIs,fun b q=>?_,hd⟩
  cases q
  obtain⟨ob,_,_,h1,h2,_⟩:=dd
  exact⟨ob,h1,h2.2.1⟩
section
variable {X:Cx}{pins:List (Addr×Obj)}{σ:St}{H:Hp}{s:Shared}{a:Addr}{y d:V}{u r:Value}{o:Option V}{A:Around}{E:Value->Shared->Prop}
theorem j6i {Q:Value->Shared->Prop}(hu:A.units+1<cLine)(I:Inv X pins σ H s)(g:j6o H a y o)(ry:x4g y u)(rd:x4g d r)(h:∀ w' s',Inv X pins σ H s'->x4g (o.getD d) w'->Q w' s') :
  wpAny (model X.prog X.w) A (call (.builtin "dict.get") [.ref a,u,r]) Q E s:=by
 rcases g with⟨kvs,k,e,ey,l⟩|⟨kvs,k,b,e,ey,eb,l⟩
 ·subst ey
  obtain⟨z,hd,vs,rel,dd⟩:=j2i I.hok e
  refine call_meetsIn PySem.F.slot_dict_get dd.typeIs PySem.F.entry_dict_get (PySem.F.args_dict_get_3 _ _ _) (meets_dict_get_default (x3i X.prog X.w) a (j2x ry) hd r) ⟨_,dd.mapOf,h _ _ (I.tok _) ?_⟩
  rw[l]
  exact(rel.val k).getD rd
 ·subst ey
  cases (show u=Value.ref b from ry)
  obtain⟨z,hd,xs,rel,dd⟩:=j5y I.hok e
  refine call_meetsIn PySem.F.slot_dict_get dd.typeIs PySem.F.entry_dict_get (PySem.F.args_dict_get_3 _ _ _) (meetsH_dict_get_default (tupleKind (x3i X.prog X.w)) a b hd r) ⟨tupleKind_room_in1 hu,k,xs,z9d I.hok eb,dd,h _ _ (I.tok _) ?_⟩
  rw[l]
  exact(rel.val k).getD rd
end
def j3z (td ty tx:TE):TE:=fun σ H Q=>td σ H fun x H1=>∃ a,x=.ref a/\IsD H1 a/\ty σ H1 fun y H2=>tx σ H2 fun z H3=>∃ o,j6o H3 a y o/\Q (o.getD z) H3
section
variable {X:Cx}{o e f:Expr}{apos cpos:Pos}{td ty tx:TE}
theorem z64 (hu:X.A.units+1<cLine)(ho:PE X o td)(he:PE X e ty)(hf:PE X f tx)(m:M2 X o "get" apos e f cpos):PE X (.Call (.Attribute o "get" apos) [e,f] [] cpos) (j3z td ty tx):=by
 intro pins s σ H Q I h
 refine wpAny_Call_method m.base m.few m.line PySem.F.plainAttrs_dict PySem.F.slot_dict_get PySem.F.type_dict_get (thn (ho pins s σ H _ I h) fun u s1 hh0=>?_)
 obtain⟨x,H1,I1,rx,a,ex,d,q1⟩:=hh0
 subst ex
 obtain rfl:u=Value.ref a:=rx
 obtain⟨t1,t2,_⟩:=j6j I1 d
 refine⟨t1,t2,?_⟩
 rw[m.trees]
 refine Calls.callWith_builtin rfl (Calls.evalArgs_plain (Calls.spliced_cons (thn (he pins s1 σ H1 _ I1 q1) fun iv s2 ⟨y,H2,I2,ry,q2⟩=>
  Calls.spliced_cons (thn (hf pins s2 σ H2 _ I2 q2) fun fv s3 ⟨z,H3,I3,rz,ov,g,q3⟩=>Calls.spliced_nil ?_))))
 exact j6i hu I3 g ry rz fun w' s4 I4 rw'=>⟨_,H3,I4,rw',q3⟩
end
theorem y6t {prog:Program}{w:World}{A:Around}{R:Result->Shared->Prop}{s:Shared}{elt target iter:Expr}{ifs:List Expr}{scope:Scope}{pos:Pos}{it acc:Value}{env:Env}(I:Nat->Shared->Prop)
  (turn:∀ n s,I n s->wpAny (model prog w) A (pyNext it) (fun r s₁=>match r with
    | none=>R (.ok .next) s₁
    | some v=>wpAny (model prog w) A (letOwnedTupleGo target it v) (fun _ s₁'=>wpAny (model prog w) A (assign target env v) (fun _ s₂=>
      wpAny (model prog w) A (forIn ifs true fun c r=>if r=true then do let ok <- isTrue c env (eval c env);pure (ForInStep.yield ok)else pure (ForInStep.yield r)) (fun ok s₃=>
       if ok=true then wpAny (model prog w) A (eval elt env) (fun x s₄=>
        wpAny (model prog w) A (call (.builtin "list.append") [acc,x]) (fun _ s₅=>∃ m,m<n/\I m s₅) (fun _ _=>False) s₄) (fun _ _=>False) s₃
       else ∃ m,m<n/\I m s₃) (fun _ _=>False) s₂) (fun _ _=>False) s₁') (fun _ _=>False) s₁) (fun _ _=>False) s)
  (n:Nat) (h:I n s):codeAny (model prog w) A (.compLoop (.ListComp elt [⟨target,iter,ifs,0⟩] scope pos) 0 it acc env) R s:=by
 refine codeAny_loop rfl I (fun n s hI=>?_) n h
 show wpAny _ A ((compTurn (.ListComp elt [⟨target,iter,ifs,0⟩] scope pos) 0 it acc env).onRaise (fun x=>do noteFrame x env;theTreesLotGoes x)) _ _ s
 refine wpAny_noted ?_
 rw[compTurn_list]
 refine wpAny_bind (wpAny_standAt (wpAny_bind (wpAny_mono (turn n s hI) (fun r s₁ h₁=>?_) fun _ _ h'=>h'.elim)))
 cases r with
 | none=>exact wpAny_pure h₁
 | some v=>
  refine wpAny_bind (wpAny_mono h₁ (fun _ s₁' h₁'=>?_) fun _ _ h'=>h'.elim)
  refine wpAny_bind (wpAny_mono h₁' (fun _ s₂ h₂=>wpAny_bind (wpAny_mono h₂ (fun ok s₃ h₃=>?_) fun _ _ h'=>h'.elim)) fun _ _ h'=>h'.elim)
  cases ok with
  | false=>exact wpAny_pure ⟨rfl,h₃⟩
  | true=>
   exact wpAny_bind (wpAny_bind (wpAny_mono h₃ (fun x s₄ h₄=>wpAny_bind (wpAny_mono h₄ (fun _ s₅ h₅=>wpAny_pure (wpAny_pure ⟨rfl,h₅⟩)) fun _ _ h'=>h'.elim)) fun _ _ h'=>h'.elim))
theorem z00 {M:Model}{A:Around}{E:Value->Shared->Prop}{s:Shared}{scope:Scope}{globals:Addr}{cl:List (Str×Addr)}{qual:Str}{outer:Env}{Q:Env->Shared->Prop}
  (hQ:Q (newEnv scope s.heap.objs.size globals (cellsFrom (s.heap.objs.size+1) scope.names cl) qual none .none (some outer) builtinsNs)
    { s with heap:=pushCells (s.heap.push { cls:=.type "dict",data:=.dict #[] }) scope.names }) :
  wpAny M A (newFunctionEnv scope globals cl [] qual none .none (some outer)) Q E s:=by
 simp only[newFunctionEnv,Option.isSome_some,if_true]
 refine wpAny_bind (wpAny_alloc ?_)
 refine wpAny_bind (wpAny_layCells _ (fun name kind cells=>by cases hkc:kind==NameKind.cell<;>simp[hkc]) _ _ _ _ ?_)
 rw[show({ s with heap:=s.heap.push { cls:=.type "dict",data:=.dict #[] } }:Shared).heap.objs.size=s.heap.objs.size+1 from Heap.size_push ..]
 refine wpAny_bind ?_
 rw[List.forIn_nil]
 exact wpAny_pure (wpAny_pure hQ)
def x2r (cells:List (Str×Addr)):List (Str×NameKind)->List (Str×Addr)->List (Str×Addr)
 | [],acc=>acc
 | (n,k)::r,acc=>if k == .free then(match cells.lookup n with
   | some c=>x2r cells r ((n,c)::acc)
   | none=>x2r cells r acc)else x2r cells r acc
theorem y08 {scope:Scope}{env:Env}(h:∀ y∈scope.names,y.2=.free->∃ c,env.cells.lookup y.1=some c):closureFor scope env=pure (x2r env.cells scope.names []):=by
 unfold closureFor
 have key:∀ (names:List (Str×NameKind)) (acc:List (Str×Addr)),(∀ y∈names,y.2=.free->∃ c,env.cells.lookup y.1=some c)->
   (forIn names acc (fun(x:Str×NameKind) (r:List (Str×Addr))=>(match x with
     | (name,kind)=>if(kind==NameKind.free)=true then do
       let c <- cellOf env name
       pure (ForInStep.yield ((name,c)::r))
      else pure (ForInStep.yield r):Sem (ForInStep (List (Str×Addr))))))=(pure (x2r env.cells names acc):Sem (List (Str×Addr))):=by
  intro names
  induction names with
  | nil=>intro acc _;rfl
  | cons y r ih=>
   intro acc hh
   obtain⟨n,kd⟩:=y
   rw[List.forIn_cons]
   unfold x2r
   by_cases hk:(kd==NameKind.free)=true
   ·obtain⟨c,hc⟩:=hh (n,kd) List.mem_cons_self (by simpa using hk)
    have hc':env.cells.lookup n=some c:=hc
    simp only[hk,if_true,hc']
    have e:cellOf env n=pure c:=by unfold cellOf;rw[hc']
    rw[e]
    exact ih ((n,c)::acc) fun z hz=>hh z (List.mem_cons_of_mem _ hz)
   ·simp only[hk]
    exact ih acc fun z hz=>hh z (List.mem_cons_of_mem _ hz)
 exact(congrArg (fun m=>m >>= fun cs=>(pure cs:Sem (List (Str×Addr)))) (key scope.names [] h)).trans rfl
theorem x69 {cells:List (Str×Addr)}:∀ {names:List (Str×NameKind)} {acc:List (Str×Addr)},(∀ y c,(y,c)∈acc->cells.lookup y=some c)->∀ y c,(y,c)∈x2r cells names acc->cells.lookup y=some c
 | [],_,h,y,c,m=>h y c m
 | (n,k)::r,acc,h,y,c,m=>by
  unfold x2r at m
  split at m
  ·split at m
   ·rename_i c' e
    refine x69 (acc:=(n,c')::acc) (fun z d hz=>?_) y c m
    rcases List.mem_cons.mp hz with q|q
    ·cases q;exact e
    ·exact h z d q
   ·exact x69 h y c m
  ·exact x69 h y c m
theorem x6b {cells:List (Str×Addr)}:∀ {names:List (Str×NameKind)} {acc:List (Str×Addr)} {y:Str},(acc.lookup y).isSome=true->((x2r cells names acc).lookup y).isSome=true
 | [],_,_,h=>h
 | (n,k)::r,acc,y,h=>by
  unfold x2r
  split
  ·split
   ·refine x6b ?_
    rw[List.lookup_cons]
    split
    ·rfl
    ·exact h
   ·exact x6b h
  ·exact x6b h
theorem x5e {cells:List (Str×Addr)}{y:Str}{c:Addr}(hc:cells.lookup y=some c):∀ {names:List (Str×NameKind)} {acc:List (Str×Addr)},(y,NameKind.free)∈names->((x2r cells names acc).lookup y).isSome=true
 | (n,k)::r,acc,h=>by
  unfold x2r
  rcases List.mem_cons.mp h with q|q
  ·cases q
   simp only[hc]
   rw[if_pos (by rfl)]
   refine x6b ?_
   rw[List.lookup_cons,beq_self_eq_true]
   rfl
  ·split
   ·split
    ·exact x5e hc q
    ·exact x5e hc q
   ·exact x5e hc q
theorem x6g:∀ {names:List (Str×NameKind)} {h:Heap} {acc:List (Str×Addr)} {y:Str} {c:Addr},(y,c)∈cellsFrom h.objs.size names acc->(y,c)∈acc\/(h.objs.size<=c/\(pushCells h names).IsCell c none)
 | [],_,_,_,_,m=>.inl m
 | (n,k)::r,h,acc,y,c,m=>by
  unfold cellsFrom at m
  unfold pushCells
  split at m
  ·rename_i hk
   rw[if_pos hk]
   have m':(y,c)∈cellsFrom (h.push { cls:=.type "cell",data:=.cell none }).objs.size r ((n,h.objs.size)::acc):=by rw[Heap.size_push];exact m
   rcases x6g m' with q|⟨q1,q2⟩
   ·rcases List.mem_cons.mp q with e|q
    ·cases e
     refine .inr ⟨Nat.le_refl _,_,pushCells_keeps _ _ _ _ (Heap.get?_push_size _ rfl),rfl⟩
    ·exact .inl q
   ·rw[Heap.size_push]at q1
    exact .inr ⟨by omega,q2⟩
  ·rename_i hk
   rw[if_neg hk]
   exact x6g m
theorem x6c:∀ {names:List (Str×NameKind)} {n:Nat} {acc:List (Str×Addr)},(∀ y c,(y,c)∈acc->c<n)->(∀ x y c,(x,c)∈acc->(y,c)∈acc->x=y)->∀ x y c,(x,c)∈cellsFrom n names acc->(y,c)∈cellsFrom n names acc->x=y
 | [],_,_,_,h=>h
 | (nm,k)::r,n,acc,hlt,h=>by
  unfold cellsFrom
  split
  ·refine x6c (n:=n+1) (acc:=(nm,n)::acc) (fun y c m=>?_) (fun x y c m1 m2=>?_)
   ·rcases List.mem_cons.mp m with e|m
    ·cases e;exact Nat.lt_succ_self _
    ·exact Nat.lt_succ_of_lt (hlt y c m)
   ·rcases List.mem_cons.mp m1 with e1|m1<;>rcases List.mem_cons.mp m2 with e2|m2
    ·cases e1;cases e2;rfl
    ·cases e1;exact absurd (hlt y _ m2) (Nat.lt_irrefl _)
    ·cases e2;exact absurd (hlt x _ m1) (Nat.lt_irrefl _)
    ·exact h x y c m1 m2
  ·exact x6c hlt h
theorem x6n {lo:Nat}{y:Str}:∀ {names:List (Str×NameKind)} {n:Nat} {acc:List (Str×Addr)},lo<=n->(∀ c,acc.lookup y=some c->lo<=c)->∀ c,(cellsFrom n names acc).lookup y=some c->lo<=c
 | [],_,_,_,h=>h
 | (nm,k)::r,n,acc,hn,h=>by
  unfold cellsFrom
  split
  ·refine x6n (n:=n+1) (by omega) fun c e=>?_
   rw[List.lookup_cons]at e
   split at e
   ·cases e;exact hn
   ·exact h c e
  ·exact x6n hn h
theorem x7l {lo:Nat}{y:Str}:∀ {names:List (Str×NameKind)} {n:Nat} {acc:List (Str×Addr)},lo<=n->(y,NameKind.cell)∈names->∀ c,(cellsFrom n names acc).lookup y=some c->lo<=c
 | (nm,k)::r,n,acc,hn,h=>by
  unfold cellsFrom
  rcases List.mem_cons.mp h with q|q
  ·cases q
   rw[if_pos (by rfl)]
   refine x6n (n:=n+1) (by omega) fun c e=>?_
   rw[List.lookup_cons,beq_self_eq_true]at e
   cases e;exact hn
  ·split
   ·exact x7l (n:=n+1) (by omega) q
   ·exact x7l hn q
theorem x5f {y:Str}:∀ {names:List (Str×NameKind)} {n:Nat} {acc:List (Str×Addr)},(y,NameKind.cell) ∉ names->(cellsFrom n names acc).lookup y=acc.lookup y
 | [],_,_,_=>rfl
 | (nm,k)::r,n,acc,h=>by
  unfold cellsFrom
  split
  ·rename_i hk
   rw[x5f (fun z=>h (List.mem_cons_of_mem _ z)),List.lookup_cons]
   have hne:(y==nm)=false:=by
    cases e:y==nm with
    | false=>rfl
    | true=>
     have e1:y=nm:=beq_iff_eq.mp e
     have e2:k=NameKind.cell:=by simpa using hk
     exact absurd (by rw[e1,<- e2];exact List.mem_cons_self) h
   rw[hne]
  ·exact x5f fun z=>h (List.mem_cons_of_mem _ z)
def y73 (env:Env)(y:Str)(k:NameKind):NameKind:=if(k==NameKind.free&&env.scope.kind == .function&&env.kindOf y==some .cell)then .cell else k
theorem x5s {env:Env}{y:Str}:∀ (names:List (Str×NameKind)),(names.map fun(n,k)=>if(k==NameKind.free&&env.scope.kind == .function&&env.kindOf n==some .cell)then(n,NameKind.cell)else(n,k)).lookup y=(names.lookup y).map (y73 env y)
 | []=>rfl
 | (n,k)::r=>by
  have ih:=x5s (env:=env) (y:=y) r
  show List.lookup y ((if(k==NameKind.free&&env.scope.kind == .function&&env.kindOf n==some .cell)=true then(n,NameKind.cell)else(n,k))::_)=_
  cases hx:y==n with
  | true=>
   have e:=beq_iff_eq.mp hx
   subst e
   rw[List.lookup_cons,List.lookup_cons]
   by_cases hc:(k==NameKind.free&&env.scope.kind == .function&&env.kindOf y==some .cell)=true
   ·simp only[y73,hc,if_true,beq_self_eq_true,Option.map_some]
   ·simp only[y73,hc,beq_self_eq_true,Option.map_some]
    simp
  | false=>
   by_cases hc:(k==NameKind.free&&env.scope.kind == .function&&env.kindOf n==some .cell)=true
   ·rw[if_pos hc,List.lookup_cons,List.lookup_cons];simp only[hx];exact ih
   ·rw[if_neg hc,List.lookup_cons,List.lookup_cons];simp only[hx];exact ih
theorem y7n {l:List (Str×NameKind)}(hn:(l.map (·.1)).Nodup){y:Str}{k:NameKind}(h:(y,k)∈l):l.lookup y=some k:=by
 induction l with
 | nil=>cases h
 | cons p r ih=>
  rw[List.lookup_cons]
  rcases List.mem_cons.mp h with e|h
  ·rw[<- e,beq_self_eq_true]
  ·have hne:y≠p.1:=fun e=>by
    have:=(List.nodup_cons.mp hn).1
    exact this (by show p.1∈_;rw[<- e];exact List.mem_map.mpr ⟨(y,k),h,rfl⟩)
   have:(y==p.1)=false:=by simpa using hne
   rw[this]
   exact ih (List.nodup_cons.mp hn).2 h
def z3v (scope:Scope)(env:Env)(C:Addr):Env:=
 { newEnv scope C env.globals (cellsFrom (C+1) scope.names (x2r env.cells scope.names [])) env.qual none .none (some env) builtinsNs with scope:=relabel scope env }
def x2i (X:Cx)(N':List Str)(scope:Scope)(C:Addr)(s:Shared)(H:Hp)(fp:List Addr):Cx where
 prog:=X.prog
 w:=X.w
 K:=X.K
 mg:=X.mg
 base:=X.base
 A:=X.A
 N:=N'
 s₀:=s
 H₀:=H
 env:=z3v scope X.env C
 outer:=X.stack
 stack:=X.stack
 ex:=fp
 fn:=fun y=>scope.names.lookup y==some .cell
 calm:=X.calm
 pn:=[]
 xe:=fun _ _=>False
structure CompOk (X:Cx) (k:Nat) (N':List Str) (scope:Scope):Prop where
 kind:scope.kind=.function
 names:(scope.names.map (·.1)).Nodup
 len:N'.length=X.N.length+k
 frees:(scope.names.all fun y=>y.2 != .free||X.env.kindOf y.1==some .cell||X.env.kindOf y.1==some .free)=true
 outs:((N'.zip X.N).all fun p=>(p.1==p.2&&scope.names.lookup p.1==some .free)||scope.names.lookup p.1==none||scope.names.lookup p.1==some .globalImplicit)=true
theorem CompOk.free {X:Cx}{k:Nat}{N':List Str}{scope:Scope}(S:CompOk X k N' scope){y:Str}(h:(y,NameKind.free)∈scope.names):X.env.kindOf y=some .cell\/X.env.kindOf y=some .free:=by
 have:=List.all_eq_true.mp S.frees (y,NameKind.free) h
 simp only[Bool.or_eq_true,bne_iff_ne,ne_eq,beq_iff_eq]at this
 rcases this with(h1|h1)|h1
 ·exact absurd trivial h1
 ·exact .inl h1
 ·exact .inr h1
theorem CompOk.out {X:Cx}{k:Nat}{N':List Str}{scope:Scope}(S:CompOk X k N' scope){i:Nat}{y:Str}(hi':i<X.N.length)(h:N'[i]? = some y)(hv:Vis (relabel scope X.env) y):X.N[i]? = some y/\scope.names.lookup y=some .free:=by
 have e2:X.N[i]? = some X.N[i]:=by simp[hi']
 have m:(y,X.N[i])∈N'.zip X.N:=List.mem_of_getElem? (i:=i) (by rw[List.getElem?_zip_eq_some];exact⟨h,e2⟩)
 have:=List.all_eq_true.mp S.outs _ m
 simp only[Bool.or_eq_true,Bool.and_eq_true,beq_iff_eq]at this
 have hl:(relabel scope X.env).names.lookup y=(scope.names.lookup y).map (y73 X.env y):=x5s _
 rcases this with(⟨h1,h2⟩|h1)|h1
 ·exact⟨by rw[e2,<- h1],h2⟩
 ·rw[h1]at hl
  rcases hv with z|z|z<;>(rw[hl]at z;cases z)
 ·rw[h1]at hl
  have hr:y73 X.env y .globalImplicit=.globalImplicit:=rfl
  rw[Option.map_some,hr]at hl
  rcases hv with z|z|z<;>(rw[hl]at z;cases z)
theorem Un.updNew {fs ex:List Addr}{P:Program}{w:World}{H H':Hp}{h h':Heap}{D:Addr}{o:HO}(u:Un fs ex H H' h h')(hok:HOk P w H h)(hD:h.objs.size<=D):Un fs ex H (upd H' D o) h h':=by
 have ne:∀ b ob,h.get? b=some ob->b≠D:=fun b ob e z=>absurd (Nat.lt_of_lt_of_le (Heap.lt_size e) hD) (by rw[z];exact Nat.lt_irrefl _)
 have ne':∀ b x,H b=some x->b≠D:=fun b x e z=>absurd (Nat.lt_of_lt_of_le (hok.lt e) hD) (by rw[z];exact Nat.lt_irrefl _)
 refine⟨u.keep,u.slot,fun b ob e n hx=>?_,u.there,fun b xs e=>?_,fun b ob x e=>?_,fun b ps e=>?_⟩
 ·rw[x0y (ne b ob e)];exact u.free b ob e n hx
 ·rw[x0y (ne' b _ e)];exact u.tups b xs e
 ·rw[x0y (ne' b _ e)];exact u.frzs b ob x e
 ·rw[x0y (ne' b _ e)];exact u.tbls b ps e
theorem HOk.add {P:Program}{w:World}{H:Hp}{h:Heap}{D:Addr}{o:HO}(x:HOk P w H h)(hn:H D=none)(new:x32 P w (upd H D o) h D o):HOk P w (upd H D o) h:=fun b u e=>by
 by_cases hb:b=D
 ·subst hb;rw[x1z]at e;cases e;exact new
 ·rw[x0y hb]at e
  exact(x b u e).stay (fun c v _ q=>q) (fun c q=>by rw[x0y (x1r q hn)];exact q) fun c xs q=>by rw[x0y (x1r q hn)];exact q
def PTs (X:Cx)(ifs:List Expr)(t:TT):Prop:=
 ∀ (pins:List (Addr×Obj)) (s:Shared) (σ:St) (H:Hp) (Q:Bool->Hp->Prop),Inv X pins σ H s->t σ H Q->
  wpAny (model X.prog X.w) X.A (forIn ifs true fun c r=>if r=true then do let ok <- isTrue c X.env (eval c X.env);pure (ForInStep.yield ok)else pure (ForInStep.yield r)) (TP X pins σ Q) X.xe s
def k00:TT:=fun _ H Q=>Q true H
theorem j33 {X:Cx}:PTs X [] k00:=fun pins s σ H Q I h=>wpAny_tests_nil ⟨H,I,h⟩
theorem j1n {X:Cx}{c:Expr}{t:TT}(h:PT X c t):PTs X [c] t:=fun pins s σ H Q I q=>wpAny_tests_one (h pins s σ H Q I q)
def j4s (k:Nat)(g:TG)(tt:TT)(te:TE)(σ:St)(J:It)(H:Hp)(Fin:List V->Hp->Prop):Prop:=
 ∃ W:Nat->Nat->List V->Hp->Prop,(∃ m,W 0 m [] H)/\∀ i m ys H2,W i m ys H2->ys.length<=sizeLine /\
  ((J.stop i H2/\Fin ys H2)\/(J.go i H2/\ys.length<sizeLine/\∀ x H3,J.yld i H2 x H3->g x (σ++List.replicate k none) H3 fun σ4 H4=>(∃ τ,σ4=σ++τ/\τ.length=k) /\
    tt σ4 H4 fun b H5=>if b=true then te σ4 H5 fun v H6=>∃ m',m'<m/\W (i+1) m' (ys++[v]) H6 else ∃ m',m'<m/\W (i+1) m' ys H5))
def z8h (k:Nat)(wi:TI)(g:TG)(tt:TT)(te:TE):TE:=fun σ H Q=>wi σ H fun J H1=>j4s k g tt te σ J H1 fun ys H2=>∀ p,H2 p=none->Q (.ref p) (upd H2 p (.lst ys))
def lsO (us:List Value)(n:Nat):Obj:={ cls:=.type "list",data:=.seq us.toArray n }
theorem j62 {X:Cx}{pins:List (Addr×Obj)}{τ σ:St}{H:Hp}{s:Shared}(I:Inv X pins (σ++τ) H s):Inv X pins (σ++List.replicate τ.length none) H s:=
 I.weak (by simp) fun i v e=>by
  by_cases hi:i<σ.length
  ·rw[List.getElem?_append_left hi]at e ⊢
   exact e
  ·rw[List.getElem?_append_right (by omega),List.getElem?_replicate]at e
   split at e<;>cases e
section
variable {X:Cx}{k:Nat}{N':List Str}{scope:Scope}{pins:List (Addr×Obj)}{σ:St}{H2:Hp}{s2:Shared}{fp:List Addr}
abbrev y0e (scope:Scope)(s2:Shared):Heap:=pushCells ((s2.heap.push (lsO [] 0)).push { cls:=.type "dict",data:=.dict #[] }) scope.names
theorem z6c (S:CompOk X k N' scope)(I2:Inv X pins σ H2 s2)(f2:∀ b∈fp,z4h X pins H2 b)(hfp:∀ b∈fp,b<s2.heap.objs.size) :
  Inv (x2i X N' scope (s2.heap.objs.size+1) s2 H2 fp) [(s2.heap.objs.size,lsO [] 0)] (σ++List.replicate k none) H2 { s2 with heap:=y0e scope s2 }:=by
 have e1:(s2.heap.push (lsO [] 0)).objs.size=s2.heap.objs.size+1:=Heap.size_push ..
 have e2:((s2.heap.push (lsO [] 0)).push { cls:=.type "dict",data:=.dict #[] }).objs.size=s2.heap.objs.size+1+1:=by rw[Heap.size_push,e1]
 have keep:∀ b o,s2.heap.get? b=some o->(y0e scope s2).get? b=some o:=fun b o e=>pushCells_keeps _ _ b o (Heap.get?_push_of_some _ (Heap.get?_push_of_some _ e))
 have hsub:∀ y c,(y,c)∈x2r X.env.cells scope.names []->X.env.cells.lookup y=some c:=x69 (fun _ _ m=>nomatch m)
 have cmem:∀ y c,(y,c)∈cellsFrom (s2.heap.objs.size+1+1) scope.names (x2r X.env.cells scope.names [])->X.env.cells.lookup y=some c\/(s2.heap.objs.size+1+1<=c/\(y0e scope s2).IsCell c none):=fun y c m=>by
  have m':(y,c)∈cellsFrom ((s2.heap.push (lsO [] 0)).push { cls:=.type "dict",data:=.dict #[] }).objs.size scope.names (x2r X.env.cells scope.names []):=by rw[e2];exact m
  rcases x6g m' with q|⟨q1,q2⟩
  ·exact .inl (hsub y c q)
  ·rw[e2]at q1;exact .inr ⟨q1,q2⟩
 have clt:∀ y c,X.env.cells.lookup y=some c->c<s2.heap.objs.size:=fun y c e=>by obtain⟨v,z⟩:=I2.cell y c e;exact z.lt
 have hl:∀ y,(relabel scope X.env).names.lookup y=(scope.names.lookup y).map (y73 X.env y):=fun y=>x5s _
 have ok:(x2i X N' scope (s2.heap.objs.size+1) s2 H2 fp).Ok:=by
  refine⟨I2.ok.mod,S.kind,I2.ok.glob,I2.ok.blt,Nat.le_succ _,fun x y c h1 h2=>?_,fun x hx=>?_,fun x c hf h=>?_,I2.ok.hd,I2.ok.frames,.inl rfl,fun b hb=>⟨?_,fun x c h z=>?_⟩,I2.bs,Nat.le_trans I2.ok.bsz I2.sz,fun b o e hb=>?_,fun b hb z=>?_,I2.stack,I2.stkFree⟩
  ·refine x6c (n:=s2.heap.objs.size+1+1) (names:=scope.names) (acc:=x2r X.env.cells scope.names []) (fun y c m=>?_) (fun x y c m1 m2=>?_) x y c (PySem.mem_of_lookup h1) (PySem.mem_of_lookup h2)
   ·exact Nat.lt_of_lt_of_le (clt y c (hsub y c m)) (by omega)
   ·exact I2.ok.inj x y c (hsub x c m1) (hsub y c m2)
  ·have hx':(relabel scope X.env).names.lookup x=some .cell\/(relabel scope X.env).names.lookup x=some .free:=hx
   rw[hl x]at hx'
   have:scope.names.lookup x=some .cell\/scope.names.lookup x=some .free:=by
    cases e:scope.names.lookup x with
    | none=>rw[e]at hx';rcases hx' with z|z<;>cases z
    | some kd=>
     rw[e,Option.map_some]at hx'
     cases kd<;>first
      | exact .inl rfl
      | exact .inr rfl
      | (rcases hx' with z|z<;>(have z':=Option.some.inj z;unfold y73 at z';simp at z'))
   rcases this with q|q
   ·exact Option.isSome_iff_exists.mp (PySem.W.cellsFrom_some scope.names (s2.heap.objs.size+1+1) _ (.inl q))
   ·have qm:=PySem.mem_of_lookup q
    have hk:=S.free qm
    obtain⟨c,hc⟩:=I2.ok.has x hk
    exact Option.isSome_iff_exists.mp (PySem.W.cellsFrom_some scope.names (s2.heap.objs.size+1+1) _ (.inr (x5e hc qm)))
  ·have hf':(scope.names.lookup x==some .cell)=true:=hf
   have:=x7l (lo:=s2.heap.objs.size) (n:=s2.heap.objs.size+1+1) (acc:=x2r X.env.cells scope.names []) (by omega) (PySem.mem_of_lookup (beq_iff_eq.mp hf')) c h
   exact this
  ·have:=hfp b hb
   show b≠s2.heap.objs.size+1
   exact Nat.ne_of_lt (Nat.lt_of_lt_of_le this (Nat.le_succ _))
  ·have q:=hfp b hb
   rcases cmem x c (PySem.mem_of_lookup h)with w|⟨w,_⟩
   ·exact(f2 b hb).2.2.2.2.1 x c w z
   ·subst z;exact absurd (Nat.lt_of_lt_of_le q (Nat.le_trans (by omega) w)) (Nat.lt_irrefl _)
  ·rcases(f2 b hb).2.2.2.1 with z|z
   ·exact I2.ok.noex b o e z
   ·have:=Heap.lt_size e
    have:=I2.ok.bsz
    exact absurd (Nat.lt_of_lt_of_le (Heap.lt_size e) (Nat.le_trans I2.ok.bsz z)) (Nat.lt_irrefl _)
  ·rcases List.mem_cons.mp (I2.stkSub b z)with q|q
   ·exact(f2 b hb).2.1 q
   ·exact(f2 b hb).2.2.1 q
 obtain⟨m,hn,hloc⟩:=id I2.loc
 refine⟨ok,rfl,I2.bare,Un.kept keep,⟨fun _=>none,?_,fun i y v h1 h2 h3=>?_⟩,fun y c h=>?_,I2.hok.fresh (Nat.le_succ _),fun y c h=>?_,fun p hp=>?_,I2.hok.kept keep,?_⟩
 ·have:=(Heap.Ns.new (s2.heap.push (lsO [] 0)) (.type "dict")).keeps (pushCells_keeps scope.names _)
  rw[e1]at this
  exact this
 ·by_cases hi:i<σ.length
  ·have h3':Vis (relabel scope X.env) y:=h3
   obtain⟨o1,o2⟩:=S.out (by rw[<- I2.len];exact hi) h1 h3'
   have hk:=S.free (PySem.mem_of_lookup o2)
   have hs:σ[i]? = some (some v):=by
    rw[List.getElem?_append_left hi]at h2
    exact h2
   obtain⟨u,r,l⟩:=hloc i y v o1 hs (.inr hk)
   refine⟨u,r,?_⟩
   rcases l with⟨l,_⟩|⟨_,c,hc,hcell⟩
   ·rcases hk with z|z<;>(rw[l]at z;cases z)
   ·refine .inr ⟨?_,c,?_,hcell.keeps keep⟩
    ·show(relabel scope X.env).names.lookup y=some .cell\/(relabel scope X.env).names.lookup y=some .free
     rw[hl y,o2,Option.map_some]
     unfold y73
     split
     ·exact .inl rfl
     ·exact .inr rfl
    ·show(cellsFrom (s2.heap.objs.size+1+1) scope.names (x2r X.env.cells scope.names [])).lookup y=some c
     rw[x5f (fun z=>by have:=y7n S.names z;rw[o2]at this;cases this)]
     obtain⟨c',hc'⟩:=Option.isSome_iff_exists.mp (x5e (acc:=[]) hc (PySem.mem_of_lookup o2))
     have:=hsub y c' (PySem.mem_of_lookup hc')
     rw[hc]at this;cases this
     exact hc'
  ·rw[List.getElem?_append_right (by omega),List.getElem?_replicate]at h2
   split at h2<;>cases h2
 ·rcases cmem y c (PySem.mem_of_lookup h)with w|⟨_,w⟩
  ·obtain⟨v,z⟩:=I2.cell y c w
   exact⟨v,z.keeps keep⟩
  ·exact⟨_,w⟩
 ·rcases cmem y c (PySem.mem_of_lookup h)with w|⟨w,_⟩
  ·exact I2.freeC y c w
  ·exact I2.hok.fresh (by omega)
 ·have e:p=(s2.heap.objs.size,lsO [] 0):=by
   have:p ∈ [(s2.heap.objs.size,lsO [] 0)]:=hp
   simpa using this
  subst e
  refine⟨pushCells_keeps _ _ _ _ (Heap.get?_push_of_some _ (Heap.get?_push_size _ rfl)),I2.hok.fresh (Nat.le_refl _),?_,fun z=>?_,fun v z=>nomatch z⟩
  ·show s2.heap.objs.size≠s2.heap.objs.size+1
   omega
  ·have z':s2.heap.objs.size∈frs X.stack:=z
   rcases List.mem_cons.mp (I2.stkSub _ z')with q|q
   ·exact absurd I2.lt (by rw[<- q];exact Nat.lt_irrefl _)
   ·exact I2.nofs (Nat.le_refl _) q
 ·rw[List.length_append,List.length_replicate,I2.len]
  exact S.len.symm
theorem z7u {us:List Value}{n:Nat}{ys:List V}{H':Hp}{s':Shared}{σ':St}{C:Addr}(I2:Inv X pins σ H2 s2)(f2:∀ b∈fp,z4h X pins H2 b)
  (I3:Inv (x2i X N' scope C s2 H2 fp) [(s2.heap.objs.size,lsO us n)] σ' H' s') (r:x37 ys us) (hz:ys.length<=sizeLine):Inv X pins σ (upd H' s2.heap.objs.size (.lst ys)) s':=by
 obtain⟨e,hn,_⟩:=I3.pin (s2.heap.objs.size,lsO us n) (List.mem_append_right _ (List.mem_singleton.mpr rfl))
 have u:Un (frs X.stack) fp H2 H' s2.heap s'.heap:=I3.base
 exact I2.call' (ch:=fp) I3.os (u.updNew I2.hok (Nat.le_refl _)) (I3.hok.add hn ⟨hz,us,n,r,e⟩) I3.bare fun b hb=>⟨(f2 b hb).2.2.2.1,(f2 b hb).2.1,(f2 b hb).2.2.2.2⟩
end
theorem z1c {X:Cx}{k:Nat}{N':List Str}{scope:Scope}{pins:List (Addr×Obj)}{σ:St}{H2:Hp}{s2:Shared}{fp:List Addr}{elt tg iter:Expr}{ifs:List Expr}{pos:Pos}{it:Addr}{tn:Nat->Heap->Prop}{J:It}{g:TG}{tt:TT}{te:TE}{Fin:List V->Hp->Prop}{E:Value->Shared->Prop}{RR:Value->Addr->Result->Shared->Prop}
  (hc:X.calm=true) (S:CompOk X k N' scope) (hg:∀ C s H fp,PG (x2i X N' scope C s H fp) tg g) (ht:∀ C s H fp,PTs (x2i X N' scope C s H fp) ifs tt) (he:∀ C s H fp,PE (x2i X N' scope C s H fp) elt te)
  (I2:Inv X pins σ H2 s2) (T:Turn X.prog X.w X.K tg J fp it tn) (st2:tn 0 s2.heap) (f2:∀ b∈fp,z4h X pins H2 b) (R:j4s k g tt te σ J H2 Fin)
  (hRR:∀ C ys H' s' m',Inv X pins σ (upd H' s2.heap.objs.size (.lst ys)) s'->s'.heap.Ns C m'->H' s2.heap.objs.size=none->upd H' s2.heap.objs.size (.lst ys) C=none->C≠X.env.locals->X.s₀.heap.objs.size<=C->s2.heap.objs.size<C->
    Fin ys H'->RR (.ref s2.heap.objs.size) C (.ok .next) s') :
  wpAny (model X.prog X.w) X.A (newList []) (fun acc s₃=>wpAny (model X.prog X.w) X.A (newFunctionEnv scope X.env.globals (x2r X.env.cells scope.names []) [] X.env.qual none .none (some X.env)) (fun cenv s₄=>
   codeAny (model X.prog X.w) X.A (.compStart (.ListComp elt [⟨tg,iter,ifs,0⟩] scope pos) 0 (.ref it) acc { cenv with scope:=relabel scope X.env }) (RR acc cenv.locals) s₄) E s₃) E s2:=by
 refine wpAny_newObj_type (z00 ?_)
 have e1:(s2.heap.push (lsO [] 0)).objs.size=s2.heap.objs.size+1:=Heap.size_push ..
 have hfp:∀ b∈fp,b<s2.heap.objs.size:=fun b hb=>by obtain⟨o,e,_⟩:=T.obj _ _ st2 b hb;exact Heap.lt_size e
 obtain⟨W,⟨m0,w0⟩,turn⟩:=R
 have I3:=z6c S I2 f2 hfp
 have st3:tn 0 (y0e scope s2):=T.keep _ _ _ st2 fun b hb o e=>pushCells_keeps _ _ b o (Heap.get?_push_of_some _ (Heap.get?_push_of_some _ e))
 have hDC:s2.heap.objs.size≠s2.heap.objs.size+1:=by omega
 -- what stays true of the iterator's objects
 have stat:∀ {H':Hp} {us:List Value} {n:Nat},(∀ b∈fp,H' b=none)->∀ b∈fp,z4h (x2i X N' scope (s2.heap.objs.size+1) s2 H2 fp) [(s2.heap.objs.size,lsO us n)] H' b:=fun {H' us n} hn b hb=>by
  have q:=I3.ok.exf b hb
  refine⟨hn b hb,q.1,I3.ok.exfs b hb,.inl hb,q.2,fun p hp z=>?_⟩
  have hp':p ∈ [(s2.heap.objs.size,lsO us n)]:=hp
  have e:p=(s2.heap.objs.size,lsO us n):=by simpa using hp'
  subst e
  have:=hfp b hb
  have z':s2.heap.objs.size=b:=z
  exact absurd this (by rw[z'];exact Nat.lt_irrefl _)
 have loop:∀ it',it'=Value.ref it->codeAny (model X.prog X.w) X.A (.compLoop (.ListComp elt [⟨tg,iter,ifs,0⟩] scope pos) 0 it' (.ref s2.heap.objs.size) (z3v scope X.env (s2.heap.objs.size+1))) (RR (.ref s2.heap.objs.size) (s2.heap.objs.size+1)) { s2 with heap:=y0e scope s2 }:=by
  rintro _ rfl
  refine y6t (fun n s'=>∃ i ys us cnt H',Inv (x2i X N' scope (s2.heap.objs.size+1) s2 H2 fp) [(s2.heap.objs.size,lsO us cnt)] (σ++List.replicate k none) H' s'/\tn i s'.heap/\(∀ b∈fp,H' b=none)/\x37 ys us/\W i n ys H') ?_ m0
   ⟨0,[],[],0,H2,I3,st3,fun b hb=>(f2 b hb).1,.nil,w0⟩
  rintro n s3 ⟨i,ys,us,cnt,H3,J3,st,fr,r3,w3⟩
  obtain⟨hz,hw⟩:=turn i n ys H3 w3
  rcases hw with⟨stop,fin⟩|⟨go,hlt,step⟩
  ·refine thn (T.done (x2i X N' scope (s2.heap.objs.size+1) s2 H2 fp) rfl rfl rfl hc i _ s3 _ H3 _ J3 (stat fr) st stop) fun rr s4 ⟨hr,I4⟩=>?_
   subst hr
   obtain⟨m',hn',_⟩:=id I4.loc
   obtain⟨eD,nD,_⟩:=I4.pin (s2.heap.objs.size,lsO us cnt) (List.mem_append_right _ (List.mem_singleton.mpr rfl))
   refine hRR (s2.heap.objs.size+1) ys H3 s4 m' (z7u I2 f2 I4 r3 hz) hn' nD ?_ ?_ ?_ (Nat.lt_succ_self _) fin
   ·rw[x0y (Ne.symm hDC)];exact I4.free
   ·exact Ne.symm (Nat.ne_of_lt (Nat.lt_of_lt_of_le I2.lt (Nat.le_succ _)))
   ·have:=I2.sz;omega
  ·refine thn (T.item (x2i X N' scope (s2.heap.objs.size+1) s2 H2 fp) rfl rfl rfl hc i _ s3 _ H3 _ J3 (stat fr) st go) fun rr s4 ⟨u,hr,h4⟩=>?_
   subst hr
   refine thn h4 fun _ s5 hh0=>?_
   obtain⟨x,H5,I5,r5,y5,st5,fr5⟩:=hh0
   have I5':=I5.pinned (stat fr5) (T.obj _ _ st5)
   refine thn (hg _ _ _ _ _ s5 _ H5 x u _ I5' r5 (step x H5 y5)) fun _ s6 ⟨σ6,H6,I6,⟨τ,e6,l6⟩,q6⟩=>?_
   subst e6
   refine thn (ht _ _ _ _ _ s6 _ H6 _ I6 q6) fun ok s7 hh0=>?_
   obtain⟨H7,I7,q7⟩:=hh0
   have kept:∀ {s':Shared} {H':Hp} {σ':St},Inv (x2i X N' scope (s2.heap.objs.size+1) s2 H2 fp) ([(s2.heap.objs.size,lsO us cnt)]++y1m fp s5.heap) σ' H' s'->tn (i+1) s'.heap/\∀ b∈fp,H' b=none:=fun {s' H' σ'} I'=>by
    refine⟨T.keep _ _ _ st5 fun b hb o e=>(I'.pin (b,o) (List.mem_append_right _ (List.mem_append_right _ (x89 hb e)))).1,fun b hb=>?_⟩
    obtain⟨o,e,d⟩:=T.obj _ _ st5 b hb
    exact(I'.pin (b,o) (List.mem_append_right _ (List.mem_append_right _ (x89 hb e)))).2.1
   cases ok with
   | false=>
    rw[if_neg (by decide)]at q7 ⊢
    obtain⟨m',hm,w7⟩:=q7
    have:=j62 I7.unpinned
    rw[l6]at this
    exact⟨m',hm,i+1,ys,us,cnt,H7,this,(kept I7).1,(kept I7).2,r3,w7⟩
   | true=>
    rw[if_pos rfl]at q7 ⊢
    refine thn (he _ _ _ _ _ s7 _ H7 _ I7 q7) fun u8 s8 hh0=>?_
    obtain⟨v,H8,I8,r8,m',hm,w8⟩:=hh0
    obtain⟨eD,nD,neD,nfD,dD⟩:=I8.pin (s2.heap.objs.size,lsO us cnt) (List.mem_append_right _ (List.mem_append_left _ (List.mem_singleton.mpr rfl)))
    refine append_at eD (fun h9 hs9 hD9=>?_) (hsz:=by rw[List.size_toArray,<- r3.length];exact Nat.le_of_lt hlt)
    have Ia:=I8.pins_of (pins':=y1m fp s5.heap) fun p hp=>I8.pin p (List.mem_append_right _ (List.mem_append_right _ hp))
    have nfp:∀ p∈y1m fp s5.heap,p.1≠s2.heap.objs.size:=fun p hp z=>by
     have:=hfp p.1 (y6p hp).1
     exact absurd this (by rw[z];exact Nat.lt_irrefl _)
    have Ib:=Ia.turned (h':=h9) (t':=s8.toks) (it:=s2.heap.objs.size) (fun b o hb e=>hs9.extBut b o hb e) nD neD (.inr (Nat.le_refl _)) (fun y c h z=>by
      obtain⟨vv,o,ho,hd⟩:=I8.cell y c h
      rw[z,eD]at ho
      cases ho
      cases hd) (fun p hp=>nfp p (by
      have hp':p ∈ []++y1m fp s5.heap:=hp
      simpa using hp'))
    have Ic:=Ib.pins_of (pins':=[(s2.heap.objs.size,lsO (us++[u8]) (cnt+1))]) fun p hp=>by
     have e:p=(s2.heap.objs.size,lsO (us++[u8]) (cnt+1)):=by simpa using hp
     subst e
     refine⟨?_,nD,neD,nfD,fun v z=>nomatch z⟩
     show h9.get? s2.heap.objs.size=_
     rw[hD9]
     unfold lsO
     simp
    have Id:=j62 Ic
    rw[l6]at Id
    have kp:=kept I8
    refine⟨m',hm,i+1,ys++[v],us++[u8],cnt+1,H8,Id,T.keep _ _ _ kp.1 fun b hb o e=>hs9.extBut b o (fun z=>by
     have:=hfp b hb
     have z':b=s2.heap.objs.size:=z
     exact absurd this (by rw[z'];exact Nat.lt_irrefl _)) e,kp.2,x37.append r3 (.cons r8 .nil),w8⟩
 have hC:(s2.heap.push { cls:=.type "list",dict:=none,data:=.seq ([]:List Value).toArray }).objs.size=s2.heap.objs.size+1:=Heap.size_push ..
 have fin:=codeAny_compStart_list (loop _ rfl) (T.self X.A 0 _ _ _ st3 (loop _ rfl))
 dsimp only at fin ⊢
 rw[hC]
 exact fin
theorem CompOk.locs {X:Cx}{k:Nat}{N':List Str}{scope:Scope}(S:CompOk X k N' scope):∀ y∈scope.names,y.2=.local->scope.names.lookup y.1=some .local:=fun y hy e=>by
 obtain⟨n,kd⟩:=y
 have e':kd=.local:=e
 subst e'
 exact y7n S.names hy
theorem y0q {h:Heap}{C c:Addr}{m:Str->Option Value}{v:Option Value}(hn:h.Ns C m)(hc:h.IsCell c v):c≠C:=fun z=>by
 obtain⟨o,es,ep,ho,hd,_⟩:=hn
 obtain⟨o',ho',hd'⟩:=hc
 rw[z,ho]at ho'
 cases ho'
 rw[hd]at hd'
 cases hd'
section
variable {X:Cx}{k:Nat}{N':List Str}{scope:Scope}{elt tg iter:Expr}{ifs:List Expr}{pos:Pos}{wi:TI}{g:TG}{tt:TT}{te:TE}
theorem j16 (hc:X.calm=true)(S:CompOk X k N' scope)(hi:PI X tg iter wi)(hg:∀ C s H fp,PG (x2i X N' scope C s H fp) tg g)(ht:∀ C s H fp,PTs (x2i X N' scope C s H fp) ifs tt)(he:∀ C s H fp,PE (x2i X N' scope C s H fp) elt te)
  (hs:∀ x,foldedSetIterable iter X.env x=pure x:=by intro _;rfl):PE X (.ListComp elt [⟨tg,iter,ifs,0⟩] scope pos) (z8h k wi g tt te):=by
 intro pins s σ H Q I h
 rw[eval_ListComp]
 refine wpAny_comprehension_free (use:=none) rfl hs (y08 fun y hy e=>?_) S.kind S.locs (thn (hi pins s σ H _ I h) fun v s1 h1=>thn h1 fun itv s2 h2=>?_)
 ·obtain⟨n,kd⟩:=y
  have e':kd=.free:=e
  subst e'
  exact I.ok.has n (S.free hy)
 ·obtain⟨it,fp,tn,J,H2,e,I2,T,st2,f2,R⟩:=h2
  subst e
  refine z1c hc S hg ht he I2 T st2 f2 R ?_
  intro C ys H' s' m' I' hn hD hCn hCL hCs hCD fin
  refine⟨m',hn,fun h' hs'=>⟨.ref s2.heap.objs.size,_,I'.turned (h':=h') (t':=s'.toks) (it:=C) (fun b o hb e=>hs'.extBut b o hb e) hCn hCL (.inr hCs) (fun x c h=>?_) (fun p hp z=>?_),rfl,fin _ hD⟩⟩
  ·obtain⟨v,q⟩:=I'.cell x c h
   exact y0q hn q
  ·have:=Heap.lt_size (I2.pin p hp).1
   exact absurd (Nat.lt_trans this hCD) (by rw[z];exact Nat.lt_irrefl _)
theorem j15 {i:Nat}{y:Str}{py spos:Pos}(hN:X.N.Nodup)(hy:X.N[i]? = some y)(hx:Loc X.env.scope y)(hsw:swapsWith (.ListComp elt [⟨tg,iter,ifs,0⟩] scope pos) (some (.Name y py)) spos.line X.env=pure true)
  (hc:X.calm=true) (S:CompOk X k N' scope) (hi:PI X tg iter wi) (hg:∀ C s H fp,PG (x2i X N' scope C s H fp) tg g) (ht:∀ C s H fp,PTs (x2i X N' scope C s H fp) ifs tt) (he:∀ C s H fp,PE (x2i X N' scope C s H fp) elt te)
  (hs:∀ x,foldedSetIterable iter X.env x=pure x:=by intro _;rfl) (hf:X.fn y=true\/X.env.scope.names.lookup y=some .local:=by first|exact .inl rfl|exact .inr rfl|assumption) :
  PS X (.Assign [.Name y py] (.ListComp elt [⟨tg,iter,ifs,0⟩] scope pos) spos) (j7z (z8h k wi g tt te) (j3f i)):=by
 intro pins s σ H D I h
 rw[exec_Assign_Name_used _ _ _ _ hsw]
 refine wpAny_bind (wpAny_standAt (wpAny_bind ?_))
 show wpAny _ X.A (do let _ <- comprehension (.ListComp elt [⟨tg,iter,ifs,0⟩] scope pos) scope X.env _ (newList []) false (eval iter X.env) (some (assign (.Name y py) X.env))) _ _ s
 refine wpAny_bind (wpAny_mono (wpAny_comprehension_free (use:=some (assign (.Name y py) X.env)) (Q:=fun _ s'=>SP X pins D .next s') rfl hs (y08 fun z hz e=>?_) S.kind S.locs
  (thn (hi pins s σ H _ I h) fun v s1 h1=>thn h1 fun itv s2 h2=>?_)) (fun _ s' hq=>wpAny_pure (wpAny_pure hq)) fun _ _ e=>e)
 ·obtain⟨n,kd⟩:=z
  have e':kd=.free:=e
  subst e'
  exact I.ok.has n (S.free hz)
 ·obtain⟨it,fp,tn,J,H2,e,I2,T,st2,f2,R⟩:=h2
  subst e
  refine z1c hc S hg ht he I2 T st2 f2 R ?_
  intro C ys H' s' m' I' hn hD hCn hCL hCs hCD fin
  show wpAny _ X.A (assign (.Name y py) X.env (.ref s2.heap.objs.size)) _ _ _
  refine wpAny_assign_Name (y7c I' hN hy hx (v:=.ref s2.heap.objs.size) rfl (fun s'' I'' ⟨a,sb,ha⟩=>?_) hf)
  have hCa:C≠a:=fun z=>by
   rcases ha with q|q
   ·exact hCL (z.trans q)
   ·obtain⟨v,w⟩:=I'.cell y a q
    exact y0q hn w z.symm
  have hn2:=hn.sameBut sb hCa
  refine⟨m',hn2,fun h' hs'=>⟨_,_,I''.turned (h':=h') (t':=s''.toks) (it:=C) (fun b o hb e=>hs'.extBut b o hb e) hCn hCL (.inr hCs) (fun x c h=>?_) (fun p hp z=>?_),fin _ hD⟩⟩
  ·obtain⟨v,q⟩:=I''.cell x c h
   exact y0q hn2 q
  ·have:=Heap.lt_size (I2.pin p hp).1
   exact absurd (Nat.lt_trans this hCD) (by rw[z];exact Nat.lt_irrefl _)
end
end L2
namespace L3
open PySem PySem.Spec PyProof.Rows PySem.W L2
section
variable {prog:Program}{w:World}{A:Around}{E:Value->Shared->Prop}{s:Shared}{K:Frag}{x C:Addr}{ox:Obj}
structure XAt (h:Heap) (x:Addr) (ox:Obj) (C:Addr):Prop where
 at_:h.get? x=some ox
 cls:ox.cls=.ref C
theorem XAt.type {M:Model}{h:Heap}(I:XAt h x ox C):Looks M h (typeOf (.ref x)) (.ref C):=I.cls ▸ (Looks.ld I.at_).andThen .now
structure XCls (K:Frag) (C:Addr):Prop where
 ci:(clsIn K C).isSome=true
 ga:findIn K (.ref C) "__getattribute__" = some (some (.builtin "BaseException.__getattribute__"))
 gt:findIn K (.ref C) "__getattr__" = some none
 cl:findIn K (.ref C) "__class__" = some (some (.builtin "object.__class__"))
 cg:specialIn K (.builtin "object.__class__") "__get__" = some (some (.builtin "getset_descriptor.__get__"))
 ct:takesIn K (.builtin "object.__class__")=some true
 mo:mroIn K C (.type "object")=some true
 mb:mroIn K C (.type "BaseException")=some true
theorem j2o {M:Model}{h:Heap}(X:K.In h)(I:XAt h x ox C)(XC:XCls K C):Looks M h (Builtin.ObjectAttr.find (.ref x) (.ref C) "__class__") (.bind (.builtin "getset_descriptor.__get__") (.builtin "object.__class__")):=by
 have L1:=looks_findIn (M:=M) X XC.cl
 have L2:Looks M h (Builtin.ObjectAttr.getOf (some (.builtin "object.__class__"))) _:=looks_specialIn (M:=M) X XC.cg
 have L3:=looks_takesIn (M:=M) X XC.ct
 exact L1.andThen (L2.andThen ((show Looks M h (Builtin.ObjectAttr.dataDescriptor? (some (.builtin "object.__class__")) (some (.builtin "getset_descriptor.__get__"))) (some ((.builtin "getset_descriptor.__get__"),(.builtin "object.__class__")))from L3.andThen .now).andThen (Looks.tag .now)))
theorem y9l {tp:Value}{R:Result->Shared->Prop}(X:K.In s.heap)(I:XAt s.heap x ox C)(hm:mroIn K C (.type "object")=some true)
  (h:R (.ok (.ret (.ref C))) s):codeAny (model prog w) A (.call (.builtin "getset_descriptor.__get__") ⟨[.builtin "object.__class__",.ref x,tp],[]⟩) R s:=by
 obtain⟨hh,g,dr,t,os⟩:=s
 have L0:=I.type (M:=model prog w)
 have L1:=looks_mroIn (M:=model prog w) X hm
 refine codeAny_call_builtin KF.slot_gs.plain KF.entry_gs (KF.slot_gs.check _ _ _ _ _ _ _ _ KF.type_class (KF.args_gs _ _ _) ?_)
 unfold Builtin.«getset_descriptor.__get__» Builtin.Getset_descriptor.descrGet
 rw[dga_obj]
 refine wpAny_bind (wpAny_pure ?_)
 unfold Builtin.Getset_descriptor.descrGetter Builtin.Getset_descriptor.descrCheckInstance Builtin.Getset_descriptor.descrNameAndClass isInstance
 simp only[KF.owner_class]
 repeat lk
 refine⟨Code.quiet_builtin _ (by decide +kernel),codeAny_builtin KF.entry_class ?_⟩
 unfold Builtin.«object.__class__» shownTypeOf
 repeat lk
 exact h
theorem z9a {M:Model}{nameV:Value}{Q:Unit->Shared->Prop}(X:K.In s.heap)(I:XAt s.heap x ox C)(XC:XCls K C)(hq:Q () s):wpAny M A (checkBuiltinCall "BaseException.__getattribute__" ⟨[.ref x,nameV],[]⟩) Q E s:=by
 obtain⟨hh,g,d,t,os⟩:=s
 have L0:=I.type (M:=M)
 have L1:=looks_mroIn (M:=M) X XC.mb
 have hk:builtinKind "BaseException.__getattribute__" = some .slot:=by decide +kernel
 have hsplit:splitId "BaseException.__getattribute__" = some ("BaseException","__getattribute__"):=by decide +kernel
 have ha:=PySem.F.args_bexc_ga (.ref x) nameV
 simp only[checkBuiltinCall,hk,hsplit]
 unfold isInstance
 repeat lk
 exact hq
theorem j8o {tk:Tok}{R:Result->Shared->Prop}(X:K.In s.heap)(I:XAt s.heap x ox C)(XC:XCls K C)(h:R (.ok (.ret (.ref C))) s) :
  codeAny (model prog w) A (.call (.builtin "BaseException.__getattribute__") ⟨[.ref x,.str "__class__" tk],[]⟩) R s:=by
 refine codeAny_call_builtin PySem.F.excAttr_ValueError.ga.plain PySem.F.entry_bexc_ga (z9a X I XC ?_)
 obtain⟨hh,g,d,t,os⟩:=s
 have L0:=I.type (M:=model prog w)
 have L1:=j2o (M:=model prog w) X I XC
 show wpAny _ _ (Builtin.«object.__getattribute__» ⟨[.ref x,.str "__class__" tk],[]⟩) _ _ _
 refine wpAny_bind (wpAny_pure ?_)
 refine wpAny_bind (wpAny_pure ?_)
 refine wpAny_bind (L0.at (wpAny_bind (L1.at ?_)))
 show wpAny _ _ (holding [.builtin "object.__class__"] (call (.builtin "getset_descriptor.__get__") [.builtin "object.__class__",.ref x,.ref C]) >>= ret) _ _ _
 exact wpAny_bind (wpAny_holding (wpAny_call (y9l X I XC.mo (wpAny_pure h))))
theorem z76 {Q:Option Value->Shared->Prop}(X:K.In s.heap)(I:XAt s.heap x ox C)(XC:XCls K C)(h:Q (some (.ref C)) { s with toks:=s.toks+1 }):wpAny (model prog w) A (getAttr? (.ref x) "__class__") Q E s:=by
 obtain⟨hh,g,d,t,os⟩:=s
 have L0:=I.type (M:=model prog w)
 have L1:=looks_findIn (M:=model prog w) X XC.ga
 have L2:=looks_findIn (M:=model prog w) X XC.gt
 have f3:=PySem.F.excAttr_ValueError.ga.bind (.ref x)
 unfold getAttr? getAttrBy? getAttrBy
 refine wpAny_bind (wpAny_mkText (wpAny_bind (wpAny_attempt (wpAny_holding (wpAny_bind (L0.at (wpAny_bind (L1.at ?_))))))))
 show wpAny _ _ (getAttrByItsOwn _ _ _ _ _ _) _ _ _
 unfold getAttrByItsOwn
 refine wpAny_bind (L2.at ?_)
 refine wpAny_bind (wpAny_attempt (wpAny_holding ?_))
 show wpAny _ _ (boundAndCalled _ _ _) _ _ _
 unfold boundAndCalled
 rw[f3]
 refine wpAny_bind (wpAny_pure ?_)
 show wpAny _ _ (call (.builtin "BaseException.__getattribute__") [.ref x,.str "__class__" t]) _ _ _
 refine wpAny_call (j8o (s:=⟨hh,g,d,t+1,os⟩) X I XC ?_)
 exact handed_on rfl (wpAny_pure h)
theorem x7p {M:Model}{h:Heap}{D:Addr}(X:K.In h)(e:(clsIn K D).isSome=true):Looks M h (isType (.ref D)) true:=by
 unfold clsIn at e
 split at e
 ·rename_i c' d' cd' sl' ho
  intro A' Q' E' s' k q
  unfold isType loadHead
  exact wpAny_bind (wpAny_loadPart (k _ _ (X _ _ ho)) (wpAny_pure q))
 ·cases e
theorem y7e {c:Value}{dep:Int}{tk:Tok}{Q:Fin->Shared->Prop}(X:K.In s.heap)(I:XAt s.heap x ox C)(XC:XCls K C)(hty:Looks (model prog w) s.heap (typeOf c) (.type "type"))(his:Looks (model prog w) s.heap (isType c) true)
  (hne:(Value.ref C==c)=false) (hsub:Looks (model prog w) s.heap (isSubtype (.ref C) c) false) (h:Q (.done (.ret (.bool false))) { s with toks:=s.toks+1 }) :
  wpAny (model prog w) A (Builtin.«isinstance.nested» ⟨[.ref x,c,.int dep tk],[]⟩) Q E s:=by
 have hisD:=x7p (M:=model prog w) X XC.ci
 obtain⟨h0,g,d,tt,os⟩:=s
 have L0:=I.type (M:=model prog w)
 have LI:Looks (model prog w) h0 (isInstance (.ref x) c) false:=L0.andThen hsub
 unfold Builtin.«isinstance.nested»
 refine wpAny_bind (L0.at ?_)
 rw[if_neg (fun q=>by rw[hne]at q;exact Bool.noConfusion q)]
 refine wpAny_bind (hty.at ?_)
 rw[if_pos (by decide)]
 k_delta "plainIsInstance"
 refine wpAny_bind (wpAny_bind (his.at ?_))
 simp only[Bool.not_true,Bool.false_eq_true,if_false]
 refine wpAny_bind (LI.at ?_)
 simp only[Bool.false_eq_true,if_false]
 refine wpAny_bind (z76 X I XC ?_)
 refine wpAny_bind (hisD.at ?_)
 simp only[Bool.not_true,Bool.false_eq_true,if_false]
 refine wpAny_bind (wpAny_rule ?_)
 refine hsub.at ?_
 first
  | exact wpAny_pure h
  | exact wpAny_pure (wpAny_pure h)
  | exact wpAny_bind (wpAny_pure (wpAny_pure h))
theorem j89 {D:Addr}{Q:Value->Shared->Prop}(X:K.In s.heap)(I:XAt s.heap x ox C)(XC:XCls K C)(e:kin_not K C D=true)(h:Q (.bool false) { s with toks:=s.toks+1 }):wpAny (model prog w) A (call (.builtin "isinstance") [.ref x,.ref D]) Q E s:=by
 unfold kin_not at e
 rw[Bool.and_eq_true,Bool.and_eq_true,Bool.and_eq_true]at e
 obtain⟨⟨⟨e0,e1⟩,e2⟩,e3⟩:=e
 have hne:(Value.ref C==Value.ref D)=false:=Bool.eq_false_iff.mpr fun q=>of_decide_eq_true e0 (Value.ref.inj (beq_iff_eq.mp q))
 exact call_isinstance (S:=fun _ R s=>(K.In s.heap/\XAt s.heap x ox C)/\R (.ok (.ret (.bool false))) { s with toks:=s.toks+1 })
  (fun _ _ _ _ _ hs=>isinstance_outer (y7e hs.1.1 hs.1.2 XC (looks_typeIn hs.1.1 (beq_iff_eq.mp e2)) (x7p hs.1.1 e1) hne (looks_subIn hs.1.1 (beq_iff_eq.mp e3)) hs.2) (by intro q;cases q)) ⟨⟨X,I⟩,h⟩
theorem j53 {D:Addr}{Q:Value->Shared->Prop}(X:K.In s.heap)(I:XAt s.heap x ox C)(e:isIn K (.ref C) D=true)(h:Q (.bool true) s):wpAny (model prog w) A (call (.builtin "isinstance") [.ref x,.ref D]) Q E s:=
 isi_call X (fun M=>I.type) e (by intro q;cases q) h
theorem j0n {T:String}{Q:Value->Shared->Prop}(X:K.In s.heap)(I:XAt s.heap x ox C)(hty:typeOf (.type T)=pure (.type "type"))(e:subIn K (.ref C) (.type T)=some true)(h:Q (.bool true) s):wpAny (model prog w) A (call (.builtin "isinstance") [.ref x,.type T]) Q E s:=
 call_isinstance (S:=fun _ R s=>(K.In s.heap/\XAt s.heap x ox C)/\R (.ok (.ret (.bool true))) s) (fun prog w A R s hs=>isinstance_outer (by
  obtain⟨⟨X,I⟩,h⟩:=hs
  obtain⟨h0,g,d,tt,os⟩:=s
  have L0:=I.type (M:=model prog w)
  have LI:Looks (model prog w) h0 (isInstance (.ref x) (.type T)) true:=L0.andThen (looks_subIn X e)
  have hT:Looks (model prog w) h0 (typeOf (.type T)) (.type "type"):=Looks.of_pure hty
  have hI:Looks (model prog w) h0 (isType (.type T)) true:=Looks.of_pure rfl
  unfold Builtin.«isinstance.nested»
  refine wpAny_bind (L0.at ?_)
  rw[if_neg (fun q=>by cases beq_iff_eq.mp q)]
  refine wpAny_bind (hT.at ?_)
  rw[if_pos (by decide)]
  k_delta "plainIsInstance"
  refine wpAny_bind (wpAny_bind (hI.at ?_))
  simp only[Bool.not_true,Bool.false_eq_true,if_false]
  refine wpAny_bind (LI.at ?_)
  simp only[if_true]
  exact wpAny_pure (wpAny_pure h)) (by intro q;cases q)) ⟨⟨X,I⟩,h⟩
theorem j5u {T:String}{Q:Value->Shared->Prop}(X:K.In s.heap)(I:XAt s.heap x ox C)(XC:XCls K C)(hty:typeOf (.type T)=pure (.type "type"))(e:subIn K (.ref C) (.type T)=some false)(h:Q (.bool false) { s with toks:=s.toks+1 }):wpAny (model prog w) A (call (.builtin "isinstance") [.ref x,.type T]) Q E s:=
 call_isinstance (S:=fun _ R s=>(K.In s.heap/\XAt s.heap x ox C)/\R (.ok (.ret (.bool false))) { s with toks:=s.toks+1 })
  (fun _ _ _ _ _ hs=>isinstance_outer (y7e hs.1.1 hs.1.2 XC (Looks.of_pure hty) (Looks.of_pure rfl) (Bool.eq_false_iff.mpr fun q=>by cases beq_iff_eq.mp q) (looks_subIn hs.1.1 e) hs.2) (by intro q;cases q)) ⟨⟨X,I⟩,h⟩
end
def bmV:List Value:=[.type "ValueError",.type "Exception",.type "BaseException",.type "object"]
structure XKls (K:Frag) (nm:Str) (C:Addr):Prop where
 ns:nsIn K mainGlobals nm=some (some (.ref C))
 xc:XCls K C
 ex:excIn K C bmV "ValueError.__new__" = true
 ve:subIn K (.ref C) (.type "ValueError")=some true
 no:∀ T ∈ ["int","bool","tuple","list","str"],subIn K (.ref C) (.type T)=some false
def XO (K:Frag)(nm:Str)(ob:Obj):Prop:=∃ C,ob.cls=.ref C/\XKls K nm C
end L3
namespace L3
open PySem PySem.Spec PyProof.Rows L2
theorem y60:Slot "function" "__getattribute__" "object.__getattribute__" :=
 .of (owner:="object") (n:="__getattribute__") (by rw[typeLookup_type,builtinLookup_eq_fast];kernel_rfl) (by decide +kernel) (by decide +kernel) (by decide +kernel)
  (by first|exact .inl (by decide +kernel)|exact .inr (by decide +kernel)) (by rw[isSubtype_type];kernel_rfl)
theorem j0z:typeLookup (.type "function") "__class__" = pure (some (.builtin "object.__class__")):=by rw[typeLookup_type,builtinLookup_eq_fast];kernel_rfl
theorem j4m:isSubtype (.type "function") (.type (".".intercalate ("object.__class__".cutAt '.').dropLast))=pure true:=by
 rw[PySem.F.owner_object_class,isSubtype_type];kernel_rfl
theorem z8b:entryFor table "object.__getattribute__" = some Builtin.«object.__getattribute__»:=entryFor_of_tree (by kernel_rfl)
theorem j05 (a b:Value):argsOk "object.__getattribute__" ⟨[a,b],[]⟩:=by unfold argsOk;kernel_rfl
section
variable {prog:Program}{w:World}{A:Around}{E:Value->Shared->Prop}{s:Shared}{a:Addr}
theorem j4p {R:Result->Shared->Prop}(hT:s.TypeIs (.ref a) "function")(hq:R (.ok (.ret (.type "function"))) s) :
  codeAny (model prog w) A (.call (.builtin "getset_descriptor.__get__") ⟨[.builtin "object.__class__",.ref a,.type "function"],[]⟩) R s:=by
 obtain⟨h,g,d,t,os⟩:=s
 have h5:(⟨h,g,d,t,os⟩:Shared).TypeIs (.builtin "object.__class__") "getset_descriptor":=PySem.F.typeOf_object_class
 have f8:=j4m
 refine codeAny_call_builtin PySem.F.slot_gs_get.plain PySem.F.entry_gs_get (PySem.F.slot_gs_get.check _ _ _ _ _ _ _ _ h5 (PySem.F.args_gs_get _ _ _) ?_)
 repeat (any_goals (first|assumption|wp_step))
 refine⟨Code.quiet_builtin _ (by decide +kernel),codeAny_builtin PySem.F.entry_object_class ?_⟩
 repeat (any_goals (first|assumption|wp_step))
theorem z8e {Q:Option Value->Shared->Prop}(hT:s.TypeIs (.ref a) "function")(hq:Q (some (.type "function")) { s with toks:=s.toks+1 }):wpAny (model prog w) A (getAttr? (.ref a) "__class__") Q E s:=by
 obtain⟨h,g,d,t,os⟩:=s
 have hT1:∀ t',(⟨h,g,d,t',os⟩:Shared).TypeIs (.ref a) "function":=fun _=>hT
 have en:∀ {tk:Tok} {t':Nat} {Q:Fin->Shared->Prop} {E:Value->Shared->Prop} {A:Around},Q (.done (.ret (.type "function"))) ⟨h,g,d,t',os⟩->
   wpAny (model prog w) A (Builtin.«object.__getattribute__» ⟨[.ref a,.str "__class__" tk],[]⟩) Q E ⟨h,g,d,t',os⟩:=by
  intro tk t' Q E A hq
  have hT:=hT1 t'
  have h5:(⟨h,g,d,t',os⟩:Shared).TypeIs (.builtin "object.__class__") "getset_descriptor":=PySem.F.typeOf_object_class
  have f4:=j0z
  have f5:=PySem.F.typeOf_object_class
  have f6:=PySem.F.slot_gs_get.lookup
  have f7:=PySem.F.slot_gs_set.lookup
  repeat (any_goals (first|assumption|wp_step))
  refine j4p hT ?_
  repeat (any_goals (first|assumption|wp_step))
 have by':∀ {tk:Tok} {t':Nat} {Q:Value->Shared->Prop} {E:Value->Shared->Prop} {A:Around},Q (.type "function") ⟨h,g,d,t',os⟩->wpAny (model prog w) A (getAttrBy (.ref a) (.str "__class__" tk) false) Q E ⟨h,g,d,t',os⟩:=by
  intro tk t' Q E A hq
  have hT:=hT1 t'
  have f2:=y60.lookup
  have f3:=y60.bind (.ref a)
  repeat (any_goals (first|assumption|wp_step))
  refine codeAny_call_builtin y60.plain z8b (y60.check _ _ _ _ _ _ _ _ hT (j05 _ _) (en ?_))
  repeat (any_goals (first|assumption|wp_step))
 unfold getAttr? getAttrBy?
 repeat (any_goals (first|assumption|with_reducible apply by' | wp_step))
theorem z74 {K:PySem.W.Frag}:PySem.W.KitX K (.ref a) (.type "function") (PySem.W.KitAt a "function"):=PySem.W.kitx_of PySem.W.kitAt_ty (fun {_ _ _ _ _ s} p k=>z8e (by obtain⟨o,h1,h2⟩:=p;exact⟨o,h1,h2⟩) k)
end
inductive D where
 | non|bl (b:Bool)|int (i:Int)|str (x:Str)|tup (ds:List D)|lst (ds:List D)
 /-- a dict that is not changed,its keys texts -/
 | dic (ks:List Str) (ds:List D)
 /-- an exception,by its class's name -/
 | exc (nm:Str)
 /-- a function made here: its place,its object,what it keeps of the names around it -/
 | ob (f:Addr) (fo:Obj) (vs:List V) (ds:List D)
abbrev St:=L2.St
inductive Ow where
 | s (i:Nat)|t (i:Nat)|f
 deriving DecidableEq
abbrev Wn:=Addr->Option Ow
def KL (K:PySem.W.Frag)(a:Addr)(xs:List V):Prop:=
 ∃ (o:Obj) (its:Array Value) (n:Nat),K.lookup a=some o/\o.cls=.type "list" /\ o.dict=none/\o.data=.seq its n/\its.size<=sizeLine/\x37 xs its.toList
theorem SqL.cases {K:PySem.W.Frag}{H:Hp}{a:Addr}{xs:List V}(h:SqL K H a xs):Rd H a (.lst xs)\/KL K a xs:=h
theorem KL.sq {K:PySem.W.Frag}{H:Hp}{a:Addr}{xs:List V}(h:KL K a xs):SqL K H a xs:=.inr h
def kvL (ks:List Str)(vs:List V):List (Key×V):=(ks.map fun x=>(Sum.inr x:Key)).zip vs
def Clo (fo:Obj)(c:Addr)(oc:Obj):Prop:=fo.cls=.type "function" /\ (∃ fd,fo.data=.func fd/\fd.code=.ref c)/\∃ fs q t,oc.data=.fields fs/\fs[1]? = some (.str q t)
mutual
/-- q: how deep the lists are owned -/
inductive Rep (K:PySem.W.Frag) (H:Hp) (w:Wn) (o:Ow):Nat->D->V->List Addr->Prop
 | non {q}:Rep K H w o q .non .non []
 | bl {q} (b:Bool):Rep K H w o q (.bl b) (.bl b) []
 | int {q} (i:Int):Rep K H w o q (.int i) (.int i) []
 | str {q} (x:Str):Rep K H w o q (.str x) (.str x) []
 | tup {q} {a:Addr} {vs:List V} {ds:List D}:H a=some (.tup vs)->Reps K H w o 0 ds vs []->Rep K H w o q (.tup ds) (.ref a) []
 | dic {q} {a:Addr} {ks:List Str} {vs:List V} {ds:List D}:H a=some (.dK (kvL ks vs))->Reps K H w o 0 ds vs []->Rep K H w o q (.dic ks ds) (.ref a) []
 | exc {q} {a:Addr} {nm:Str} {ob:Obj} {u:HO}:H a=some (.frz ob u)->XO K nm ob->(∀ xs,u ≠ .lst xs)->Rep K H w o q (.exc nm) (.ref a) []
 | ob {q} {f c:Addr} {fo oc:Obj} {u u':HO} {vs:List V} {ds:List D}:H f=some (.frz fo u)->H c=some (.frz oc u')->Clo fo c oc->Reps K H w o 0 ds vs []->Rep K H w o q (.ob f fo vs ds) (.ref f) []
 | kl {a:Addr} {vs:List V} {ds:List D}:KL K a vs->Reps K H w o 0 ds vs []->Rep K H w o 0 (.lst ds) (.ref a) []
 | shr {a:Addr} {vs:List V} {ds:List D}:Rd H a (.lst vs)->w a=none->Reps K H w o 0 ds vs []->Rep K H w o 0 (.lst ds) (.ref a) []
 | own {q} {a:Addr} {vs:List V} {ds:List D} {F:List Addr}:H a=some (.lst vs)->w a=some o->Reps K H w o q ds vs F->a ∉ F->Rep K H w o (q+1) (.lst ds) (.ref a) (a::F)
inductive Reps (K:PySem.W.Frag) (H:Hp) (w:Wn) (o:Ow):Nat->List D->List V->List Addr->Prop
 | nil {q}:Reps K H w o q [] [] []
 | cons {q} {d:D} {v:V} {ds:List D} {vs:List V} {F G:List Addr}:Rep K H w o q d v F->Reps K H w o q ds vs G->(∀ a∈F,a ∉ G)->Reps K H w o q (d::ds) (v::vs) (F++G)
end
def j59:HO->Bool
 | .tbl _=>true
 | _=>false
def Sm (x:HO)(y:Option HO):Prop:=match x with
 | .tbl _=>∃ ps,y=some (.tbl ps)
 | x=>y=some x
theorem sm {x:HO}{y:Option HO}(h:y=some x):Sm x y:=by cases x<;>first|exact h|exact⟨_,h⟩
theorem Sm.is {x:HO}{y:Option HO}(h:Sm x y):∃ z,y=some z/\j59 z=j59 x:=by
 cases x<;>first|exact⟨_,h,rfl⟩|(obtain⟨ps,e⟩:=h;exact⟨_,e,rfl⟩)
theorem Sm.eq {x:HO}{y:Option HO}(h:Sm x y)(n:j59 x=false):y=some x:=by cases x<;>first|exact h|cases n
def y2n:List Str:=["turned","chain_ladder","flat_ladder","paired"]
structure TB (K:PySem.W.Frag) (H:Hp):Prop where
 tr:∀ P ps,H P=some (.tbl ps)->PySem.TriplesOk ps.toList
 cd:∀ P ps,H P=some (.tbl ps)->∀ pos cv,PySem.codeAmong pos ps.toList=some cv->∃ c oc u vs q t,cv=.ref c/\H c=some (.frz oc u)/\oc.data=.fields vs/\vs[1]? = some (.str q t)/\∀ xs,u ≠ .lst xs
 is:∀ x∈y2n,∀ c P,PySem.W.tabIn K x=some (c,P)->∃ ps,H P=some (.tbl ps)
structure WL (K:PySem.W.Frag) (w:Wn) (H:Hp):Prop where
 own:∀ a o,w a=some o->∃ vs,H a=some (.lst vs)
 tb:TB K H
instance {K:PySem.W.Frag} {w:Wn} {H:Hp}:CoeFun (WL K w H) (fun _=>∀ a o,w a=some o->∃ vs,H a=some (.lst vs)):=⟨WL.own⟩
theorem TB.upd {K:PySem.W.Frag}{H:Hp}(t:TB K H){p:Addr}{x:HO}(hx:j59 x=false)(hp:H p=none\/∃ vs,H p=some (.lst vs)):TB K (L2.upd H p x):=by
 have ne:∀ a y,H a=some y->(∀ vs,y ≠ .lst vs)->a≠p:=fun a y e h z=>by
  subst z
  rcases hp with q|⟨vs,q⟩
  ·rw[e]at q;cases q
  ·rw[e]at q;cases q;exact h _ rfl
 refine⟨fun P ps e=>?_,fun P ps e pos cv hc=>?_,fun x hx c P hP=>by
  obtain⟨ps,e⟩:=t.is x hx c P hP
  exact⟨ps,by rw[x0y (ne P _ e fun _ z=>nomatch z)];exact e⟩⟩
 ·by_cases hP:P=p
  ·subst hP;rw[x1z]at e;cases e;cases hx
  ·rw[x0y hP]at e;exact t.tr P ps e
 ·by_cases hP:P=p
  ·subst hP;rw[x1z]at e;cases e;cases hx
  ·rw[x0y hP]at e
   obtain⟨c,oc,u,vs,q,tt,h1,h2,h3,h4,h5⟩:=t.cd P ps e pos cv hc
   exact⟨c,oc,u,vs,q,tt,h1,by rw[x0y (ne c _ h2 fun _ z=>nomatch z)];exact h2,h3,h4,h5⟩
def x8d (H:Hp)(w:Wn)(H':Hp)(w':Wn):Prop:=∀ a x,H a=some x->w a=none->Sm x (H' a)/\w' a=none
theorem x8d.trans {H H1 H2:Hp}{w w1 w2:Wn}(a:x8d H w H1 w1)(b:x8d H1 w1 H2 w2):x8d H w H2 w2:=fun c x h n=>by
 obtain⟨s1,n1⟩:=a c x h n
 cases ht:j59 x with
 | false=>exact b c x (s1.eq ht) n1
 | true=>
  obtain⟨y,e,hy⟩:=s1.is
  obtain⟨s2,n2⟩:=b c y e n1
  refine⟨?_,n2⟩
  rw[ht]at hy
  cases x with
  | tbl ps=>
   cases y with
   | tbl ps'=>exact s2
   | _=>cases hy
  | _=>cases ht
theorem WL.rdT {K:PySem.W.Frag}{w:Wn}{H:Hp}(wl:WL K w H){a:Addr}{x:HO}(e:H a=some x)(h:∀ vs,x ≠ .lst vs):w a=none:=by
 cases q:w a with
 | none=>rfl
 | some o=>
  obtain⟨vs,e'⟩:=wl a o q
  rw[e]at e'
  exact absurd (Option.some.inj e') (h vs)
theorem SqT.go {K:PySem.W.Frag}{H H':Hp}{w w':Wn}(wl:WL K w H)(st:x8d H w H' w'){a:Addr}{vs:List V}(h:SqT K H a vs):SqT K H' a vs:=by
 rcases h with(h|⟨o,h⟩)|h
 ·exact .inl (.inl (st a _ h (wl.rdT h (fun _ z=>nomatch z))).1)
 ·exact .inl (.inr ⟨o,(st a _ h (wl.rdT h (fun _ z=>nomatch z))).1⟩)
 ·exact .inr h
theorem RdL.go {H H':Hp}{w w':Wn}(st:x8d H w H' w'){a:Addr}{vs:List V}(n:w a=none)(h:Rd H a (.lst vs)):Rd H' a (.lst vs)/\w' a=none:=by
 rcases h with h|⟨o,h⟩
 ·exact⟨.inl (st a _ h n).1,(st a _ h n).2⟩
 ·exact⟨.inr ⟨o,(st a _ h n).1⟩,(st a _ h n).2⟩
theorem Rep.go {K:PySem.W.Frag}{H H':Hp}{w w':Wn}{o o':Ow}(wl:WL K w H)(st:x8d H w H' w'):∀ {q:Nat} {d:D} {v:V} {F:List Addr},Rep K H w o q d v F->(∀ a∈F,H' a=H a/\w' a=some o')->Rep K H' w' o' q d v F:=by
 intro q d v F r
 refine Rep.rec (motive_1:=fun q d v F _=>(∀ a∈F,H' a=H a/\w' a=some o')->Rep K H' w' o' q d v F) (motive_2:=fun q ds vs F _=>(∀ a∈F,H' a=H a/\w' a=some o')->Reps K H' w' o' q ds vs F) ?_ ?_ ?_ ?_ ?_ ?_ ?_ ?_ ?_ ?_ ?_ ?_ ?_ r
 ·intro q _;exact .non
 ·intro q b _;exact .bl b
 ·intro q i _;exact .int i
 ·intro q x _;exact .str x
 ·intro q a vs ds h r ih _;exact .tup (st _ _ h (wl.rdT h (fun _ z=>by cases z))).1 (ih (fun _ z=>(List.not_mem_nil z).elim))
 ·intro q a ks vs ds h r ih _;exact .dic (st _ _ h (wl.rdT h (fun _ z=>by cases z))).1 (ih (fun _ z=>(List.not_mem_nil z).elim))
 ·intro q a nm ob u h x n _;exact .exc (st _ _ h (wl.rdT h (fun _ z=>by cases z))).1 x n
 ·intro q f c fo oc u u' vs ds h1 h2 x r ih _;exact .ob (st _ _ h1 (wl.rdT h1 (fun _ z=>by cases z))).1 (st _ _ h2 (wl.rdT h2 (fun _ z=>by cases z))).1 x (ih (fun _ z=>(List.not_mem_nil z).elim))
 ·intro a vs ds h r ih _;exact .kl h (ih (fun _ z=>(List.not_mem_nil z).elim))
 ·intro a vs ds h n r ih _;exact .shr (RdL.go st n h).1 (RdL.go st n h).2 (ih (fun _ z=>(List.not_mem_nil z).elim))
 ·intro q a vs ds F h e r ne ih k;exact .own ((k _ List.mem_cons_self).1.trans h) (k _ List.mem_cons_self).2 (ih fun a m=>k a (List.mem_cons_of_mem _ m)) ne
 ·intro q _;exact .nil
 ·intro q d v ds vs F G r s ne ih1 ih2 k;exact .cons (ih1 fun a m=>k a (List.mem_append_left _ m)) (ih2 fun a m=>k a (List.mem_append_right _ m)) ne
theorem Reps.go {K:PySem.W.Frag}{H H':Hp}{w w':Wn}{o o':Ow}(wl:WL K w H)(st:x8d H w H' w'):∀ {q:Nat} {ds:List D} {vs:List V} {F:List Addr},Reps K H w o q ds vs F->(∀ a∈F,H' a=H a/\w' a=some o')->Reps K H' w' o' q ds vs F:=by
 intro q ds vs F r
 refine Reps.rec (motive_1:=fun q d v F _=>(∀ a∈F,H' a=H a/\w' a=some o')->Rep K H' w' o' q d v F) (motive_2:=fun q ds vs F _=>(∀ a∈F,H' a=H a/\w' a=some o')->Reps K H' w' o' q ds vs F) ?_ ?_ ?_ ?_ ?_ ?_ ?_ ?_ ?_ ?_ ?_ ?_ ?_ r
 ·intro q _;exact .non
 ·intro q b _;exact .bl b
 ·intro q i _;exact .int i
 ·intro q x _;exact .str x
 ·intro q a vs ds h r ih _;exact .tup (st _ _ h (wl.rdT h (fun _ z=>by cases z))).1 (ih (fun _ z=>(List.not_mem_nil z).elim))
 ·intro q a ks vs ds h r ih _;exact .dic (st _ _ h (wl.rdT h (fun _ z=>by cases z))).1 (ih (fun _ z=>(List.not_mem_nil z).elim))
 ·intro q a nm ob u h x n _;exact .exc (st _ _ h (wl.rdT h (fun _ z=>by cases z))).1 x n
 ·intro q f c fo oc u u' vs ds h1 h2 x r ih _;exact .ob (st _ _ h1 (wl.rdT h1 (fun _ z=>by cases z))).1 (st _ _ h2 (wl.rdT h2 (fun _ z=>by cases z))).1 x (ih (fun _ z=>(List.not_mem_nil z).elim))
 ·intro a vs ds h r ih _;exact .kl h (ih (fun _ z=>(List.not_mem_nil z).elim))
 ·intro a vs ds h n r ih _;exact .shr (RdL.go st n h).1 (RdL.go st n h).2 (ih (fun _ z=>(List.not_mem_nil z).elim))
 ·intro q a vs ds F h e r ne ih k;exact .own ((k _ List.mem_cons_self).1.trans h) (k _ List.mem_cons_self).2 (ih fun a m=>k a (List.mem_cons_of_mem _ m)) ne
 ·intro q _;exact .nil
 ·intro q d v ds vs F G r s ne ih1 ih2 k;exact .cons (ih1 fun a m=>k a (List.mem_append_left _ m)) (ih2 fun a m=>k a (List.mem_append_right _ m)) ne
theorem Rep.freeze {K:PySem.W.Frag}{H:Hp}{w w':Wn}{o o':Ow}(n:∀ a,w a=none->w' a=none):∀ {q:Nat} {d:D} {v:V} {F:List Addr},Rep K H w o q d v F->(∀ a∈F,w' a=none)->Rep K H w' o' 0 d v []:=by
 intro q d v F r
 refine Rep.rec (motive_1:=fun q d v F _=>(∀ a∈F,w' a=none)->Rep K H w' o' 0 d v []) (motive_2:=fun q ds vs F _=>(∀ a∈F,w' a=none)->Reps K H w' o' 0 ds vs []) ?_ ?_ ?_ ?_ ?_ ?_ ?_ ?_ ?_ ?_ ?_ ?_ ?_ r
 ·intro q _;exact .non
 ·intro q b _;exact .bl b
 ·intro q i _;exact .int i
 ·intro q x _;exact .str x
 ·intro q a vs ds h r ih _;exact .tup h (ih (fun _ z=>(List.not_mem_nil z).elim))
 ·intro q a ks vs ds h r ih _;exact .dic h (ih (fun _ z=>(List.not_mem_nil z).elim))
 ·intro q a nm ob u h x n _;exact .exc h x n
 ·intro q f c fo oc u u' vs ds h1 h2 x r ih _;exact .ob h1 h2 x (ih (fun _ z=>(List.not_mem_nil z).elim))
 ·intro a vs ds h r ih _;exact .kl h (ih (fun _ z=>(List.not_mem_nil z).elim))
 ·intro a vs ds h e r ih _;exact .shr h (n _ e) (ih (fun _ z=>(List.not_mem_nil z).elim))
 ·intro q a vs ds F h e r ne ih k;exact .shr (Rd.of h) (k _ List.mem_cons_self) (ih fun a m=>k a (List.mem_cons_of_mem _ m))
 ·intro q _;exact .nil
 ·intro q d v ds vs F G r s ne ih1 ih2 k;exact .cons (F:=[]) (G:=[]) (ih1 fun a m=>k a (List.mem_append_left _ m)) (ih2 fun a m=>k a (List.mem_append_right _ m)) (fun _ z=>(List.not_mem_nil z).elim)
theorem Reps.freeze {K:PySem.W.Frag}{H:Hp}{w w':Wn}{o o':Ow}(n:∀ a,w a=none->w' a=none):∀ {q:Nat} {ds:List D} {vs:List V} {F:List Addr},Reps K H w o q ds vs F->(∀ a∈F,w' a=none)->Reps K H w' o' 0 ds vs []:=by
 intro q ds vs F r
 refine Reps.rec (motive_1:=fun q d v F _=>(∀ a∈F,w' a=none)->Rep K H w' o' 0 d v []) (motive_2:=fun q ds vs F _=>(∀ a∈F,w' a=none)->Reps K H w' o' 0 ds vs []) ?_ ?_ ?_ ?_ ?_ ?_ ?_ ?_ ?_ ?_ ?_ ?_ ?_ r
 ·intro q _;exact .non
 ·intro q b _;exact .bl b
 ·intro q i _;exact .int i
 ·intro q x _;exact .str x
 ·intro q a vs ds h r ih _;exact .tup h (ih (fun _ z=>(List.not_mem_nil z).elim))
 ·intro q a ks vs ds h r ih _;exact .dic h (ih (fun _ z=>(List.not_mem_nil z).elim))
 ·intro q a nm ob u h x n _;exact .exc h x n
 ·intro q f c fo oc u u' vs ds h1 h2 x r ih _;exact .ob h1 h2 x (ih (fun _ z=>(List.not_mem_nil z).elim))
 ·intro a vs ds h r ih _;exact .kl h (ih (fun _ z=>(List.not_mem_nil z).elim))
 ·intro a vs ds h e r ih _;exact .shr h (n _ e) (ih (fun _ z=>(List.not_mem_nil z).elim))
 ·intro q a vs ds F h e r ne ih k;exact .shr (Rd.of h) (k _ List.mem_cons_self) (ih fun a m=>k a (List.mem_cons_of_mem _ m))
 ·intro q _;exact .nil
 ·intro q d v ds vs F G r s ne ih1 ih2 k;exact .cons (F:=[]) (G:=[]) (ih1 fun a m=>k a (List.mem_append_left _ m)) (ih2 fun a m=>k a (List.mem_append_right _ m)) (fun _ z=>(List.not_mem_nil z).elim)
theorem Rep.owns {K:PySem.W.Frag}{H:Hp}{w:Wn}{o:Ow}:∀ {q:Nat} {d:D} {v:V} {F:List Addr},Rep K H w o q d v F->∀ a∈F,w a=some o:=by
 intro q d v F r
 refine Rep.rec (motive_1:=fun q d v F _=>∀ a∈F,w a=some o) (motive_2:=fun q ds vs F _=>∀ a∈F,w a=some o) ?_ ?_ ?_ ?_ ?_ ?_ ?_ ?_ ?_ ?_ ?_ ?_ ?_ r
 ·intro q a m;exact(List.not_mem_nil m).elim
 ·intro q b a m;exact(List.not_mem_nil m).elim
 ·intro q i a m;exact(List.not_mem_nil m).elim
 ·intro q x a m;exact(List.not_mem_nil m).elim
 ·intro q a vs ds h r ih b m;exact(List.not_mem_nil m).elim
 ·intro q a ks vs ds h r ih b m;exact(List.not_mem_nil m).elim
 ·intro q a nm ob u h x n b m;exact(List.not_mem_nil m).elim
 ·intro q f c fo oc u u' vs ds h1 h2 x r ih b m;exact(List.not_mem_nil m).elim
 ·intro a vs ds h r ih b m;exact(List.not_mem_nil m).elim
 ·intro a vs ds h e r ih b m;exact(List.not_mem_nil m).elim
 ·intro q a vs ds F h e r ne ih b m
  rcases List.mem_cons.mp m with z|z
  ·rw[z];exact e
  ·exact ih b z
 ·intro q a m;exact(List.not_mem_nil m).elim
 ·intro q d v ds vs F G r s ne ih1 ih2 a m
  rcases List.mem_append.mp m with z|z
  ·exact ih1 a z
  ·exact ih2 a z
theorem Reps.owns {K:PySem.W.Frag}{H:Hp}{w:Wn}{o:Ow}:∀ {q:Nat} {ds:List D} {vs:List V} {F:List Addr},Reps K H w o q ds vs F->∀ a∈F,w a=some o:=by
 intro q ds vs F r
 refine Reps.rec (motive_1:=fun q d v F _=>∀ a∈F,w a=some o) (motive_2:=fun q ds vs F _=>∀ a∈F,w a=some o) ?_ ?_ ?_ ?_ ?_ ?_ ?_ ?_ ?_ ?_ ?_ ?_ ?_ r
 ·intro q a m;exact(List.not_mem_nil m).elim
 ·intro q b a m;exact(List.not_mem_nil m).elim
 ·intro q i a m;exact(List.not_mem_nil m).elim
 ·intro q x a m;exact(List.not_mem_nil m).elim
 ·intro q a vs ds h r ih b m;exact(List.not_mem_nil m).elim
 ·intro q a ks vs ds h r ih b m;exact(List.not_mem_nil m).elim
 ·intro q a nm ob u h x n b m;exact(List.not_mem_nil m).elim
 ·intro q f c fo oc u u' vs ds h1 h2 x r ih b m;exact(List.not_mem_nil m).elim
 ·intro a vs ds h r ih b m;exact(List.not_mem_nil m).elim
 ·intro a vs ds h e r ih b m;exact(List.not_mem_nil m).elim
 ·intro q a vs ds F h e r ne ih b m
  rcases List.mem_cons.mp m with z|z
  ·rw[z];exact e
  ·exact ih b z
 ·intro q a m;exact(List.not_mem_nil m).elim
 ·intro q d v ds vs F G r s ne ih1 ih2 a m
  rcases List.mem_append.mp m with z|z
  ·exact ih1 a z
  ·exact ih2 a z
def D.isL:D->Bool
 | .lst _=>true
 | _=>false
@[simp] theorem D.isL_non:D.isL .non=false:=rfl
@[simp] theorem D.isL_bl (b:Bool):D.isL (.bl b)=false:=rfl
@[simp] theorem D.isL_int (i:Int):D.isL (.int i)=false:=rfl
@[simp] theorem D.isL_str (x:Str):D.isL (.str x)=false:=rfl
@[simp] theorem D.isL_tup (ds:List D):D.isL (.tup ds)=false:=rfl
@[simp] theorem D.isL_dic (ks:List Str)(ds:List D):D.isL (.dic ks ds)=false:=rfl
@[simp] theorem D.isL_exc (nm:Str):D.isL (.exc nm)=false:=rfl
@[simp] theorem D.isL_ob (f:Addr)(fo:Obj)(vs:List V)(ds:List D):D.isL (.ob f fo vs ds)=false:=rfl
@[simp] theorem D.isL_lst (ds:List D):D.isL (.lst ds)=true:=rfl
theorem Rep.nolist {K:PySem.W.Frag}{H:Hp}{w:Wn}{o:Ow}{q:Nat}{d:D}{v:V}{F:List Addr}(r:Rep K H w o q d v F)(h:d.isL=false):F=[]/\∀ q',Rep K H w o q' d v []:=by
 cases r with
 | non=>exact⟨rfl,fun _=>.non⟩
 | bl b=>exact⟨rfl,fun _=>.bl b⟩
 | int i=>exact⟨rfl,fun _=>.int i⟩
 | str x=>exact⟨rfl,fun _=>.str x⟩
 | tup h' r'=>exact⟨rfl,fun _=>.tup h' r'⟩
 | dic h' r'=>exact⟨rfl,fun _=>.dic h' r'⟩
 | exc h' x n=>exact⟨rfl,fun _=>.exc h' x n⟩
 | ob h1 h2 x r=>exact⟨rfl,fun _=>.ob h1 h2 x r⟩
 | kl=>cases h
 | shr=>cases h
 | own=>cases h
theorem Rep.zero {K:PySem.W.Frag}{H:Hp}{w:Wn}{o:Ow}{d:D}{v:V}{F:List Addr}(r:Rep K H w o 0 d v F):F=[]:=by
 cases r<;>rfl
theorem Reps.zero {K:PySem.W.Frag}{H:Hp}{w:Wn}{o:Ow}:∀ {ds:List D} {vs:List V} {F:List Addr},Reps K H w o 0 ds vs F->F=[]
 | _,_,_,.nil=>rfl
 | _,_,_,.cons r s _=>by rw[r.zero,s.zero];rfl
theorem Reps.length {K:PySem.W.Frag}{H:Hp}{w:Wn}{o:Ow}{q:Nat}:∀ {ds:List D} {vs:List V} {F:List Addr},Reps K H w o q ds vs F->ds.length=vs.length
 | _,_,_,.nil=>rfl
 | _,_,_,.cons _ s _=>by simp[s.length]
theorem Rep.any {K:PySem.W.Frag}{H:Hp}{w:Wn}{o o':Ow}{q:Nat}{d:D}{v:V}(r:Rep K H w o q d v [])(wl:WL K w H):Rep K H w o' q d v []:=
 Rep.go wl (fun a x h n=>⟨sm h,n⟩) r (fun _ z=>nomatch z)
theorem Reps.any {K:PySem.W.Frag}{H:Hp}{w:Wn}{o o':Ow}{q:Nat}{d:List D}{v:List V}(r:Reps K H w o q d v [])(wl:WL K w H):Reps K H w o' q d v []:=
 Reps.go wl (fun a x h n=>⟨sm h,n⟩) r (fun _ z=>nomatch z)
theorem Reps.get {K:PySem.W.Frag}{H:Hp}{w:Wn}{o:Ow}:∀ {ds:List D} {vs:List V} {i:Nat} {d:D},Reps K H w o 0 ds vs []->ds[i]? = some d->∃ v,vs[i]? = some v/\Rep K H w o 0 d v []
 | ds,vs,i,d,r,e=>by
  generalize hF:([]:List Addr)=F at r
  cases r with
  | nil=>simp at e
  | @cons _ d' v' ds' vs' F' G' r s _=>
   have h1:F'=[]:=r.zero
   have h2:G'=[]:=s.zero
   subst h1 h2
   cases i with
   | zero=>simp at e;subst e;exact⟨v',rfl,r⟩
   | succ j=>
    obtain⟨v,h1,h2⟩:=Reps.get (i:=j) (d:=d) s (by simpa using e)
    exact⟨v,by simpa using h1,h2⟩
theorem Reps.snoc {K:PySem.W.Frag}{H:Hp}{w:Wn}{o:Ow}{q:Nat}{d:D}{v:V}{G:List Addr}(r':Rep K H w o q d v G):∀ {ds:List D} {vs:List V} {F:List Addr},Reps K H w o q ds vs F->(∀ a∈F,a ∉ G)->Reps K H w o q (ds++[d]) (vs++[v]) (F++G)
 | _,_,_,.nil,_=>by
  have:Reps K H w o q [d] [v] (G++[]):=.cons r' .nil (fun a _ z=>nomatch z)
  simpa using this
 | _,_,_,.cons (F:=F) (G:=F') r s ne,k=>by
  rw[List.append_assoc]
  refine .cons r (Reps.snoc r' s fun a m=>k a (List.mem_append_right _ m)) fun a m z=>?_
  rcases List.mem_append.mp z with z|z
  ·exact ne a m z
  ·exact k a (List.mem_append_left _ m) z
abbrev OD:=Option (D×Nat)
abbrev Rho:=List (OD)
structure Good (K:PySem.W.Frag) (ρ:Rho) (σ:St) (H:Hp) (w:Wn) (t:Nat):Prop where
 wl:WL K w H
 ws:∀ a i,w a=some (.s i)->i<σ.length
 wt:∀ a i,w a=some (.t i)->i<t
 len:ρ.length=σ.length
 slot:∀ (i:Nat) d q,ρ[i]? = some (some (d,q))->∃ v F,σ[i]? = some (some v)/\Rep K H w (.s i) q d v F
structure Go (H:Hp) (w:Wn) (H':Hp) (w':Wn):Prop where
 stab:x8d H w H' w'
 keep:∀ a o,w a=some o->(∀ i,o ≠ .s i)->H' a=H a/\w' a=some o
theorem Go.refl {H:Hp}{w:Wn}:Go H w H w:=⟨fun a x h n=>⟨sm h,n⟩,fun a o e _=>⟨rfl,e⟩⟩
theorem Go.trans {H H1 H2:Hp}{w w1 w2:Wn}(a:Go H w H1 w1)(b:Go H1 w1 H2 w2):Go H w H2 w2:=
 ⟨a.stab.trans b.stab,fun c o e h=>by
   obtain⟨h1,w1⟩:=a.keep c o e h
   obtain⟨h2,w2⟩:=b.keep c o w1 h
   exact⟨h2.trans h1,w2⟩⟩
theorem Rep.gone {K:PySem.W.Frag}{H H':Hp}{w w':Wn}{q:Nat}{d:D}{v:V}{F:List Addr}{i:Nat}(r:Rep K H w (.t i) q d v F)(wl:WL K w H)(g:Go H w H' w'):Rep K H' w' (.t i) q d v F:=
 Rep.go wl g.stab r fun a m=>g.keep a _ (r.owns a m) (fun _ z=>nomatch z)
theorem Reps.gone {K:PySem.W.Frag}{H H':Hp}{w w':Wn}{q:Nat}{d:List D}{v:List V}{F:List Addr}{i:Nat}(r:Reps K H w (.t i) q d v F)(wl:WL K w H)(g:Go H w H' w'):Reps K H' w' (.t i) q d v F:=
 Reps.go wl g.stab r fun a m=>g.keep a _ (r.owns a m) (fun _ z=>nomatch z)
def x2b (t:Nat)(w:Wn):Wn:=fun a=>match w a with
 | some (.t i)=>if t<=i then none else some (.t i)
 | x=>x
theorem x8c {t:Nat}{w:Wn}{a:Addr}(h:w a=none):x2b t w a=none:=by unfold x2b;rw[h]
theorem j3b {t:Nat}{w:Wn}{a:Addr}{i:Nat}(h:w a=some (.s i)):x2b t w a=some (.s i):=by unfold x2b;rw[h]
theorem j2q {t:Nat}{w:Wn}{a:Addr}(h:w a=some .f):x2b t w a=some .f:=by unfold x2b;rw[h]
theorem z6g {t:Nat}{w:Wn}{a:Addr}{i:Nat}(h:w a=some (.t i))(hi:i<t):x2b t w a=some (.t i):=by unfold x2b;rw[h];exact if_neg (by omega)
theorem z93 {t:Nat}{w:Wn}{a:Addr}{i:Nat}(h:w a=some (.t i))(hi:t<=i):x2b t w a=none:=by unfold x2b;rw[h];exact if_pos hi
theorem y10 {t:Nat}{w:Wn}{a:Addr}{o:Ow}(h:x2b t w a=some o):w a=some o/\∀ i,o=.t i->i<t:=by
 unfold x2b at h
 cases e:w a with
 | none=>rw[e]at h;cases h
 | some o'=>
  rw[e]at h
  cases o' with
  | s i=>cases h;exact⟨rfl,fun i z=>nomatch z⟩
  | f=>cases h;exact⟨rfl,fun i z=>nomatch z⟩
  | t i=>
   dsimp only at h
   split at h
   ·cases h
   ·cases h;exact⟨rfl,fun j z=>by cases z;omega⟩
theorem Good.drop {K:PySem.W.Frag}{ρ:Rho}{σ:St}{H:Hp}{w:Wn}{t t':Nat}(g:Good K ρ σ H w t):Good K ρ σ H (x2b t' w) t':=by
 refine⟨⟨fun a o e=>g.wl a o (y10 e).1,g.wl.tb⟩,fun a i e=>g.ws a i (y10 e).1,fun a i e=>(y10 e).2 i rfl,g.len,fun i d q e=>?_⟩
 obtain⟨v,F,h1,h2⟩:=g.slot i d q e
 exact⟨v,F,h1,Rep.go g.wl (fun a x h n=>⟨sm h,x8c n⟩) h2 fun a m=>⟨rfl,j3b (h2.owns a m)⟩⟩
theorem Go.drop {H H':Hp}{w w':Wn}{t:Nat}(g:Go H w H' w')(wt:∀ a i,w a=some (.t i)->i<t):Go H w H' (x2b t w'):=
 ⟨fun a x h n=>⟨(g.stab a x h n).1,x8c (g.stab a x h n).2⟩,fun a o e h=>by
   obtain⟨h1,h2⟩:=g.keep a o e h
   refine⟨h1,?_⟩
   cases o with
   | s i=>exact absurd rfl (h i)
   | f=>exact j2q h2
   | t i=>exact z6g h2 (wt a i e)⟩
theorem Rep.drop {K:PySem.W.Frag}{H:Hp}{w:Wn}{q:Nat}{d:D}{v:V}{F:List Addr}{t:Nat}{o:Ow}(r:Rep K H w (.t t) q d v F){t':Nat}(h:t'<=t):Rep K H (x2b t' w) o 0 d v []:=
 Rep.freeze (fun a n=>x8c n) r fun a m=>z93 (r.owns a m) h
abbrev Den:=Rho->Option (D×Nat×Rho)
def tD (K:PySem.W.Frag)(f:Den):TE:=fun σ H Q=>∃ ρ w t r q ρ',Good K ρ σ H w t/\f ρ=some (r,q,ρ')/\∀ v H' w' F,Good K ρ' σ H' w' (t+1)->Go H w H' w'->Rep K H' w' (.t t) q r v F->Q v H'
theorem PE.imp {X:Cx}{e:Expr}{t t':TE}(h:PE X e t)(i:∀ σ H Q,t' σ H Q->t σ H Q):PE X e t':=fun pins s σ H Q I q=>h pins s σ H Q I (i σ H Q q)
abbrev PD (X:Cx)(e:Expr)(f:Den):Prop:=PE X e (tD X.K f)
theorem Good.up {K:PySem.W.Frag}{ρ:Rho}{σ:St}{H:Hp}{w:Wn}{t:Nat}(g:Good K ρ σ H w t):Good K ρ σ H w (t+1):=⟨g.wl,g.ws,fun a i e=>Nat.lt_succ_of_lt (g.wt a i e),g.len,g.slot⟩
@[simp] def x20 (d:D):Nat:=if d.isL then 0 else 9
theorem Rep.dep {K:PySem.W.Frag}{H:Hp}{w:Wn}{o:Ow}{d:D}{v:V}(r:Rep K H w o 0 d v []):Rep K H w o (x20 d) d v []:=by
 unfold x20
 cases e:d.isL with
 | true=>exact r
 | false=>exact(r.nolist e).2 9
section
variable {K:PySem.W.Frag}{σ:St}{H:Hp}{ρ ρ' ρ1 ρ2:Rho}{w:Wn}{t:Nat}{Q:VK}
theorem j1s {fa fb:Den}{R:V->V->Hp->Prop}(g:Good K ρ σ H w t){d1 d2:D}{q1 q2:Nat}(e1:fa ρ=some (d1,q1,ρ1))(e2:fb ρ1=some (d2,q2,ρ2))
  (k:∀ x y H2 w2 F1 F2,Good K ρ2 σ H2 w2 (t+2)->Go H w H2 w2->Rep K H2 w2 (.t t) q1 d1 x F1->Rep K H2 w2 (.t (t+1)) q2 d2 y F2->R x y H2) :
  tD K fa σ H fun x H1=>tD K fb σ H1 fun y H2=>R x y H2:=
 ⟨ρ,w,t,d1,q1,ρ1,g,e1,fun x H1 w1 F1 g1 go1 r1=>⟨ρ1,w1,t+1,d2,q2,ρ2,g1,e2,fun y H2 w2 F2 g2 go2 r2=>k x y H2 w2 F1 F2 g2 (go1.trans go2) (r1.gone g1.wl go2) r2⟩⟩
theorem j2l {r:D}{q:Nat}{v:V}{H2:Hp}{w2:Wn}{t2:Nat}(k:∀ v H' w' F,Good K ρ' σ H' w' (t+1)->Go H w H' w'->Rep K H' w' (.t t) q r v F->Q v H')(g:Good K ρ σ H w t)(g2:Good K ρ' σ H2 w2 t2)(go:Go H w H2 w2)
  (rr:Rep K H2 (x2b t w2) (.t t) q r v []):Q v H2:=k v H2 (x2b t w2) [] g2.drop.up (go.drop g.wt) rr
def z5z (p:Addr)(o:Ow)(w:Wn):Wn:=fun a=>if a=p then some o else w a
theorem x5z {p:Addr}{o:Ow}{w:Wn}:z5z p o w p=some o:=if_pos rfl
theorem x4m {p a:Addr}{o:Ow}{w:Wn}(h:a≠p):z5z p o w a=w a:=if_neg h
theorem y7x {H1:Hp}{p:Addr}{vs:List V}{ds:List D}{w1:Wn}(g:Good K ρ σ H1 w1 t)(hp:H1 p=none)(r:Reps K H1 w1 .f 0 ds vs []) :
  Good K ρ σ (upd H1 p (.lst vs)) (z5z p (.t t) w1) (t+1)/\Go H1 w1 (upd H1 p (.lst vs)) (z5z p (.t t) w1)/\Rep K (upd H1 p (.lst vs)) (z5z p (.t t) w1) (.t t) 1 (.lst ds) (.ref p) [p]:=by
 have ne:∀ a x,H1 a=some x->a≠p:=fun a x e=>x1r e hp
 have nw:∀ a o,w1 a=some o->a≠p:=fun a o e=>by obtain⟨vs,q⟩:=g.wl a o e;exact ne a _ q
 have st:x8d H1 w1 (upd H1 p (.lst vs)) (z5z p (.t t) w1):=fun a x e n=>⟨sm (by rw[x0y (ne a x e)];exact e),by rw[x4m (ne a x e)];exact n⟩
 refine⟨⟨⟨fun a o e=>?_,g.wl.tb.upd rfl (.inl hp)⟩,fun a i e=>?_,fun a i e=>?_,g.len,fun i d q e=>?_⟩,⟨st,fun a o e _=>⟨x0y (nw a o e),(x4m (nw a o e)).trans e⟩⟩,?_⟩
 ·by_cases h:a=p
  ·subst h;exact⟨vs,x1z⟩
  ·rw[x4m h]at e
   obtain⟨us,q⟩:=g.wl a o e
   exact⟨us,by rw[x0y h];exact q⟩
 ·by_cases h:a=p
  ·subst h;rw[x5z]at e;cases e
  ·rw[x4m h]at e;exact g.ws a i e
 ·by_cases h:a=p
  ·subst h;rw[x5z]at e;cases e;exact Nat.lt_succ_self _
  ·rw[x4m h]at e;exact Nat.lt_succ_of_lt (g.wt a i e)
 ·obtain⟨v,F,h1,h2⟩:=g.slot i d q e
  exact⟨v,F,h1,Rep.go g.wl st h2 fun a m=>⟨x0y (nw a _ (h2.owns a m)),(x4m (nw a _ (h2.owns a m))).trans (h2.owns a m)⟩⟩
 ·exact .own x1z x5z (Reps.go g.wl st r (fun _ z=>nomatch z)) (fun z=>nomatch z)
theorem y4o {H1:Hp}{p:Addr}{vs:List V}{ds:List D}{w1:Wn}(g:Good K ρ σ H1 w1 t)(hp:H1 p=none)(r:Reps K H1 w1 .f 0 ds vs []) :
  Good K ρ σ (upd H1 p (.tup vs)) w1 (t+1)/\Go H1 w1 (upd H1 p (.tup vs)) w1/\Rep K (upd H1 p (.tup vs)) w1 (.t t) 9 (.tup ds) (.ref p) []:=by
 have ne:∀ a x,H1 a=some x->a≠p:=fun a x e=>x1r e hp
 have nw:∀ a o,w1 a=some o->a≠p:=fun a o e=>by obtain⟨vs,q⟩:=g.wl a o e;exact ne a _ q
 have st:x8d H1 w1 (upd H1 p (.tup vs)) w1:=fun a x e n=>⟨sm (by rw[x0y (ne a x e)];exact e),n⟩
 refine⟨⟨⟨fun a o e=>?_,g.wl.tb.upd rfl (.inl hp)⟩,g.ws,fun a i e=>Nat.lt_succ_of_lt (g.wt a i e),g.len,fun i d q e=>?_⟩,⟨st,fun a o e _=>⟨x0y (nw a o e),e⟩⟩,?_⟩
 ·obtain⟨us,q⟩:=g.wl a o e
  exact⟨us,by rw[x0y (nw a o e)];exact q⟩
 ·obtain⟨v,F,h1,h2⟩:=g.slot i d q e
  exact⟨v,F,h1,Rep.go g.wl st h2 fun a m=>⟨x0y (nw a _ (h2.owns a m)),h2.owns a m⟩⟩
 ·exact .tup x1z (Reps.go g.wl st r (fun _ z=>nomatch z))
end
@[simp] def eC (d:D):Den:=fun ρ=>some (d,9,ρ)
@[simp] def x05 (i:Nat):Den:=fun ρ=>match ρ[i]? with
 | some (some (d,q))=>if d.isL=false then some (d,9,ρ)else if q=0 then some (d,0,ρ)else some (d,0,ρ.set i (some (d,0)))
 | _=>none
section
variable {X:Cx}{a b c e:Expr}{fa fb fc f:Den}{pos:Pos}
theorem x9g {v:V}{d:D}(h:PE X e (tC v))(r:∀ K H w o q,Rep K H w o q d v []):PD X e (eC d):=PE.imp h fun σ H Q hh0=>by
 obtain⟨ρ,w,t,r',q,ρ',g,ee,k⟩:=hh0
 cases ee
 exact k v H w [] g.up Go.refl (r _ _ _ _ _)
theorem j5j {i j}:PD X (.Constant (.int i) j pos) (eC (.int i)):=x9g z9u fun _ _ _ _ _=>.int i
theorem j8n {i j}:PD X (.Constant (.bool i) j pos) (eC (.bl i)):=x9g j7t fun _ _ _ _ _=>.bl i
theorem j4g {j}:PD X (.Constant .none j pos) (eC .non):=x9g j6m fun _ _ _ _ _=>.non
theorem j66 {x j}:PD X (.Constant (.str x) j pos) (eC (.str x)):=x9g z0b fun _ _ _ _ _=>.str x
def x6l (i:Nat)(w:Wn):Wn:=fun a=>if w a=some (.s i)then none else w a
theorem x60 {i:Nat}{w:Wn}{a:Addr}(h:w a=none):x6l i w a=none:=by unfold x6l;rw[h];rfl
theorem y56 {i:Nat}{w:Wn}{a:Addr}(h:w a=some (.s i)):x6l i w a=none:=by unfold x6l;rw[if_pos h]
theorem x85 {i:Nat}{w:Wn}{a:Addr}{o:Ow}(h:w a=some o)(n:o ≠ .s i):x6l i w a=some o:=by unfold x6l;rw[if_neg (by rw[h];exact fun z=>n (Option.some.inj z))];exact h
theorem x3l {i:Nat}{w:Wn}{a:Addr}{o:Ow}(h:x6l i w a=some o):w a=some o/\o ≠ .s i:=by
 unfold x6l at h
 split at h
 ·cases h
 ·rename_i n;exact⟨h,fun z=>n (by rw[h,z])⟩
theorem Good.give {K:PySem.W.Frag}{ρ:Rho}{σ:St}{H:Hp}{w:Wn}{t i:Nat}{d:D}{q:Nat}(g:Good K ρ σ H w t)(e:ρ[i]? = some (some (d,q))):Good K (ρ.set i (some (d,0))) σ H (x6l i w) t/\Go H w H (x6l i w):=by
 have st:x8d H w H (x6l i w):=fun a x h n=>⟨sm h,x60 n⟩
 refine⟨⟨⟨fun a o h=>g.wl a o (x3l h).1,g.wl.tb⟩,fun a j h=>g.ws a j (x3l h).1,fun a j h=>g.wt a j (x3l h).1,by rw[List.length_set];exact g.len,fun j d' q' e'=>?_⟩,⟨st,fun a o h n=>⟨rfl,x85 h (n i)⟩⟩⟩
 by_cases hj:i=j
 ·subst hj
  rw[List.getElem?_set_self (List.getElem?_eq_some_iff.mp e).1]at e'
  cases e'
  obtain⟨v,F,h1,h2⟩:=g.slot i d q e
  exact⟨v,[],h1,Rep.freeze (fun a n=>x60 n) h2 fun a m=>y56 (h2.owns a m)⟩
 ·rw[List.getElem?_set_ne hj]at e'
  obtain⟨v,F,h1,h2⟩:=g.slot j d' q' e'
  exact⟨v,F,h1,Rep.go g.wl st h2 fun a m=>⟨rfl,x85 (h2.owns a m) (fun z=>hj (by cases z;rfl))⟩⟩
theorem j71 {i:Nat}{x:Str}(h:PE X (.Name x pos) (y0z i)):PD X (.Name x pos) (x05 i):=PE.imp h fun σ H Q hh0=>by
 obtain⟨ρ,w,t,r',q,ρ',g,ee,k⟩:=hh0
 unfold x05 at ee
 split at ee
 ·rename_i d q0 e0
  obtain⟨v,F,h1,h2⟩:=g.slot i d q0 e0
  refine⟨v,h1,?_⟩
  split at ee
  ·rename_i hl
   cases ee
   obtain⟨hF,hr⟩:=h2.nolist hl
   exact k v H w [] g.up Go.refl ((hr 9).any g.wl)
  ·split at ee
   ·rename_i hq
    subst hq
    cases ee
    have:=h2.zero
    subst this
    exact k v H w [] g.up Go.refl (h2.any g.wl)
   ·cases ee
    obtain⟨g',go'⟩:=g.give e0
    refine k v H (x6l i w) [] g'.up go' ?_
    exact Rep.freeze (fun a n=>x60 n) h2 fun a m=>y56 (h2.owns a m)
 ·cases ee
def y5e:D->Option V
 | .non=>some .non
 | .bl b=>some (.bl b)
 | .int i=>some (.int i)
 | .str x=>some (.str x)
 | _=>none
theorem y66 {K:PySem.W.Frag}{H:Hp}{w:Wn}{o:Ow}{q:Nat}{d:D}{v:V}(h:y5e d=some v):Rep K H w o q d v []:=by
 cases d<;>cases h
 ·exact .non
 ·exact .bl _
 ·exact .int _
 ·exact .str _
@[simp] def e2 (g:D->D->Option D)(fa fb:Den):Den:=fun ρ=>match fa ρ with
 | some (x,_,ρ1)=>match fb ρ1 with
  | some (y,_,ρ2)=>match g x y with
   | some d=>some (d,9,ρ2)
   | none=>none
  | none=>none
 | none=>none
theorem j3k {g:D->D->Option D}{ρ ρ':Rho}{r:D}{q:Nat}(h:e2 g fa fb ρ=some (r,q,ρ')):∃ x q1 ρ1 y q2,fa ρ=some (x,q1,ρ1)/\fb ρ1=some (y,q2,ρ')/\g x y=some r/\q=9:=by
 unfold e2 at h
 split at h
 ·rename_i x q1 ρ1 h1
  split at h
  ·rename_i y q2 ρ2 h2
   split at h
   ·rename_i d hd
    cases h
    exact⟨x,q1,ρ1,y,q2,h1,h2,hd,rfl⟩
   ·cases h
  ·cases h
 ·cases h
theorem y2y {K:PySem.W.Frag}{g:D->D->Option D}{r:R2}(hg:∀ x y d,g x y=some d->∃ v,y5e d=some v/\∀ H w o o' q q' u u' F F',Rep K H w o q x u F->Rep K H w o' q' y u' F'->WL K w H->∀ Q:VK,Q v H->r u u' H Q) :
  ∀ σ H Q,tD K (e2 g fa fb) σ H Q->tOp r (tD K fa) (tD K fb) σ H Q:=fun σ H Q hh0=>by
 obtain⟨ρ,w,t,r',q,ρ',gd,ee,k⟩:=hh0
 obtain⟨x,q1,ρ1,y,q2,h1,h2,h3,rfl⟩:=j3k ee
 obtain⟨v,hv,hr⟩:=hg x y r' h3
 exact j1s gd h1 h2 fun u u' H2 w2 F1 F2 g2 go r1 r2=>hr H2 w2 _ _ _ _ u u' F1 F2 r1 r2 g2.wl Q (j2l k gd g2 go (y66 hv))
@[simp] def gI (f:Int->Int->Option D):D->D->Option D
 | .int i,.int j=>f i j
 | _,_=>none
theorem y31 {f:Int->Int->Option D}{x y d:D}(h:gI f x y=some d):∃ i j,x=.int i/\y=.int j/\f i j=some d:=by
 unfold gI at h
 split at h
 ·exact⟨_,_,rfl,rfl,h⟩
 ·cases h
theorem x4t {K:PySem.W.Frag}{H:Hp}{w:Wn}{o:Ow}{q:Nat}{i:Int}{v:V}{F:List Addr}(r:Rep K H w o q (.int i) v F):v=.int i:=by cases r;rfl
theorem z09 {K:PySem.W.Frag}{f:Int->Int->Option D}{C:Int->Int->Prop}{h:Int->Int->V}(hf:∀ i j d,f i j=some d->C i j/\y5e d=some (h i j)) :
  ∀ σ H Q,tD K (e2 (gI f) fa fb) σ H Q->tOp (rI C h) (tD K fa) (tD K fb) σ H Q:=
 y2y fun x y d e=>by
  obtain⟨i,j,rfl,rfl,e⟩:=y31 e
  obtain⟨c,s⟩:=hf i j d e
  exact⟨_,s,fun H w o o' q q' u u' F F' r1 r2 _ Q hq=>⟨i,j,x4t r1,x4t r2,c,hq⟩⟩
theorem y5g {K:PySem.W.Frag}{f:Int->Int->Option D}{h:Int->Int->V}(hf:∀ i j d,f i j=some d->y5e d=some (h i j)) :
  ∀ σ H Q,tD K (e2 (gI f) fa fb) σ H Q->tOp (rI0 h) (tD K fa) (tD K fb) σ H Q:=
 y2y fun x y d e=>by
  obtain⟨i,j,rfl,rfl,e⟩:=y31 e
  exact⟨_,hf i j d e,fun H w o o' q q' u u' F F' r1 r2 _ Q hq=>⟨i,j,x4t r1,x4t r2,hq⟩⟩
@[simp] def x3f:D->D->Option D:=gI fun i j=>some (.int (i+j))
@[simp] def y5f:D->D->Option D:=gI fun i j=>if(-(2 ^ 64)<i/\i<2 ^ 64)\/(-(2 ^ 64)<j/\j<2 ^ 64)then some (.int (i*j))else none
@[simp] def j69:D->D->Option D:=gI fun i j=>if 0<j/\j<1073741824 then some (.int (i / j))else none
@[simp] def z9f:D->D->Option D:=gI fun i j=>if 0<j then some (.int (i % j))else none
theorem j4d (ha:PD X a fa)(hb:PD X b fb):PD X (.BinOp a .Add b pos) (e2 x3f fa fb):=PE.imp (y89 j5d ha hb) (y5g fun i j d h=>by cases h;rfl)
theorem j4q (ha:PD X a fa)(hb:PD X b fb):PD X (.BinOp a .Mult b pos) (e2 y5f fa fb):=PE.imp (y89 j5s ha hb) (z09 fun i j d h=>by
 split at h
 ·cases h;exact⟨by assumption,rfl⟩
 ·cases h)
theorem j5x (ha:PD X a fa)(hb:PD X b fb):PD X (.BinOp a .FloorDiv b pos) (e2 j69 fa fb):=PE.imp (y89 j08 ha hb) (z09 fun i j d h=>by
 split at h
 ·cases h;exact⟨by assumption,rfl⟩
 ·cases h)
theorem j3s (ha:PD X a fa)(hb:PD X b fb):PD X (.BinOp a .Mod b pos) (e2 z9f fa fb):=PE.imp (y89 j4r ha hb) (z09 fun i j d h=>by
 split at h
 ·cases h;exact⟨by assumption,rfl⟩
 ·cases h)
def atD:D->Int->Option D
 | .lst ds,i=>atI ds i
 | .tup ds,i=>atI ds i
 | _,_=>none
@[simp] def eIx (fa fb:Den):Den:=fun ρ=>match fa ρ with
 | some (x,_,ρ1)=>match fb ρ1 with
  | some (.int i,_,ρ2)=>match atD x i with
   | some d=>some (d,x20 d,ρ2)
   | none=>none
  | _=>none
 | none=>none
theorem Rep.seqL {K:PySem.W.Frag}{H:Hp}{w:Wn}{o:Ow}{q:Nat}{ds:List D}{v:V}{F:List Addr}(r:Rep K H w o q (.lst ds) v F):∃ a vs q' G,v=.ref a/\SqL K H a vs/\Reps K H w o q' ds vs G:=by
 cases r with
 | kl h r=>exact⟨_,_,_,_,rfl,h.sq,r⟩
 | shr h n r=>exact⟨_,_,_,_,rfl,.inl h,r⟩
 | own h n r _=>exact⟨_,_,_,_,rfl,SqL.of h,r⟩
theorem Rep.seqL0 {K:PySem.W.Frag}{H:Hp}{w:Wn}{o:Ow}{ds:List D}{v:V}{F:List Addr}(r:Rep K H w o 0 (.lst ds) v F):∃ a vs,v=.ref a/\SqL K H a vs/\Reps K H w o 0 ds vs []:=by
 cases r with
 | kl h r=>exact⟨_,_,rfl,h.sq,r⟩
 | shr h n r=>exact⟨_,_,rfl,.inl h,r⟩
theorem Rep.seqT {K:PySem.W.Frag}{H:Hp}{w:Wn}{o:Ow}{q:Nat}{ds:List D}{v:V}{F:List Addr}(r:Rep K H w o q (.tup ds) v F):∃ a vs,v=.ref a/\SqT K H a vs/\Reps K H w o 0 ds vs []:=by
 cases r with
 | tup h r=>exact⟨_,_,rfl,SqT.of h,r⟩
theorem Rep.tupAt {K:PySem.W.Frag}{H:Hp}{w:Wn}{o:Ow}{q:Nat}{ds:List D}{v:V}{F:List Addr}(r:Rep K H w o q (.tup ds) v F):∃ a vs,v=.ref a/\H a=some (.tup vs)/\Reps K H w o 0 ds vs []:=by
 cases r with
 | tup h r=>exact⟨_,_,rfl,h,r⟩
theorem Reps.atI {K:PySem.W.Frag}{H:Hp}{w:Wn}{o:Ow}{ds:List D}{vs:List V}{i:Int}{d:D}(r:Reps K H w o 0 ds vs [])(h:L2.atI ds i=some d):∃ v,L2.atI vs i=some v/\Rep K H w o 0 d v []:=by
 unfold L2.atI at h ⊢
 rw[<- r.length]
 cases e:ixN ds.length i with
 | none=>rw[e]at h;cases h
 | some j=>
  rw[e]at h
  exact r.get h
theorem j8s (ha:PD X a fa)(hb:PD X b fb)(hs:x5i b:=by exact fun _ _=>rfl):PD X (.Subscript a b pos) (eIx fa fb):=PE.imp (z5h y84 ha hb hs) fun σ H Q hh0=>by
 obtain⟨ρ,w,t,r',q,ρ',gd,ee,k⟩:=hh0
 unfold eIx at ee
 split at ee
 ·rename_i x q1 ρ1 h1
  split at ee
  ·rename_i i q2 ρ2 h2
   split at ee
   ·rename_i d hd
    cases ee
    refine j1s gd h1 h2 fun u u' H2 w2 F1 F2 g2 go r1 r2=>?_
    have hu':=x4t r2
    subst hu'
    have r0:=r1.drop (o:=.t t) (Nat.le_refl t)
    cases x with
    | lst ds=>
     obtain⟨p,vs,rfl,hq,rs⟩:=r0.seqL0
     obtain⟨v,hv,rv⟩:=rs.atI hd
     exact .inl ⟨p,vs,i,v,rfl,rfl,hq,hv,j2l k gd g2 go rv.dep⟩
    | tup ds=>
     obtain⟨p,vs,rfl,hq,rs⟩:=r0.seqT
     obtain⟨v,hv,rv⟩:=rs.atI hd
     exact .inr (.inl ⟨p,vs,i,v,rfl,rfl,hq,hv,j2l k gd g2 go rv.dep⟩)
    | _=>cases hd
   ·cases ee
  ·cases ee
 ·cases ee
abbrev x1v:=Rho->Option (List D×Rho)
def tDA (K:PySem.W.Frag)(f:x1v):TA:=fun σ H Q=>∃ ρ w t ds ρ',Good K ρ σ H w t/\f ρ=some (ds,ρ')/\∀ vs H' w',Good K ρ' σ H' w' t->Go H w H' w'->Reps K H' w' .f 0 ds vs []->Q vs H'
abbrev PDA (X:Cx)(es:List Expr)(f:x1v):Prop:=PA X es (tDA X.K f)
theorem PA.imp {X:Cx}{e:List Expr}{t t':TA}(h:PA X e t)(i:∀ σ H Q,t' σ H Q->t σ H Q):PA X e t':=fun pos pins s σ H Q I q=>h pos pins s σ H Q I (i σ H Q q)
@[simp] def x0g:x1v:=fun ρ=>some ([],ρ)
@[simp] def x01 (f:Den)(g:x1v):x1v:=fun ρ=>match f ρ with
 | some (d,_,ρ1)=>match g ρ1 with
  | some (ds,ρ2)=>some (d::ds,ρ2)
  | none=>none
 | none=>none
theorem j1c:PDA X [] x0g:=PA.imp x71 fun σ H Q hh0=>by
 obtain⟨ρ,w,t,ds,ρ',gd,ee,k⟩:=hh0
 cases ee
 exact k [] H w gd Go.refl .nil
theorem z6s {es:List Expr}{g:x1v}(ha:PD X e f)(hr:PDA X es g)(hs:starEach (e::es) X.env=(false,eval e X.env)::starEach es X.env:=by rfl):PDA X (e::es) (x01 f g):=PA.imp (x3v ha hr hs) fun σ H Q hh0=>by
 obtain⟨ρ,w,t,ds,ρ',gd,ee,k⟩:=hh0
 unfold x01 at ee
 split at ee
 ·rename_i d q ρ1 h1
  split at ee
  ·rename_i ds' ρ2 h2
   cases ee
   refine⟨ρ,w,t,d,q,ρ1,gd,h1,fun x H1 w1 F1 g1 go1 r1=>⟨ρ1,x2b t w1,t,ds',_,g1.drop,h2,fun vs H2 w2 g2 go2 r2=>?_⟩⟩
   have gl:=(g1.drop (t':=t)).wl
   have r0:Rep X.K H2 w2 .f 0 d x []:=Rep.go gl go2.stab (r1.drop (o:=.f) (Nat.le_refl t)) (fun _ z=>nomatch z)
   exact k (x::vs) H2 w2 g2 ((go1.drop gd.wt).trans go2) (.cons (F:=[]) (G:=[]) r0 r2 (fun _ z=>nomatch z))
  ·cases ee
 ·cases ee
@[simp] def x6q (g:x1v):Den:=fun ρ=>match g ρ with
 | some (ds,ρ1)=>if ds.length<=1000 then some (.lst ds,1,ρ1)else none
 | none=>none
@[simp] def x6z (g:x1v):Den:=fun ρ=>match g ρ with
 | some (ds,ρ1)=>if ds.length<=1000 then some (.tup ds,9,ρ1)else none
 | none=>none
theorem y1c {n:Nat}(h:n<=1000):n<=sizeLine:=Nat.le_of_lt (x4a h)
theorem j45 {es:List Expr}{g:x1v}(h:PDA X es g):PD X (.List es pos) (x6q g):=PE.imp (j4u h) fun σ H Q hh0=>by
 obtain⟨ρ,w,t,r',q,ρ',gd,ee,k⟩:=hh0
 unfold x6q at ee
 split at ee
 ·rename_i ds ρ1 h1
  split at ee
  ·rename_i hl
   cases ee
   refine⟨ρ,w,t,ds,_,gd,h1,fun vs H1 w1 g1 go1 r1=>⟨by rw[<- r1.length];exact y1c hl,fun p hp=>?_⟩⟩
   obtain⟨a1,a2,a3⟩:=y7x g1 hp r1
   exact k _ _ _ _ a1 (go1.trans a2) a3
  ·cases ee
 ·cases ee
theorem j4w {es:List Expr}{g:x1v}{x1}(h:PDA X es g):PD X (.Tuple es x1 pos) (x6z g):=PE.imp (j6f h) fun σ H Q hh0=>by
 obtain⟨ρ,w,t,r',q,ρ',gd,ee,k⟩:=hh0
 unfold x6z at ee
 split at ee
 ·rename_i ds ρ1 h1
  split at ee
  ·rename_i hl
   cases ee
   refine⟨ρ,w,t,ds,_,gd,h1,fun vs H1 w1 g1 go1 r1=>⟨by rw[<- r1.length];exact y1c hl,fun p hp=>?_⟩⟩
   obtain⟨a1,a2,a3⟩:=y4o g1 hp r1
   exact k _ _ _ _ a1 (go1.trans a2) a3
  ·cases ee
 ·cases ee
def spD (K:PySem.W.Frag)(n:Nat)(F:List D->OD):Sp:=fun vs H Q _=>vs.length=n/\∃ ds w r q,(∀ a o,w a=some o->o=.f)/\WL K w H/\Reps K H w .f 0 ds vs []/\F ds=some (r,q) /\
 ∀ v H' w' Fo,Go H w H' w'->WL K w' H'->Rep K H' w' (.t 0) q r v Fo->Q v H'
@[simp] def x0m (F:List D->OD)(n:Nat)(g:x1v):Den:=fun ρ=>match g ρ with
 | some (ds,ρ1)=>if ds.length=n then match F ds with
  | some (r,q)=>some (r,q,ρ1)
  | none=>none
  else none
 | none=>none
theorem j9z {K:PySem.W.Frag}{ρ:Rho}{σ:St}{H H':Hp}{w w':Wn}{t q:Nat}{d:D}{v:V}{Fo:List Addr}(g:Good K ρ σ H w t)
  (go:Go H (fun a=>(w a).map fun _=>Ow.f) H' w') (wl':WL K w' H') (r:Rep K H' w' (.t 0) q d v Fo) :
  Good K ρ σ H' (fun a=>if a∈Fo then some (.t t)else w a) (t+1)/\Go H w H' (fun a=>if a∈Fo then some (.t t)else w a)/\Rep K H' (fun a=>if a∈Fo then some (.t t)else w a) (.t t) q d v Fo:=by
 have kf:∀ a o,w a=some o->H' a=H a/\w' a=some .f:=fun a o e=>go.keep a .f (by show(w a).map _=_;rw[e];rfl) (fun _ z=>nomatch z)
 have nf:∀ a x,H a=some x->a ∉ Fo:=fun a x e m=>by
  have h1:=r.owns a m
  cases ew:w a with
  | none=>
   have:=(go.stab a x e (by show(w a).map _=_;rw[ew];rfl)).2
   rw[h1]at this;cases this
  | some o=>rw[(kf a o ew).2]at h1;cases h1
 have nw:∀ a o,w a=some o->a ∉ Fo:=fun a o e=>by obtain⟨vs,q⟩:=g.wl a o e;exact nf a _ q
 have st:x8d H w H' (fun a=>if a∈Fo then some (.t t)else w a):=fun a x e n=>⟨(go.stab a x e (by show(w a).map _=_;rw[n];rfl)).1,by show(if a∈Fo then _ else _)=_;rw[if_neg (nf a x e)];exact n⟩
 have wv:∀ a o,(if a∈Fo then some (Ow.t t)else w a)=some o->(a∈Fo/\o=.t t)\/w a=some o:=fun a o e=>by
  split at e
  ·cases e;exact .inl ⟨by assumption,rfl⟩
  ·exact .inr e
 refine⟨⟨⟨fun a o e=>?_,wl'.tb⟩,fun a i e=>?_,fun a i e=>?_,g.len,fun i d q e=>?_⟩,⟨st,fun a o e _=>⟨(kf a o e).1,by show(if a∈Fo then _ else _)=_;rw[if_neg (nw a o e)];exact e⟩⟩,?_⟩
 ·rcases wv a o e with⟨m,_⟩|z
  ·exact wl' a _ (r.owns a m)
  ·obtain⟨vs,h⟩:=g.wl a o z
   exact⟨vs,(kf a o z).1.trans h⟩
 ·rcases wv a _ e with⟨_,z⟩|z
  ·cases z
  ·exact g.ws a i z
 ·rcases wv a _ e with⟨_,z⟩|z
  ·cases z;exact Nat.lt_succ_self _
  ·exact Nat.lt_succ_of_lt (g.wt a i z)
 ·obtain⟨v,F,h1,h2⟩:=g.slot i d q e
  refine⟨v,F,h1,Rep.go g.wl st h2 fun a m=>⟨(kf a _ (h2.owns a m)).1,?_⟩⟩
  show(if a∈Fo then _ else _)=_
  rw[if_neg (nw a _ (h2.owns a m))]
  exact h2.owns a m
 ·refine Rep.go wl' (fun a x e n=>⟨sm e,?_⟩) r fun a m=>⟨rfl,if_pos m⟩
  show(if a∈Fo then _ else _)=_
  rw[if_neg (fun m=>by have:=r.owns a m;rw[n]at this;cases this)]
  cases ew:w a with
  | none=>rfl
  | some o=>have:=(kf a o ew).2;rw[n]at this;cases this
theorem z95 {CX:CXT}{k n:Nat}{fn:Addr}{fd:FuncData}{ps:List Str}{x:Str}{p:Pos}{es:List Expr}{F:List D->OD}{g:x1v}{E:XK}(Fk:FnOk X.prog X.w X.K X.mg X.base CX k fn fd ps (spD X.K n F))(hr:Room k X.A)(hm:X.mg x=some (.ref fn))(hk:PySem.W.keepIn X.K (.ref fn)=true)(hb:y6c X.K fd ps [])
  (hx:z1e CX X E) (ha:PDA X (e::es) g) (hg:Gl X x:=by rfl) (hdb:(x==("__debug__":Str))=false:=by decide) (he:starEach (e::es) X.env=(false,eval e X.env)::starEach es X.env:=by rfl) (hpl:(backTo pos (starEach es X.env)).any (·.1)=false:=by rfl) :
  PD X (.Call (.Name x p) (e::es) [] pos) (x0m F n g):=PE.imp (z4p Fk hr hg hm hk hb .nil hx ha hdb he hpl) fun σ H Q hh0=>by
 obtain⟨ρ,w,t,r',q,ρ',gd,ee,k⟩:=hh0
 unfold x0m at ee
 split at ee
 ·rename_i ds ρ1 h1
  split at ee
  ·rename_i hn
   split at ee
   ·rename_i r0 q0 h2
    cases ee
    refine⟨ρ,w,t,ds,_,gd,h1,fun vs H1 w1 g1 go1 r1=>?_⟩
    show spD X.K n F (vs++[]) H1 Q E
    rw[List.append_nil]
    refine⟨by rw[<- r1.length];exact hn,ds,fun a=>(w1 a).map fun _=>Ow.f,r',q,fun a o e=>?_,⟨fun a o e=>?_,g1.wl.tb⟩,?_,h2,fun v H2 w2 Fo go2 wl2 rr=>?_⟩
    ·dsimp only at e
     cases ew:w1 a with
     | none=>rw[ew]at e;cases e
     | some o'=>rw[ew]at e;cases e;rfl
    ·try dsimp only at e
     cases ew:w1 a with
     | none=>rw[ew]at e;cases e
     | some o'=>exact g1.wl a o' ew
    ·exact Reps.freeze (fun a n=>by show(w1 a).map _=_;rw[n];rfl) r1 (fun _ z=>nomatch z)
    ·obtain⟨b1,b2,b3⟩:=j9z g1 go2 wl2 rr
     exact k _ _ _ _ b1 (go1.trans b2) b3
   ·cases ee
  ·cases ee
 ·cases ee
end
abbrev x23:=Rho->Option (Bool×Rho)
def tDT (K:PySem.W.Frag)(f:x23):TT:=fun σ H Q=>∃ ρ w t b ρ',Good K ρ σ H w t/\f ρ=some (b,ρ')/\∀ H' w',Good K ρ' σ H' w' t->Go H w H' w'->Q b H'
theorem PT.imp {X:Cx}{e:Expr}{t t':TT}(h:PT X e t)(i:∀ σ H Q,t' σ H Q->t σ H Q):PT X e t':=fun pins s σ H Q I q=>h pins s σ H Q I (i σ H Q q)
theorem PW.imp {X:Cx}{e:Expr}{t t':TT}(h:PW X e t)(i:∀ σ H Q,t' σ H Q->t σ H Q):PW X e t':=fun whole pins s σ H Q I q=>h whole pins s σ H Q I (i σ H Q q)
abbrev PDT (X:Cx)(e:Expr)(f:x23):Prop:=PT X e (tDT X.K f)
abbrev PDW (X:Cx)(e:Expr)(f:x23):Prop:=PW X e (tDT X.K f)
@[simp] def k0b:D->Option Bool
 | .non=>some false
 | .bl b=>some b
 | .int i=>some (i != 0)
 | .tup ds=>some (!ds.isEmpty)
 | .lst ds=>some (!ds.isEmpty)
 | .str _=>none
 | .dic _ _=>none
 | .exc _=>none
 | .ob _ _ _ _=>none
@[simp] def x76 (f:Den):x23:=fun ρ=>match f ρ with
 | some (d,_,ρ1)=>match k0b d with
  | some b=>some (b,ρ1)
  | none=>none
 | none=>none
section
variable {X:Cx}{a b c e:Expr}{fa fb fc f:Den}{ga gb gc:x23}{pos:Pos}
theorem y26 {α β:Type}{l:List α}{l':List β}(h:l.length=l'.length):(!l.isEmpty) = !l'.isEmpty:=by
 cases l<;>cases l'<;>first|rfl|cases h
theorem j2n (ha:PD X a fa)(he:∀ whole,isTrue a X.env whole=(do let v <- whole;standAt a.pos;holding [v] (truthy v)):=by exact fun _=>rfl):PDT X a (x76 fa):=PT.imp (z8f ha he) fun σ H Q hh0=>by
 obtain⟨ρ,w,t,b,ρ',gd,ee,k⟩:=hh0
 unfold x76 at ee
 split at ee
 ·rename_i d q ρ1 h1
  split at ee
  ·rename_i b' hb
   cases ee
   refine⟨ρ,w,t,d,q,_,gd,h1,fun v H1 w1 F g1 go1 r1=>⟨b,?_,k H1 (x2b t w1) g1.drop (go1.drop gd.wt)⟩⟩
   cases r1 with
   | non=>cases hb;rfl
   | bl x=>cases hb;rfl
   | int i=>cases hb;rfl
   | str x=>cases hb
   | tup h r=>cases hb;exact .inr (.inl ⟨_,SqT.of h,y26 r.length⟩)
   | dic h r=>cases hb
   | exc h x n=>cases hb
   | ob h1 h2 x r=>cases hb
   | kl h r=>cases hb;exact .inl ⟨_,h.sq,y26 r.length⟩
   | shr h _ r=>cases hb;exact .inl ⟨_,.inl h,y26 r.length⟩
   | own h _ r _=>cases hb;exact .inl ⟨_,SqL.of h,y26 r.length⟩
  ·cases ee
 ·cases ee
@[simp] def x3c (f:Den):x23:=fun ρ=>match f ρ with
 | some (.bl b,_,ρ1)=>some (b,ρ1)
 | _=>none
theorem z62 {K:PySem.W.Frag}{te:TE}(h:∀ σ H Q,tD K f σ H Q->te σ H Q):∀ σ H Q,tDT K (x3c f) σ H Q->j3v te σ H Q:=fun σ H Q hh0=>by
 obtain⟨ρ,w,t,b,ρ',gd,ee,k⟩:=hh0
 unfold x3c at ee
 split at ee
 ·rename_i b' q ρ1 h1
  cases ee
  refine h σ H _ ⟨ρ,w,t,.bl b,q,_,gd,h1,fun v H1 w1 F g1 go1 r1=>?_⟩
  cases r1
  exact⟨b,rfl,k H1 (x2b t w1) g1.drop (go1.drop gd.wt)⟩
 ·cases ee
theorem x92 {op:CmpOp}{g:D->D->Option D}{r:R2}(ho:OpR X (compareOp op) r)(hr:∀ σ H Q,tD X.K (e2 g fa fb) σ H Q->tOp r (tD X.K fa) (tD X.K fb) σ H Q)(ha:PD X a fa)(hb:PD X b fb)(hm:behindInMarks op b=false) :
  PDT X (.Compare a [op] [b] pos) (x3c (e2 g fa fb)):=PT.imp (j0i ho ha hb hm) (z62 hr)
theorem j6v {op:CmpOp}{g:D->D->Option D}{r:R2}(ho:OpR X (compareOp op) r)(hr:∀ σ H Q,tD X.K (e2 g fa fb) σ H Q->tOp r (tD X.K fa) (tD X.K fb) σ H Q)(ha:PD X a fa)(hb:PD X b fb)(hm:behindInMarks op b=false) :
  PD X (.Compare a [op] [b] pos) (e2 g fa fb):=PE.imp (j1e ho ha hb hm) hr
@[simp] def dLt:D->D->Option D:=gI fun i j=>some (.bl (decide (i<j)))
@[simp] def dLe:D->D->Option D:=gI fun i j=>some (.bl (decide (i<=j)))
@[simp] def dGt:D->D->Option D:=gI fun i j=>some (.bl (decide (j<i)))
theorem hLt {K:PySem.W.Frag}:∀ σ H Q,tD K (e2 dLt fa fb) σ H Q->tOp (rI0 fun i j=>.bl (decide (i<j))) (tD K fa) (tD K fb) σ H Q:=y5g fun i j d h=>by cases h;rfl
theorem hGt {K:PySem.W.Frag}:∀ σ H Q,tD K (e2 dGt fa fb) σ H Q->tOp (rI0 fun i j=>.bl (decide (j<i))) (tD K fa) (tD K fb) σ H Q:=y5g fun i j d h=>by cases h;rfl
theorem j6w (ha:PD X a fa)(hb:PD X b fb):PDT X (.Compare a [.Lt] [b] pos) (x3c (e2 dLt fa fb)):=x92 j40 hLt ha hb (y2m _)
theorem j4y (ha:PD X a fa)(hb:PD X b fb):PDT X (.Compare a [.Gt] [b] pos) (x3c (e2 dGt fa fb)):=x92 j81 hGt ha hb (y2m _)
@[simp] def x43 (g:x23):x23:=fun ρ=>match g ρ with
 | some (b,ρ1)=>some (!b,ρ1)
 | none=>none
theorem j2j (ha:PDT X a ga):PDT X (.UnaryOp .Not a pos) (x43 ga):=PT.imp (j55 ha) fun σ H Q hh0=>by
 obtain⟨ρ,w,t,b,ρ',gd,ee,k⟩:=hh0
 unfold x43 at ee
 split at ee
 ·rename_i b' ρ1 h1
  cases ee
  exact⟨ρ,w,t,b',_,gd,h1,fun H1 w1 g1 go1=>k H1 w1 g1 go1⟩
 ·cases ee
@[simp] def y2q (g h:x23):x23:=fun ρ=>match g ρ with
 | some (b,ρ1)=>if b=true then h ρ1 else some (false,ρ1)
 | none=>none
@[simp] def y8i (g h:x23):x23:=fun ρ=>match g ρ with
 | some (b,ρ1)=>if b=true then some (true,ρ1)else h ρ1
 | none=>none
variable {x2j:List Expr}
theorem z65 (ha:PDT X a ga):PDW X (.BoolOp .And [a] pos) ga:=j1m ha
theorem j0d (ha:PDT X a ga):PDW X (.BoolOp .Or [a] pos) ga:=j76 ha
theorem j2p (ha:PDT X a ga)(hb:PDW X (.BoolOp .And (b::x2j) pos) gb):PDW X (.BoolOp .And (a::b::x2j) pos) (y2q ga gb):=PW.imp (j48 ha hb) fun σ H Q hh0=>by
 obtain⟨ρ,w,t,b,ρ',gd,ee,k⟩:=hh0
 unfold y2q at ee
 split at ee
 ·rename_i b' ρ1 h1
  refine⟨ρ,w,t,b',ρ1,gd,h1,fun H1 w1 g1 go1=>?_⟩
  split at ee
  ·rename_i hb;rw[if_pos hb]
   exact⟨ρ1,w1,t,b,ρ',g1,ee,fun H2 w2 g2 go2=>k H2 w2 g2 (go1.trans go2)⟩
  ·rename_i hb;rw[if_neg hb]
   cases ee
   exact k H1 w1 g1 go1
 ·cases ee
theorem j5o (ha:PDT X a ga)(hb:PDW X (.BoolOp .Or (b::x2j) pos) gb):PDW X (.BoolOp .Or (a::b::x2j) pos) (y8i ga gb):=PW.imp (j8g ha hb) fun σ H Q hh0=>by
 obtain⟨ρ,w,t,b,ρ',gd,ee,k⟩:=hh0
 unfold y8i at ee
 split at ee
 ·rename_i b' ρ1 h1
  refine⟨ρ,w,t,b',ρ1,gd,h1,fun H1 w1 g1 go1=>?_⟩
  split at ee
  ·rename_i hb;rw[if_pos hb]
   cases ee
   exact k H1 w1 g1 go1
  ·rename_i hb;rw[if_neg hb]
   exact⟨ρ1,w1,t,b,ρ',g1,ee,fun H2 w2 g2 go2=>k H2 w2 g2 (go1.trans go2)⟩
 ·cases ee
@[simp] def eIf (g:x23)(fa fb:Den):Den:=fun ρ=>match g ρ with
 | some (b,ρ1)=>if b=true then fa ρ1 else fb ρ1
 | none=>none
theorem z7w (hc:PDT X c gc)(ha:PD X a fa)(hb:PD X b fb):PD X (.IfExp c a b pos) (eIf gc fa fb):=PE.imp (z8q hc ha hb) fun σ H Q hh0=>by
 obtain⟨ρ,w,t,r',q,ρ',gd,ee,k⟩:=hh0
 unfold eIf at ee
 split at ee
 ·rename_i b' ρ1 h1
  refine⟨ρ,w,t,b',ρ1,gd,h1,fun H1 w1 g1 go1=>?_⟩
  split at ee
  ·rename_i hb;rw[if_pos hb]
   exact⟨ρ1,w1,t,r',q,ρ',g1,ee,fun v H2 w2 F g2 go2=>k v H2 w2 F g2 (go1.trans go2)⟩
  ·rename_i hb;rw[if_neg hb]
   exact⟨ρ1,w1,t,r',q,ρ',g1,ee,fun v H2 w2 F g2 go2=>k v H2 w2 F g2 (go1.trans go2)⟩
 ·cases ee
end
inductive Out where
 | nx (ρ:Rho)|rt (d:D) (q:Nat)|bk (ρ:Rho)|ct (ρ:Rho)
abbrev x1a:=Rho->Option Out
def y47 (K:PySem.W.Frag)(Dn:Ends)(n:Nat)(H:Hp)(w:Wn):Out->Prop
 | .nx ρ'=>∀ σ' H' w',σ'.length=n->Good K ρ' σ' H' w' 0->Go H w H' w'->Dn.nx σ' H'
 | .bk ρ'=>∀ σ' H' w',σ'.length=n->Good K ρ' σ' H' w' 0->Go H w H' w'->Dn.bk σ' H'
 | .ct ρ'=>∀ σ' H' w',σ'.length=n->Good K ρ' σ' H' w' 0->Go H w H' w'->Dn.ct σ' H'
 | .rt d q=>∀ v H' w' F,WL K w' H'->Go H w H' w'->Rep K H' w' (.t 0) q d v F->Dn.rt v H'
def tDS (K:PySem.W.Frag)(f:x1a):TS:=fun Dn σ H=>∃ ρ w o,Good K ρ σ H w 0/\f ρ=some o/\y47 K Dn σ.length H w o
theorem PS.imp {X:Cx}{e:Stmt}{t t':TS}(h:PS X e t)(i:∀ D σ H,t' D σ H->t D σ H):PS X e t':=fun pins s σ H D I q=>h pins s σ H D I (i D σ H q)
theorem PSs.imp {X:Cx}{e:List Stmt}{t t':TS}(h:PSs X e t)(i:∀ D σ H,t' D σ H->t D σ H):PSs X e t':=fun pins s σ H D I q=>h pins s σ H D I (i D σ H q)
abbrev PDS (X:Cx)(st:Stmt)(f:x1a):Prop:=PS X st (tDS X.K f)
abbrev z2j (X:Cx)(st:List Stmt)(f:x1a):Prop:=PSs X st (tDS X.K f)
@[simp] def x53:x1a:=fun ρ=>some (.nx ρ)
@[simp] def x14 (f g:x1a):x1a:=fun ρ=>match f ρ with
 | some (.nx ρ1)=>g ρ1
 | o=>o
theorem y47.trans {K:PySem.W.Frag}{Dn:Ends}{n:Nat}{H H1:Hp}{w w1:Wn}(go:Go H w H1 w1):∀ {o:Out},y47 K Dn n H w o->y47 K Dn n H1 w1 o
 | .nx _,h=>fun σ' H' w' e g go'=>h σ' H' w' e g (go.trans go')
 | .bk _,h=>fun σ' H' w' e g go'=>h σ' H' w' e g (go.trans go')
 | .ct _,h=>fun σ' H' w' e g go'=>h σ' H' w' e g (go.trans go')
 | .rt _ _,h=>fun v H' w' F wl go'=>h v H' w' F wl (go.trans go')
section
variable {X:Cx}{a b c e:Expr}{fa fb fc f:Den}{ga gb gc:x23}{pos:Pos}{st:Stmt}{x2j sa sb:List Stmt}{s s':x1a}
theorem j2r:z2j X [] x53:=PSs.imp j1x fun D σ H hh0=>by
 obtain⟨ρ,w,o,g,ee,k⟩:=hh0
 cases ee
 exact k σ H w rfl g Go.refl
theorem z8l (h1:PDS X st s)(h2:z2j X x2j s'):z2j X (st::x2j) (x14 s s'):=PSs.imp (z7k h1 h2) fun D σ H hh0=>by
 obtain⟨ρ,w,o,g,ee,k⟩:=hh0
 unfold x14 at ee
 split at ee
 ·rename_i ρ1 h1
  exact⟨ρ,w,.nx ρ1,g,h1,fun σ' H' w' e g' go'=>⟨ρ1,w',o,g',ee,by rw[e];exact k.trans go'⟩⟩
 ·rename_i hne
  refine⟨ρ,w,o,g,ee,?_⟩
  cases o with
  | nx ρ1=>exact absurd ee (hne ρ1)
  | bk ρ1=>exact k
  | ct ρ1=>exact k
  | rt d q=>exact k
theorem j14 (h1:PDS X st s):z2j X [st] s:=z4k h1
@[simp] def x21 (f:Den):x1a:=fun ρ=>match f ρ with
 | some (d,q,_)=>some (.rt d q)
 | none=>none
theorem j34 (h:PD X e f):PDS X (.Return (some e) pos) (x21 f):=PS.imp (j6l h) fun D σ H hh0=>by
 obtain⟨ρ,w,o,g,ee,k⟩:=hh0
 unfold x21 at ee
 split at ee
 ·rename_i d q ρ1 h1
  cases ee
  exact⟨ρ,w,0,d,q,ρ1,g,h1,fun v H' w' F g' go' r=>k v H' w' F g'.wl go' r⟩
 ·cases ee
@[simp] def sIf (g:x23)(s s':x1a):x1a:=fun ρ=>match g ρ with
 | some (b,ρ1)=>if b=true then s ρ1 else s' ρ1
 | none=>none
theorem j4h (hc:PDT X c gc)(ha:z2j X sa s)(hb:z2j X sb s'):PDS X (.If c sa sb pos) (sIf gc s s'):=PS.imp (j4j hc ha hb) fun D σ H hh0=>by
 obtain⟨ρ,w,o,g,ee,k⟩:=hh0
 unfold sIf at ee
 split at ee
 ·rename_i b' ρ1 h1
  refine⟨ρ,w,0,b',ρ1,g,h1,fun H1 w1 g1 go1=>?_⟩
  split at ee
  ·rename_i hb;rw[if_pos hb]
   exact⟨ρ1,w1,o,g1,ee,k.trans go1⟩
  ·rename_i hb;rw[if_neg hb]
   exact⟨ρ1,w1,o,g1,ee,k.trans go1⟩
 ·cases ee
def y0u (t i:Nat)(w:Wn):Wn:=fun a=>if w a=some (.t t)then some (.s i)else if w a=some (.s i)then none else w a
theorem Good.set {K:PySem.W.Frag}{ρ:Rho}{σ:St}{H:Hp}{w:Wn}{i q:Nat}{d:D}{v:V}{F:List Addr}(g:Good K ρ σ H w 1)(hi:i<σ.length)(r:Rep K H w (.t 0) q d v F) :
  Good K (ρ.set i (some (d,q))) (σ.set i (some v)) H (y0u 0 i w) 0/\∀ H₀ w₀,Go H₀ w₀ H w->(∀ a j,w₀ a=some (.t j)->j<0)->Go H₀ w₀ H (y0u 0 i w):=by
 have mN:∀ a,w a=none->y0u 0 i w a=none:=fun a e=>by unfold y0u;rw[e];rfl
 have mT:∀ a,w a=some (.t 0)->y0u 0 i w a=some (.s i):=fun a e=>by unfold y0u;rw[if_pos e]
 have mS:∀ a j,w a=some (.s j)->j≠i->y0u 0 i w a=some (.s j):=fun a j e n=>by
  unfold y0u
  rw[if_neg (by rw[e];exact fun z=>nomatch z),if_neg (by rw[e];intro z;cases z;exact n rfl)]
  exact e
 have mF:∀ a,w a=some .f->y0u 0 i w a=some .f:=fun a e=>by
  unfold y0u
  rw[if_neg (by rw[e];exact fun z=>nomatch z),if_neg (by rw[e];exact fun z=>nomatch z)]
  exact e
 have mI:∀ a o,y0u 0 i w a=some o->(w a=some (.t 0)/\o=.s i)\/(w a=some o/\o ≠ .s i/\o ≠ .t 0):=fun a o e=>by
  unfold y0u at e
  split at e
  ·cases e;exact .inl ⟨by assumption,rfl⟩
  ·rename_i n1
   split at e
   ·cases e
   ·rename_i n2;exact .inr ⟨e,fun z=>n2 (by rw[e,z]),fun z=>n1 (by rw[e,z])⟩
 have st:x8d H w H (y0u 0 i w):=fun a x h n=>⟨sm h,mN a n⟩
 refine⟨⟨⟨fun a o e=>?_,g.wl.tb⟩,fun a j e=>?_,fun a j e=>?_,by rw[List.length_set,List.length_set];exact g.len,fun j d' q' e'=>?_⟩,fun H₀ w₀ go hw=>⟨fun a x h n=>⟨(go.stab a x h n).1,mN a (go.stab a x h n).2⟩,fun a o e n=>?_⟩⟩
 ·rcases mI a o e with⟨z,_⟩|⟨z,_⟩
  ·exact g.wl a _ z
  ·exact g.wl a _ z
 ·rw[List.length_set]
  rcases mI a _ e with⟨_,z⟩|⟨z,_⟩
  ·cases z;exact hi
  ·exact g.ws a j z
 ·rcases mI a _ e with⟨_,z⟩|⟨z,_,n⟩
  ·cases z
  ·have:=g.wt a j z
   have:j=0:=by omega
   subst this
   exact absurd rfl n
 ·by_cases hj:i=j
  ·subst hj
   rw[List.getElem?_set_self (by rw[g.len];exact hi)]at e'
   cases e'
   exact⟨v,F,List.getElem?_set_self hi,Rep.go g.wl st r fun a m=>⟨rfl,mT a (r.owns a m)⟩⟩
  ·rw[List.getElem?_set_ne hj]at e'
   obtain⟨v',F',h1,h2⟩:=g.slot j d' q' e'
   exact⟨v',F',by rw[List.getElem?_set_ne hj];exact h1,Rep.go g.wl st h2 fun a m=>⟨rfl,mS a j (h2.owns a m) (fun z=>hj z.symm)⟩⟩
 ·obtain⟨h1,h2⟩:=go.keep a o e n
  refine⟨h1,?_⟩
  cases o with
  | s j=>exact absurd rfl (n j)
  | f=>exact mF a h2
  | t j=>exact absurd (hw a j e) (Nat.not_lt_zero _)
@[simp] def x25 (i:Nat)(f:Den):x1a:=fun ρ=>match f ρ with
 | some (d,q,ρ1)=>some (.nx (ρ1.set i (some (d,q))))
 | none=>none
theorem z4d {K:PySem.W.Frag}{i:Nat}{D:Ends}{σ:St}{H:Hp}{te:TE}(hi:i<σ.length)(he:∀ Q,tD K f σ H Q->te σ H Q)(h:tDS K (x25 i f) D σ H):te σ H fun x H1=>D.nx (σ.set i (some x)) H1:=by
 obtain⟨ρ,w,o,g,ee,k⟩:=h
 unfold x25 at ee
 split at ee
 ·rename_i d q ρ1 h1
  cases ee
  refine he _ ⟨ρ,w,0,d,q,ρ1,g,h1,fun v H' w' F g' go' r=>?_⟩
  obtain⟨a1,a2⟩:=g'.set hi r
  exact k _ _ _ (by rw[List.length_set]) a1 (a2 _ _ go' g.wt)
 ·cases ee
theorem j20 {i:Nat}{x:Str}{pos':Pos}(hN:X.N.Nodup)(hi:X.N[i]? = some x)(hx:Loc X.env.scope x)(he:PD X e f)(hs:swapsWith e (some (.Name x pos')) pos.line X.env=pure false:=by rfl)(hf:X.fn x=true\/X.env.scope.names.lookup x=some .local:=by first|exact .inl rfl|exact .inr rfl) :
  PDS X (.Assign [.Name x pos'] e pos) (x25 i f):=by
 intro pins s σ H D I h
 have hl:i<σ.length:=by rw[I.len];exact(List.getElem?_eq_some_iff.mp hi).1
 exact z9z (te:=tD X.K f) hN hi hx he hs hf pins s σ H D I (z4d hl (fun _ z=>z) h)
@[simp] def x50 (f:Den):x1a:=fun ρ=>match f ρ with
 | some (_,_,ρ1)=>some (.nx ρ1)
 | none=>none
theorem z8o (he:PD X e f)(hs:swapsWith e none pos.line X.env=pure false:=by rfl):PDS X (.Expr e pos) (x50 f):=PS.imp (z36 he hs) fun D σ H hh0=>by
 obtain⟨ρ,w,o,g,ee,k⟩:=hh0
 unfold x50 at ee
 split at ee
 ·rename_i d q ρ1 h1
  cases ee
  exact⟨ρ,w,0,d,q,ρ1,g,h1,fun v H' w' F g' go' r=>k σ H' (x2b 0 w') rfl g'.drop (go'.drop g.wt)⟩
 ·cases ee
end
structure Mo (K:PySem.W.Frag) (H H':Hp):Prop where
 mo:∀ a o,H a=some o->H' a=some o
 tb:TB K H->TB K H'
theorem Mo.rfl' {K:PySem.W.Frag}{H:Hp}:Mo K H H:=⟨fun _ _ e=>e,fun t=>t⟩
structure ItOk (K:PySem.W.Frag) (J:It) (ds:List D) (P:Hp->Wn->Prop):Prop where
 go:∀ i H w,P H w->i<ds.length->J.go i H
 yld:∀ i H w x H' d,P H w->WL K w H->ds[i]? = some d->J.yld i H x H'->Mo K H H'/\Rep K H' w .f 0 d x []/\P H' w
 stop:∀ H w,P H w->J.stop ds.length H
 st:∀ H w H' w',P H w->WL K w H->x8d H w H' w'->P H' w'
abbrev y4b:=Rho->Option (List D×Rho)
def tDI (K:PySem.W.Frag)(f:y4b):TI:=fun σ H R=>∃ ρ w t ds ρ',Good K ρ σ H w t/\f ρ=some (ds,ρ') /\
 ∀ J P H' w',Good K ρ' σ H' w' t->Go H w H' w'->ItOk K J ds P->P H' w'->ds.length<sizeLine->R J H'
theorem PI.imp {X:Cx}{tg e:Expr}{t t':TI}(h:PI X tg e t)(i:∀ σ H R,t' σ H R->t σ H R):PI X tg e t':=fun pins s σ H R I q=>h pins s σ H R I (i σ H R q)
abbrev PDI (X:Cx)(tg e:Expr)(f:y4b):Prop:=PI X tg e (tDI X.K f)
theorem It.list {K:PySem.W.Frag}{a:Addr}{vs:List V}{ds:List D}(hl:ds.length=vs.length):ItOk K (Itl K a) ds fun H w=>(KL K a vs\/(Rd H a (.lst vs)/\w a=none))/\Reps K H w .f 0 ds vs []:=by
 have sq:∀ {H:Hp} {w:Wn},KL K a vs\/(Rd H a (.lst vs)/\w a=none)->SqL K H a vs:=fun h=>h.elim (fun z=>z.sq) fun z=>.inl z.1
 refine⟨fun i H w p hi=>⟨vs,vs[i],sq p.1,by simp[hl ▸ hi]⟩,fun i H w x H' d p wl hd y=>?_,fun H w p=>⟨vs,sq p.1,by omega⟩,fun H w H' w' p wl st=>?_⟩
 ·obtain⟨rfl,hx⟩:=y
  obtain⟨v,hv,rv⟩:=p.2.get hd
  have:=hx vs (sq p.1)
  rw[hv]at this
  cases this
  exact⟨Mo.rfl',rv,p⟩
 ·refine⟨?_,Reps.go wl st p.2 (fun _ z=>nomatch z)⟩
  rcases p.1 with p|⟨p,n⟩
  ·exact .inl p
  ·exact .inr (RdL.go st n p)
theorem It.tup {K:PySem.W.Frag}{a:Addr}{vs:List V}{ds:List D}(hl:ds.length=vs.length):ItOk K (Itt K a) ds fun H w=>SqT K H a vs/\Reps K H w .f 0 ds vs []:=
 ⟨fun i H w p hi=>⟨vs,vs[i],p.1,by simp[hl ▸ hi]⟩,fun i H w x H' d p wl hd y=>by
   obtain⟨rfl,hx⟩:=y
   obtain⟨v,hv,rv⟩:=p.2.get hd
   have:=hx vs p.1
   rw[hv]at this
   cases this
   exact⟨Mo.rfl',rv,p⟩,fun H w p=>⟨vs,p.1,by omega⟩,fun H w H' w' p wl st=>⟨SqT.go wl st p.1,Reps.go wl st p.2 (fun _ z=>nomatch z)⟩⟩
def y1i (n:Nat):List V:=(List.range n).map fun i=>.int (Int.ofNat i)
def x12 (n:Nat):List D:=(List.range n).map fun i=>.int (Int.ofNat i)
theorem x0q (n:Nat):(x12 n).length=n:=by simp[x12]
theorem y4g (n:Nat):(y1i n).length=n:=by simp[y1i]
theorem It.range {K:PySem.W.Frag}{n:Nat}:ItOk K (Itr 0 n) (x12 n) fun _ _=>True:=by
 refine⟨fun i H w _ hi=>by rw[x0q]at hi;exact hi,fun i H w x H' d _ _ hd y=>?_,fun H w _=>by rw[x0q];exact Nat.le_refl _,fun _ _ _ _ _ _ _=>trivial⟩
 have hi:i<n:=by have:=(List.getElem?_eq_some_iff.mp hd).1;rw[x0q]at this;exact this
 have e:x=.int (0+(i:Int)):=y.2
 have ed:d=.int (Int.ofNat i):=by
  have:(x12 n)[i]? = some (.int (Int.ofNat i)):=by simp[x12,hi]
  rw[hd]at this
  exact Option.some.inj this
 obtain⟨rfl,_⟩:=y
 subst ed
 rw[e,Int.zero_add]
 exact⟨Mo.rfl',.int _,trivial⟩
theorem y00 {K:PySem.W.Frag}{H:Hp}{w:Wn}{o:Ow}:∀ (ns:List Int),Reps K H w o 0 (ns.map D.int) (ns.map V.int) []
 | []=>.nil
 | n::r=>.cons (F:=[]) (G:=[]) (.int n) (y00 r) (fun _ z=>nomatch z)
theorem z1x {K:PySem.W.Frag}{H:Hp}{w:Wn}{o:Ow}(n:Nat):Reps K H w o 0 (x12 n) (y1i n) []:=by
 have:=y00 (K:=K) (H:=H) (w:=w) (o:=o) ((List.range n).map Int.ofNat)
 rw[List.map_map,List.map_map]at this
 exact this
section
variable {X:Cx}{tg a b c e:Expr}{fa fb fc f:Den}{ga gb gc:x23}{pos p:Pos}
@[simp] def x15 (g:x1v):y4b:=fun ρ=>match g ρ with
 | some ([.int n],ρ1)=>if -1000<=n/\n<=1000 then some (x12 n.toNat,ρ1)else none
 | _=>none
theorem z2f {g:x1v}(hm:X.mg "range" = none)(ha:PDA X [a] g)(hg:Gl X "range":=by rfl)(hs:starEach [a] X.env=[(false,eval a X.env)]:=by rfl):PDI X tg (.Call (.Name "range" p) [a] [] pos) (x15 g):=PI.imp (z53 hg hm ha hs) fun σ H R hh0=>by
 obtain⟨ρ,w,t,ds,ρ',gd,ee,k⟩:=hh0
 unfold x15 at ee
 split at ee
 ·rename_i n ρ1 h1
  split at ee
  ·rename_i hn
   cases ee
   refine⟨ρ,w,t,[.int n],_,gd,h1,fun vs H1 w1 g1 go1 r1=>?_⟩
   have hv:vs=[.int n]:=by
    have l:=r1.length
    match vs,l with
    | [v],_=>
     obtain⟨v',h1,h2⟩:=r1.get (i:=0) rfl
     cases h1
     rw[x4t h2]
   subst hv
   refine⟨n,rfl,by omega,by omega,k _ _ H1 w1 g1 go1 It.range trivial ?_⟩
   rw[x0q]
   exact x4a (by omega)
  ·cases ee
 ·cases ee
def j9y (K:PySem.W.Frag)(tl:TE):TI:=fun σ H R=>tl σ H fun x H1=>∃ a,x=.ref a/\(((∃ xs,SqL K H1 a xs)/\R (Itl K a) H1)\/((∃ xs,SqT K H1 a xs)/\R (Itt K a) H1))
theorem j75 {l:Expr}{tl:TE}(hl:PE X l tl):PI X tg l (j9y X.K tl):=by
 intro pins s σ H R I h
 refine thn (hl pins s σ H _ I h) fun v s1 ⟨x,H1,I1,r1,q1⟩=>?_
 obtain⟨a,e,q⟩:=q1
 subst e
 cases r1
 rcases q with⟨⟨xs,hq⟩,q⟩|⟨⟨xs,hq⟩,q⟩
 ·obtain⟨its,rv,p,hz⟩:=I1.list hq
  refine wpAny_pyIter_list p.isList ?_
  refine⟨s1.heap.objs.size,[s1.heap.objs.size],_,_,H1,rfl,I1.kept (t':=s1.toks) fun b o e=>Heap.get?_push_of_some _ e,z5b a _,⟨_,Heap.get?_push_size _ rfl,rfl,rfl⟩,fun b hb=>?_,q⟩
  have e:b=s1.heap.objs.size:=by simpa using hb
  subst e
  exact I1.fpOk (Nat.le_refl _) (I1.hok.fresh (Nat.le_refl _))
 ·obtain⟨its,rv,p,hz⟩:=I1.tuple hq
  refine wpAny_pyIter_tuple (show s1.heap.IsTuple a its.toArray from p) ?_
  refine⟨s1.heap.objs.size,[s1.heap.objs.size],_,_,H1,rfl,I1.kept (t':=s1.toks) fun b o e=>Heap.get?_push_of_some _ e,z1w a _,⟨_,Heap.get?_push_size _ rfl,rfl,rfl⟩,fun b hb=>?_,q⟩
  have e:b=s1.heap.objs.size:=by simpa using hb
  subst e
  exact I1.fpOk (Nat.le_refl _) (I1.hok.fresh (Nat.le_refl _))
@[simp] def x4w (f:Den):y4b:=fun ρ=>match f ρ with
 | some (.lst ds,_,ρ1)=>if ds.length<=1000 then some (ds,ρ1)else none
 | some (.tup ds,_,ρ1)=>if ds.length<=1000 then some (ds,ρ1)else none
 | _=>none
theorem j32 (ha:PD X a fa):PDI X tg a (x4w fa):=PI.imp (j75 ha) fun σ H R hh0=>by
 obtain⟨ρ,w,t,ds,ρ',gd,ee,k⟩:=hh0
 unfold x4w at ee
 split at ee
 ·rename_i ds' q ρ1 h1
  split at ee
  ·rename_i hl
   cases ee
   refine⟨ρ,w,t,.lst ds,q,ρ',gd,h1,fun v H1 w1 F g1 go1 r1=>?_⟩
   have r0:=r1.drop (o:=.f) (Nat.le_refl t)
   cases r0 with
   | kl h r=>exact⟨_,rfl,.inl ⟨⟨_,h.sq⟩,k _ _ H1 (x2b t w1) g1.drop (go1.drop gd.wt) (It.list r.length) ⟨.inl h,r⟩ (x4a hl)⟩⟩
   | shr h n r=>exact⟨_,rfl,.inl ⟨⟨_,.inl h⟩,k _ _ H1 (x2b t w1) g1.drop (go1.drop gd.wt) (It.list r.length) ⟨.inr ⟨h,n⟩,r⟩ (x4a hl)⟩⟩
  ·cases ee
 ·rename_i ds' q ρ1 h1
  split at ee
  ·rename_i hl
   cases ee
   refine⟨ρ,w,t,.tup ds,q,ρ',gd,h1,fun v H1 w1 F g1 go1 r1=>?_⟩
   have r0:=r1.drop (o:=.f) (Nat.le_refl t)
   cases r0 with
   | tup h r=>exact⟨_,rfl,.inr ⟨⟨_,SqT.of h⟩,k _ _ H1 (x2b t w1) g1.drop (go1.drop gd.wt) (It.tup r.length) ⟨SqT.of h,r⟩ (x4a hl)⟩⟩
  ·cases ee
 ·cases ee
end
abbrev x7x:=D->Rho->Option Rho
def tDG (K:PySem.W.Frag)(b:Nat)(pt:x7x):TG:=fun v σ H Q=>∃ d ρ w t ρ',Good K ρ σ H w t/\Rep K H w .f 0 d v []/\pt d ρ=some ρ'/\∀ σ' H' w',σ'.length=σ.length->(∀ i,i<b->σ'[i]? = σ[i]?)->Good K ρ' σ' H' w' t->Go H w H' w'->Q σ' H'
theorem PG.imp {X:Cx}{tg:Expr}{t t':TG}(h:PG X tg t)(i:∀ v σ H Q,t' v σ H Q->t v σ H Q):PG X tg t':=fun pins s σ H v u Q I r q=>h pins s σ H v u Q I r (i v σ H Q q)
abbrev PDG (X:Cx)(b:Nat)(tg:Expr)(pt:x7x):Prop:=PG X tg (tDG X.K b pt)
@[simp] def x0n (i:Nat):x7x:=fun d ρ=>if i<ρ.length then some (ρ.set i (some (d,x20 d)))else none
theorem Good.setV {K:PySem.W.Frag}{ρ:Rho}{σ:St}{H:Hp}{w:Wn}{t i:Nat}{d:D}{v:V}(g:Good K ρ σ H w t)(hi:i<σ.length)(r:Rep K H w .f 0 d v []) :
  Good K (ρ.set i (some (d,x20 d))) (σ.set i (some v)) H (x6l i w) t/\Go H w H (x6l i w):=by
 have st:x8d H w H (x6l i w):=fun a x h n=>⟨sm h,x60 n⟩
 refine⟨⟨⟨fun a o h=>g.wl a o (x3l h).1,g.wl.tb⟩,fun a j h=>by rw[List.length_set];exact g.ws a j (x3l h).1,fun a j h=>g.wt a j (x3l h).1,by rw[List.length_set,List.length_set];exact g.len,fun j d' q' e'=>?_⟩,⟨st,fun a o h n=>⟨rfl,x85 h (n i)⟩⟩⟩
 by_cases hj:i=j
 ·subst hj
  rw[List.getElem?_set_self (by rw[g.len];exact hi)]at e'
  cases e'
  exact⟨v,[],List.getElem?_set_self hi,(Rep.go g.wl st r (fun _ z=>nomatch z):Rep K H (x6l i w) (.s i) 0 d v []).dep⟩
 ·rw[List.getElem?_set_ne hj]at e'
  obtain⟨v',F,h1,h2⟩:=g.slot j d' q' e'
  exact⟨v',F,by rw[List.getElem?_set_ne hj];exact h1,Rep.go g.wl st h2 fun a m=>⟨rfl,x85 (h2.owns a m) (fun z=>hj (by cases z;rfl))⟩⟩
theorem z6x {X:Cx}{b i:Nat}{x:Str}{pos:Pos}(hb:b<=i)(hN:X.N.Nodup)(hi:X.N[i]? = some x)(hx:Loc X.env.scope x)(hf:X.fn x=true\/X.env.scope.names.lookup x=some .local:=by first|exact .inl rfl|exact .inr rfl):PDG X b (.Name x pos) (x0n i):=PG.imp (j0l hN hi hx hf) fun v σ H Q hh0=>by
 obtain⟨d,ρ,w,t,ρ',g,r,e,k⟩:=hh0
 unfold x0n at e
 split at e
 ·rename_i hl
  cases e
  obtain⟨a1,a2⟩:=g.setV (by rw[<- g.len];exact hl) r
  exact k _ _ _ (by rw[List.length_set]) (fun j hj=>List.getElem?_set_ne (by omega)) a1 a2
 ·cases e
def y0n (pt:x7x)(body:x1a):List D->Rho->Option Out
 | [],ρ=>some (.nx ρ)
 | d::ds,ρ=>match pt d ρ with
  | none=>none
  | some ρ1=>match body ρ1 with
   | some (.nx ρ2)=>y0n pt body ds ρ2
   | some (.ct ρ2)=>y0n pt body ds ρ2
   | some (.bk ρ2)=>some (.nx ρ2)
   | o=>o
@[simp] def x78 (it:y4b)(pt:x7x)(body:x1a):x1a:=fun ρ=>match it ρ with
 | some (ds,ρ1)=>y0n pt body ds ρ1
 | none=>none
theorem Reps.go0 {K:PySem.W.Frag}{H H':Hp}{w w':Wn}{ds:List D}{vs:List V}(r:Reps K H w .f 0 ds vs [])(wl:WL K w H)(st:x8d H w H' w'):Reps K H' w' .f 0 ds vs []:=Reps.go wl st r (fun _ z=>nomatch z)
theorem Rep.go0 {K:PySem.W.Frag}{H H':Hp}{w w':Wn}{ds:D}{vs:V}(r:Rep K H w .f 0 ds vs [])(wl:WL K w H)(st:x8d H w H' w'):Rep K H' w' .f 0 ds vs []:=Rep.go wl st r (fun _ z=>nomatch z)
theorem Reps.drop0 {K:PySem.W.Frag}{H:Hp}{w:Wn}:∀ {ds:List D} {vs:List V} (i:Nat),Reps K H w .f 0 ds vs []->Reps K H w .f 0 (ds.drop i) (vs.drop i) []
 | _,_,0,r=>r
 | ds,vs,i+1,r=>by
  generalize hF:([]:List Addr)=F at r
  cases r with
  | nil=>exact .nil
  | cons r s _=>
   have h2:=s.zero
   have h1:=r.zero
   subst h2
   subst h1
   exact Reps.drop0 i s
theorem Good.more {K:PySem.W.Frag}{ρ:Rho}{σ:St}{H H':Hp}{w:Wn}{t:Nat}(g:Good K ρ σ H w t)(hm:Mo K H H'):Good K ρ σ H' w t/\Go H w H' w:=by
 have h:=hm.mo
 have st:x8d H w H' w:=fun a x e n=>⟨sm (h a x e),n⟩
 have kp:∀ a o,w a=some o->H' a=H a:=fun a o e=>by
  obtain⟨vs,q⟩:=g.wl a o e
  rw[q,h a _ q]
 refine⟨⟨⟨fun a o e=>?_,hm.tb g.wl.tb⟩,g.ws,g.wt,g.len,fun i d q e=>?_⟩,st,fun a o e _=>⟨kp a o e,e⟩⟩
 ·obtain⟨vs,q⟩:=g.wl a o e
  exact⟨vs,h a _ q⟩
 ·obtain⟨v,F,h1,h2⟩:=g.slot i d q e
  exact⟨v,F,h1,Rep.go g.wl st h2 fun a m=>⟨kp a _ (h2.owns a m),h2.owns a m⟩⟩
theorem j2k {X:Cx}{tg iter:Expr}{body:List Stmt}{it:y4b}{pt:x7x}{s:x1a}{pos:Pos}(hp:PassesOwn (model X.prog X.w) X.A X.env X.xe)(hc:X.calm=true)(hi:PDI X tg iter it)(hg:PDG X 0 tg pt)(hb:z2j X body s)
  (hs:∀ x,foldedSetIterable iter X.env x=pure x:=by intro _;rfl):PDS X (.For tg iter body [] pos) (x78 it pt s):=PS.imp (j5f hp hc hi hg hb hs) fun D σ H hh0=>by
 obtain⟨ρ,w,o,g,ee,k⟩:=hh0
 unfold x78 at ee
 split at ee
 ·rename_i ds ρ1 h1
  refine⟨ρ,w,0,ds,ρ1,g,h1,fun J P H1 w1 g1 go1 ok p1 hl=>?_⟩
  refine⟨fun i m σ' H'=>m=ds.length-i/\i<=ds.length/\σ'.length=σ.length/\∃ ρ' w',Good X.K ρ' σ' H' w' 0/\P H' w'/\y0n pt s (ds.drop i) ρ'=some o/\y47 X.K D σ.length H' w' o,
   ⟨ds.length,by simp,Nat.zero_le _,rfl,ρ1,w1,g1,p1,ee,k.trans go1⟩,?_⟩
  rintro i m σ' H' ⟨rfl,hile,hσ,ρ',w',g',p',e',k'⟩
  by_cases hlt:i<ds.length
  ·refine .inr ⟨ok.go i H' w' p' hlt,fun σ2 H2=>ds.length-(i+1)=ds.length-(i+1)/\i+1<=ds.length/\σ2.length=σ.length/\∃ ρ2 w2,Good X.K ρ2 σ2 H2 w2 0/\P H2 w2/\y0n pt s (ds.drop (i+1)) ρ2=some o/\y47 X.K D σ.length H2 w2 o,
    fun σ2 H2 n2=>⟨ds.length-(i+1),by omega,n2⟩,fun x H2 hy=>?_⟩
   obtain⟨mo,rx,p2⟩:=ok.yld i H' w' x H2 ds[i] p' g'.wl (List.getElem?_eq_getElem hlt) hy
   obtain⟨g2,go2⟩:=g'.more mo
   have ed:ds.drop i=ds[i]::ds.drop (i+1):=List.drop_eq_getElem_cons hlt
   rw[ed]at e'
   unfold y0n at e'
   split at e'
   ·cases e'
   ·rename_i ρ3 h3
    refine⟨ds[i],ρ',w',0,ρ3,g2,rx,h3,fun σ4 H4 w4 l4 _ g4 go4=>?_⟩
    have p4:=ok.st _ _ _ _ p2 g2.wl go4.stab
    have nx:∀ {ρ5:Rho},y0n pt s (ds.drop (i+1)) ρ5=some o->∀ σ5 H5 w5,σ5.length=σ4.length->Good X.K ρ5 σ5 H5 w5 0->Go H4 w4 H5 w5->ds.length-(i+1)=ds.length-(i+1)/\i+1<=ds.length/\σ5.length=σ.length/\∃ ρ2 w2,Good X.K ρ2 σ5 H5 w2 0/\P H5 w2/\y0n pt s (ds.drop (i+1)) ρ2=some o/\y47 X.K D σ.length H5 w2 o:=fun {ρ5} e5 σ5 H5 w5 l5 g5 go5=>
     ⟨rfl,hlt,by rw[l5,l4,hσ],ρ5,w5,g5,ok.st _ _ _ _ p4 g4.wl go5.stab,e5,k'.trans ((go2.trans go4).trans go5)⟩
    cases h6:s ρ3 with
    | none=>rw[h6]at e';cases e'
    | some o6=>
     rw[h6]at e'
     refine⟨ρ3,w4,o6,g4,h6,?_⟩
     cases o6 with
     | nx ρ5=>exact nx e'
     | ct ρ5=>exact nx e'
     | bk ρ5=>
      cases e'
      exact fun σ5 H5 w5 l5 g5 go5=>k' σ5 H5 w5 (by rw[l5,l4,hσ]) g5 ((go2.trans go4).trans go5)
     | rt d q=>
      cases e'
      exact fun v H5 w5 F wl5 go5 r5=>k' v H5 w5 F wl5 ((go2.trans go4).trans go5) r5
  ·have hi':i=ds.length:=Nat.le_antisymm hile (Nat.not_lt.mp hlt)
   subst hi'
   refine .inl ⟨ok.stop H' w' p',?_⟩
   have ed:ds.drop ds.length=[]:=by simp
   rw[ed]at e'
   cases e'
   exact k' σ' H' w' hσ g' Go.refl
 ·cases ee
@[simp] def x4x (n:Nat)(ds:List D):Rho:=ds.map (fun d=>some (d,x20 d))++List.replicate (n-ds.length) none
@[simp] def fnD (n:Nat)(body:x1a):List D->OD:=fun ds=>match body (x4x n ds)with
 | some (.rt d q)=>some (d,q)
 | some (.nx _)=>some (.non,9)
 | _=>none
theorem y12 {K:PySem.W.Frag}{H:Hp}{w:Wn}{N:List Str}{ds:List D}{vs:List V}(hw:∀ a o,w a=some o->o=.f)(wl:WL K w H)(r:Reps K H w .f 0 ds vs []):Good K (x4x N.length ds) (y42 N vs) H w 0:=by
 refine⟨wl,(fun a i e=>by cases (hw a _ e)),(fun a i e=>by cases (hw a _ e)),?_,fun i d q e=>?_⟩
 ·unfold x4x L2.y42
  rw[List.length_append,List.length_append,List.length_map,List.length_map,List.length_replicate,List.length_replicate,r.length]
 ·unfold x4x at e
  by_cases hi:i<ds.length
  ·rw[List.getElem?_append_left (by simpa using hi),List.getElem?_map]at e
   cases h:ds[i]? with
   | none=>rw[h]at e;cases e
   | some d'=>
    rw[h]at e
    cases e
    obtain⟨v,hv,rv⟩:=r.get h
    refine⟨v,[],?_,(rv.any wl:Rep K H w (.s i) 0 d v []).dep⟩
    unfold L2.y42
    rw[List.getElem?_append_left (by rw[List.length_map,<- r.length];exact hi),List.getElem?_map,hv]
    rfl
  ·rw[List.getElem?_append_right (by simpa using hi),List.getElem?_replicate]at e
   split at e<;>cases e
theorem z7j {K:PySem.W.Frag}{N:List Str}{n:Nat}{body:x1a}{vs:List V}{H:Hp}{Q:VK}{E:XK}(h:spD K n (fnD N.length body) vs H Q E):tDS K body { nx:=fun _ H'=>Q .non H',rt:=Q } (y42 N vs) H:=by
 obtain⟨hn,ds,w,r,q,hw,wl,rs,e,k⟩:=h
 unfold fnD at e
 split at e
 ·rename_i d q' h1
  cases e
  exact⟨_,w,_,y12 hw wl rs,h1,fun v H' w' F wl' go' r'=>k v H' w' F go' wl' r'⟩
 ·rename_i ρ' h1
  cases e
  exact⟨_,w,_,y12 hw wl rs,h1,fun σ' H' w' _ g' go'=>k .non H' w' [] go' g'.wl .non⟩
 ·cases e
theorem j67 {P:Program}{wd:World}{K:PySem.W.Frag}{mg:Str->Option Value}{base:Heap}{x qual:Str}{st:Stmt}{f:Addr}{fd:FuncData}{N ps:List Str}{k:Nat}{body:x1a}(F:Fun K x qual st f fd)(S:FnScope N ps (x0b st))
  (h:∀ (cdv:Value) (A:Around) (outer:List Env) (s:Shared) (H:Hp) (E:XK),Room k (A.deeper (envOfC qual (x0b st) s.heap.objs.size f cdv))->z2j (z2u CX0 P wd K mg base N qual (x0b st) f cdv A outer s H E).nox (x3o st) body) :
  FnOk P wd K mg base CX0 (k+1) f fd ps (spD K ps.length (fnD N.length body)):=
 F.ok S (fun vs H Q E h=>h.1) fun cdv A outer s H vs Q E hr hsp=>⟨_,h cdv A outer s H E hr,z7j hsp⟩
def x6x (k:Nat)(pt:x7x)(tt:x23)(te:Den)(deep:Bool):List D->Rho->Option (List D×Rho)
 | [],ρ=>some ([],ρ)
 | d::ds,ρ=>match pt d (ρ++List.replicate k none)with
  | none=>none
  | some ρ1=>match tt ρ1 with
   | none=>none
   | some (b,ρ2)=>if b=true then(match te ρ2 with
     | none=>none
     | some (v,q,ρ3)=>if deep=true/\v.isL=true/\q≠1 then none else match x6x k pt tt te deep ds (ρ3.take ρ.length)with
      | none=>none
      | some (vs,ρ4)=>some (v::vs,ρ4))
    else x6x k pt tt te deep ds (ρ2.take ρ.length)
@[simp] def x22 (k:Nat)(it:y4b)(pt:x7x)(tt:x23)(te:Den)(deep:Bool):Den:=fun ρ=>match it ρ with
 | some (ds,ρ1)=>match x6x k pt tt te deep ds ρ1 with
  | some (vs,ρ2)=>some (.lst vs,if deep=true then 2 else 1,ρ2)
  | none=>none
 | none=>none
@[simp] def x1i:x23:=fun ρ=>some (true,ρ)
theorem Good.ext {K:PySem.W.Frag}{ρ:Rho}{σ:St}{H:Hp}{w:Wn}{t:Nat}(g:Good K ρ σ H w t)(k:Nat):Good K (ρ++List.replicate k none) (σ++List.replicate k none) H w t:=by
 refine⟨g.wl,fun a i e=>by rw[List.length_append];exact Nat.lt_of_lt_of_le (g.ws a i e) (Nat.le_add_right _ _),g.wt,by rw[List.length_append,List.length_append,List.length_replicate,List.length_replicate,g.len],fun i d q e=>?_⟩
 by_cases hi:i<ρ.length
 ·rw[List.getElem?_append_left hi]at e
  obtain⟨v,F,h1,h2⟩:=g.slot i d q e
  exact⟨v,F,by rw[List.getElem?_append_left (by rw[<- g.len];exact hi)];exact h1,h2⟩
 ·rw[List.getElem?_append_right (by omega),List.getElem?_replicate]at e
  split at e<;>cases e
def x4e (n:Nat)(w:Wn):Wn:=fun a=>match w a with
 | some (.s i)=>if n<=i then none else some (.s i)
 | x=>x
theorem y62 {n:Nat}{w:Wn}{a:Addr}(h:w a=none):x4e n w a=none:=by unfold x4e;rw[h]
theorem y9r {n:Nat}{w:Wn}{a:Addr}{i:Nat}(h:w a=some (.s i))(hi:i<n):x4e n w a=some (.s i):=by unfold x4e;rw[h];exact if_neg (by omega)
theorem y9b {n:Nat}{w:Wn}{a:Addr}{o:Ow}(h:w a=some o)(hn:∀ i,o ≠ .s i):x4e n w a=some o:=by
 unfold x4e;rw[h]
 cases o with
 | s i=>exact absurd rfl (hn i)
 | t i=>rfl
 | f=>rfl
theorem x6u {n:Nat}{w:Wn}{a:Addr}{o:Ow}(h:x4e n w a=some o):w a=some o/\∀ i,o=.s i->i<n:=by
 unfold x4e at h
 cases e:w a with
 | none=>rw[e]at h;cases h
 | some o'=>
  rw[e]at h
  cases o' with
  | t i=>cases h;exact⟨rfl,fun i z=>nomatch z⟩
  | f=>cases h;exact⟨rfl,fun i z=>nomatch z⟩
  | s i=>
   dsimp only at h
   split at h
   ·cases h
   ·cases h;exact⟨rfl,fun j z=>by cases z;omega⟩
theorem Good.cut {K:PySem.W.Frag}{ρ:Rho}{σ τ:St}{H:Hp}{w:Wn}{t:Nat}(g:Good K ρ (σ++τ) H w t):Good K (ρ.take σ.length) σ H (x4e σ.length w) t/\Go H w H (x4e σ.length w):=by
 have st:x8d H w H (x4e σ.length w):=fun a x h n=>⟨sm h,y62 n⟩
 refine⟨⟨⟨fun a o e=>g.wl a o (x6u e).1,g.wl.tb⟩,fun a i e=>(x6u e).2 i rfl,fun a i e=>g.wt a i (x6u e).1,?_,fun i d q e=>?_⟩,⟨st,fun a o e n=>⟨rfl,y9b e n⟩⟩⟩
 ·rw[List.length_take,g.len,List.length_append]
  omega
 ·by_cases hi:i<σ.length
  ·rw[List.getElem?_take_of_lt hi]at e
   obtain⟨v,F,h1,h2⟩:=g.slot i d q e
   rw[List.getElem?_append_left hi]at h1
   exact⟨v,F,h1,Rep.go g.wl st h2 fun a m=>⟨rfl,y9r (h2.owns a m) hi⟩⟩
  ·rw[List.getElem?_take_eq_none (by omega)]at e
   cases e
theorem j8i {σ σ' τ:St}(l:σ'.length=(σ++τ).length)(h:∀ i,i<σ.length->σ'[i]? = (σ++τ)[i]?):∃ τ',σ'=σ++τ'/\τ'.length=τ.length:=by
 refine⟨σ'.drop σ.length,?_,by rw[List.length_drop,l,List.length_append];omega⟩
 have e:σ'.take σ.length=σ:=by
  apply List.ext_getElem?
  intro i
  by_cases hi:i<σ.length
  ·rw[List.getElem?_take_of_lt hi,h i hi,List.getElem?_append_left hi]
  ·rw[List.getElem?_take_eq_none (by omega),List.getElem?_eq_none (by omega)]
 conv=>lhs;rw[<- List.take_append_drop σ.length σ',e]
def dq (deep:Bool):Nat:=if deep=true then 1 else 0
def x8g (deep:Bool)(t:Nat)(w:Wn):Wn:=fun a=>if w a=some (.t (t+1))then(if deep=true then some (.t t)else none)else w a
theorem j9m {K:PySem.W.Frag}{ρ:Rho}{σ:St}{H:Hp}{w:Wn}{t q:Nat}{d:D}{v:V}{F:List Addr}{deep:Bool}(g:Good K ρ σ H w (t+2))(r:Rep K H w (.t (t+1)) q d v F)(hq:¬ (deep=true/\d.isL=true/\q≠1)) :
  Good K ρ σ H (x8g deep t w) (t+1)/\(∃ F',Rep K H (x8g deep t w) (.t t) (dq deep) d v F'/\∀ a∈F',w a=some (.t (t+1)))/\x8d H w H (x8g deep t w)/\(∀ a o,w a=some o->o ≠ .t (t+1)->x8g deep t w a=some o):=by
 have hN:∀ a,w a=none->x8g deep t w a=none:=fun a e=>by unfold x8g;rw[e];rfl
 have hO:∀ a o,w a=some o->o ≠ .t (t+1)->x8g deep t w a=some o:=fun a o e n=>by
  unfold x8g
  rw[if_neg (by rw[e];exact fun z=>n (Option.some.inj z))]
  exact e
 have hI:∀ a o,x8g deep t w a=some o->(w a=some (.t (t+1))/\o=.t t)\/(w a=some o/\o ≠ .t (t+1)):=fun a o e=>by
  unfold x8g at e
  split at e
  ·split at e
   ·cases e;exact .inl ⟨by assumption,rfl⟩
   ·cases e
  ·rename_i n;exact .inr ⟨e,fun z=>n (by rw[e,z])⟩
 have st:x8d H w H (x8g deep t w):=fun a x h n=>⟨sm h,hN a n⟩
 refine⟨⟨⟨fun a o e=>?_,g.wl.tb⟩,fun a i e=>?_,fun a i e=>?_,g.len,fun i d' q' e'=>?_⟩,?_,st,hO⟩
 ·rcases hI a o e with⟨z,_⟩|⟨z,_⟩<;>exact g.wl a _ z
 ·rcases hI a _ e with⟨_,z⟩|⟨z,_⟩
  ·cases z
  ·exact g.ws a i z
 ·rcases hI a _ e with⟨_,z⟩|⟨z,n⟩
  ·cases z;exact Nat.lt_succ_self _
  ·have:=g.wt a i z
   have:i≠t+1:=fun z=>n (by rw[z])
   omega
 ·obtain⟨v',F',h1,h2⟩:=g.slot i d' q' e'
  exact⟨v',F',h1,Rep.go g.wl st h2 fun a m=>⟨rfl,hO a _ (h2.owns a m) (fun z=>nomatch z)⟩⟩
 ·cases deep with
  | false=>
   refine⟨[],Rep.freeze hN r fun a m=>?_,fun _ z=>nomatch z⟩
   unfold x8g
   rw[if_pos (r.owns a m)]
   rfl
  | true=>
   have hT:∀ a,w a=some (.t (t+1))->x8g true t w a=some (.t t):=fun a e=>by unfold x8g;rw[if_pos e];rfl
   cases hl:d.isL with
   | false=>
    obtain⟨_,hr⟩:=r.nolist hl
    exact⟨[],Rep.go g.wl st (hr 1) (fun _ z=>nomatch z),fun _ z=>nomatch z⟩
   | true=>
    have:q=1:=by
     by_cases h:q=1
     ·exact h
     ·exact absurd ⟨rfl,hl,h⟩ hq
    subst this
    exact⟨F,Rep.go g.wl st r fun a m=>⟨rfl,hT a (r.owns a m)⟩,r.owns⟩
theorem j64 {K:PySem.W.Frag}{ρ:Rho}{σ:St}{H1:Hp}{w1:Wn}{t q:Nat}{p:Addr}{vs:List V}{ds:List D}{F:List Addr}(g:Good K ρ σ H1 w1 (t+1))(hp:H1 p=none)(r:Reps K H1 w1 (.t t) q ds vs F) :
  Good K ρ σ (upd H1 p (.lst vs)) (z5z p (.t t) w1) (t+1)/\Go H1 w1 (upd H1 p (.lst vs)) (z5z p (.t t) w1)/\Rep K (upd H1 p (.lst vs)) (z5z p (.t t) w1) (.t t) (q+1) (.lst ds) (.ref p) (p::F):=by
 have ne:∀ a x,H1 a=some x->a≠p:=fun a x e=>x1r e hp
 have nw:∀ a o,w1 a=some o->a≠p:=fun a o e=>by obtain⟨vs,q⟩:=g.wl a o e;exact ne a _ q
 have st:x8d H1 w1 (upd H1 p (.lst vs)) (z5z p (.t t) w1):=fun a x e n=>⟨sm (by rw[x0y (ne a x e)];exact e),by rw[x4m (ne a x e)];exact n⟩
 refine⟨⟨⟨fun a o e=>?_,g.wl.tb.upd rfl (.inl hp)⟩,fun a i e=>?_,fun a i e=>?_,g.len,fun i d q e=>?_⟩,⟨st,fun a o e _=>⟨x0y (nw a o e),(x4m (nw a o e)).trans e⟩⟩,?_⟩
 ·by_cases h:a=p
  ·subst h;exact⟨vs,x1z⟩
  ·rw[x4m h]at e
   obtain⟨us,q⟩:=g.wl a o e
   exact⟨us,by rw[x0y h];exact q⟩
 ·by_cases h:a=p
  ·subst h;rw[x5z]at e;cases e
  ·rw[x4m h]at e;exact g.ws a i e
 ·by_cases h:a=p
  ·subst h;rw[x5z]at e;cases e;exact Nat.lt_succ_self _
  ·rw[x4m h]at e;exact g.wt a i e
 ·obtain⟨v,F,h1,h2⟩:=g.slot i d q e
  exact⟨v,F,h1,Rep.go g.wl st h2 fun a m=>⟨x0y (nw a _ (h2.owns a m)),(x4m (nw a _ (h2.owns a m))).trans (h2.owns a m)⟩⟩
 ·exact .own x1z x5z (Reps.go g.wl st r fun a m=>⟨x0y (nw a _ (r.owns a m)),(x4m (nw a _ (r.owns a m))).trans (r.owns a m)⟩) fun m=>absurd rfl (nw p _ (r.owns p m))
theorem y4j {K:PySem.W.Frag}{k:Nat}{it:y4b}{pt:x7x}{tt:x23}{te:Den}{deep:Bool}:∀ σ H Q,tD K (x22 k it pt tt te deep) σ H Q->z8h k (tDI K it) (tDG K σ.length pt) (tDT K tt) (tD K te) σ H Q:=fun σ H Q hh0=>by
 obtain⟨ρ,w,t,r',q,ρ',g,ee,kk⟩:=hh0
 unfold x22 at ee
 split at ee
 ·rename_i ds ρ1 h1
  split at ee
  ·rename_i all ρ2 h2
   cases ee
   refine⟨ρ,w,t,ds,ρ1,g,h1,fun J P H1 w1 g1 go1 ok p1 hl=>?_⟩
   refine⟨fun i m ys H'=>m=ds.length-i/\i<=ds.length/\ys.length<=i/\∃ ρ3 w3 zs F x2j,Good K ρ3 σ H' w3 (t+1)/\Go H w H' w3/\P H' w3/\Reps K H' w3 (.t t) (dq deep) zs ys F /\
     x6x k pt tt te deep (ds.drop i) ρ3=some (x2j,ρ')/\zs++x2j=all,
    ⟨ds.length,by simp,Nat.zero_le _,Nat.le_refl _,ρ1,w1,[],[],all,g1.up,go1,p1,.nil,h2,rfl⟩,?_⟩
   rintro i m ys H' ⟨rfl,hile,hys,ρ3,w3,zs,F,x2j,g0,go0,p0,rz0,e3,ez⟩
   have hsz:ys.length<sizeLine:=by omega
   refine⟨Nat.le_of_lt hsz,?_⟩
   by_cases hlt:i<ds.length
   ·refine .inr ⟨ok.go i H' w3 p0 hlt,hsz,fun x H2 hy=>?_⟩
    obtain⟨mo,rx,p3⟩:=ok.yld i H' w3 x H2 ds[i] p0 g0.wl (List.getElem?_eq_getElem hlt) hy
    obtain⟨g3,go2⟩:=g0.more mo
    have go3:=go0.trans go2
    have rz:=rz0.gone g0.wl go2
    have ed:ds.drop i=ds[i]::ds.drop (i+1):=List.drop_eq_getElem_cons hlt
    rw[ed]at e3
    unfold x6x at e3
    split at e3
    ·cases e3
    ·rename_i ρ4 h4
     split at e3
     ·cases e3
     ·rename_i b ρ5 h5
      have gx:=g3.ext k
      have lρ:ρ3.length=σ.length:=g3.len
      refine⟨ds[i],_,w3,t+1,ρ4,gx,rx,h4,fun σ4 H4 w4 l4 s4 g4 go4=>?_⟩
      obtain⟨τ,rfl,lτ⟩:=j8i l4 s4
      refine⟨⟨τ,rfl,by rw[lτ,List.length_replicate]⟩,ρ4,w4,t+1,b,ρ5,g4,h5,fun H5 w5 g5 go5=>?_⟩
      have p5:=ok.st _ _ _ _ (ok.st _ _ _ _ p3 g3.wl go4.stab) g4.wl go5.stab
      have z5:Reps K H5 w5 (.t t) (dq deep) zs ys F:=(rz.gone g3.wl go4).gone g4.wl go5
      cases b with
      | false=>
       rw[if_neg (by decide)]at e3
       dsimp only
       rw[if_neg (by decide)]
       obtain⟨gc,goc⟩:=g5.cut
       rw[lρ]at e3
       refine⟨ds.length-(i+1),by omega,rfl,hlt,by omega,_,_,zs,F,x2j,gc,(go3.trans go4).trans (go5.trans goc),ok.st _ _ _ _ p5 g5.wl goc.stab,z5.gone g5.wl goc,e3,ez⟩
      | true=>
       rw[if_pos rfl]at e3
       dsimp only
       rw[if_pos rfl]
       split at e3
       ·cases e3
       ·rename_i d6 q6 ρ6 h6
        split at e3
        ·cases e3
        ·rename_i hq6
         split at e3
         ·cases e3
         ·rename_i vs7 ρ7 h7
          cases e3
          refine⟨ρ5,w5,t+1,d6,q6,ρ6,g5,h6,fun v H6 w6 F6 g6 go6 r6=>?_⟩
          obtain⟨gs,⟨F',rs,hF'⟩,sts,hOs⟩:=j9m g6 r6 hq6
          obtain⟨gc,goc⟩:=gs.cut
          rw[lρ]at h7
          have zs6:=z5.gone g5.wl go6
          have zF:∀ a∈F,w6 a=some (.t t):=zs6.owns
          have zs7:Reps K H6 (x8g deep t w6) (.t t) (dq deep) zs ys F:=Reps.go g6.wl sts zs6 fun a m=>⟨rfl,hOs a _ (zF a m) (by intro z;cases z)⟩
          have gos:Go H w H6 (x8g deep t w6):=by
           have go:Go H w H6 w6:=(go3.trans go4).trans (go5.trans go6)
           refine⟨go.stab.trans sts,fun a o h n=>⟨(go.keep a o h n).1,hOs a o (go.keep a o h n).2 fun z=>?_⟩⟩
           subst z
           have:=g.wt a _ h
           omega
          refine⟨ds.length-(i+1),by omega,rfl,hlt,by rw[List.length_append];simp;omega,_,_,zs++[d6],F++F',vs7,gc,gos.trans goc,ok.st _ _ _ _ (ok.st _ _ _ _ p5 g5.wl go6.stab |> fun q=>ok.st _ _ _ _ q g6.wl sts) gs.wl goc.stab,
           ?_,h7,by rw[List.append_assoc];exact ez⟩
          refine(Reps.snoc rs zs7 fun a m m'=>?_).gone gs.wl goc
          have h1:=zF a m
          rw[hF' a m']at h1
          cases h1
   ·have hi':i=ds.length:=Nat.le_antisymm hile (Nat.not_lt.mp hlt)
    subst hi'
    refine .inl ⟨ok.stop H' w3 p0,fun p hp=>?_⟩
    have ed:ds.drop ds.length=[]:=by simp
    rw[ed]at e3
    cases e3
    rw[List.append_nil]at ez
    subst ez
    obtain⟨a1,a2,a3⟩:=j64 g0 hp rz0
    refine kk _ _ _ (p::F) a1 (go0.trans a2) ?_
    cases deep<;>exact a3
  ·cases ee
 ·cases ee
section
variable {X:Cx}{k:Nat}{N':List Str}{scope:Scope}{elt tg iter:Expr}{ifs:List Expr}{pos:Pos}{it:y4b}{pt:x7x}{tt:x23}{te:Den}
abbrev j4x (X:Cx)(ifs:List Expr)(f:x23):Prop:=PTs X ifs (tDT X.K f)
theorem z7t:j4x X [] x1i:=fun pins s σ H Q I hh0=>by
 obtain⟨ρ,w,t,b,ρ',gd,ee,k⟩:=hh0
 cases ee
 exact j33 pins s σ H Q I (k H w gd Go.refl)
theorem z7y {c:Expr}{g:x23}(h:PDT X c g):j4x X [c] g:=j1n h
theorem j1r (deep:Bool)(hc:X.calm=true)(S:CompOk X k N' scope)(hi:PDI X tg iter it)(hg:∀ C s H fp,PDG (x2i X N' scope C s H fp) X.N.length tg pt)(ht:∀ C s H fp,j4x (x2i X N' scope C s H fp) ifs tt)(he:∀ C s H fp,PD (x2i X N' scope C s H fp) elt te)
  (hs:∀ x,foldedSetIterable iter X.env x=pure x:=by intro _;rfl):PD X (.ListComp elt [⟨tg,iter,ifs,0⟩] scope pos) (x22 k it pt tt te deep):=by
 intro pins s σ H Q I h
 have:=y4j σ H Q h
 rw[I.len]at this
 exact j16 (N':=N') hc S hi hg ht he hs pins s σ H Q I this
theorem z6p {i:Nat}{y:Str}{py spos:Pos}(deep:Bool)(hN:X.N.Nodup)(hy:X.N[i]? = some y)(hx:Loc X.env.scope y)(hsw:swapsWith (.ListComp elt [⟨tg,iter,ifs,0⟩] scope pos) (some (.Name y py)) spos.line X.env=pure true)
  (hc:X.calm=true) (S:CompOk X k N' scope) (hi:PDI X tg iter it) (hg:∀ C s H fp,PDG (x2i X N' scope C s H fp) X.N.length tg pt) (ht:∀ C s H fp,j4x (x2i X N' scope C s H fp) ifs tt) (he:∀ C s H fp,PD (x2i X N' scope C s H fp) elt te)
  (hs:∀ x,foldedSetIterable iter X.env x=pure x:=by intro _;rfl) (hf:X.fn y=true\/X.env.scope.names.lookup y=some .local:=by first|exact .inl rfl|exact .inr rfl|assumption) :
  PDS X (.Assign [.Name y py] (.ListComp elt [⟨tg,iter,ifs,0⟩] scope pos) spos) (x25 i (x22 k it pt tt te deep)):=by
 intro pins s σ H D I h
 have hl:i<σ.length:=by rw[I.len];exact(List.getElem?_eq_some_iff.mp hy).1
 refine j15 (N':=N') (te:=tD X.K te) (tt:=tDT X.K tt) (g:=tDG X.K X.N.length pt) (wi:=tDI X.K it) hN hy hx hsw hc S hi hg ht he hs hf pins s σ H D I ?_
 have z:=z4d (te:=z8h k (tDI X.K it) (tDG X.K σ.length pt) (tDT X.K tt) (tD X.K te)) hl (fun Q q=>y4j σ H Q q) h
 rw[I.len]at z
 exact z
end
mutual
def toP:D->PyData
 | .non=>.none
 | .bl b=>.bool b
 | .int i=>.int i
 | .str x=>.str x
 | .tup ds=>.tuple (x86 ds)
 | .lst ds=>.list (x86 ds)
 | .dic _ _=>.none
 | .exc _=>.none
 | .ob _ _ _ _=>.none
def x86:List D->List PyData
 | []=>[]
 | d::ds=>toP d::x86 ds
end
mutual
def x9t:D->Bool
 | .dic _ _=>false
 | .exc _=>false
 | .ob _ _ _ _=>false
 | .tup ds=>y2u ds
 | .lst ds=>y2u ds
 | _=>true
def y2u:List D->Bool
 | []=>true
 | d::ds=>x9t d&&y2u ds
end
def okD (d:D):Bool:=x9t d&&SeqAt.shaped (toP d)
theorem y1s {d:D}(h:okD d=true):x9t d=true:=(Bool.and_eq_true_iff.mp h).1
theorem y1u {d:D}(h:okD d=true):SeqAt.shaped (toP d)=true:=(Bool.and_eq_true_iff.mp h).2
def eqD (d e:D):Bool:=PyData.eqv (toP d) (toP e)
section
variable {X:Cx}{pins:List (Addr×Obj)}{σ:St}{H:Hp}{s:Shared}
theorem Rep.reads (I:Inv X pins σ H s){w:Wn}{o:Ow}:∀ {q:Nat} {d:D} {v:V} {F:List Addr} {u:Value},Rep X.K H w o q d v F->x4g v u->x9t d=true->∃ as,Reads s.heap u (toP d) as:=by
 intro q d v F u r
 refine(Rep.rec (motive_1:=fun q d v F _=>∀ u,x4g v u->x9t d=true->∃ as,Reads s.heap u (toP d) as) (motive_2:=fun q ds vs F _=>∀ us,x37 vs us->y2u ds=true->∃ as,ReadsAll s.heap us (x86 ds) as) ?_ ?_ ?_ ?_ ?_ ?_ ?_ ?_ ?_ ?_ ?_ ?_ ?_ r:∀ u,x4g v u->x9t d=true->∃ as,Reads s.heap u (toP d) as) u
 ·intro q u ru hn;cases ru;exact⟨_,by unfold toP;exact .none⟩
 ·intro q b u ru hn;cases ru;exact⟨_,by unfold toP;exact .bool b⟩
 ·intro q i u ru hn;obtain⟨t,rfl⟩:=ru;exact⟨_,by unfold toP;exact .int i t⟩
 ·intro q x u ru hn;obtain⟨t,rfl⟩:=ru;exact⟨_,by unfold toP;exact .str x t⟩
 ·intro q a vs ds h r ih u ru hn
  cases ru
  obtain⟨its,rv,p,hz⟩:=I.tuple (SqT.of h)
  obtain⟨as,ra⟩:=ih its rv (by unfold x9t at hn;exact hn)
  obtain⟨ob,ho,hc,n,hd⟩:=p
  exact⟨_,by unfold toP;exact .tuple ho hc hd ra⟩
 ·intro q a ks vs ds h r ih u ru hn;cases hn
 ·intro q a nm ob v h x n u ru hn;cases hn
 ·intro q f c fo oc u1 u2 vs ds h1 h2 x r ih u ru hn;cases hn
 ·intro a vs ds h r ih u ru hn
  cases ru
  obtain⟨its,rv,p,hz⟩:=I.list h.sq
  obtain⟨as,ra⟩:=ih its rv (by unfold x9t at hn;exact hn)
  obtain⟨ob,ho,hc,n,hd⟩:=p.isList
  exact⟨_,by unfold toP;exact .list ho hc hd ra⟩
 ·intro a vs ds h n0 r ih u ru hn
  cases ru
  obtain⟨its,rv,p,hz⟩:=I.list (.inl h)
  obtain⟨as,ra⟩:=ih its rv (by unfold x9t at hn;exact hn)
  obtain⟨ob,ho,hc,n,hd⟩:=p.isList
  exact⟨_,by unfold toP;exact .list ho hc hd ra⟩
 ·intro q a vs ds F h e r ne ih u ru hn
  cases ru
  obtain⟨its,rv,p,hz⟩:=I.list (SqL.of h)
  obtain⟨as,ra⟩:=ih its rv (by unfold x9t at hn;exact hn)
  obtain⟨ob,ho,hc,n,hd⟩:=p.isList
  exact⟨_,by unfold toP;exact .list ho hc hd ra⟩
 ·intro q us ru hn;cases ru;exact⟨_,by unfold x86;exact .nil⟩
 ·intro q d v ds vs F G r s' ne ih1 ih2 us ru hn
  cases ru with
  | cons rv rvs=>
   unfold y2u at hn
   obtain⟨as,ra⟩:=ih1 _ rv (Bool.and_eq_true_iff.mp hn).1
   obtain⟨bs,rb⟩:=ih2 _ rvs (Bool.and_eq_true_iff.mp hn).2
   exact⟨_,by unfold x86;exact .cons ra rb⟩
end
def Is (K:PySem.W.Frag)(H:Hp)(d:D)(v:V):Prop:=∃ w o q F,Rep K H w o q d v F
def j91 (K:PySem.W.Frag):R2:=fun x y H Q=>∃ d e,Is K H d x/\Is K H e y/\okD d=true/\okD e=true/\Q (.bl (eqD d e)) H
def j96 (K:PySem.W.Frag):R2:=fun x y H Q=>∃ d e,Is K H d x/\Is K H e y/\okD d=true/\okD e=true/\Q (.bl (!eqD d e)) H
def inD (d:D):D->Option Bool
 | .lst ds=>some ((x86 ds).any fun y=>PyData.eqv y (toP d))
 | .tup ds=>some ((x86 ds).any fun y=>PyData.eqv y (toP d))
 | _=>none
def j99 (K:PySem.W.Frag)(neg:Bool):R2:=fun x y H Q=>∃ d e b,Is K H d x/\Is K H e y/\okD d=true/\okD e=true/\inD d e=some b/\Q (.bl (if neg then !b else b)) H
section
variable {X:Cx}{a b c e:Expr}{fa fb fc f:Den}{pos:Pos}
theorem j00 (hu:X.A.units+64<cLine):OpR X (compareOp .Eq) (j91 X.K):=by
 intro pins s σ H x y v u Q I rx ry ⟨d,e,⟨w,o,q,F,h1⟩,⟨w',o',q',F',h2⟩,k1,k2,hq⟩
 obtain⟨as,ra⟩:=h1.reads I rx (y1s k1)
 obtain⟨bs,rb⟩:=h2.reads I ry (y1s k2)
 exact eq_dataH ra rb (y1u k1) (y1u k2) hu ⟨.bl _,H,I,rfl,hq⟩
theorem j5l (hu:X.A.units+64<cLine):OpR X (compareOp .NotEq) (j96 X.K):=by
 intro pins s σ H x y v u Q I rx ry ⟨d,e,⟨w,o,q,F,h1⟩,⟨w',o',q',F',h2⟩,k1,k2,hq⟩
 obtain⟨as,ra⟩:=h1.reads I rx (y1s k1)
 obtain⟨bs,rb⟩:=h2.reads I ry (y1s k2)
 exact ne_dataH ra rb (y1u k1) (y1u k2) hu ⟨.bl _,H,I,rfl,hq⟩
theorem j6b (hu:X.A.units+65<cLine):OpR X (compareOp .In) (j99 X.K false):=by
 intro pins s σ H x y v u Q I rx ry ⟨d,e,b,⟨w,o,q,F,h1⟩,⟨w',o',q',F',h2⟩,k1,k2,hb,hq⟩
 obtain⟨as,ra⟩:=h1.reads I rx (y1s k1)
 obtain⟨bs,rb⟩:=h2.reads I ry (y1s k2)
 replace k1:=y1u k1
 replace k2:=y1u k2
 cases e with
 | lst ds=>
  cases hb
  unfold toP at rb k2
  exact SeqAt.in_list_reads rb ra (SeqAt.canLay_of_shaped k2) (SeqAt.canLay_of_shaped k1) (room_in_shaped k1 hu) ⟨.bl _,H,I,rfl,hq⟩
 | tup ds=>
  cases hb
  unfold toP at rb k2
  exact SeqAt.in_tuple_reads rb ra (SeqAt.canLay_of_shaped k2) (SeqAt.canLay_of_shaped k1) (room_in_shaped k1 hu) ⟨.bl _,H,I,rfl,hq⟩
 | _=>cases hb
def dEq (x y:D):Option D:=if okD x=true/\okD y=true then some (.bl (eqD x y))else none
def dNe (x y:D):Option D:=if okD x=true/\okD y=true then some (.bl (!eqD x y))else none
def dIn (x y:D):Option D:=if okD x=true/\okD y=true then(inD x y).map fun b=>.bl b else none
theorem hEq {K:PySem.W.Frag}:∀ σ H Q,tD K (e2 dEq fa fb) σ H Q->tOp (j91 K) (tD K fa) (tD K fb) σ H Q:=y2y fun x y d h=>by
 unfold dEq at h
 split at h
 ·rename_i hk
  cases h
  exact⟨_,rfl,fun H w o o' q q' u u' F F' r1 r2 _ Q hq=>⟨x,y,⟨_,_,_,_,r1⟩,⟨_,_,_,_,r2⟩,hk.1,hk.2,hq⟩⟩
 ·cases h
theorem hNe {K:PySem.W.Frag}:∀ σ H Q,tD K (e2 dNe fa fb) σ H Q->tOp (j96 K) (tD K fa) (tD K fb) σ H Q:=y2y fun x y d h=>by
 unfold dNe at h
 split at h
 ·rename_i hk
  cases h
  exact⟨_,rfl,fun H w o o' q q' u u' F F' r1 r2 _ Q hq=>⟨x,y,⟨_,_,_,_,r1⟩,⟨_,_,_,_,r2⟩,hk.1,hk.2,hq⟩⟩
 ·cases h
theorem hIn {K:PySem.W.Frag}:∀ σ H Q,tD K (e2 dIn fa fb) σ H Q->tOp (j99 K false) (tD K fa) (tD K fb) σ H Q:=y2y fun x y d h=>by
 unfold dIn at h
 split at h
 ·rename_i hk
  cases hi:inD x y with
  | none=>rw[hi]at h;cases h
  | some b=>
   rw[hi]at h
   cases h
   exact⟨_,rfl,fun H w o o' q q' u u' F F' r1 r2 _ Q hq=>⟨x,y,b,⟨_,_,_,_,r1⟩,⟨_,_,_,_,r2⟩,hk.1,hk.2,hi,hq⟩⟩
 ·cases h
theorem j7v {k:Nat}(hr:Room k X.A)(ha:PD X a fa)(hb:PD X b fb):PD X (.Compare a [.Eq] [b] pos) (e2 dEq fa fb):=j6v (j00 hr.units) hEq ha hb (y2m _)
theorem j5t {k:Nat}(hr:Room k X.A)(ha:PD X a fa)(hb:PD X b fb):PDT X (.Compare a [.Eq] [b] pos) (x3c (e2 dEq fa fb)):=x92 (j00 hr.units) hEq ha hb (y2m _)
theorem j5z {k:Nat}(hr:Room k X.A)(ha:PD X a fa)(hb:PD X b fb):PDT X (.Compare a [.NotEq] [b] pos) (x3c (e2 dNe fa fb)):=x92 (j5l hr.units) hNe ha hb (y2m _)
theorem u65 {k:Nat}{A:Around}(r:Room k A):A.units+65<cLine:=by have:=r.un;omega
theorem j6p {k:Nat}(hr:Room k X.A)(ha:PD X a fa)(hb:PD X b fb)(hm:behindInMarks .In b=false:=by with_unfolding_all rfl):PDT X (.Compare a [.In] [b] pos) (x3c (e2 dIn fa fb)):=x92 (j6b (u65 hr)) hIn ha hb hm
end
@[simp] def eB (h:List D->Option D)(g:x1v):Den:=fun ρ=>match g ρ with
 | some (ds,ρ1)=>match h ds with
  | some d=>some (d,9,ρ1)
  | none=>none
 | none=>none
section
variable {X:Cx}{a b c e:Expr}{es:List Expr}{fa fb fc f:Den}{g:x1v}{pos p p1 p2:Pos}
theorem z40 {K:PySem.W.Frag}{h:List D->Option D}{r:List V->Hp->VK->Prop}(hh:∀ ds d,h ds=some d->∃ v,y5e d=some v/\∀ H w vs,WL K w H->Reps K H w .f 0 ds vs []->∀ Q:VK,Q v H->r vs H Q) :
  ∀ σ H Q,tD K (eB h g) σ H Q->tCB r (tDA K g) σ H Q:=fun σ H Q hh0=>by
 obtain⟨ρ,w,t,r',q,ρ',gd,ee,k⟩:=hh0
 unfold eB at ee
 split at ee
 ·rename_i ds ρ1 h1
  split at ee
  ·rename_i d hd
   cases ee
   obtain⟨v,hv,hr⟩:=hh ds _ hd
   exact⟨ρ,w,t,ds,_,gd,h1,fun vs H1 w1 g1 go1 r1=>hr H1 w1 vs g1.wl r1 Q (k v H1 w1 [] g1.up go1 (y66 hv))⟩
  ·cases ee
 ·cases ee
theorem one {K:PySem.W.Frag}{H:Hp}{w:Wn}{o:Ow}{d:D}{vs:List V}(r:Reps K H w o 0 [d] vs []):∃ v,vs=[v]/\Rep K H w o 0 d v []:=by
 have l:=r.length
 match vs,l with
 | [v],_=>
  obtain⟨v',h1,h2⟩:=r.get (i:=0) rfl
  cases h1
  exact⟨v,rfl,h2⟩
theorem two {K:PySem.W.Frag}{H:Hp}{w:Wn}{o:Ow}{d d':D}{vs:List V}(r:Reps K H w o 0 [d,d'] vs []):∃ v v',vs=[v,v']/\Rep K H w o 0 d v []/\Rep K H w o 0 d' v' []:=by
 have l:=r.length
 match vs,l with
 | [v,v'],_=>
  obtain⟨u,h1,h2⟩:=r.get (i:=0) rfl
  obtain⟨u',h3,h4⟩:=r.get (i:=1) rfl
  cases h1
  cases h3
  exact⟨v,v',rfl,h2,h4⟩
def x5o:D->Option Nat
 | .lst ds=>some ds.length
 | .tup ds=>some ds.length
 | _=>none
@[simp] def z7x:List D->Option D
 | [d]=>(x5o d).map fun n=>.int (Int.ofNat n)
 | _=>none
theorem Rep.len {K:PySem.W.Frag}{H:Hp}{w:Wn}{o:Ow}{q:Nat}{d:D}{v:V}{F:List Addr}{n:Nat}(r:Rep K H w o q d v F)(h:x5o d=some n):∃ p ys,v=.ref p/\(SqL K H p ys\/SqT K H p ys)/\ys.length=n:=by
 cases d with
 | lst ds=>
  cases h
  obtain⟨p,vs,q',G,rfl,hq,rs⟩:=r.seqL
  exact⟨p,vs,rfl,.inl hq,rs.length.symm⟩
 | tup ds=>
  cases h
  obtain⟨p,vs,rfl,hq,rs⟩:=r.seqT
  exact⟨p,vs,rfl,.inr hq,rs.length.symm⟩
 | _=>cases h
theorem j6n (hm:X.mg "len" = none)(ha:PDA X [a] g)(hg:Gl X "len":=by rfl)(he:starEach [a] X.env=(false,eval a X.env)::starEach [] X.env:=by rfl)(hpl:(backTo pos (starEach [] X.env)).any (·.1)=false:=by rfl):PD X (.Call (.Name "len" p) [a] [] pos) (eB z7x g):=
 PE.imp (x51 x7o hg hm PySem.boot_len ha (by decide) (by decide) he hpl) (z40 fun ds d h=>by
  match ds,h with
  | [d0],h=>
   cases hl:x5o d0 with
   | none=>simp only[z7x,hl,Option.map_none]at h;cases h
   | some n=>
    simp only[z7x,hl,Option.map_some,Option.some.injEq]at h
    subst h
    refine⟨_,rfl,fun H w vs wl r Q hq=>?_⟩
    obtain⟨v,rfl,rv⟩:=one r
    obtain⟨p,ys,rfl,hs,hn⟩:=rv.len hl
    exact⟨p,ys,rfl,hs,by rw[hn];exact hq⟩)
@[simp] def x10 (i:Nat):Den:=fun ρ=>match ρ[i]? with
 | some (some (d,_))=>match x5o d with
  | some n=>some (.int (Int.ofNat n),9,ρ)
  | none=>none
 | _=>none
theorem j2d {i:Nat}{x:Str}(hm:X.mg "len" = none)(h:PE X (.Name x p1) (y0z i))(hg:Gl X "len":=by rfl)(he:starEach [.Name x p1] X.env=(false,eval (.Name x p1) X.env)::starEach [] X.env:=by rfl)(hpl:(backTo pos (starEach [] X.env)).any (·.1)=false:=by rfl):PD X (.Call (.Name "len" p) [.Name x p1] [] pos) (x10 i):=
 PE.imp (x51 x7o hg hm PySem.boot_len (x3v h x71 he) (by decide) (by decide) he hpl) fun σ H Q hh0=>by
 obtain⟨ρ,w,t,r',q,ρ',gd,ee,k⟩:=hh0
 unfold x10 at ee
 split at ee
 ·rename_i d q0 e0
  split at ee
  ·rename_i n hn
   cases ee
   obtain⟨v,F,h1,h2⟩:=gd.slot i d q0 e0
   obtain⟨p,ys,rfl,hs,hl⟩:=h2.len hn
   exact⟨_,h1,p,ys,rfl,hs,by rw[hl];exact k _ H w [] gd.up Go.refl (.int _)⟩
  ·cases ee
 ·cases ee
@[simp] def j43:List D->Option D
 | [.int i,.int j]=>some (.int (if j > i then j else i))
 | _=>none
theorem j0o (hc:X.calm=true)(hm:X.mg "max" = none)(hb:bootBuiltins "max" = some (.builtin "max"))(ha:PDA X (a::es) g)(hg:Gl X "max":=by rfl)(he:starEach (a::es) X.env=(false,eval a X.env)::starEach es X.env:=by rfl)(hpl:(backTo pos (starEach es X.env)).any (·.1)=false:=by rfl):PD X (.Call (.Name "max" p) (a::es) [] pos) (eB j43 g):=
 PE.imp (x51 (z4q hc) hg hm hb ha (by decide) (by decide) he hpl) (z40 fun ds d h=>by
  unfold j43 at h
  split at h
  ·rename_i i j
   cases h
   refine⟨_,rfl,fun H w vs wl r Q hq=>?_⟩
   obtain⟨v,v',rfl,r1,r2⟩:=two r
   exact⟨i,j,by rw[x4t r1,x4t r2],hq⟩
  ·cases h)
@[simp] def y11 (g:x1v):Den:=fun ρ=>match g ρ with
 | some ([.lst ds],ρ1)=>some (.lst ds,1,ρ1)
 | some ([.tup ds],ρ1)=>some (.lst ds,1,ρ1)
 | _=>none
theorem z5n (hm:X.mg "list" = none)(hb:bootBuiltins "list" = some (.type "list"))(ha:PDA X [a] g)(hg:Gl X "list":=by rfl)(he:starEach [a] X.env=(false,eval a X.env)::starEach [] X.env:=by rfl)(hpl:(backTo pos (starEach [] X.env)).any (·.1)=false:=by rfl):PD X (.Call (.Name "list" p) [a] [] pos) (y11 g):=
 PE.imp (x67 y1d hg hm hb ha (by decide) (by decide) he hpl) fun σ H Q hh0=>by
 obtain⟨ρ,w,t,r',q,ρ',gd,ee,k⟩:=hh0
 unfold y11 at ee
 split at ee
 ·rename_i ds ρ1 h1
  cases ee
  refine⟨ρ,w,t,_,_,gd,h1,fun vs H1 w1 g1 go1 r1=>?_⟩
  obtain⟨v,rfl,rv⟩:=one r1
  obtain⟨p,ys,rfl,hs,rs⟩:=rv.seqL0
  refine⟨p,ys,rfl,.inl hs,fun l hl=>?_⟩
  obtain⟨a1,a2,a3⟩:=y7x g1 hl rs
  exact k _ _ _ _ a1 (go1.trans a2) a3
 ·rename_i ds ρ1 h1
  cases ee
  refine⟨ρ,w,t,_,_,gd,h1,fun vs H1 w1 g1 go1 r1=>?_⟩
  obtain⟨v,rfl,rv⟩:=one r1
  obtain⟨p,ys,rfl,hs,rs⟩:=rv.seqT
  refine⟨p,ys,rfl,.inr hs,fun l hl=>?_⟩
  obtain⟨a1,a2,a3⟩:=y7x g1 hl rs
  exact k _ _ _ _ a1 (go1.trans a2) a3
 ·cases ee
@[simp] def x1k (g:x1v):Den:=fun ρ=>match g ρ with
 | some ([.lst ds],ρ1)=>some (.tup ds,9,ρ1)
 | some ([.tup ds],ρ1)=>some (.tup ds,9,ρ1)
 | _=>none
theorem z97 (hm:X.mg "tuple" = none)(hb:bootBuiltins "tuple" = some (.type "tuple"))(ha:PDA X [a] g)(hg:Gl X "tuple":=by rfl)(he:starEach [a] X.env=(false,eval a X.env)::starEach [] X.env:=by rfl)(hpl:(backTo pos (starEach [] X.env)).any (·.1)=false:=by rfl):PD X (.Call (.Name "tuple" p) [a] [] pos) (x1k g):=
 PE.imp (x67 y5z hg hm hb ha (by decide) (by decide) he hpl) fun σ H Q hh0=>by
 obtain⟨ρ,w,t,r',q,ρ',gd,ee,k⟩:=hh0
 unfold x1k at ee
 split at ee
 ·rename_i ds ρ1 h1
  cases ee
  refine⟨ρ,w,t,_,_,gd,h1,fun vs H1 w1 g1 go1 r1=>?_⟩
  obtain⟨v,rfl,rv⟩:=one r1
  obtain⟨p,ys,rfl,hs,rs⟩:=rv.seqL0
  refine⟨p,ys,rfl,.inl ⟨hs,fun l hl=>?_⟩⟩
  obtain⟨a1,a2,a3⟩:=y4o g1 hl rs
  exact k _ _ _ _ a1 (go1.trans a2) a3
 ·rename_i ds ρ1 h1
  cases ee
  refine⟨ρ,w,t,_,_,gd,h1,fun vs H1 w1 g1 go1 r1=>?_⟩
  obtain⟨v,rfl,rv⟩:=one r1
  have rr:=rv
  obtain⟨p,ys,rfl,hs,rs⟩:=rv.seqT
  refine⟨p,ys,rfl,.inr ⟨hs,?_⟩⟩
  exact k _ H1 w1 [] g1.up go1 (((rr.nolist rfl).2 9).any g1.wl)
 ·cases ee
def z9j (ta:TA):TE:=fun σ H Q=>ta σ H fun vs H1=>∃ j:Int,vs=[.int j] /\ -(2 ^ 62)<=j/\j<2 ^ 62/\∀ p,H1 p=none->Q (.ref p) (upd H1 p (.rng 0 j))
theorem z0x {ta:TA}(hg:Gl X "range")(hm:X.mg "range" = none)(ha:PA X [a] ta)(hs:starEach [a] X.env=[(false,eval a X.env)]:=by rfl):PE X (.Call (.Name "range" p) [a] [] pos) (z9j ta):=by
 intro pins s σ H Q I h
 refine Call_ (y2i I hg hm boot_range (PyProof.Rows.callWith_type1 (thn (ha pos pins s σ H _ I h) fun us s1 ⟨vs,H1,I1,r1,q1⟩=>?_) hs rfl))
 obtain⟨j,e,q1,q2,q⟩:=q1
 subst e
 cases r1 with
 | cons r rr=>
  cases rr
  obtain⟨t,rfl⟩:=r
  refine call_range_1 ?_
  exact⟨.ref s1.heap.objs.size,upd H1 s1.heap.objs.size (.rng 0 j),I1.laid (fun b u e=>Heap.get?_push_of_some _ e) (Nat.le_refl _) ⟨_,_,_,Heap.get?_push_size _ rfl⟩,rfl,q _ (I1.hok.fresh (Nat.le_refl _))⟩
end
theorem y3d {j:Int}(h1:-(2 ^ 62)<=j)(h2:j<2 ^ 62):Builtin.Range.small 0 j 1=true:=by
 have hs:Builtin.Range.rangeSize 0 j 1=((j.toNat:Nat):Int):=by
  simp[Builtin.Range.rangeSize]<;>split<;>omega
 simp only[Builtin.Range.small,hs,Builtin.Range.rangeFitsLong]
 simp
 omega
theorem y4d (j:Int):Builtin.Range.rangeSize 0 j 1=((j.toNat:Nat):Int):=by
 simp[Builtin.Range.rangeSize]<;>split<;>omega
theorem y4u {n:Nat}{acc:Array Value}(h:ItemsOf (fun i v=>∃ t,v=Value.int (0+(i:Nat)*1) t) acc n):x37 (y1i n) acc.toList:=by
 have key:∀ (us:List Value) (k:Nat),(∀ j v,us[j]? = some v->∃ t,v=Value.int (((k+j:Nat)):Int) t)->x37 ((List.range' k us.length).map fun i=>V.int (Int.ofNat i)) us:=by
  intro us
  induction us with
  | nil=>intro k _;exact .nil
  | cons u r ih=>
   intro k hk
   obtain⟨t,e⟩:=hk 0 u rfl
   refine .cons ⟨t,by rw[e];rfl⟩ (ih (k+1) fun j v hv=>?_)
   obtain⟨t',e'⟩:=hk (j+1) v (by simpa using hv)
   exact⟨t',by rw[e'];congr 2;omega⟩
 have:=key acc.toList 0 fun j v hv=>by
  obtain⟨t,e⟩:=h.2 j v (by simpa using hv)
  exact⟨t,by rw[e];congr 1;omega⟩
 have hl:acc.toList.length=n:=by simpa using h.1
 rw[hl]at this
 unfold y1i
 rw[List.range_eq_range']
 exact this
section
variable {prog:Program}{w:World}{A:Around}{E:Value->Shared->Prop}{s:Shared}
open AutoSeq1 (wpAny_loadPart')
theorem y6l {Q:List Value->Shared->Prop}{r:Addr}{a b c:Int}{t u v:Tok}{n:Nat}(hh:A.handled=none)(hr:IsRange s.heap r a b c t u v)(hsmall:Builtin.Range.small a b c=true)(hn:Builtin.Range.rangeSize a b c=n)(hlen:n<=2 ^ 24)
  (hQ:∀ h' tk acc',(∀ b o',s.heap.get? b=some o'->h'.get? b=some o')->ItemsOf (fun i v=>∃ t,v=.int (a+i*c) t) acc' n->Q acc'.toList { s with heap:=h',toks:=tk }) :
  wpAny (model prog w) A (collect (.ref r)) Q E s:=by
 unfold collect
 refine wpAny_bind (wpAny_runValue (codeAny_builtin F.entry_proto_collect ?_))
 rw[Around.under_plainId F.plain_proto_collect _]
 show wpAny _ A.in1 (newList [] >>= fun l=>again (.builtin "list.__iadd__" ⟨[l,.ref r],[]⟩)) _ _ s
 refine wpAny_bind (wpAny_newObj_type ?_)
 refine wpAny_pure ⟨plainId_quiet F.plain_list_iadd _,codeAny_builtin F.entry_list_iadd ?_⟩
 rw[Around.under_plainId F.plain_list_iadd _]
 show wpAny _ A.in1 (Builtin.List.listExtendWith (.ref s.heap.objs.size) (.ref r) (.ref s.heap.objs.size)) _ _ _
 have hS:(s.heap.push { cls:=.type "list",data:=.seq ([]:List Value).toArray }).get? s.heap.objs.size=some { cls:=.type "list",data:=.seq #[] 0 }:=Heap.get?_push_size _ rfl
 have fin':∀ (h':Heap) (tk:Nat) (acc':Array Value) (c':Nat),(∀ b o,b≠s.heap.objs.size->(s.heap.push { cls:=.type "list",data:=.seq ([]:List Value).toArray }).get? b=some o->h'.get? b=some o)->
   h'.get? s.heap.objs.size=some { cls:=.type "list",dict:=none,data:=.seq acc' c',slots:=#[] }->ItemsOf (fun i v=>∃ t,v=.int (a+i*c) t) acc' n->wpAny (model prog w) A (match Value.ref s.heap.objs.size with
   | Value.ref a=>do
    match (<- load a).data with
     | Data.seq xs _=>pure xs.toList
     | _=>unsupported "internal:collect"
   | _=>unsupported "internal:collect") Q E { s with heap:=h',toks:=tk }:=fun h' tk acc' c' hk hS' hacc=>by
  show wpAny _ A (load s.heap.objs.size >>= _) _ _ _
  refine wpAny_bind (wpAny_load hS' ?_)
  refine wpAny_pure (hQ h' tk acc' (fun b o' hb=>?_) hacc)
  exact hk b o' (Nat.ne_of_lt (Heap.lt_size hb)) (Heap.get?_push_of_some _ hb)
 refine wpAny_mono (wpAny_extend_range (A:=A) (R:=fun rs s'=>rs=.ok (.ret (.ref s.heap.objs.size))/\∃ h' tk acc' c',s'={ s with heap:=h',toks:=tk }/\(∀ b o,b≠s.heap.objs.size->(s.heap.push { cls:=.type "list",data:=.seq ([]:List Value).toArray }).get? b=some o->h'.get? b=some o) /\
   h'.get? s.heap.objs.size=some { cls:=.type "list",dict:=none,data:=.seq acc' c',slots:=#[] }/\ItemsOf (fun i v=>∃ t,v=.int (a+i*c) t) acc' n)
  (s:={ s with heap:=s.heap.push { cls:=.type "list",data:=.seq ([]:List Value).toArray } }) hh (Heap.get?_push_of_some _ hr) hsmall hn hlen s.heap.objs.size (.ref s.heap.objs.size) 0 hS (fun h' tk acc' c' hk hS' hacc=>⟨rfl,h',tk,acc',c',rfl,hk,hS',hacc⟩)) (fun fin s' h=>?_) (fun e s' h=>?_)
 ·cases fin with
  | done f=>
   obtain⟨e,h',tk,acc',c',rfl,hk,hS',hacc⟩:=h
   cases e
   exact fin' h' tk acc' c' hk hS' hacc
  | again c'=>exact⟨h.1,codeAny_mono h.2 fun r s'' hr=>by
    obtain⟨rfl,h',tk,acc',c',rfl,hk,hS',hacc⟩:=hr
    exact fin' h' tk acc' c' hk hS' hacc⟩
 ·exact absurd h.1 (by simp)
end
theorem x7n (r:Addr)(a b c:Int)(t u v:Tok)(n:Nat)(hsmall:Builtin.Range.small a b c=true)(hn:Builtin.Range.rangeSize a b c=n)(hlen:n<=2 ^ 24) :
  Meets (Builtin.«tuple.__new__» ⟨[.type "tuple",.ref r],[]⟩)
   (fun A R s=>A.handled=none/\IsRange s.heap r a b c t u v/\∀ (h':Heap) tk acc',(∀ b o',s.heap.get? b=some o'->h'.get? b=some o')->ItemsOf (fun i v=>∃ t,v=.int (a+i*c) t) acc' n->R (.ok (.ret (.ref h'.objs.size))) { s with heap:=h'.push { cls:=.type "tuple",data:=.seq acc' },toks:=tk }):=
 .of_wp fun prog w A R s h=>by
  obtain⟨hp,g,d,tk,os⟩:=s;obtain⟨hh,hr,h⟩:=h
  have hsub:=sub_tuple_self
  have hinit:=init_tuple_lookup
  have hmh:=madeHere_tuple
  have hT:Shared.TypeIs ⟨hp,g,d,tk,os⟩ (.ref r) "range":=⟨_,hr,rfl⟩
  have hh1:A.in1.handled=none:=hh
  wp_walk using AutoSeq1.wpAny_loadPart' hr,wpAny_typeOf hT,y6l hh1 hr hsmall hn hlen
  intro h' tk' acc' hk hacc
  show wpAny _ _ (Builtin.Tuple.tupleExact acc'.toList.toArray >>= fun v=>ret v) _ _ _
  unfold Builtin.Tuple.tupleExact
  have hsz:acc'.size<=sizeLine:=by rw[hacc.1];exact hlen
  refine wpAny_bind (wpAny_newObj_type ?_ (by show acc'.toList.toArray.size<=sizeLine;simpa using hsz))
  refine wpAny_pure ⟨_,rfl,?_⟩
  have e:acc'.toList.toArray=acc':=by simp
  rw[e]
  exact h h' tk' acc' hk hacc
theorem y1t {prog:Program}{w:World}{A:Around}{E:Value->Shared->Prop}{s:Shared}{r:Addr}{a b c:Int}{t u v:Tok}{n:Nat}{Q:Value->Shared->Prop}(hh:A.handled=none)(hr:IsRange s.heap r a b c t u v)(hsmall:Builtin.Range.small a b c=true)(hn:Builtin.Range.rangeSize a b c=n)(hlen:n<=2 ^ 24)
  (h:∀ (h':Heap) tk acc',(∀ b o',s.heap.get? b=some o'->h'.get? b=some o')->ItemsOf (fun i v=>∃ t,v=.int (a+i*c) t) acc' n->Q (.ref h'.objs.size) { s with heap:=h'.push { cls:=.type "tuple",data:=.seq acc' },toks:=tk }) :
  wpAny (model prog w) A (call (.type "tuple") [.ref r]) Q E s:=
 callType_new F.called_tuple (by decide) (F.typeCall_tuple_1 _) (F.newCall_tuple_1 _) (fun obj=>F.args_object_init_2 obj _) F.entry_tuple_new
  (x7n r a b c t u v n hsmall hn hlen) ⟨hh,hr,fun h' tk acc' hk hacc=>⟨⟨_,Heap.get?_push_size _ rfl,rfl⟩,h h' tk acc' hk hacc⟩⟩
section
variable {X:Cx}
def j8a (mk:List V->HO):List V->Hp->VK->Prop:=fun xs H Q=>∃ a j,xs=[.ref a]/\H a=some (.rng 0 j) /\ -1000<=j/\j<=1000/\∀ p,H p=none->Q (.ref p) (upd H p (mk (y1i j.toNat)))
theorem y5l (hc:X.calm=true):y0c X (.type "list") (j8a .lst):=by
 intro pins s σ H xs us Q I r h
 obtain⟨a,j,rfl,hr,j1,j2,q⟩:=h
 obtain⟨u,rfl,rx⟩:=y3k r
 cases rx
 obtain⟨t,u,v,ho⟩:=(show x32 X.prog X.w H s.heap a (.rng 0 j)from I.hok a _ hr)
 refine call_list_range (I.ok.hd hc) ho (y3d (by omega) (by omega)) (y4d j) (by omega) fun h' tk acc' c' hk hS' hacc=>?_
 refine⟨.ref s.heap.objs.size,_,I.laid (t':=tk) (o:=.lst (y1i j.toNat)) hk (Nat.le_refl _) ⟨by rw[y4g];exact Nat.le_trans (by omega:j.toNat<=1000) (by decide),acc'.toList,c',y4u hacc,by simpa using hS'⟩,rfl,q _ (I.hok.fresh (Nat.le_refl _))⟩
theorem y3y (hc:X.calm=true):y0c X (.type "tuple") (j8a .tup):=by
 intro pins s σ H xs us Q I r h
 obtain⟨a,j,rfl,hr,j1,j2,q⟩:=h
 obtain⟨u,rfl,rx⟩:=y3k r
 cases rx
 obtain⟨t,u,v,ho⟩:=(show x32 X.prog X.w H s.heap a (.rng 0 j)from I.hok a _ hr)
 refine y1t (I.ok.hd hc) ho (y3d (by omega) (by omega)) (y4d j) (by omega) fun h' tk acc' hk hacc=>?_
 have I1:Inv X pins σ H { s with heap:=h',toks:=tk }:=I.kept hk
 have I2:Inv X pins σ (upd H h'.objs.size (.tup (y1i j.toNat))) { s with heap:=h'.push { cls:=.type "tuple",data:=.seq acc' },toks:=tk }:=
  I1.laid (t':=tk) (fun b o e=>Heap.get?_push_of_some _ e) (Nat.le_refl _) (show x32 X.prog X.w _ _ _ (.tup _)from⟨by rw[y4g];exact Nat.le_trans (by omega:j.toNat<=1000) (by decide),acc'.toList,y4u hacc,by simpa using x5n.new h' acc'⟩)
 exact⟨.ref h'.objs.size,_,I2,rfl,q _ (I1.hok.fresh (Nat.le_refl _))⟩
variable {a:Expr}{g:x1v}{pos p p1 pos1:Pos}
@[simp] def x7j (g:x1v):Den:=fun ρ=>match x15 g ρ with
 | some (ds,ρ1)=>some (.lst ds,1,ρ1)
 | none=>none
@[simp] def j11 (g:x1v):Den:=fun ρ=>match x15 g ρ with
 | some (ds,ρ1)=>some (.tup ds,9,ρ1)
 | none=>none
theorem y79 {K:PySem.W.Frag}{mk:List V->HO}{q0:Nat}{md:List D->D}(al:∀ {ρ:Rho} {σ:St} {H1:Hp} {w1:Wn} {t:Nat} {p:Addr} {vs:List V} {ds:List D},Good K ρ σ H1 w1 t->H1 p=none->Reps K H1 w1 .f 0 ds vs []->∃ w' F,Good K ρ σ (upd H1 p (mk vs)) w' (t+1)/\Go H1 w1 (upd H1 p (mk vs)) w'/\Rep K (upd H1 p (mk vs)) w' (.t t) q0 (md ds) (.ref p) F) :
  ∀ σ H Q,tD K (fun ρ=>match x15 g ρ with
   | some (ds,ρ1)=>some (md ds,q0,ρ1)
   | none=>none) σ H Q->tCB (j8a mk) (j3t (z9j (tDA K g)) j94) σ H Q:=fun σ H Q hh0=>by
 obtain⟨ρ,w,t,r',q,ρ',gd,ee,k⟩:=hh0
 dsimp only at ee
 split at ee
 ·rename_i ds ρ1 h1
  cases ee
  unfold x15 at h1
  split at h1
  ·rename_i n ρ2 h2
   split at h1
   ·rename_i hn
    cases h1
    refine⟨ρ,w,t,_,_,gd,h2,fun vs H1 w1 g1 go1 r1=>?_⟩
    obtain⟨v,rfl,rv⟩:=one r1
    have hv:=x4t rv
    subst hv
    refine⟨n,rfl,by omega,by omega,fun p hp=>⟨p,n,rfl,x1z,hn.1,hn.2,fun l hl=>?_⟩⟩
    have ne:∀ a x,H1 a=some x->a≠p:=fun a x e=>x1r e hp
    have st:x8d H1 w1 (upd H1 p (.rng 0 n)) w1:=fun a x e nn=>⟨sm (by rw[x0y (ne a x e)];exact e),nn⟩
    have nw:∀ a o,w1 a=some o->a≠p:=fun a o e=>by obtain⟨vs,q⟩:=g1.wl a o e;exact ne a _ q
    have g2:Good K ρ' σ (upd H1 p (.rng 0 n)) w1 t:=⟨⟨fun a o e=>by
     obtain⟨us,q⟩:=g1.wl a o e
     exact⟨us,by rw[x0y (nw a o e)];exact q⟩,g1.wl.tb.upd rfl (.inl hp)⟩,g1.ws,g1.wt,g1.len,fun i d q e=>by
     obtain⟨v,F,h1,h2⟩:=g1.slot i d q e
     exact⟨v,F,h1,Rep.go g1.wl st h2 fun a m=>⟨x0y (nw a _ (h2.owns a m)),h2.owns a m⟩⟩⟩
    have go2:Go H1 w1 (upd H1 p (.rng 0 n)) w1:=⟨st,fun a o e _=>⟨x0y (nw a o e),e⟩⟩
    obtain⟨w',F,a1,a2,a3⟩:=al g2 hl (z1x n.toNat)
    exact k _ _ _ _ a1 ((go1.trans go2).trans a2) a3
   ·cases h1
  ·cases h1
 ·cases ee
theorem z8p (hc:X.calm=true)(hm:X.mg "list" = none)(hb:bootBuiltins "list" = some (.type "list"))(hmr:X.mg "range" = none)(ha:PDA X [a] g)(hg:Gl X "list":=by rfl)(hgr:Gl X "range":=by rfl)(hs:starEach [a] X.env=[(false,eval a X.env)]:=by rfl)
  (he:starEach [.Call (.Name "range" p1) [a] [] pos1] X.env=(false,eval (.Call (.Name "range" p1) [a] [] pos1) X.env)::starEach [] X.env:=by rfl) (hpl:(backTo pos (starEach [] X.env)).any (·.1)=false:=by rfl):PD X (.Call (.Name "list" p) [.Call (.Name "range" p1) [a] [] pos1] [] pos) (x7j g):=
 PE.imp (x67 (y5l hc) hg hm hb (x3v (z0x hgr hmr ha hs) x71 he) (by decide) (by decide) he hpl) (y79 fun g hp r=>by
  obtain⟨a1,a2,a3⟩:=y7x g hp r
  exact⟨_,_,a1,a2,a3⟩)
theorem j06 (hc:X.calm=true)(hm:X.mg "tuple" = none)(hb:bootBuiltins "tuple" = some (.type "tuple"))(hmr:X.mg "range" = none)(ha:PDA X [a] g)(hg:Gl X "tuple":=by rfl)(hgr:Gl X "range":=by rfl)(hs:starEach [a] X.env=[(false,eval a X.env)]:=by rfl)
  (he:starEach [.Call (.Name "range" p1) [a] [] pos1] X.env=(false,eval (.Call (.Name "range" p1) [a] [] pos1) X.env)::starEach [] X.env:=by rfl) (hpl:(backTo pos (starEach [] X.env)).any (·.1)=false:=by rfl):PD X (.Call (.Name "tuple" p) [.Call (.Name "range" p1) [a] [] pos1] [] pos) (j11 g):=
 PE.imp (x67 (y3y hc) hg hm hb (x3v (z0x hgr hmr ha hs) x71 he) (by decide) (by decide) he hpl) (y79 fun g hp r=>by
  obtain⟨a1,a2,a3⟩:=y4o g hp r
  exact⟨_,_,a1,a2,a3⟩)
end
end L3
namespace L3
open PySem PySem.Spec PyProof.Rows L2
theorem y1z {M:Model}{A:Around}{E:Value->Shared->Prop}{s:Shared}{β:Type}{n:Nat}(f:Nat->β->Sem (ForInStep β))(I:List Nat->β->Shared->Prop)(Q:β->Shared->Prop)(b:β)
  (turn:∀ x x2j b s,I (x::x2j) b s->wpAny M A (f x b) (fun r s'=>match r with|.yield b'=>I x2j b' s' | .done b'=>Q b' s') E s)
  (fin:∀ b s,I [] b s->Q b s) (h:I (List.range' 0 n 1) b s):wpAny M A (forIn [0:n] b f) Q E s:=by
 rw[Std.Legacy.Range.forIn_eq_forIn_range']
 refine wpAny_forIn_list f I Q turn fin _ b ?_
 have e:(Std.Legacy.Range.size [0:n])=n:=by simp[Std.Legacy.Range.size]
 show I (List.range' 0 (Std.Legacy.Range.size [0:n]) 1) b s
 rw[e]
 exact h
open AutoSeq1 (wpAny_loadPart') in
theorem y5q (l:Addr)(items:Array Value)(n:Nat)(dd:Option Addr)(sl:Array (Option Value))(x:Value)(e:Value->Bool)(j:Nat)(hj:j<items.size)(hit:e items[j]=true)(hno:∀ m (hm:m<items.size),m<j->e items[m]=false) :
  Meets (Builtin.«tuple.index» ⟨[.ref l,x],[]⟩)
   (fun A R s=>s.heap.get? l=some { cls:=.type "tuple",dict:=dd,data:=.seq items n,slots:=sl }/\(∀ y,y∈items->SeqAt.EqAt A.in1 s y x (e y))/\R (.ok (.ret (.int j s.toks))) { s with toks:=s.toks+1 }):=
 .of_wp fun prog w A R s h=>by
  obtain⟨hp,g,d,tk,os⟩:=s;obtain⟨hl,he,h⟩:=h
  wp_walk using wpAny_loadPart' hl,y1z _ (fun x2j b s'=>b.1=none/\s'=⟨hp,g,d,tk,os⟩/\∃ i k,x2j=List.range' i k 1/\i+k=items.size/\i<=j) _
  case turn=>
   rintro y x2j b s' ⟨hb,rfl,i,k,hr,hik,hij⟩
   cases k with
   | zero=>simp at hr
   | succ k=>
    rw[List.range'_succ]at hr
    obtain⟨rfl,rfl⟩:=List.cons.inj hr
    have hlt:y<items.size:=by omega
    have hget:items[y]? = some items[y]:=by simp[hlt]
    rw[hget]
    refine wpAny_bind (he _ (Array.getElem_mem hlt) prog w _ _ ?_)
    by_cases hyj:y=j
    ·subst hyj
     rw[hit]
     wp_walk
     exact⟨_,rfl,h⟩
    ·rw[hno y hlt (by omega)]
     wp_walk
     exact⟨rfl,rfl,y+1,k,rfl,by omega,by omega⟩
  case fin=>
   rintro ⟨b1,b2⟩ s' ⟨hb,rfl,i,k,hr,hik,hij⟩
   cases k with
   | zero=>omega
   | succ k=>simp[List.range'_succ]at hr
  case h=>
   exact⟨rfl,rfl,0,items.size,by simp,by omega,by omega⟩
end L3
namespace L3
open PySem PySem.Spec PyProof.Rows L2
def j3m (d:D)(ds:List D):Option Nat:=(x86 ds).findIdx? fun y=>PyData.eqv y (toP d)
def j38 (K:PySem.W.Frag):V->List V->Hp->VK->Prop:=fun x xs H Q=>∃ ds d y j,xs=[y]/\Is K H (.tup ds) x/\Is K H d y/\okD (.tup ds)=true/\okD d=true/\j3m d ds=some j/\Q (.int (Int.ofNat j)) H
section
variable {X:Cx}{a b c e:Expr}{es:List Expr}{fa fb fc f:Den}{g:x1v}{pos p p1 p2 cpos apos:Pos}
theorem z5e (hu:X.A.units+65<cLine):MtR X "tuple.index" (j38 X.K):=by
 intro pins s σ H x xs v us Q I rx rs ⟨ds,d,y,j,e,⟨w,o,q,F,h1⟩,⟨w',o',q',F',h2⟩,k1,k2,hj,hq⟩
 subst e
 obtain⟨u,rfl,ru⟩:=y3k rs
 obtain⟨as,ra⟩:=h1.reads I rx (y1s k1)
 obtain⟨bs,rb⟩:=h2.reads I ru (y1s k2)
 replace k1:=y1u k1
 replace k2:=y1u k2
 unfold toP at ra k1
 have hc1:PyData.canLayAll0 (x86 ds)=true:=SeqAt.canLay_of_shaped k1
 have hc2:=SeqAt.canLay_of_shaped k2
 cases ra with
 | @tuple a ob vs n _ _ ho hcl hd hrs=>
  obtain⟨cls,dd,data,sl⟩:=ob
  simp only at hcl hd
  subst hcl hd
  have hmap:=SeqAt.readsAll_map _ _ _ hc1 hrs
  have hfi:=List.findIdx?_eq_some_iff_getElem.mp hj
  obtain⟨hjl,hjt,hjf⟩:=hfi
  have hlen:vs.size=(x86 ds).length:=by rw[<- hmap];simp
  have hat:∀ m (hm:m<vs.size) (hm':m<(x86 ds).length),SeqAt.readOf s.heap vs[m]=(x86 ds)[m]:=fun m hm hm'=>by
   have:(vs.toList.map (SeqAt.readOf s.heap))[m]? = (x86 ds)[m]?:=by rw[hmap]
   simpa [hm,hm']using this
  refine call_meets PySem.F.slot_tuple_index ⟨_,ho,rfl⟩ PySem.F.entry_tuple_index (PySem.F.args_tuple_index_2 _ _)
   (y5q a vs n dd sl u (fun y=>PyData.eqv (SeqAt.readOf s.heap y) (toP d)) j (by omega) (by rw[hat j (by omega) hjl];simpa using hjt) (fun m hm hmj=>by rw[hat m hm (by omega)];simpa using hjf m hmj)) ⟨ho,SeqAt.items_eqAt hrs rb hc1 hc2 (room_in_shaped k2 hu),?_⟩
  exact⟨.int (Int.ofNat j),H,I.tok _,⟨_,rfl⟩,hq⟩
@[simp] def z1b (fo:Den)(g:x1v):Den:=fun ρ=>match fo ρ with
 | some (.tup ds,_,ρ1)=>match g ρ1 with
  | some ([d],ρ2)=>if okD (.tup ds)=true/\okD d=true then match j3m d ds with
   | some j=>some (.int (Int.ofNat j),9,ρ2)
   | none=>none
   else none
  | _=>none
 | _=>none
theorem z9c {k:Nat}(hr:Room k X.A)(ho:PD X a fa)(ha:PDA X [e] g)
  (hbase:attributeBase a "index" X.env (eval a X.env)=eval a X.env:=by rfl)
  (hfew:((backTo cpos (starEach [e] X.env)).all (fun x=>!x.1)&&(backToKw cpos (keywordEach [] X.env)).all (fun x=>x.1.isSome)
    && decide ([e].length+([]:List Keyword).length+(if([]:List Keyword).isEmpty then 0 else 1)<30))=true:=by rfl)
  (hline:(apos.endLine==cpos.line)=true:=by rfl) (hs:starEach [e] X.env=(false,eval e X.env)::starEach [] X.env:=by rfl) (hplain:(backTo cpos (starEach [] X.env)).any (·.1)=false:=by rfl) :
  PD X (.Call (.Attribute a "index" apos) [e] [] cpos) (z1b fa g):=
 PE.imp (z22 PySem.F.plainAttrs_tuple PySem.F.slot_tuple_index PySem.F.type_tuple_index (z5e (u65 hr)) ho ha hbase hfew hline hs hplain) fun σ H Q hh0=>by
 obtain⟨ρ,w,t,r',q,ρ',gd,ee,k⟩:=hh0
 unfold z1b at ee
 split at ee
 ·rename_i ds q1 ρ1 h1
  split at ee
  ·rename_i d ρ2 h2
   split at ee
   ·rename_i hok
    split at ee
    ·rename_i j hj
     cases ee
     refine⟨ρ,w,t,_,_,_,gd,h1,fun v H1 w1 F1 g1 go1 r1=>?_⟩
     have r0:=r1.drop (o:=.f) (Nat.le_refl t)
     have gg:=g1.drop (t':=t)
     obtain⟨p0,vs,rfl,hq,rs⟩:=r0.tupAt
     refine⟨?_,ρ1,x2b t w1,t,_,_,gg,h2,fun vs2 H2 w2 g2 go2 r2=>?_⟩
     ·exact .inr (.inl ⟨rfl,.inr ⟨_,hq⟩⟩)
     ·obtain⟨v2,rfl,rv2⟩:=one r2
      have r3:Rep X.K H2 w2 .f 0 (.tup ds) (.ref p0) []:=r0.go0 gg.wl go2.stab
      exact⟨ds,d,v2,j,rfl,⟨_,_,_,_,r3⟩,⟨_,_,_,_,rv2⟩,hok.1,hok.2,hj,k _ H2 w2 [] g2.up ((go1.drop gd.wt).trans go2) (.int _)⟩
    ·cases ee
   ·cases ee
  ·cases ee
 ·cases ee
theorem Good.mut {K:PySem.W.Frag}{ρ:Rho}{σ:St}{H:Hp}{w:Wn}{t i:Nat}{ds:List D}(g:Good K ρ σ H w t)(e:ρ[i]? = some (some (.lst ds,1))) :
  ∃ l vs,σ[i]? = some (some (.ref l))/\H l=some (.lst vs)/\Reps K H w .f 0 ds vs []/\∀ ds' vs',Reps K H w .f 0 ds' vs' []->
   Good K (ρ.set i (some (.lst ds',1))) σ (upd H l (.lst vs')) w t/\Go H w (upd H l (.lst vs')) w:=by
 obtain⟨v,F,h1,h2⟩:=g.slot i _ _ e
 cases h2 with
 | @own _ l vs _ F' hl hw rs ne=>
  have hF:=rs.zero
  subst hF
  refine⟨l,vs,h1,hl,rs.any g.wl,fun ds' vs' r'=>?_⟩
  have nl:∀ a o,w a=some o->o ≠ .s i->a≠l:=fun a o e n z=>by subst z;rw[hw]at e;exact n (Option.some.inj e).symm
  have nn:∀ a,w a=none->a≠l:=fun a e z=>by subst z;rw[hw]at e;cases e
  have st:x8d H w (upd H l (.lst vs')) w:=fun a x h n=>⟨sm (by rw[x0y (nn a n)];exact h),n⟩
  refine⟨⟨⟨fun a o h=>?_,g.wl.tb.upd rfl (.inr (g.wl l _ hw))⟩,g.ws,g.wt,by rw[List.length_set];exact g.len,fun j d' q' e'=>?_⟩,⟨st,fun a o h n=>⟨x0y (nl a o h (n i)),h⟩⟩⟩
  ·by_cases z:a=l
   ·subst z;exact⟨_,x1z⟩
   ·obtain⟨us,q⟩:=g.wl a o h
    exact⟨us,by rw[x0y z];exact q⟩
  ·by_cases hj:i=j
   ·subst hj
    rw[List.getElem?_set_self (List.getElem?_eq_some_iff.mp e).1]at e'
    cases e'
    exact⟨_,_,h1,.own x1z hw (Reps.go g.wl st r' (fun _ z=>nomatch z)) (fun z=>nomatch z)⟩
   ·rw[List.getElem?_set_ne hj]at e'
    obtain⟨v',F',h1',h2'⟩:=g.slot j d' q' e'
    exact⟨v',F',h1',Rep.go g.wl st h2' fun a m=>⟨x0y (nl a _ (h2'.owns a m) (fun z=>hj (by cases z;rfl))),h2'.owns a m⟩⟩
@[simp] def z1l:Option (OD)->Bool
 | some (some (.lst _,_))=>true
 | _=>false
theorem Good.isL {K:PySem.W.Frag}{ρ:Rho}{σ:St}{H:Hp}{w:Wn}{t i:Nat}(g:Good K ρ σ H w t)(h:z1l ρ[i]? = true):∃ l,σ[i]? = some (some (.ref l))/\∃ vs,SqL K H l vs:=by
 unfold z1l at h
 split at h
 ·rename_i ds q e
  obtain⟨v,F,h1,h2⟩:=g.slot i _ _ e
  obtain⟨p,vs,_,_,rfl,hq,_⟩:=h2.seqL
  exact⟨p,h1,vs,hq⟩
 ·cases h
@[simp] def y3n (i:Nat)(g:x1v):Den:=fun ρ=>if z1l ρ[i]? = true then match g ρ with
 | some ([d],ρ1)=>match ρ1[i]? with
  | some (some (.lst ds,1))=>if ds.length<=1000 then some (.non,9,ρ1.set i (some (.lst (ds++[d]),1)))else none
  | _=>none
 | _=>none
 else none
theorem z3c {i:Nat}{x:Str}(h:PE X (.Name x p1) (y0z i))(ha:PDA X [e] g)
  (hbase:attributeBase (.Name x p1) "append" X.env (eval (.Name x p1) X.env)=eval (.Name x p1) X.env:=by rfl)
  (hfew:((backTo cpos (starEach [e] X.env)).all (fun x=>!x.1)&&(backToKw cpos (keywordEach [] X.env)).all (fun x=>x.1.isSome)
    && decide ([e].length+([]:List Keyword).length+(if([]:List Keyword).isEmpty then 0 else 1)<30))=true:=by rfl)
  (hline:(apos.endLine==cpos.line)=true:=by rfl) (hs:starEach [e] X.env=(false,eval e X.env)::starEach [] X.env:=by rfl) (hplain:(backTo cpos (starEach [] X.env)).any (·.1)=false:=by rfl) :
  PD X (.Call (.Attribute (.Name x p1) "append" apos) [e] [] cpos) (y3n i g):=
 PE.imp (z22 PySem.F.plainAttrs_list PySem.F.slot_list_append PySem.F.type_list_append z5c h ha hbase hfew hline hs hplain) fun σ H Q hh0=>by
 obtain⟨ρ,w,t,r',q,ρ',gd,ee,k⟩:=hh0
 unfold y3n at ee
 split at ee
 ·rename_i hl
  obtain⟨l,hσ,us,hq⟩:=gd.isL hl
  split at ee
  ·rename_i d ρ1 h1
   split at ee
   ·rename_i ds e1
    split at ee
    ·rename_i hlen
     cases ee
     refine⟨_,hσ,.inl ⟨rfl,us,hq⟩,ρ,w,t,_,_,gd,h1,fun vs H1 w1 g1 go1 r1=>?_⟩
     obtain⟨v,rfl,rv⟩:=one r1
     obtain⟨l',ws,hσ',hH,rs,mk⟩:=g1.mut e1
     rw[hσ]at hσ'
     cases hσ'
     have r2:Reps X.K H1 w1 .f 0 (ds++[d]) (ws++[v]) []:=Reps.snoc (F:=[]) (G:=[]) rv rs (fun _ z=>nomatch z)
     obtain⟨m1,m2⟩:=mk _ _ r2
     refine⟨l,ws,v,rfl,rfl,hH,by rw[<- rs.length];exact x4a hlen,?_⟩
     exact k .non _ w1 [] m1.up (go1.trans m2) .non
    ·cases ee
   ·cases ee
  ·cases ee
 ·cases ee
theorem Reps.eraseIdx {K:PySem.W.Frag}{H:Hp}{w:Wn}:∀ {ds:List D} {vs:List V} (i:Nat),Reps K H w .f 0 ds vs []->Reps K H w .f 0 (ds.eraseIdx i) (vs.eraseIdx i) []
 | ds,vs,i,r=>by
  generalize hF:([]:List Addr)=F at r
  cases r with
  | nil=>exact .nil
  | @cons _ d v ds vs F G r s _=>
   have h1:F=[]:=r.zero
   have h2:G=[]:=s.zero
   subst h1 h2
   cases i with
   | zero=>exact s
   | succ j=>exact .cons (F:=[]) (G:=[]) r (Reps.eraseIdx j s) (fun _ z=>nomatch z)
@[simp] def z5x (i:Nat)(g:x1v):Den:=fun ρ=>if z1l ρ[i]? = true then match g ρ with
 | some ([.int n],ρ1)=>match ρ1[i]? with
  | some (some (.lst ds,1))=>if -1000<=n/\n<=1000 then match seqIndex? n ds.length with
   | some j=>match ds[j]? with
    | some d=>some (d,x20 d,ρ1.set i (some (.lst (ds.eraseIdx j),1)))
    | none=>none
   | none=>none
   else none
  | _=>none
 | _=>none
 else none
theorem j6s {i:Nat}{x:Str}(h:PE X (.Name x p1) (y0z i))(ha:PDA X [e] g)
  (hbase:attributeBase (.Name x p1) "pop" X.env (eval (.Name x p1) X.env)=eval (.Name x p1) X.env:=by rfl)
  (hfew:((backTo cpos (starEach [e] X.env)).all (fun x=>!x.1)&&(backToKw cpos (keywordEach [] X.env)).all (fun x=>x.1.isSome)
    && decide ([e].length+([]:List Keyword).length+(if([]:List Keyword).isEmpty then 0 else 1)<30))=true:=by rfl)
  (hline:(apos.endLine==cpos.line)=true:=by rfl) (hs:starEach [e] X.env=(false,eval e X.env)::starEach [] X.env:=by rfl) (hplain:(backTo cpos (starEach [] X.env)).any (·.1)=false:=by rfl) :
  PD X (.Call (.Attribute (.Name x p1) "pop" apos) [e] [] cpos) (z5x i g):=
 PE.imp (z22 PySem.F.plainAttrs_list PySem.F.slot_list_pop PySem.F.type_list_pop z6k h ha hbase hfew hline hs hplain) fun σ H Q hh0=>by
 obtain⟨ρ,w,t,r',q,ρ',gd,ee,k⟩:=hh0
 unfold z5x at ee
 split at ee
 ·rename_i hl
  obtain⟨l,hσ,us,hq⟩:=gd.isL hl
  split at ee
  ·rename_i n ρ1 h1
   split at ee
   ·rename_i ds e1
    split at ee
    ·rename_i hn
     split at ee
     ·rename_i j hj
      split at ee
      ·rename_i d hd
       cases ee
       refine⟨_,hσ,.inl ⟨rfl,us,hq⟩,ρ,w,t,_,_,gd,h1,fun vs H1 w1 g1 go1 r1=>?_⟩
       obtain⟨v,rfl,rv⟩:=one r1
       have hv:=x4t rv
       subst hv
       obtain⟨l',ws,hσ',hH,rs,mk⟩:=g1.mut e1
       rw[hσ]at hσ'
       cases hσ'
       obtain⟨y,hy,ry⟩:=rs.get hd
       obtain⟨m1,m2⟩:=mk _ _ (rs.eraseIdx j)
       refine⟨l,ws,n,j,y,rfl,rfl,hH,by omega,by omega,by rw[<- rs.length];exact hj,hy,?_⟩
       have ry':Rep X.K _ w1 (.t t) 0 r' y []:=Rep.go g1.wl m2.stab ry (fun _ z=>nomatch z)
       exact k y _ w1 [] m1.up (go1.trans m2) ry'.dep
      ·cases ee
     ·cases ee
    ·cases ee
   ·cases ee
  ·cases ee
 ·cases ee
end
theorem Reps.getQ {K:PySem.W.Frag}{H:Hp}{w:Wn}{o:Ow}{q:Nat}:∀ {ds:List D} {vs:List V} {F:List Addr} {i:Nat} {d:D},Reps K H w o q ds vs F->ds[i]? = some d->∃ v G,vs[i]? = some v/\Rep K H w o q d v G/\∀ a∈G,a∈F
 | _,_,_,_,_,.nil,e=>by simp at e
 | _,_,_,0,_,.cons r _ _,e=>by
  simp at e;subst e;exact⟨_,_,rfl,r,fun a m=>List.mem_append_left _ m⟩
 | _,_,_,i+1,d,.cons _ s _,e=>by
  obtain⟨v,G,h1,h2,h3⟩:=Reps.getQ (i:=i) (d:=d) s (by simpa using e)
  exact⟨v,G,by simpa using h1,h2,fun a m=>List.mem_append_right _ (h3 a m)⟩
theorem Reps.atQ {K:PySem.W.Frag}{H:Hp}{w:Wn}{o:Ow}{q:Nat}{ds:List D}{vs:List V}{F:List Addr}{i:Int}{d:D}(r:Reps K H w o q ds vs F)(h:L2.atI ds i=some d):∃ v G,L2.atI vs i=some v/\Rep K H w o q d v G/\∀ a∈G,a∈F:=by
 unfold L2.atI at h ⊢
 rw[<- r.length]
 cases e:ixN ds.length i with
 | none=>rw[e]at h;cases h
 | some j=>
  rw[e]at h
  exact r.getQ h
@[simp] def x19 (n:Nat)(fb:Den):Den:=fun ρ=>match ρ[n]? with
 | some (some _)=>match fb ρ with
  | some (.int i,_,ρ2)=>match ρ2[n]? with
   | some (some (x,q))=>match atD x i with
    | some d=>if d.isL=true/\1<q/\x.isL=true then none else some (d,x20 d,ρ2)
    | none=>none
   | _=>none
  | _=>none
 | _=>none
section
variable {X:Cx}{a b c e:Expr}{es:List Expr}{fa fb fc f:Den}{g:x1v}{pos p p1 p2 cpos apos:Pos}
theorem j4l {n:Nat}{x:Str}(h:PE X (.Name x p1) (y0z n))(hb:PD X b fb)(hs:x5i b:=by exact fun _ _=>rfl):PD X (.Subscript (.Name x p1) b pos) (x19 n fb):=PE.imp (z5h y84 h hb hs) fun σ H Q hh0=>by
 obtain⟨ρ,w,t,r',q,ρ',gd,ee,k⟩:=hh0
 unfold x19 at ee
 split at ee
 ·rename_i z0 e0
  obtain⟨d0,q0⟩:=z0
  obtain⟨v,F,hσ,_⟩:=gd.slot n d0 q0 e0
  split at ee
  ·rename_i i q2 ρ2 h2
   split at ee
   ·rename_i x q e2
    split at ee
    ·rename_i d hd
     split at ee
     ·cases ee
     ·rename_i hn
      cases ee
      refine⟨v,hσ,ρ,w,t,_,_,_,gd,h2,fun y H2 w2 F2 g2 go r2=>?_⟩
      have hy:=x4t r2
      subst hy
      have gg:=g2.drop (t':=t)
      obtain⟨v',F',hσ',rr⟩:=gg.slot n x q e2
      rw[hσ]at hσ'
      cases hσ'
      have fin:∀ u,Rep X.K H2 (x2b t w2) (.t t) 0 r' u []->Q u H2:=fun u ru=>k u H2 (x2b t w2) [] gg.up (go.drop gd.wt) ru.dep
      cases x with
      | lst ds=>
       by_cases hq0:q=0
       ·subst hq0
        obtain⟨p0,vs,rfl,hq,rs⟩:=rr.seqL0
        obtain⟨u,hu,ru⟩:=rs.atI hd
        exact .inl ⟨p0,vs,i,u,rfl,rfl,hq,hu,fin u (ru.any gg.wl)⟩
       ·by_cases hq1:q=1
        ·subst hq1
         cases rr with
         | own h0 _ rs _=>
          have z0:=rs.zero
          subst z0
          obtain⟨u,hu,ru⟩:=rs.atI hd
          exact .inl ⟨_,_,i,u,rfl,rfl,SqL.of h0,hu,fin u (ru.any gg.wl)⟩
        ·obtain⟨p0,vs,q',G,rfl,hq,rs⟩:=rr.seqL
         obtain⟨u,G',hu,ru,_⟩:=rs.atQ hd
         refine .inl ⟨p0,vs,i,u,rfl,rfl,hq,hu,fin u ?_⟩
         cases hL:r'.isL with
         | false=>exact((ru.nolist hL).2 0).any gg.wl
         | true=>exact absurd ⟨hL,by omega,rfl⟩ hn
      | tup ds=>
       obtain⟨p0,vs,rfl,hq,rs⟩:=rr.seqT
       obtain⟨u,hu,ru⟩:=rs.atI hd
       exact .inr (.inl ⟨p0,vs,i,u,rfl,rfl,hq,hu,fin u (ru.any gg.wl)⟩)
      | _=>cases hd
    ·cases ee
   ·cases ee
  ·cases ee
 ·cases ee
@[simp] def y2v (fa fb:Den):Den:=fun ρ=>match fa ρ with
 | some (.lst ds,1,ρ1)=>match fb ρ1 with
  | some (.int n,_,ρ2)=>if -1000<=n/\n<=1000/\ds.length*n.toNat<=1000 then some (.lst (List.replicate n.toNat ds).flatten,1,ρ2)else none
  | _=>none
 | _=>none
theorem Reps.app {K:PySem.W.Frag}{H:Hp}{w:Wn}{es:List D}{us:List V}(s:Reps K H w .f 0 es us []):∀ {ds:List D} {vs:List V},Reps K H w .f 0 ds vs []->Reps K H w .f 0 (ds++es) (vs++us) []
 | ds,vs,r=>by
  generalize hF:([]:List Addr)=F at r
  cases r with
  | nil=>rw[<- hF];exact s
  | @cons _ d v ds vs F G r t _=>
   have h1:F=[]:=r.zero
   have h2:G=[]:=t.zero
   subst h1 h2
   exact .cons (F:=[]) (G:=[]) r (Reps.app s t) (fun _ z=>nomatch z)
theorem Reps.times {K:PySem.W.Frag}{H:Hp}{w:Wn}{ds:List D}{vs:List V}(r:Reps K H w .f 0 ds vs []):∀ n:Nat,Reps K H w .f 0 (List.replicate n ds).flatten (List.replicate n vs).flatten []
 | 0=>.nil
 | n+1=>by
  rw[List.replicate_succ,List.replicate_succ,List.flatten_cons,List.flatten_cons]
  exact Reps.app (Reps.times r n) r
theorem j1t (ha:PD X a fa)(hb:PD X b fb):PD X (.BinOp a .Mult b pos) (y2v fa fb):=PE.imp (y89 j60 ha hb) fun σ H Q hh0=>by
 obtain⟨ρ,w,t,r',q,ρ',gd,ee,k⟩:=hh0
 unfold y2v at ee
 split at ee
 ·rename_i ds ρ1 h1
  split at ee
  ·rename_i n q2 ρ2 h2
   split at ee
   ·rename_i hn
    cases ee
    refine j1s gd h1 h2 fun u u' H2 w2 F1 F2 g2 go r1 r2=>?_
    have hu':=x4t r2
    subst hu'
    cases r1 with
    | @own _ l vs _ F hl hw rs ne=>
     have hF:=rs.zero
     subst hF
     have gg:=g2.drop (t':=t)
     have rs':Reps X.K H2 (x2b t w2) .f 0 ds vs []:=Reps.go g2.wl (fun a x h n=>⟨sm h,x8c n⟩) rs (fun _ z=>nomatch z)
     refine⟨l,n,vs,rfl,rfl,hl,by omega,by omega,?_,fun p hp=>?_⟩
     ·rw[<- rs.length];exact y1c hn.2.2
     ·obtain⟨a1,a2,a3⟩:=y7x gg hp (rs'.times n.toNat)
      exact k _ _ _ _ a1 ((go.drop gd.wt).trans a2) a3
   ·cases ee
  ·cases ee
 ·cases ee
end
theorem Reps.row {K:PySem.W.Frag}{H:Hp}{w:Wn}{o:Ow}(wl:WL K w H):∀ {rows:List D} {vs:List V} {F:List Addr} {i:Nat} {row:List D},Reps K H w o 1 rows vs F->rows[i]? = some (.lst row)->
  ∃ b ws,vs[i]? = some (.ref b)/\H b=some (.lst ws)/\w b=some o/\b∈F/\Reps K H w .f 0 row ws [] /\
   ∀ row' ws',Reps K H w .f 0 row' ws' []->Reps K (upd H b (.lst ws')) w o 1 (rows.set i (.lst row')) vs F
 | _,_,_,_,_,.nil,e=>by simp at e
 | _,_,_,0,row,.cons r s ne,e=>by
  simp at e
  subst e
  cases r with
  | @own _ b ws _ F' hb hw rs nb=>
   have hF:=rs.zero
   subst hF
   refine⟨b,ws,rfl,hb,hw,by simp,rs.any wl,fun row' ws' r'=>?_⟩
   have nn:∀ a,w a=none->a≠b:=fun a e z=>by subst z;rw[hw]at e;cases e
   have st:x8d H w (upd H b (.lst ws')) w:=fun a x h n=>⟨sm (by rw[x0y (nn a n)];exact h),n⟩
   refine .cons (.own x1z hw (Reps.go wl st r' (fun _ z=>nomatch z)) (fun z=>nomatch z)) (Reps.go wl st s fun a m=>⟨x0y fun z=>?_,s.owns a m⟩) ne
   subst z
   exact ne a (by simp) m
 | _,_,_,i+1,row,.cons (d:=d) (v:=v) (F:=F) (G:=G) r s ne,e=>by
  obtain⟨b,ws,h1,h2,h3,h4,h5,mk⟩:=Reps.row wl (i:=i) (row:=row) s (by simpa using e)
  refine⟨b,ws,by simpa using h1,h2,h3,List.mem_append_right _ h4,h5,fun row' ws' r'=>?_⟩
  have nn:∀ a,w a=none->a≠b:=fun a e z=>by subst z;rw[h3]at e;cases e
  have st:x8d H w (upd H b (.lst ws')) w:=fun a x h n=>⟨sm (by rw[x0y (nn a n)];exact h),n⟩
  refine .cons (Rep.go wl st r fun a m=>⟨x0y fun z=>?_,r.owns a m⟩) (mk row' ws' r') ne
  subst z
  exact ne a m h4
theorem Good.mut2 {K:PySem.W.Frag}{ρ:Rho}{σ:St}{H:Hp}{w:Wn}{t i m:Nat}{rows row:List D}(g:Good K ρ σ H w t)(e:ρ[i]? = some (some (.lst rows,2)))(em:rows[m]? = some (.lst row)) :
  ∃ l vs b ws,σ[i]? = some (some (.ref l))/\SqL K H l vs/\vs.length=rows.length/\vs[m]? = some (.ref b)/\H b=some (.lst ws)/\Reps K H w .f 0 row ws []/\∀ row' ws',Reps K H w .f 0 row' ws' []->
   Good K (ρ.set i (some (.lst (rows.set m (.lst row')),2))) σ (upd H b (.lst ws')) w t/\Go H w (upd H b (.lst ws')) w:=by
 obtain⟨v,F,h1,h2⟩:=g.slot i _ _ e
 cases h2 with
 | @own _ l vs _ F' hl hw rs nl=>
  obtain⟨b,ws,b1,b2,b3,b4,b5,mk⟩:=Reps.row g.wl rs em
  have hbl:l≠b:=fun z=>by subst z;exact nl b4
  refine⟨l,vs,b,ws,h1,SqL.of hl,rs.length.symm,b1,b2,b5,fun row' ws' r'=>?_⟩
  have nl':∀ a o,w a=some o->o ≠ .s i->a≠b:=fun a o e n z=>by subst z;rw[b3]at e;exact n (Option.some.inj e).symm
  have nn:∀ a,w a=none->a≠b:=fun a e z=>by subst z;rw[b3]at e;cases e
  have st:x8d H w (upd H b (.lst ws')) w:=fun a x h n=>⟨sm (by rw[x0y (nn a n)];exact h),n⟩
  refine⟨⟨⟨fun a o h=>?_,g.wl.tb.upd rfl (.inr (g.wl b _ b3))⟩,g.ws,g.wt,by rw[List.length_set];exact g.len,fun j d' q' e'=>?_⟩,⟨st,fun a o h n=>⟨x0y (nl' a o h (n i)),h⟩⟩⟩
  ·by_cases z:a=b
   ·subst z;exact⟨_,x1z⟩
   ·obtain⟨us,q⟩:=g.wl a o h
    exact⟨us,by rw[x0y z];exact q⟩
  ·by_cases hj:i=j
   ·subst hj
    rw[List.getElem?_set_self (List.getElem?_eq_some_iff.mp e).1]at e'
    cases e'
    exact⟨_,_,h1,.own (by rw[x0y hbl];exact hl) hw (mk row' ws' r') nl⟩
   ·rw[List.getElem?_set_ne hj]at e'
    obtain⟨v',F',h1',h2'⟩:=g.slot j d' q' e'
    exact⟨v',F',h1',Rep.go g.wl st h2' fun a m=>⟨x0y (nl' a _ (h2'.owns a m) (fun z=>hj (by cases z;rfl))),h2'.owns a m⟩⟩
theorem Reps.set0 {K:PySem.W.Frag}{H:Hp}{w:Wn}{d:D}{v:V}(rv:Rep K H w .f 0 d v []):∀ {ds:List D} {vs:List V} (i:Nat),Reps K H w .f 0 ds vs []->Reps K H w .f 0 (ds.set i d) (vs.set i v) []
 | ds,vs,i,r=>by
  generalize hF:([]:List Addr)=F at r
  cases r with
  | nil=>rw[<- hF];exact .nil
  | @cons _ d' v' ds vs F G r s _=>
   have h1:F=[]:=r.zero
   have h2:G=[]:=s.zero
   subst h1 h2
   cases i with
   | zero=>exact .cons (F:=[]) (G:=[]) rv s (fun _ z=>nomatch z)
   | succ j=>exact .cons (F:=[]) (G:=[]) r (Reps.set0 rv j s) (fun _ z=>nomatch z)
abbrev y2b:=Rho->Option Int
def tQ (K:PySem.W.Frag)(f:y2b):TE:=fun σ H Q=>∃ ρ w t i,Good K ρ σ H w t/\f ρ=some i/\Q (.int i) H
abbrev PQ (X:Cx)(e:Expr)(f:y2b):Prop:=PE X e (tQ X.K f)
@[simp] def y67 (n:Nat):y2b:=fun ρ=>match ρ[n]? with
 | some (some (.int i,_))=>some i
 | _=>none
@[simp] def qIx (n:Nat)(f:y2b):y2b:=fun ρ=>match f ρ with
 | some i=>match ρ[n]? with
  | some (some (x,_))=>match atD x i with
   | some (.int j)=>some j
   | _=>none
  | _=>none
 | none=>none
section
variable {X:Cx}{a b c e:Expr}{es:List Expr}{fa fb fc f:Den}{qa qb:y2b}{g:x1v}{pos p p1 p2 cpos apos:Pos}
theorem j5b {n:Nat}{x:Str}(h:PE X (.Name x p1) (y0z n)):PQ X (.Name x p1) (y67 n):=PE.imp h fun σ H Q hh0=>by
 obtain⟨ρ,w,t,i,gd,ee,k⟩:=hh0
 unfold y67 at ee
 split at ee
 ·rename_i j q e0
  cases ee
  obtain⟨v,F,h1,h2⟩:=gd.slot n _ _ e0
  rw[x4t h2]at h1
  exact⟨_,h1,k⟩
 ·cases ee
theorem j8r {n:Nat}{x:Str}(h:PE X (.Name x p1) (y0z n))(hb:PQ X b qb)(hs:x5i b:=by exact fun _ _=>rfl):PQ X (.Subscript (.Name x p1) b pos) (qIx n qb):=PE.imp (z5h y84 h hb hs) fun σ H Q hh0=>by
 obtain⟨ρ,w,t,i,gd,ee,k⟩:=hh0
 unfold qIx at ee
 split at ee
 ·rename_i i0 h0
  split at ee
  ·rename_i x q e0
   split at ee
   ·rename_i j hj
    cases ee
    obtain⟨v,F,h1,h2⟩:=gd.slot n _ _ e0
    refine⟨v,h1,ρ,w,t,i0,gd,h0,?_⟩
    cases x with
    | lst ds=>
     obtain⟨p0,vs,q',G,rfl,hq,rs⟩:=h2.seqL
     obtain⟨u,G',hu,ru,_⟩:=rs.atQ hj
     rw[x4t ru]at hu
     exact .inl ⟨p0,vs,i0,_,rfl,rfl,hq,hu,k⟩
    | tup ds=>
     obtain⟨p0,vs,rfl,hq,rs⟩:=h2.seqT
     obtain⟨u,hu,ru⟩:=rs.atI hj
     rw[x4t ru]at hu
     exact .inr (.inl ⟨p0,vs,i0,_,rfl,rfl,hq,hu,k⟩)
    | _=>cases hj
   ·cases ee
  ·cases ee
 ·cases ee
@[simp] def y3r (n:Nat)(qi qj:y2b)(fe:Den):x1a:=fun ρ=>match fe ρ with
 | some (d,_,ρ1)=>match qi ρ1,qj ρ1,ρ1[n]? with
  | some i,some j,some (some (.lst rows,2))=>match ixN rows.length i with
   | some m=>match rows[m]? with
    | some (.lst row)=>match ixN row.length j with
     | some k=>some (.nx (ρ1.set n (some (.lst (rows.set m (.lst (row.set k d))),2))))
     | none=>none
    | _=>none
   | none=>none
  | _,_,_=>none
 | none=>none
theorem z72 {n:Nat}{x:Str}(h:PE X (.Name x p1) (y0z n))(ha:PQ X a qa)(hb:PQ X b qb)(he:PD X e f)(hi:x5i a:=by exact fun _ _=>rfl)
  (hasg:∀ v,assign (.Subscript (.Subscript (.Name x p1) a p2) b p) X.env v=(do
    let ov <- holding [v] (eval (.Subscript (.Name x p1) a p2) X.env)
    let iv <- holding [v,ov] (eval b X.env)
    standAt p
    holding [v,ov,iv] (setItem ov iv v)
    release [v,ov,iv] []):=by exact fun _=>rfl)
  (hs:swapsWithSole [.Subscript (.Subscript (.Name x p1) a p2) b p] e pos.line X.env=pure false:=by rfl) :
  PDS X (.Assign [.Subscript (.Subscript (.Name x p1) a p2) b p] e pos) (y3r n qa qb f):=by
 refine PS.imp (z5f he (z9t (z5h y84 h ha hi) hb z17 hasg) hs) fun D σ H ⟨ρ,w,o,gd,ee,k⟩=>?_
 unfold y3r at ee
 split at ee
 ·rename_i d q0 ρ1 h1
  split at ee
  ·rename_i i j rows hi hj er
   split at ee
   ·rename_i m hm
    split at ee
    ·rename_i row erow
     split at ee
     ·rename_i kk hk
      cases ee
      refine⟨ρ,w,0,d,q0,ρ1,gd,h1,fun v H1 w1 F1 g1 go1 r1=>?_⟩
      have rv:=r1.drop (o:=.f) (Nat.le_refl 0)
      have gg:=g1.drop (t':=0)
      obtain⟨l,vs,b0,ws,m1,m2,m3,m4,m5,m6,mk⟩:=gg.mut2 er erow
      refine⟨_,m1,ρ1,x2b 0 w1,0,i,gg,hi,.inl ⟨l,vs,i,.ref b0,rfl,rfl,m2,?_,ρ1,x2b 0 w1,0,j,gg,hj,b0,ws,j,kk,rfl,rfl,m5,?_,?_⟩⟩
      ·unfold atI;rw[m3,hm];exact m4
      ·rw[<- m6.length];exact hk
      ·obtain⟨n1,n2⟩:=mk _ _ (m6.set0 rv kk)
       exact k _ _ _ rfl n1 ((go1.drop gd.wt).trans n2)
     ·cases ee
    ·cases ee
   ·cases ee
  ·cases ee
 ·cases ee
end
@[simp] def y8k (fa fb:Den):Den:=fun ρ=>match fa ρ with
 | some (.bl b,_,ρ1)=>if b=true then fb ρ1 else some (.bl false,9,ρ1)
 | _=>none
@[simp] def j7e (fa:Den):Den:=fun ρ=>match fa ρ with
 | some (.bl b,_,ρ1)=>some (.bl (!b),9,ρ1)
 | _=>none
section
variable {X:Cx}{a b c e:Expr}{es x2j:List Expr}{fa fb fc f:Den}{g:x1v}{pos p p1 p2 cpos apos:Pos}
theorem j4z {op}(h:PD X a fa):PD X (.BoolOp op [a] pos) fa:=j7b h
theorem j77 (ha:PD X a fa)(hb:PD X (.BoolOp .And (b::x2j) pos) fb):PD X (.BoolOp .And (a::b::x2j) pos) (y8k fa fb):=PE.imp (j41 ha hb) fun σ H Q hh0=>by
 obtain⟨ρ,w,t,r',q,ρ',gd,ee,k⟩:=hh0
 unfold y8k at ee
 split at ee
 ·rename_i b' q1 ρ1 h1
  refine⟨ρ,w,t,_,_,_,gd,h1,fun v H1 w1 F1 g1 go1 r1=>?_⟩
  cases r1
  refine⟨b',rfl,?_⟩
  split at ee
  ·rename_i hb;rw[if_pos hb]
   exact⟨ρ1,x2b t w1,t,r',q,ρ',g1.drop,ee,fun v H2 w2 F g2 go2=>k v H2 w2 F g2 ((go1.drop gd.wt).trans go2)⟩
  ·rename_i hb;rw[if_neg hb]
   cases ee
   exact k _ H1 w1 [] g1 go1 (.bl false)
 ·cases ee
theorem j7c (ha:PD X a fa):PD X (.UnaryOp .Not a pos) (j7e fa):=PE.imp (j6x ha) fun σ H Q hh0=>by
 obtain⟨ρ,w,t,r',q,ρ',gd,ee,k⟩:=hh0
 unfold j7e at ee
 split at ee
 ·rename_i b' q1 ρ1 h1
  cases ee
  refine⟨ρ,w,t,_,_,_,gd,h1,fun v H1 w1 F1 g1 go1 r1=>?_⟩
  cases r1
  exact⟨b',rfl,k _ H1 w1 [] g1 go1 (.bl _)⟩
 ·cases ee
end
section
variable {es x2j:List Expr}{a b c e:Expr}{pos:Pos}{env:Env}
theorem x1h {op}:starEach (.BinOp a op b pos::x2j) env=(false,eval (.BinOp a op b pos) env)::starEach x2j env:=by simp only[starEach]
theorem z6y:starEach (.IfExp a b c pos::x2j) env=(false,eval (.IfExp a b c pos) env)::starEach x2j env:=by simp only[starEach]
theorem x1d {g sc}:starEach (.ListComp a g sc pos::x2j) env=(false,eval (.ListComp a g sc pos) env)::starEach x2j env:=by simp only[starEach]
theorem x0l {k}:starEach (.Call a es k pos::x2j) env=(false,eval (.Call a es k pos) env)::starEach x2j env:=by simp only[starEach]
theorem x08 {v k}:starEach (.Constant v k pos::x2j) env=(false,eval (.Constant v k pos) env)::starEach x2j env:=by simp only[starEach]
theorem x0t:starEach (.Subscript a b pos::x2j) env=(false,eval (.Subscript a b pos) env)::starEach x2j env:=by simp only[starEach]
theorem x03 {x}:starEach (.Name x pos::x2j) env=(false,eval (.Name x pos) env)::starEach x2j env:=by simp only[starEach]
theorem y39:starEach (.List es pos::x2j) env=(false,eval (.List es pos) env)::starEach x2j env:=by simp only[starEach]
theorem y25 {k}:starEach (.Tuple es k pos::x2j) env=(false,eval (.Tuple es k pos) env)::starEach x2j env:=by simp only[starEach]
end
def At (K:PySem.W.Frag)(mg:Str->Option Value)(x:Str)(st:Stmt)(ps:List Str):Prop:=
 ∃ f fd,Fun K x x st f fd/\mg x=some (.ref f)/\y6c K fd ps []
def Cal (P:Program)(w:World)(K:PySem.W.Frag)(mg:Str->Option Value)(base:Heap)(k:Nat)(x:Str)(n:Nat)(F:List D->OD):Prop:=
 ∃ f fd ps,FnOk P w K mg base CX0 k f fd ps (spD K n F)/\mg x=some (.ref f)/\PySem.W.keepIn K (.ref f)=true/\y6c K fd ps []
theorem Cal.mk {P:Program}{w:World}{K:PySem.W.Frag}{mg:Str->Option Value}{base:Heap}{k:Nat}{x:Str}{st:Stmt}{N ps:List Str}{body:x1a}(a:At K mg x st ps)(S:FnScope N ps (x0b st))
  (h:∀ (f:Addr) (cdv:Value) (A:Around) (outer:List Env) (s:Shared) (H:Hp) (E:XK),Room k (A.deeper (envOfC x (x0b st) s.heap.objs.size f cdv))->z2j (z2u CX0 P w K mg base N x (x0b st) f cdv A outer s H E).nox (x3o st) body) :
  Cal P w K mg base (k+1) x ps.length (fnD N.length body):=by
 obtain⟨f,fd,F,m,b⟩:=a
 exact⟨f,fd,ps,j67 F S (h f),m,F.kp,b⟩
section
variable {X:Cx}{a b c e:Expr}{es x2j:List Expr}{fa fb fc f:Den}{g:x1v}{pos p p1 p2 cpos apos:Pos}
theorem z88 {j k n:Nat}{x:Str}{F:List D->OD}(C:Cal X.prog X.w X.K X.mg X.base k x n F)(hr:Room j X.A)(hk:k<=j)(ha:PDA X (e::es) g)
  (hg:Gl X x:=by rfl) (hdb:(x==("__debug__":Str))=false:=by decide) (he:starEach (e::es) X.env=(false,eval e X.env)::starEach es X.env:=by rfl) (hpl:(backTo pos (starEach es X.env)).any (·.1)=false:=by rfl) :
  PD X (.Call (.Name x p) (e::es) [] pos) (x0m F n g):=by
 obtain⟨f,fd,ps,G,hm,hkp,hb⟩:=C
 exact z95 G (hr.mono hk) hm hkp hb j8p ha hg hdb he hpl
end
theorem j6h {K:PySem.W.Frag}{F:List D->OD}(h:∀ ns:List Int,ns.length<=63->∃ q,F [.lst (ns.map D.int)]=some (.bl true,q)){H:Hp}{a:Addr}{ns:List Int}(hl:ns.length<=63)(hS:SqL K H a (ns.map V.int))(tb:TB K H){E:XK} :
  spD K 1 F [.ref a] H (fun v _=>v=.bl true) E:=by
 obtain⟨q,e⟩:=h ns hl
 have r:Rep K H (fun _=>none) .f 0 (.lst (ns.map D.int)) (.ref a) []:=by
  rcases SqL.cases hS with z|z
  ·exact .shr z rfl (y00 ns)
  ·exact .kl z (y00 ns)
 exact⟨rfl,[.lst (ns.map D.int)],fun _=>none,.bl true,q,(fun a o z=>nomatch z),⟨(fun a o z=>nomatch z),tb⟩,.cons (F:=[]) (G:=[]) r .nil (fun _ z=>nomatch z),e,fun v H' w' Fo _ _ rr=>by cases rr;rfl⟩
theorem j5a {P:Program}{w:World}{K:PySem.W.Frag}{mg:Str->Option Value}{base:Heap}{k:Nat}{x:Str}{st:Stmt}{N ps:List Str}{body:x1a}{f:Addr}{fd:FuncData}(F:Fun K x x st f fd)(S:FnScope N ps (x0b st))
  (h:∀ (f:Addr) (cdv:Value) (A:Around) (outer:List Env) (s:Shared) (H:Hp) (E:XK),Room k (A.deeper (envOfC x (x0b st) s.heap.objs.size f cdv))->z2j (z2u CX0 P w K mg base N x (x0b st) f cdv A outer s H E).nox (x3o st) body) :
  FnOk P w K mg base CX0 (k+1) f fd ps (spD K ps.length (fnD N.length body)):=j67 F S (h f)
section
variable {prog:Program}{w:World}{A:Around}{E:Value->Shared->Prop}{s:Shared}
theorem x88 {j p:Addr}{n:Nat}{vs:Array Value}{v:Value}{Q:Value->Shared->Prop}(a:s.heap.IsTupleIter j p n)(b:s.heap.IsTuple p vs)(c:vs[n]? = some v)
  (k:∀ g:Heap,g.IsTupleIter j p (n+1)->Heap.SameBut j s.heap g->Q v { s with heap:=g }):wpAny (model prog w) A (Builtin.SmallTypes.nextOf (.ref j)) Q E s:=by
 obtain⟨oj,ej,kj,dj⟩:=id a
 obtain⟨op,ep,_,mp,dp⟩:=b
 unfold Builtin.SmallTypes.nextOf
 refine wpAny_bind (wpAny_callSpecial?_slot (name:=Str.ofString "__next__") a.typeIs F.slot_tuple_iterator_next (wpAny_call_entry F.slot_tuple_iterator_next a.typeIs F.entry_tuple_iterator_next ?_ (F.args_tuple_iterator_next_1 _)))
 show wpAny _ _ (field (.ref j) 0 >>= _) _ _ s
 refine wpAny_bind (wpAny_field ej dj (x:=.ref p) rfl ?_)
 show wpAny _ _ (if(Value.ref p==Value.none)=true then _ else _) _ _ s
 rw[if_neg (show ¬ ((Value.ref p==Value.none)=true)from Bool.false_ne_true)]
 show wpAny _ _ (field (.ref j) 1 >>= _) _ _ s
 refine wpAny_bind (wpAny_field ej dj (x:=.int n 0) rfl ?_)
 show wpAny _ _ (seqItems? (.ref p) >>= _) _ _ s
 refine wpAny_bind (wpAny_seqItems ep dp ?_)
 simp only[Int.toNat_natCast,c]
 refine wpAny_bind (wpAny_setField ej dj (by simp) (wpAny_pure ⟨v,rfl,wpAny_pure (k _ ⟨_,Heap.get?_update_self _ ej (Obj.isFreed_of_fields (Obj.data_mapFields dj _)),(Obj.cls_mapFields ..).trans kj,?_⟩ (Heap.SameBut.update ..))⟩))
 rw[Obj.data_mapFields dj]
 simp[rawInt]
theorem y2c {j p:Addr}{n:Nat}{vs:Array Value}{Q:Value->Shared->Prop}(hh:A.handled=none)(a:s.heap.IsTupleIter j p n)(b:s.heap.IsTuple p vs)(c:vs[n]? = none)
  (k:∀ (g:Heap) x,Heap.ExtBut j s.heap g->(∃ o,g.get? x=some o/\o.cls=.type "StopIteration")->E (.ref x) { s with heap:=g }):wpAny (model prog w) A (Builtin.SmallTypes.nextOf (.ref j)) Q E s:=by
 obtain⟨oj,ej,kj,dj⟩:=id a
 obtain⟨op,ep,_,mp,dp⟩:=b
 unfold Builtin.SmallTypes.nextOf
 refine wpAny_bind (wpAny_callSpecial?_slot (name:=Str.ofString "__next__") a.typeIs F.slot_tuple_iterator_next (wpAny_call_entry F.slot_tuple_iterator_next a.typeIs F.entry_tuple_iterator_next ?_ (F.args_tuple_iterator_next_1 _)))
 show wpAny _ _ (field (.ref j) 0 >>= _) _ _ s
 refine wpAny_bind (wpAny_field ej dj (x:=.ref p) rfl ?_)
 show wpAny _ _ (if(Value.ref p==Value.none)=true then _ else _) _ _ s
 rw[if_neg (show ¬ ((Value.ref p==Value.none)=true)from Bool.false_ne_true)]
 show wpAny _ _ (field (.ref j) 1 >>= _) _ _ s
 refine wpAny_bind (wpAny_field ej dj (x:=.int n 0) rfl ?_)
 show wpAny _ _ (seqItems? (.ref p) >>= _) _ _ s
 refine wpAny_bind (wpAny_seqItems ep dp ?_)
 simp only[Int.toNat_natCast,c]
 refine wpAny_bind (wpAny_rule (wpAny_bind (wpAny_setField ej dj (by simp) ?_)))
 show wpAny _ _ (newExc (.type "StopIteration") [] >>= _) _ _ _;refine wpAny_bind ?_;simp only[newExc,newTuple]
 refine wpAny_bind (wpAny_newObj_type ?_ (by size_fits));refine wpAny_bind (m:=firstArgMember _ _) (wpAny_of_eq (a:=Value.none) (by first|rfl|(simp only[firstArgMember];rfl)) (wpAny_newObj_type ?_ (by size_fits)))
 simp only[raiseNew]
 refine wpAny_bind (wpAny_handled ?_);first|rw[show A.in1.handled=none from hh]|rw[hh]
 exact wpAny_bind (wpAny_pure (wpAny_throw (k _ _ (((Heap.SameBut.update ..).extBut.push _).push _) ⟨_,Heap.get?_push_size _ rfl,rfl⟩)))
structure ZT (h:Heap) (z u o i1 i2 p1 p2:Addr) (f0:Value) (k1 k2:Nat):Prop where
 hz:IsZip h z u o f0
 hu:IsPair h u (.ref i1) (.ref i2)
 ho:∃ a b,IsPair h o a b
 h1:h.IsTupleIter i1 p1 k1
 h2:h.IsTupleIter i2 p2 k2
def zfp (z u o i1 i2:Addr):List Addr:=[z,u,o,i1,i2]
structure ZA (z u o i1 i2:Addr):Prop where
 nd:(zfp z u o i1 i2).Nodup
theorem ZA.ne {z u o i1 i2:Addr}(d:ZA z u o i1 i2):z≠u/\z≠o/\z≠i1/\z≠i2/\u≠o/\u≠i1/\u≠i2/\o≠i1/\o≠i2/\i1≠i2:=by
 have:=d.nd
 simp only[zfp,List.nodup_cons,List.mem_cons,List.not_mem_nil,or_false,not_or]at this
 obtain⟨⟨a,b,c,d⟩,⟨e,f,g⟩,⟨h,i⟩,j,_⟩:=this
 exact⟨a,b,c,d,e,f,g,h,i,j⟩
theorem y6h {g:Heap}{o:Addr}{a b x:Value}{n:Nat}{Q:Unit->Shared->Prop}(e:IsPair s.heap o a b)
  (k:∀ g:Heap,g.get? o=some { cls:=.type "tuple",data:=.seq ((#[a,b]:Array Value).setIfInBounds n x) }->Heap.SameBut o s.heap g->Q () { s with heap:=g }):wpAny (model prog w) A (updateSeq o (·.setIfInBounds n x)) Q E s:=by
 refine wpAny_updateSeq e rfl (k _ ?_ (Heap.SameBut.update ..))
 rw[Heap.get?_update_self _ e rfl];simp[Obj.mapSeq]
theorem z3s {z u o i1 i2 p1 p2:Addr}{n:Nat}{xs ys:Array Value}{x y:Value}{Q:Option Value->Shared->Prop}(d:ZA z u o i1 i2)(Z:ZT s.heap z u o i1 i2 p1 p2 .none n n)(t1:s.heap.IsTuple p1 xs)(t2:s.heap.IsTuple p2 ys)
  (n1:p1 ∉ zfp z u o i1 i2) (n2:p2 ∉ zfp z u o i1 i2) (ex:xs[n]? = some x) (ey:ys[n]? = some y)
  (k:∀ g:Heap,ZT g z u o i1 i2 p1 p2 (rawInt s.heap.objs.size) (n+1) (n+1)->IsPair g s.heap.objs.size x y->(∀ c q,c ∉ zfp z u o i1 i2->s.heap.get? c=some q->g.get? c=some q)->Q (some (.ref s.heap.objs.size)) { s with heap:=g }) :
  wpAny (model prog w) A (pyNext (.ref z)) Q E s:=by
 obtain⟨zu,zo,z1,z2,uo,u1,u2,o1,o2,i12⟩:=d.ne
 obtain⟨hz,hu,⟨a,b,ho⟩,h1,h2⟩:=Z
 have nz:∀ p,p ∉ zfp z u o i1 i2->p≠z/\p≠o/\p≠i1/\p≠i2:=fun p h=>by
  simp only[zfp,List.mem_cons,List.not_mem_nil,or_false,not_or]at h
  exact⟨h.1,h.2.2.1,h.2.2.2.1,h.2.2.2.2⟩
 obtain⟨az,ao,a1,a2⟩:=nz p1 n1
 obtain⟨bz,bo,b1,b2⟩:=nz p2 n2
 have ty:s.TypeIs (.ref z) "zip":=⟨_,hz,rfl⟩
 unfold pyNext
 refine wpAny_bind (wpAny_attempt (wpAny_callSpecial?_slot (name:=Str.ofString "__next__") ty F.slot_zip_next (wpAny_call_entry F.slot_zip_next ty F.entry_zip_next ?_ (F.args_zip_next_1 _))))
 show wpAny _ _ (field (.ref z) 2 >>= _) _ _ _;refine wpAny_bind (wpAny_field hz rfl (x:=.bool false) rfl ?_)
 show wpAny _ _ (field (.ref z) 3 >>= _) _ _ _;refine wpAny_bind (wpAny_field hz rfl (x:=.ref u) rfl (wpAny_bind (wpAny_seqItems hu rfl ?_)))
 show wpAny _ _ (Builtin.SmallTypes.ownedTupleIsFree (.ref z) >>= _) _ _ _;refine wpAny_bind ?_;unfold Builtin.SmallTypes.ownedTupleIsFree
 refine wpAny_bind (wpAny_field hz rfl (x:=.none) rfl (wpAny_pure ?_));simp only[if_true]
 refine wpAny_bind (wpAny_rule (wpAny_bind (wpAny_field hz rfl (x:=.ref o) rfl (wpAny_bind (wpAny_setField_rec hz (by simp) fun g1 e1 b1'=>?_)))))
 replace e1:IsZip g1 z u o .ellipsis:=e1
 refine wpAny_bind ?_;simp only[List.zipIdx_cons,List.zipIdx_nil,List.forIn_cons,List.forIn_nil]
 -- the first
 refine wpAny_bind (wpAny_bind (wpAny_onRaise ?_));show wpAny _ _ (Builtin.SmallTypes.nextOf (.ref i1) >>= _) _ _ _
 refine wpAny_bind (x88 (h1.extBut b1'.extBut (Ne.symm z1)) (t1.extBut b1'.extBut az) ex fun g2 e2 c2=>wpAny_pure ?_)
 have q2:IsPair g2 o a b:=c2.extBut _ _ o1 (b1'.extBut _ _ (Ne.symm zo) ho)
 refine wpAny_bind (wpAny_seqItems q2 rfl (wpAny_bind (y6h (g:=g2) q2 fun g3 e3 c3=>wpAny_bind (wpAny_letGo (wpAny_pure ?_)))))
 replace e3:IsPair g3 o x b:=e3
 -- the second
 refine wpAny_bind (wpAny_bind (wpAny_onRaise ?_));show wpAny _ _ (Builtin.SmallTypes.nextOf (.ref i2) >>= _) _ _ _
 refine wpAny_bind (x88 (((h2.extBut b1'.extBut (Ne.symm z2)).extBut c2.extBut (Ne.symm i12)).extBut c3.extBut (Ne.symm o2)) (((t2.extBut b1'.extBut bz).extBut c2.extBut b1).extBut c3.extBut bo) ey fun g4 e4 c4=>wpAny_pure ?_)
 have q4:IsPair g4 o x b:=c4.extBut _ _ o2 e3
 refine wpAny_bind (wpAny_seqItems q4 rfl (wpAny_bind (y6h (g:=g4) q4 fun g5 e5 c5=>wpAny_bind (wpAny_letGo (wpAny_pure (wpAny_pure ?_))))))
 replace e5:IsPair g5 o x y:=e5
 refine wpAny_bind (wpAny_seqItems e5 rfl (wpAny_bind (wpAny_newTuple ?_)))
 have sz:g5.objs.size=s.heap.objs.size:=by rw[c5.1,c4.1,c3.1,c2.1,b1'.1]
 have z5:IsZip g5 z u o .ellipsis:=c5.extBut _ _ zo (c4.extBut _ _ z2 (c3.extBut _ _ zo (c2.extBut _ _ z1 e1)))
 have kp:∀ c q,c≠z->c≠o->c≠i1->c≠i2->s.heap.get? c=some q->g5.get? c=some q:=fun c q x1 x2 x3 x4 e=>c5.extBut _ _ x2 (c4.extBut _ _ x4 (c3.extBut _ _ x2 (c2.extBut _ _ x3 (b1'.extBut _ _ x1 e))))
 have w1:g5.IsTupleIter i1 p1 (n+1):=((e2.extBut c3.extBut (Ne.symm o1)).extBut c4.extBut i12).extBut c5.extBut (Ne.symm o1)
 have w2:g5.IsTupleIter i2 p2 (n+1):=e4.extBut c5.extBut (Ne.symm o2)
 have zl:z<g5.objs.size:=Heap.lt_size z5
 show wpAny _ _ (Builtin.SmallTypes.ownedTupleHandOut (.ref z) (.ref g5.objs.size) >>= _) _ _ _;refine wpAny_bind ?_;unfold Builtin.SmallTypes.ownedTupleHandOut
 have z6:IsZip (g5.push { cls:=.type "tuple",data:=.seq #[x,y] }) z u o .ellipsis:=Heap.get?_push_of_some _ z5
 refine wpAny_bind (wpAny_setField_rec z6 (by simp) fun g7 e7 c7=>?_)
 replace e7:IsZip g7 z u o (rawInt g5.objs.size):=e7
 refine wpAny_setField_rec e7 (by simp) fun g8 e8 c8=>?_
 replace e8:IsZip g8 z u o (rawInt g5.objs.size):=e8
 have up:∀ c q,c≠z->g5.get? c=some q->g8.get? c=some q:=fun c q h e=>c8.extBut _ _ h (c7.extBut _ _ h (Heap.get?_push_of_some _ e))
 have nw:IsPair g8 g5.objs.size x y:=c8.extBut _ _ (Nat.ne_of_gt zl) (c7.extBut _ _ (Nat.ne_of_gt zl) (Heap.get?_push_size _ rfl))
 rw[sz]at e8 nw
 refine wpAny_pure ⟨_,rfl,wpAny_pure ?_⟩
 show Q (some (.ref g5.objs.size)) _
 rw[sz]
 refine k g8 ⟨e8,up _ _ (Ne.symm zu) (kp _ _ (Ne.symm zu) uo u1 u2 hu),⟨x,y,up _ _ (Ne.symm zo) e5⟩,w1.at fun q e=>up _ q (Ne.symm z1) e,w2.at fun q e=>up _ q (Ne.symm z2) e⟩ nw fun c q h e=>?_
 obtain⟨y1,y2,y3,y4⟩:=nz c h
 exact up c q y1 (kp c q y1 y2 y3 y4 e)
theorem z7i {z u o i1 i2 p1 p2:Addr}{n:Nat}{xs ys:Array Value}{Q:Option Value->Shared->Prop}(hh:A.handled=none)(d:ZA z u o i1 i2)(Z:ZT s.heap z u o i1 i2 p1 p2 .none n n)(t1:s.heap.IsTuple p1 xs)(t2:s.heap.IsTuple p2 ys)
  (n1:p1 ∉ zfp z u o i1 i2) (n2:p2 ∉ zfp z u o i1 i2) (en:xs[n]? = none\/ys[n]? = none)
  (k:∀ g:Heap,(∀ c q,c ∉ zfp z u o i1 i2->s.heap.get? c=some q->g.get? c=some q)->Q none { s with heap:=g }) :
  wpAny (model prog w) A (pyNext (.ref z)) Q E s:=by
 obtain⟨zu,zo,z1,z2,uo,u1,u2,o1,o2,i12⟩:=d.ne
 obtain⟨hz,hu,⟨a,b,ho⟩,h1,h2⟩:=Z
 have nz:∀ p,p ∉ zfp z u o i1 i2->p≠z/\p≠o/\p≠i1/\p≠i2:=fun p h=>by
  simp only[zfp,List.mem_cons,List.not_mem_nil,or_false,not_or]at h
  exact⟨h.1,h.2.2.1,h.2.2.2.1,h.2.2.2.2⟩
 obtain⟨az,ao,a1,a2⟩:=nz p1 n1
 obtain⟨bz,bo,b1,b2⟩:=nz p2 n2
 have ty:s.TypeIs (.ref z) "zip":=⟨_,hz,rfl⟩
 unfold pyNext
 refine wpAny_bind (wpAny_attempt (wpAny_callSpecial?_slot (name:=Str.ofString "__next__") ty F.slot_zip_next (wpAny_call_entry F.slot_zip_next ty F.entry_zip_next ?_ (F.args_zip_next_1 _))))
 show wpAny _ _ (field (.ref z) 2 >>= _) _ _ _;refine wpAny_bind (wpAny_field hz rfl (x:=.bool false) rfl ?_)
 show wpAny _ _ (field (.ref z) 3 >>= _) _ _ _;refine wpAny_bind (wpAny_field hz rfl (x:=.ref u) rfl (wpAny_bind (wpAny_seqItems hu rfl ?_)))
 show wpAny _ _ (Builtin.SmallTypes.ownedTupleIsFree (.ref z) >>= _) _ _ _;refine wpAny_bind ?_;unfold Builtin.SmallTypes.ownedTupleIsFree
 refine wpAny_bind (wpAny_field hz rfl (x:=.none) rfl (wpAny_pure ?_));simp only[if_true]
 refine wpAny_bind (wpAny_rule (wpAny_bind (wpAny_field hz rfl (x:=.ref o) rfl (wpAny_bind (wpAny_setField_rec hz (by simp) fun g1 e1 b1'=>?_)))))
 replace e1:IsZip g1 z u o .ellipsis:=e1
 refine wpAny_bind ?_;simp only[List.zipIdx_cons,List.zipIdx_nil,List.forIn_cons,List.forIn_nil]
 have away:∀ (g:Heap) x,IsZip g z u o .ellipsis->(∃ q,g.get? x=some q/\q.cls=.type "StopIteration")->x≠z:=fun g x e ⟨q,e',c'⟩ h=>by
  subst h;rw[e]at e';cases e';simp at c'
 refine wpAny_bind (wpAny_bind (wpAny_onRaise ?_));show wpAny _ _ (Builtin.SmallTypes.nextOf (.ref i1) >>= _) _ _ _
 cases ex:xs[n]? with
 | none=>
  refine wpAny_bind (y2c hh (h1.extBut b1'.extBut (Ne.symm z1)) (t1.extBut b1'.extBut az) ex fun g2 x c2 hx=>?_)
  have e2:IsZip g2 z u o .ellipsis:=c2 _ _ z1 e1
  have xz:=away g2 x e2 hx
  obtain⟨q,hq,cq⟩:=hx
  refine wpAny_setField_rec e2 (by simp) fun g3 _ c3=>?_
  refine wpAny_bind (wpAny_isInstance (T:="StopIteration") (b:=true) ⟨q,c3.extBut _ _ xz hq,cq⟩ isSubtype_stop (wpAny_pure (k g3 fun c r h e=>?_)))
  obtain⟨y1,y2,y3,y4⟩:=nz c h
  exact c3.extBut _ _ y1 (c2 _ _ y3 (b1'.extBut _ _ y1 e))
 | some x=>
  have ey:ys[n]? = none:=by rcases en with h|h;rw[ex]at h;cases h;exact h
  refine wpAny_bind (x88 (h1.extBut b1'.extBut (Ne.symm z1)) (t1.extBut b1'.extBut az) ex fun g2 e2 c2=>wpAny_pure ?_)
  have q2:IsPair g2 o a b:=c2.extBut _ _ o1 (b1'.extBut _ _ (Ne.symm zo) ho)
  refine wpAny_bind (wpAny_seqItems q2 rfl (wpAny_bind (y6h (g:=g2) q2 fun g3 e3 c3=>wpAny_bind (wpAny_letGo (wpAny_pure ?_)))))
  refine wpAny_bind (wpAny_bind (wpAny_onRaise ?_));show wpAny _ _ (Builtin.SmallTypes.nextOf (.ref i2) >>= _) _ _ _
  refine wpAny_bind (y2c hh (((h2.extBut b1'.extBut (Ne.symm z2)).extBut c2.extBut (Ne.symm i12)).extBut c3.extBut (Ne.symm o2)) (((t2.extBut b1'.extBut bz).extBut c2.extBut b1).extBut c3.extBut bo) ey fun g4 x' c4 hx=>?_)
  have e4:IsZip g4 z u o .ellipsis:=c4 _ _ z2 (c3.extBut _ _ zo (c2.extBut _ _ z1 e1))
  have xz:=away g4 x' e4 hx
  obtain⟨q,hq,cq⟩:=hx
  refine wpAny_setField_rec e4 (by simp) fun g5 _ c5=>?_
  refine wpAny_bind (wpAny_isInstance (T:="StopIteration") (b:=true) ⟨q,c5.extBut _ _ xz hq,cq⟩ isSubtype_stop (wpAny_pure (k g5 fun c r h e=>?_)))
  obtain⟨y1,y2,y3,y4⟩:=nz c h
  exact c5.extBut _ _ y1 (c4 _ _ y4 (c3.extBut _ _ y2 (c2.extBut _ _ y3 (b1'.extBut _ _ y1 e))))
theorem z6h {p1 p2:Addr}{xs ys:Array Value}{Q:Value->Shared->Prop}(t1:s.heap.IsTuple p1 xs)(t2:s.heap.IsTuple p2 ys)
  (k:∀ g:Heap,ZT g (s.heap.objs.size+4) (s.heap.objs.size+2) (s.heap.objs.size+3) s.heap.objs.size (s.heap.objs.size+1) p1 p2 .none 0 0->(∀ c q,s.heap.get? c=some q->g.get? c=some q)->Q (.ref (s.heap.objs.size+4)) { s with heap:=g }) :
  wpAny (model prog w) A (call (.type "zip") [.ref p1,.ref p2]) Q E s:=by
 let g1:=s.heap.push { cls:=.type "tuple_iterator",data:=.fields #[.ref p1,.int 0 0] }
 let g2:=g1.push { cls:=.type "tuple_iterator",data:=.fields #[.ref p2,.int 0 0] }
 let g3:=g2.push { cls:=.type "tuple",data:=.seq #[.ref s.heap.objs.size,.ref g1.objs.size] }
 let g4:=g3.push { cls:=.type "tuple",data:=.seq #[.none,.none] }
 let g5:=g4.push { cls:=.type "zip",data:=.fields #[.none,.bool false,.bool false,.ref g2.objs.size,.ref g3.objs.size] }
 have mt:Meets (Builtin.«zip.__new__» ⟨[.type "zip",.ref p1,.ref p2],[]⟩) (fun _ R s'=>s'=s/\R (.ok (.ret (.ref g4.objs.size))) { s with heap:=g5 }):=.of_wp fun prog w A R s' h=>by
  obtain⟨rfl,h⟩:=h
  have hsub:=sub_zip
  obtain⟨hp,gn,dr,tk,os⟩:=s'
  have q1:Heap.IsTuple (Shared.heap ⟨hp,gn,dr,tk,os⟩) p1 xs:=t1
  have q2:Heap.IsTuple (Shared.heap ⟨hp.push { cls:=.type "tuple_iterator",data:=.fields #[.ref p1,.int 0 0] },gn,dr,tk,os⟩) p2 ys:=t2.push _
  wp_walk using wpAny_pyIter_tuple q1,wpAny_pyIter_tuple q2
  exact⟨_,rfl,h⟩
 refine callType_new F.called_zip (by decide) (F.typeCall_zip_2 _ _) (F.newCall_zip_2 _ _) (fun obj=>F.args_object_init_3 obj _ _) F.entry_zip_new mt ⟨rfl,?_⟩
 have s1:g1.objs.size=s.heap.objs.size+1:=Heap.size_push ..
 have s2:g2.objs.size=s.heap.objs.size+2:=by rw[Heap.size_push,s1]
 have s3:g3.objs.size=s.heap.objs.size+3:=by rw[Heap.size_push,s2]
 have s4:g4.objs.size=s.heap.objs.size+4:=by rw[Heap.size_push,s3]
 have a5:g5.get? g4.objs.size=some { cls:=.type "zip",data:=.fields #[.none,.bool false,.bool false,.ref g2.objs.size,.ref g3.objs.size] }:=Heap.get?_push_size _ rfl
 have up4:∀ {c q},g3.get? c=some q->g5.get? c=some q:=fun e=>Heap.get?_push_of_some _ (Heap.get?_push_of_some _ e)
 have a4:g5.get? g3.objs.size=some { cls:=.type "tuple",data:=.seq #[.none,.none] }:=Heap.get?_push_of_some _ (Heap.get?_push_size _ rfl)
 have a3:g5.get? g2.objs.size=some { cls:=.type "tuple",data:=.seq #[.ref s.heap.objs.size,.ref g1.objs.size] }:=up4 (Heap.get?_push_size _ rfl)
 have a2:g5.get? g1.objs.size=some { cls:=.type "tuple_iterator",data:=.fields #[.ref p2,.int 0 0] }:=up4 (Heap.get?_push_of_some _ (Heap.get?_push_size _ rfl))
 have a1:g5.get? s.heap.objs.size=some { cls:=.type "tuple_iterator",data:=.fields #[.ref p1,.int 0 0] }:=up4 (Heap.get?_push_of_some _ (Heap.get?_push_of_some _ (Heap.get?_push_size _ rfl)))
 rw[s2,s3,s4]at a5
 rw[s3]at a4
 rw[s1,s2]at a3
 rw[s1]at a2
 show _/\_
 rw[s4]
 exact⟨⟨_,a5,rfl⟩,k g5 ⟨a5,a3,⟨_,_,a4⟩,⟨_,a1,rfl,rfl⟩,⟨_,a2,rfl,rfl⟩⟩ fun c q e=>up4 (Heap.get?_push_of_some _ (Heap.get?_push_of_some _ (Heap.get?_push_of_some _ e)))⟩
end
theorem y9x {X:Cx}{pins:List (Addr×Obj)}{σ:St}{H:Hp}{s:Shared}{h':Heap}{t':Nat}{ch:List Addr}(I:Inv X pins σ H s)(k:∀ b o,b ∉ ch->s.heap.get? b=some o->h'.get? b=some o)(hf:∀ b∈ch,z4h X pins H b) :
  Inv X pins σ H { s with heap:=h',toks:=t' }:=by
 have nit:∀ b u,H b=some u->b ∉ ch:=fun b u e z=>by rw[(hf b z).1]at e;cases e
 refine I.step (g':=s.gens) (d':=s.drawn) (ch:=ch) (fun b hb=>?_) (fun b o _ _ hc e _=>k b o hc e) (fun b o _ _ hc e _=>⟨o.slots,k b o hc e⟩) (fun _ _ _ _ n=>n)
  (fun b o hc e=>⟨o,k b o hc e⟩) (fun _ _ e=>e) (fun _ _ _ e=>e) (fun b ps e=>⟨#[],by rw[e];simp⟩) (fun m hm=>?_) (fun b u e=>?_) I.bare
 ·obtain⟨f0,f1,f2,f3,f4,f5⟩:=hf b hb
  exact⟨f3,f1,f4,f5⟩
 ·obtain⟨o,es,ep,ho,r⟩:=hm
  exact⟨o,es,ep,k _ o (fun z=>(hf _ z).2.1 rfl) ho,r⟩
 ·refine(I.hok b u e).stay (fun c v hc q=>k c v ?_ q) (fun _ q=>q) fun _ _ q=>q
  rcases hc with z|z
  ·rw[z];exact nit b u e
  ·exact nit c _ z
def Itz (K:PySem.W.Frag)(p1 p2:Addr):It:=
 ⟨fun i H=>∃ xs ys x y,SqT K H p1 xs/\SqT K H p2 ys/\xs[i]? = some x/\ys[i]? = some y,
  fun i H v H'=>∃ T x y,v=.ref T/\H T=none/\(∀ xs,SqT K H p1 xs->xs[i]? = some x)/\(∀ ys,SqT K H p2 ys->ys[i]? = some y)/\H'=upd H T (.tup [x,y]),
  fun i H=>∃ xs ys,SqT K H p1 xs/\SqT K H p2 ys/\(xs.length<=i\/ys.length<=i)⟩
theorem z7n {P:Program}{w:World}{K:PySem.W.Frag}{elts:List Expr}{kt:Nat}{tp:Pos}(z u o i1 i2 p1 p2:Addr)(d:ZA z u o i1 i2)(n1:p1 ∉ zfp z u o i1 i2)(n2:p2 ∉ zfp z u o i1 i2) :
  Turn P w K (.Tuple elts kt tp) (Itz K p1 p2) (zfp z u o i1 i2) z (fun i h=>ZT h z u o i1 i2 p1 p2 .none i i) where
 mem:=by simp[zfp]
 obj:=fun i h st b hb=>by
  obtain⟨hz,hu,⟨a,c,ho⟩,⟨o1,e1,c1,d1⟩,⟨o2,e2,c2,d2⟩⟩:=st
  simp only[zfp,List.mem_cons,List.not_mem_nil,or_false]at hb
  rcases hb with rfl|rfl|rfl|rfl|rfl
  ·exact⟨_,hz,fun v e=>nomatch e⟩
  ·exact⟨_,hu,fun v e=>nomatch e⟩
  ·exact⟨_,ho,fun v e=>nomatch e⟩
  ·exact⟨_,e1,fun v e=>by rw[d1]at e;cases e⟩
  ·exact⟨_,e2,fun v e=>by rw[d2]at e;cases e⟩
 keep:=fun i h h' st k=>by
  obtain⟨hz,hu,⟨a,c,ho⟩,h1,h2⟩:=st
  exact⟨k z (by simp[zfp]) _ hz,k u (by simp[zfp]) _ hu,⟨a,c,k o (by simp[zfp]) _ ho⟩,h1.at fun q e=>k i1 (by simp[zfp]) q e,h2.at fun q e=>k i2 (by simp[zfp]) q e⟩
 item:=by
  intro X hP hw hK hc i pins s σ H E I hf st hg
  subst hP hw hK
  obtain⟨xs,ys,x,y,q1,q2,ex,ey⟩:=hg
  obtain⟨as,ra,ta,_⟩:=I.tuple q1
  obtain⟨bs,rb,tb,_⟩:=I.tuple q2
  obtain⟨ux,hx,rx⟩:=ra.get ex
  obtain⟨uy,hy,ry⟩:=rb.get ey
  refine z3s d st (show s.heap.IsTuple p1 as.toArray from ta) (show s.heap.IsTuple p2 bs.toArray from tb) n1 n2 (by simpa using hx) (by simpa using hy) fun g Z nw kp=>?_
  refine⟨_,rfl,wpAny_letOwnedTupleGo_zip (s:={ s with heap:=g }) Z.hz fun g' hz' sb=>?_⟩
  have fr:H s.heap.objs.size=none:=I.hok.fresh (Nat.le_refl _)
  have I1:Inv X pins σ (upd H s.heap.objs.size (.tup [x,y])) { s with heap:=s.heap.push { cls:=.type "tuple",data:=.seq #[ux,uy] } }:=
   I.laid (t':=s.toks) (fun b q e=>Heap.get?_push_of_some _ e) (Nat.le_refl _) (show x32 X.prog X.w _ _ _ (.tup _)from⟨(by show 2<=sizeLine;decide),[ux,uy],.cons rx (.cons ry .nil),x5n.new _ _⟩)
  have lt:∀ b∈zfp z u o i1 i2,b<s.heap.objs.size:=fun b hb=>by
   obtain⟨hz,hu,⟨a,c,ho⟩,⟨o1,e1,_⟩,⟨o2,e2,_⟩⟩:=st
   simp only[zfp,List.mem_cons,List.not_mem_nil,or_false]at hb
   rcases hb with rfl|rfl|rfl|rfl|rfl
   ·exact Heap.lt_size hz
   ·exact Heap.lt_size hu
   ·exact Heap.lt_size ho
   ·exact Heap.lt_size e1
   ·exact Heap.lt_size e2
  have hn:∀ b∈zfp z u o i1 i2,upd H s.heap.objs.size (.tup [x,y]) b=none:=fun b hb=>by rw[x0y (Nat.ne_of_lt (lt b hb))];exact(hf b hb).1
  have I2:Inv X pins σ (upd H s.heap.objs.size (.tup [x,y])) { s with heap:=g' }:=y9x (s:={ s with heap:=s.heap.push { cls:=.type "tuple",data:=.seq #[ux,uy] } }) (t':=s.toks) (ch:=zfp z u o i1 i2) I1 (fun b q nb e=>by
   have bz:b≠z:=fun h=>nb (by simp[zfp,h])
   rcases Heap.get?_push_cases e with⟨rfl,rfl⟩|e'
   ·exact sb.extBut _ _ bz nw
   ·exact sb.extBut _ _ bz (kp b q nb e')) fun b hb=>by
     obtain⟨f0,f1,f2,f3,f4,f5⟩:=hf b hb
     exact⟨hn b hb,f1,f2,f3,f4,f5⟩
  refine⟨.ref s.heap.objs.size,_,I2,rfl,⟨s.heap.objs.size,x,y,rfl,fr,fun zs hz=>?_,fun zs hz=>?_,rfl⟩,?_,hn⟩
  ·rw[I.tuple_inj hz q1];exact ex
  ·rw[I.tuple_inj hz q2];exact ey
  ·obtain⟨_,hu,⟨a,c,ho⟩,h1,h2⟩:=Z
   obtain⟨zu,zo,z1,z2,_⟩:=d.ne
   exact⟨hz',sb.extBut _ _ (Ne.symm zu) hu,⟨a,c,sb.extBut _ _ (Ne.symm zo) ho⟩,h1.extBut sb.extBut (Ne.symm z1),h2.extBut sb.extBut (Ne.symm z2)⟩
 done:=by
  intro X hP hw hK hc i pins s σ H E I hf st hg
  subst hP hw hK
  obtain⟨xs,ys,q1,q2,hx⟩:=hg
  obtain⟨as,ra,ta,_⟩:=I.tuple q1
  obtain⟨bs,rb,tb,_⟩:=I.tuple q2
  have la:=ra.length
  have lb:=rb.length
  refine z7i (I.ok.hd hc) d st (show s.heap.IsTuple p1 as.toArray from ta) (show s.heap.IsTuple p2 bs.toArray from tb) n1 n2 (by rcases hx with h|h;exact .inl (by simp;omega);exact .inr (by simp;omega)) fun g kp=>⟨rfl,?_⟩
  exact y9x (t':=s.toks) (ch:=zfp z u o i1 i2) I (fun b q nb e=>kp b q nb e) hf
 self:=fun _ _ _ _ _ st h=>wpAny_pyIter_zip st.hz h
section
variable {X:Cx}{a b c e:Expr}{es elts:List Expr}{fa fb fc f:Den}{g:x1v}{pos p p1 p2 tp:Pos}{kt:Nat}
def j9k (K:PySem.W.Frag)(ta:TA):TI:=fun σ H R=>ta σ H fun vs H1=>∃ p1 p2,vs=[.ref p1,.ref p2]/\(∃ xs,SqT K H1 p1 xs)/\(∃ ys,SqT K H1 p2 ys)/\R (Itz K p1 p2) H1
theorem j6c {ta:TA}(hg:Gl X "zip")(hm:X.mg "zip" = none)(ha:PA X [a,b] ta)(hs:starEach [a,b] X.env=[(false,eval a X.env),(false,eval b X.env)]:=by rfl)(hs2:starEach [b] X.env=[(false,eval b X.env)]:=by rfl) :
  PI X (.Tuple elts kt tp) (.Call (.Name "zip" p) [a,b] [] pos) (j9k X.K ta):=by
 intro pins s σ H R I h
 refine Call_ (y2i I hg hm boot_zip (PyProof.Rows.callWith_type1 (thn (ha pos pins s σ H _ I h) fun us s1 ⟨vs,H1,I1,r1,q1⟩=>?_) (by rw[hs,hs2]) (by rw[hs2];rfl)))
 obtain⟨p1,p2,e,⟨xs,hx⟩,⟨ys,hy⟩,q⟩:=q1
 subst e
 cases r1 with
 | cons r rr=>
  cases rr with
  | cons r' rr=>
   cases rr
   cases r
   cases r'
   obtain⟨as,ra,ta',_⟩:=I1.tuple hx
   obtain⟨bs,rb,tb,_⟩:=I1.tuple hy
   have l1:p1<s1.heap.objs.size:=by obtain⟨_,e,_⟩:=ta';exact Heap.lt_size e
   have l2:p2<s1.heap.objs.size:=by obtain⟨_,e,_⟩:=tb;exact Heap.lt_size e
   refine z6h (show s1.heap.IsTuple p1 as.toArray from ta') (show s1.heap.IsTuple p2 bs.toArray from tb) fun g Z kp=>?_
   have I2:Inv X pins σ H1 { s1 with heap:=g }:=I1.kept (t':=s1.toks) kp
   refine wpAny_pyIter_zip Z.hz ?_
   have dd:ZA (s1.heap.objs.size+4) (s1.heap.objs.size+2) (s1.heap.objs.size+3) s1.heap.objs.size (s1.heap.objs.size+1):=⟨by
    generalize s1.heap.objs.size=n
    unfold zfp
    simp only[List.nodup_cons,List.mem_cons,List.not_mem_nil,or_false,not_or,not_false_eq_true,List.nodup_nil,and_true]
    have ne:∀ {x y:Nat},x≠y->(x:Addr)≠(y:Addr):=fun h=>h
    refine⟨⟨ne ?_,ne ?_,ne ?_,ne ?_⟩,⟨ne ?_,ne ?_,ne ?_⟩,⟨ne ?_,ne ?_⟩,ne ?_⟩<;>(intro h;have h':(_:Nat)=(_:Nat):=h;omega)⟩
   have far:∀ b∈zfp (s1.heap.objs.size+4) (s1.heap.objs.size+2) (s1.heap.objs.size+3) s1.heap.objs.size (s1.heap.objs.size+1),s1.heap.objs.size<=b:=fun b hb=>by
    simp only[zfp,List.mem_cons,List.not_mem_nil,or_false]at hb
    rcases hb with rfl|rfl|rfl|rfl|rfl<;>first|exact Nat.le_refl _|exact Nat.le_add_right _ _
   refine⟨s1.heap.objs.size+4,zfp (s1.heap.objs.size+4) (s1.heap.objs.size+2) (s1.heap.objs.size+3) s1.heap.objs.size (s1.heap.objs.size+1),_,_,H1,rfl,I2,z7n _ _ _ _ _ p1 p2 dd (fun h=>absurd (far _ h) (Nat.not_le_of_lt l1)) (fun h=>absurd (far _ h) (Nat.not_le_of_lt l2)),Z,fun b hb=>?_,q⟩
   exact I1.fpOk (far b hb) (I1.hok.fresh (far b hb))
@[simp] def y6y (g:x1v):y4b:=fun ρ=>match g ρ with
 | some ([.tup ds,.tup es],ρ1)=>if ds.length<=1000 then some ((ds.zip es).map fun x=>.tup [x.1,x.2],ρ1)else none
 | _=>none
theorem It.zip {K:PySem.W.Frag}{p1 p2:Addr}{vs us:List V}{ds es:List D}(l1:ds.length=vs.length)(l2:es.length=us.length):ItOk K (Itz K p1 p2) ((ds.zip es).map fun x=>.tup [x.1,x.2]) fun H w=>SqT K H p1 vs/\SqT K H p2 us/\Reps K H w .f 0 ds vs []/\Reps K H w .f 0 es us []:=by
 refine⟨fun i H w p hi=>?_,fun i H w x H' d p wl hd y=>?_,fun H w p=>⟨vs,us,p.1,p.2.1,?_⟩,fun H w H' w' p wl st=>⟨SqT.go wl st p.1,SqT.go wl st p.2.1,Reps.go wl st p.2.2.1 (fun _ z=>nomatch z),Reps.go wl st p.2.2.2 (fun _ z=>nomatch z)⟩⟩
 ·have hi':i<vs.length/\i<us.length:=by simp[List.length_zip]at hi;omega
  exact⟨vs,us,vs[i]'hi'.1,us[i]'hi'.2,p.1,p.2.1,by simp[hi'.1],by simp[hi'.2]⟩
 ·obtain⟨T,v,u,rfl,hT,hv,hu,rfl⟩:=y
  obtain⟨q1,q2,r1,r2⟩:=p
  rw[List.getElem?_map]at hd
  cases hz:(ds.zip es)[i]? with
  | none=>rw[hz]at hd;cases hd
  | some de=>
   rw[hz]at hd
   cases hd
   obtain⟨e1,e2⟩:=List.getElem?_zip_eq_some.mp hz
   obtain⟨v',hv',rv⟩:=r1.get e1
   obtain⟨u',hu',ru⟩:=r2.get e2
   have ev:v'=v:=by have:=hv vs q1;rw[hv']at this;exact Option.some.inj this
   have eu:u'=u:=by have:=hu us q2;rw[hu']at this;exact Option.some.inj this
   subst ev eu
   have mo:∀ a o,H a=some o->upd H T (.tup [v',u']) a=some o:=fun a o e=>by rw[x0y (x1r e hT)];exact e
   have st:x8d H w (upd H T (.tup [v',u'])) w:=fun a x e n=>⟨sm (mo a x e),n⟩
   exact⟨⟨mo,fun t=>t.upd rfl (.inl hT)⟩,.tup x1z (.cons (F:=[]) (G:=[]) (Rep.go0 rv wl st) (.cons (F:=[]) (G:=[]) (Rep.go0 ru wl st) .nil (fun _ z=>nomatch z)) (fun _ z=>nomatch z)),SqT.go wl st q1,SqT.go wl st q2,r1.go0 wl st,r2.go0 wl st⟩
 ·simp[List.length_zip];omega
theorem j37 (hm:X.mg "zip" = none)(ha:PDA X [a,b] g)(hg:Gl X "zip":=by rfl)(hs:starEach [a,b] X.env=[(false,eval a X.env),(false,eval b X.env)]:=by rfl)(hs2:starEach [b] X.env=[(false,eval b X.env)]:=by rfl) :
  PDI X (.Tuple elts kt tp) (.Call (.Name "zip" p) [a,b] [] pos) (y6y g):=PI.imp (j6c hg hm ha hs hs2) fun σ H R hh0=>by
 obtain⟨ρ,w,t,ds,ρ',gd,ee,k⟩:=hh0
 unfold y6y at ee
 split at ee
 ·rename_i d1 d2 ρ1 h1
  split at ee
  ·rename_i hl
   cases ee
   refine⟨ρ,w,t,_,_,gd,h1,fun vs H1 w1 g1 go1 r1=>?_⟩
   obtain⟨v,v',rfl,rv,rv'⟩:=two r1
   obtain⟨p1,as,rfl,q1,s1⟩:=rv.seqT
   obtain⟨p2,bs,rfl,q2,s2⟩:=rv'.seqT
   refine⟨p1,p2,rfl,⟨_,q1⟩,⟨_,q2⟩,k _ _ H1 w1 g1 go1 (It.zip s1.length s2.length) ⟨q1,q2,s1,s2⟩ (x4a ?_)⟩
   simp[List.length_zip];omega
  ·cases ee
 ·cases ee
end
abbrev y0m:=List D->Rho->Option Rho
def k0c (K:PySem.W.Frag)(b:Nat)(pt:y0m):TGs:=fun vs σ H Q=>∃ ds ρ w t ρ',Good K ρ σ H w t/\Reps K H w .f 0 ds vs []/\pt ds ρ=some ρ'/\∀ σ' H' w',σ'.length=σ.length->(∀ i,i<b->σ'[i]? = σ[i]?)->Good K ρ' σ' H' w' t->Go H w H' w'->Q σ' H'
theorem PGs.imp {X:Cx}{tg:List Expr}{t t':TGs}(h:PGs X tg t)(i:∀ v σ H Q,t' v σ H Q->t v σ H Q):PGs X tg t':=fun pins s σ H v u Q I r q=>h pins s σ H v u Q I r (i v σ H Q q)
abbrev j50 (X:Cx)(b:Nat)(tg:List Expr)(pt:y0m):Prop:=PGs X tg (k0c X.K b pt)
@[simp] def x5v:y0m:=fun ds ρ=>match ds with
 | []=>some ρ
 | _=>none
@[simp] def x18 (pt:x7x)(ps:y0m):y0m:=fun ds ρ=>match ds with
 | []=>none
 | d::r=>match pt d ρ with
  | some ρ1=>ps r ρ1
  | none=>none
@[simp] def y64 (ps:y0m):x7x:=fun d ρ=>match d with
 | .tup ds=>ps ds ρ
 | _=>none
section
variable {X:Cx}{k b:Nat}{e:Expr}{es:List Expr}{pt:x7x}{ps:y0m}{pos:Pos}
theorem z73:j50 X b [] x5v:=PGs.imp j1u fun v σ H Q hh0=>by
 obtain⟨ds,ρ,w,t,ρ',g,r,e,k⟩:=hh0
 unfold x5v at e
 split at e
 ·cases e
  generalize hF:([]:List Addr)=F at r
  cases r
  exact⟨rfl,k σ H w rfl (fun _ _=>rfl) g Go.refl⟩
 ·cases e
theorem z5d (h1:PDG X b e pt)(h2:j50 X b es ps)(hs:(assignEach (e::es) X.env).map (·.2)=assign e X.env::(assignEach es X.env).map (·.2):=by rfl):j50 X b (e::es) (x18 pt ps):=PGs.imp (z8r h1 h2 hs) fun v σ H Q hh0=>by
 obtain⟨ds,ρ,w,t,ρ',g,r,e,k⟩:=hh0
 unfold x18 at e
 split at e
 ·cases e
 ·rename_i d x2j
  split at e
  ·rename_i ρ1 h1
   generalize hF:([]:List Addr)=F at r
   cases r with
   | cons ra rb _=>
    have z1:=ra.zero
    have z2:=rb.zero
    subst z1 z2
    refine⟨_,_,rfl,d,ρ,w,t,ρ1,g,ra,h1,fun σ1 H1 w1 l1 s1 g1 go1=>⟨x2j,ρ1,w1,t,ρ',g1,rb.go0 g.wl go1.stab,e,fun σ2 H2 w2 l2 s2 g2 go2=>k σ2 H2 w2 (l2.trans l1) (fun i hi=>(s2 i hi).trans (s1 i hi)) g2 (go1.trans go2)⟩⟩
  ·cases e
theorem j24 {n:Nat}(hc:X.calm=true)(h:j50 X b es ps)(hl:∀ ds ρ ρ',ps ds ρ=some ρ'->ds.length=n)(hn:(assignEach es X.env).length=n:=by rfl)(hst:(assignEach es X.env).findIdx? (·.1)=none:=by rfl):PDG X b (.Tuple es k pos) (y64 ps):=PG.imp (j3q hc h hn hst) fun v σ H Q hh0=>by
 obtain⟨d,ρ,w,t,ρ',g,r,e,k⟩:=hh0
 unfold y64 at e
 split at e
 ·rename_i ds
  obtain⟨a,vs,rfl,hq,rs⟩:=r.seqT
  exact⟨a,vs,rfl,hq,by rw[<- rs.length];exact hl _ _ _ e,ds,ρ,w,t,ρ',g,rs,e,k⟩
 ·cases e
theorem y0i {p q:x7x}:∀ ds ρ ρ',x18 p (x18 q x5v) ds ρ=some ρ'->ds.length=2:=fun ds ρ ρ' h=>by
 match ds with
 | []=>cases h
 | [_]=>unfold x18 at h;simp at h;split at h<;>cases h
 | [_,_]=>rfl
 | _::_::_::_=>
  exfalso
  unfold x18 at h
  simp at h
  split at h
  ·split at h<;>cases h
  ·cases h
end
theorem y6z:∀ {bs:List Bool} {us:List Value},x37 (bs.map V.bl) us->LSm.BoolsAre us bs
 | [],_,h=>by cases h;exact .nil
 | b::bs,_,h=>by
  cases h with
  | cons r rr=>
   cases r
   exact .cons b (y6z rr)
section
variable {X:Cx}{a b c e:Expr}{es:List Expr}{fa fb fc f:Den}{g:x1v}{pos p p1 p2:Pos}
theorem z78 (hc:X.calm=true):y0c X (.builtin "all") (fun xs H Q=>∃ (a:Addr) (bs:List Bool),xs=[.ref a]/\SqL X.K H a (bs.map V.bl)/\Q (.bl (bs.all id)) H):=by
 intro pins s σ H xs us Q I r h
 obtain⟨l,bs,rfl,hq,q⟩:=h
 obtain⟨u,rfl,ru⟩:=y3k r
 cases ru
 obtain⟨its,rv,pl,hz⟩:=I.list hq
 have hb:=y6z rv
 have hl:s.heap.IsList l its.toArray:=pl.isList
 have lt:l<s.heap.objs.size:=by obtain⟨_,e,_⟩:=hl;exact Heap.lt_size e
 refine call_all_walk (wpAny_pyIter_list hl ⟨s.heap.objs.size,[s.heap.objs.size,l],[s.heap.objs.size],its.toArray.size,_,_,fun i=>(bs[i]?).getD true,rfl,Walks.list (A:=X.A.in1) (I.ok.hd hc) _ l (Nat.ne_of_lt lt) its.toArray,
  ⟨⟨_,Heap.get?_push_size _ rfl,rfl,rfl⟩,hl.push _⟩,fun i v s' Q' E' hP hQ=>?_,fun h' tk hk=>?_⟩)
 ·obtain⟨b,e,rfl⟩:=hb.get i v (by simpa using hP)
  simp only[e,Option.getD_some]at hQ
  exact wpAny_truthy_bool hQ
 ·have e:((List.range its.toArray.size).all fun i=>(bs[i]?).getD true)=bs.all id:=by
   rw[List.size_toArray,hb.length];exact LSm.range_all bs
  rw[e]
  exact⟨.bl (bs.all id),H,I.kept fun b o z=>hk b o (fun m=>by rw[List.mem_singleton.mp m]at z;exact Nat.lt_irrefl _ (Heap.lt_size z)) (Heap.get?_push_of_some _ z),rfl,q⟩
def z9x:List D->Option (List Bool)
 | []=>some []
 | .bl b::r=>(z9x r).map (b :: ·)
 | _=>none
def z1n:List D->Option D
 | [.lst ds]=>(z9x ds).map fun bs=>.bl (bs.all id)
 | _=>none
theorem y6r {K:PySem.W.Frag}{H:Hp}{w:Wn}{o:Ow}:∀ {ds:List D} {vs:List V} {bs:List Bool},Reps K H w o 0 ds vs []->z9x ds=some bs->vs=bs.map V.bl
 | ds,vs,bs,r,e=>by
  generalize hF:([]:List Addr)=F at r
  cases r with
  | nil=>cases e;rfl
  | @cons _ d v ds' vs' F' G' r1 r2 _=>
   have h2:G'=[]:=r2.zero
   subst h2
   cases r1 with
   | bl b=>
    unfold z9x at e
    cases e':z9x ds' with
    | none=>rw[e']at e;cases e
    | some bs'=>
     rw[e']at e
     cases e
     rw[y6r r2 e']
     rfl
   | _=>cases e
theorem j44 (hc:X.calm=true)(hm:X.mg "all" = none)(ha:PDA X [a] g)(hg:Gl X "all":=by rfl)(he:starEach [a] X.env=(false,eval a X.env)::starEach [] X.env:=by rfl)(hpl:(backTo pos (starEach [] X.env)).any (·.1)=false:=by rfl):PD X (.Call (.Name "all" p) [a] [] pos) (eB z1n g):=
 PE.imp (x51 (z78 hc) hg hm PyProof.Rows.boot_all ha (by decide) (by decide) he hpl) (z40 fun ds d h=>by
  unfold z1n at h
  split at h
  ·rename_i ds0
   cases e:z9x ds0 with
   | none=>rw[e]at h;cases h
   | some bs=>
    rw[e]at h
    cases h
    refine⟨_,rfl,fun H w vs wl r Q hq=>?_⟩
    obtain⟨v,rfl,rv⟩:=one r
    obtain⟨p,ys,rfl,hs,rs⟩:=rv.seqL0
    rw[y6r rs e]at hs
    exact⟨p,bs,rfl,hs,hq⟩
  ·cases h)
theorem y6a {α:Type}(l:List α)(f:α->Bool):z9x (l.map fun i=>.bl (f i))=some (l.map f):=by
 induction l with
 | nil=>rfl
 | cons a l ih=>rw[List.map_cons,z9x,ih];rfl
end
inductive IT where
 | int|bool|tuple|list|str
def IT.nm:IT->String
 | .int=>"int"
 | .bool=>"bool"
 | .tuple=>"tuple"
 | .list=>"list"
 | .str=>"str"
def isD:IT->D->Bool
 | .int,.int _=>true
 | .int,.bl _=>true
 | .bool,.bl _=>true
 | .tuple,.tup _=>true
 | .list,.lst _=>true
 | .str,.str _=>true
 | _,_=>false
def tyD:D->String
 | .non=>"NoneType"
 | .bl _=>"bool"
 | .int _=>"int"
 | .str _=>"str"
 | .tup _=>"tuple"
 | .dic _ _=>"dict"
 | .exc _=>"object"
 | .ob _ _ _ _=>"function"
 | .lst _=>"list"
section
variable {X:Cx}{pins:List (Addr×Obj)}{σ:St}{H:Hp}{s:Shared}
theorem j6g {w:Wn}{o:Ow}{q:Nat}{F:List Addr}{d:D}{x:V}{u c:Value}{b:Bool}{A:Around}{E:Value->Shared->Prop}{Q:Value->Shared->Prop}(I:Inv X pins σ H s)(rx:x4g x u)(r:Rep X.K H w o q d x F)
  (e:PySem.W.kitOne X.K (.type (tyD d)) c=some b) (hx:∀ nm,d ≠ .exc nm) (h:∀ tk,Q (.bool b) { s with toks:=tk }):wpAny (model X.prog X.w) A (call (.builtin "isinstance") [u,c]) Q E s:=by
 cases r with
 | exc _ _ _=>exact absurd rfl (hx _)
 | ob h1 h2 x r=>
  cases rx
  obtain⟨e1,_⟩:=(show x32 X.prog X.w H s.heap _ (.frz _ _)from I.hok _ _ h1)
  exact PySem.W.kia_one z74 I.kIn ⟨_,e1,x.1⟩ e (fun z=>nomatch z) h
 | non=>exact x4d I rx .non e h
 | bl y=>exact x4d I rx (.bl y) e h
 | int i=>exact x4d I rx (.int i) e h
 | str y=>exact x4d I rx (.str y) e h
 | tup ha _=>exact x4d I rx (.tup ha) e h
 | dic ha _=>exact x4d I rx (.dK ha) e h
 | kl ha _=>
  obtain⟨ob,its,n,hk,hc,hd,_⟩:=ha
  cases rx
  exact PySem.W.kia_one PySem.W.kitx_list I.kIn ⟨ob,I.kIn _ _ hk,hc⟩ e (fun z=>nomatch z) h
 | shr ha _ _=>
  rcases ha with ha|⟨ob,ha⟩
  ·exact x4d I rx (.lst ha) e h
  ·exact x4d I rx (.frz ha) e h
 | own ha _ _ _=>exact x4d I rx (.lst ha) e h
theorem j2m {K:PySem.W.Frag}(T:IT)(d:D)(hx:∀ nm,d ≠ .exc nm):PySem.W.kitOne K (.type (tyD d)) (.type T.nm)=some (isD T d):=by
 cases T<;>cases d<;>first|rfl|exact absurd rfl (hx _)
end
section
variable {X:Cx}{a b c e:Expr}{es:List Expr}{fa fb fc f:Den}{ga gb:x23}{g:x1v}{pos p p1 p2 pT:Pos}
theorem z67 (T:IT):y0c X (.builtin "isinstance") (fun xs H Q=>∃ x w o q F d,xs=[x,.ty T.nm]/\Rep X.K H w o q d x F/\Q (.bl (isD T d)) H):=by
 intro pins s σ H xs us Q I r h
 obtain⟨x,w,o,q,F,d,rfl,rd,hq⟩:=h
 obtain⟨u,v,rfl,ru,rv⟩:=z7s r
 cases rv
 by_cases hx:∃ nm,d=.exc nm
 ·obtain⟨nm,rfl⟩:=hx
  cases rd with
  | exc ha xo _=>
   obtain⟨C,hc,k⟩:=xo
   cases ru
   obtain⟨e1,_⟩:=(show x32 X.prog X.w H s.heap _ (.frz _ _)from I.hok _ _ ha)
   have hT:isD T (.exc nm)=false:=by cases T<;>rfl
   rw[hT]at hq
   refine j5u (x:=_) I.kIn ⟨e1,hc⟩ k.xc (by cases T<;>kernel_rfl) (k.no _ (by cases T<;>simp[IT.nm])) ⟨.bl false,H,I.tok _,rfl,hq⟩
 ·exact j6g I ru rd (j2m T d fun nm z=>hx ⟨nm,z⟩) (fun nm z=>hx ⟨nm,z⟩) fun tk=>⟨.bl (isD T d),H,I.tok _,rfl,hq⟩
@[simp] def z2q (T:IT)(fa:Den):Den:=fun ρ=>match fa ρ with
 | some (d,_,ρ1)=>some (.bl (isD T d),9,ρ1)
 | none=>none
theorem j3x (T:IT){t:Str}(hm:X.mg "isinstance" = none)(hmT:X.mg t=none)(hbT:bootBuiltins t=some (.type T.nm))(ha:PD X a fa)(hg:Gl X "isinstance":=by rfl)(hgT:Gl X t:=by rfl)(hnT:t ≠ "__name__":=by decide)(hdT:(t==("__debug__":Str))=false:=by decide)
  (hs:starEach [a,.Name t pT] X.env=(false,eval a X.env)::starEach [.Name t pT] X.env:=by rfl) (hpl:(backTo pos (starEach [.Name t pT] X.env)).any (·.1)=false:=by rfl):PD X (.Call (.Name "isinstance" p) [a,.Name t pT] [] pos) (z2q T fa):=
 PE.imp (x51 (z67 T) hg hm PyProof.Rows.boot_isinstance (x3v ha (x3v (z4r (v:=.ty T.nm) hgT hmT hbT rfl hnT hdT) x71 x03) hs) (by decide) (by decide) hs hpl) fun σ H Q hh0=>by
 obtain⟨ρ,w,t,r',q,ρ',gd,ee,k⟩:=hh0
 unfold z2q at ee
 split at ee
 ·rename_i d q1 ρ1 h1
  cases ee
  refine⟨ρ,w,t,_,_,_,gd,h1,fun v H1 w1 F1 g1 go1 r1=>?_⟩
  exact⟨v,w1,_,_,F1,d,rfl,r1,k _ H1 (x2b t w1) [] g1.drop.up (go1.drop gd.wt) (.bl _)⟩
 ·cases ee
@[simp] def eCh (g1 g2:D->D->Option D)(fa fb fc:Den):Den:=fun ρ=>match fa ρ with
 | some (x,_,ρ1)=>match fb ρ1 with
  | some (y,_,ρ2)=>match g1 x y with
   | some (.bl true)=>match fc ρ2 with
    | some (z,_,ρ3)=>match g2 y z with
     | some d=>some (d,9,ρ3)
     | none=>none
    | none=>none
   | some (.bl false)=>some (.bl false,9,ρ2)
   | _=>none
  | none=>none
 | none=>none
theorem z9r {op op':CmpOp}{g1 g2:Int->Int->Option D}{h1 h2:Int->Int->V}(ho:OpR X (compareOp op) (rI0 h1))(ho':OpR X (compareOp op') (rI0 h2))(e1:∀ i j d,g1 i j=some d->y5e d=some (h1 i j))(e2':∀ i j d,g2 i j=some d->y5e d=some (h2 i j))
  (ha:PD X a fa) (hb:PD X b fb) (hc:PD X c fc) (hm:lastMarks [op,op'] [b,c]=false:=by with_unfolding_all rfl):PD X (.Compare a [op,op'] [b,c] pos) (eCh (gI g1) (gI g2) fa fb fc):=PE.imp (z84 ho ho' ha hb hc hm) fun σ H Q hh0=>by
 obtain⟨ρ,w,t,r',q,ρ',gd,ee,k⟩:=hh0
 unfold eCh at ee
 split at ee
 ·rename_i x q1 ρ1 a1
  split at ee
  ·rename_i y q2 ρ2 a2
   refine j1s gd a1 a2 fun u v H2 w2 F1 F2 g2' go2 r1 r2=>?_
   have gg:=g2'.drop (t':=t)
   split at ee
   ·rename_i hg
    obtain⟨i,j,rfl,rfl,hg'⟩:=y31 hg
    refine⟨i,j,x4t r1,x4t r2,true,by have:=e1 i j _ hg';simpa [y5e]using this.symm,?_⟩
    rw[if_pos rfl]
    split at ee
    ·rename_i z q3 ρ3 a3
     refine⟨ρ2,x2b t w2,t,z,q3,ρ3,gg,a3,fun v3 H3 w3 F3 g3 go3 r3=>?_⟩
     split at ee
     ·rename_i d hd
      cases ee
      obtain⟨j',l,ej,rfl,hd'⟩:=y31 hd
      cases ej
      exact⟨j,l,x4t r2,x4t r3,j2l k gd g3 ((go2.drop gd.wt).trans go3) (y66 (e2' j l _ hd'))⟩
     ·cases ee
    ·cases ee
   ·rename_i hg
    obtain⟨i,j,rfl,rfl,hg'⟩:=y31 hg
    cases ee
    refine⟨i,j,x4t r1,x4t r2,false,by have:=e1 i j _ hg';simpa [y5e]using this.symm,?_⟩
    rw[if_neg (by decide)]
    exact j2l k gd g2' go2 (.bl false)
   ·cases ee
  ·cases ee
 ·cases ee
theorem y8m (ha:PD X a fa)(hb:PD X b fb)(hc:PD X c fc)(hm:lastMarks [.LtE,.Lt] [b,c]=false:=by with_unfolding_all rfl):PD X (.Compare a [.LtE,.Lt] [b,c] pos) (eCh dLe dLt fa fb fc):=
 z9r j0j j40 (fun i j d h=>by cases h;rfl) (fun i j d h=>by cases h;rfl) ha hb hc hm
theorem y9y (ha:PD X a fa)(hb:PD X b fb)(hc:PD X c fc)(hm:lastMarks [.LtE,.LtE] [b,c]=false:=by with_unfolding_all rfl):PD X (.Compare a [.LtE,.LtE] [b,c] pos) (eCh dLe dLe fa fb fc):=
 z9r j0j j0j (fun i j d h=>by cases h;rfl) (fun i j d h=>by cases h;rfl) ha hb hc hm
def dIs:D->D->Option D
 | .bl x,.bl y=>some (.bl (x==y))
 | _,_=>none
def y76:D->D->Option D
 | .bl x,.bl y=>some (.bl (!(x==y)))
 | _,_=>none
theorem z32:OpR X (compareOp .IsNot) (fun x y H Q=>∃ i j,x=.bl i/\y=.bl j/\Q (.bl (!(i==j))) H):=by
 intro pins s σ H x y v u Q I rx ry h
 obtain⟨i,j,rfl,rfl,q⟩:=h
 cases rx
 cases ry
 cases i<;>cases j
 ·exact wpAny_pure ⟨.bl false,H,I,rfl,q⟩
 ·exact wpAny_pure ⟨.bl true,H,I,rfl,q⟩
 ·exact wpAny_pure ⟨.bl true,H,I,rfl,q⟩
 ·exact wpAny_pure ⟨.bl false,H,I,rfl,q⟩
theorem j7a {K:PySem.W.Frag}:∀ σ H Q,tD K (e2 y76 fa fb) σ H Q->tOp (fun x y H Q=>∃ i j,x=.bl i/\y=.bl j/\Q (.bl (!(i==j))) H) (tD K fa) (tD K fb) σ H Q:=y2y fun x y d h=>by
 unfold y76 at h
 split at h
 ·cases h
  exact⟨_,rfl,fun H w o o' q q' u u' F F' r1 r2 _ Q hq=>by cases r1;cases r2;exact⟨_,_,rfl,rfl,hq⟩⟩
 ·cases h
theorem z3x (ha:PD X a fa)(hb:PD X b fb):PDT X (.Compare a [.IsNot] [b] pos) (x3c (e2 y76 fa fb)):=x92 z32 j7a ha hb (y2m _)
@[simp] def j6k (fa:Den):Den:=fun ρ=>match fa ρ with
 | some (.int i,_,ρ1)=>some (.int (-i),9,ρ1)
 | _=>none
theorem j3w (ha:PD X a fa):PD X (.UnaryOp .USub a pos) (j6k fa):=PE.imp (j82 j61 ha) fun σ H Q hh0=>by
 obtain⟨ρ,w,t,r',q,ρ',gd,ee,k⟩:=hh0
 unfold j6k at ee
 split at ee
 ·rename_i i q1 ρ1 h1
  cases ee
  refine⟨ρ,w,t,_,_,_,gd,h1,fun v H1 w1 F1 g1 go1 r1=>?_⟩
  exact⟨i,x4t r1,k _ H1 (x2b t w1) [] g1.drop.up (go1.drop gd.wt) (.int _)⟩
 ·cases ee
section
variable {prog:Program}{w:World}{A:Around}{E:Value->Shared->Prop}{s:Shared}
theorem z8j (l b:Addr)(us vs:Array Value)(n m:Nat)(d1 d2:Option Addr)(s1 s2:Array (Option Value))(h0:us.isEmpty=true) :
  Meets (Builtin.«tuple.__add__» ⟨[.ref l,.ref b],[]⟩) (fun _ R s=>s.heap.get? l=some { cls:=.type "tuple",dict:=d1,data:=.seq us n,slots:=s1 }/\s.heap.get? b=some { cls:=.type "tuple",dict:=d2,data:=.seq vs m,slots:=s2 }/\R (.ok (.ret (.ref b))) s):=
 .of_wp fun prog w A R s h=>by
  obtain⟨hp,g,d,tk,os⟩:=s
  obtain⟨hl,hb,h⟩:=h
  have f2:=AutoSeq1.sub_tuple_tuple
  wp_walk using wpAny_loadPart' hl,wpAny_loadPart' hb
  exact⟨_,rfl,h⟩
theorem z57 {t b:Addr}{ws:List Value}{Q:Value->Shared->Prop}(ht:IsTup s.heap t #[])(hb:IsTup s.heap b ws.toArray)(h:Q (.ref b) s):wpAny (model prog w) A (binaryOp .Add (.ref t) (.ref b)) Q E s:=by
 obtain⟨⟨c1,d1,a1,s1⟩,e1,hc1,n1,ha1⟩:=id ht
 obtain⟨⟨c2,d2,a2,s2⟩,e2,hc2,n2,ha2⟩:=id hb
 simp only at hc1 ha1 hc2 ha2
 subst hc1 ha1 hc2 ha2
 exact concat_meets ⟨_,e1,rfl⟩ ⟨_,e2,rfl⟩ noFill_tuple_add seq_tuple_add PySem.F.slot_tuple_add PySem.F.entry_tuple_add (PySem.F.args_tuple_add_2 _ _) (z8j t b #[] ws.toArray n1 n2 d1 d2 s1 s2 rfl) ⟨e1,e2,h⟩
end
theorem j28:OpR X (binaryOp .Add) (fun x y H Q=>∃ a b ys,x=.ref a/\y=.ref b/\SqT X.K H a []/\SqT X.K H b ys/\Q (.ref b) H):=by
 intro pins s σ H x y v u Q I rx ry h
 obtain⟨a,b,ys,rfl,rfl,ha,hb,q⟩:=h
 cases rx
 cases ry
 obtain⟨its,r1,p1,_⟩:=I.tuple ha
 obtain⟨its2,r2,p2,_⟩:=I.tuple hb
 cases r1
 exact z57 p1 p2 ⟨.ref b,H,I,rfl,q⟩
theorem OpR.or {f:Value->Value->Sem Value}{r r':R2}(h:OpR X f r)(h':OpR X f r'):OpR X f (fun x y H Q=>r x y H Q\/r' x y H Q):=fun pins s σ H x y v u Q I rx ry q=>q.elim (fun z=>h pins s σ H x y v u Q I rx ry z) fun z=>h' pins s σ H x y v u Q I rx ry z
@[simp] def j46 (fa fb:Den):Den:=fun ρ=>match fa ρ with
 | some (.tup ds,_,ρ1)=>match fb ρ1 with
  | some (.tup es,_,ρ2)=>if ds.length+es.length<=1000 then some (.tup (ds++es),9,ρ2)else none
  | _=>none
 | _=>none
theorem j70 (ha:PD X a fa)(hb:PD X b fb):PD X (.BinOp a .Add b pos) (j46 fa fb):=PE.imp (y89 (OpR.or j28 j0p) ha hb) fun σ H Q hh0=>by
 obtain⟨ρ,w,t,r',q,ρ',gd,ee,k⟩:=hh0
 unfold j46 at ee
 split at ee
 ·rename_i ds q1 ρ1 h1
  split at ee
  ·rename_i es q2 ρ2 h2
   split at ee
   ·rename_i hl
    cases ee
    refine j1s gd h1 h2 fun u u' H2 w2 F1 F2 g2 go r1 r2=>?_
    have r10:=r1.drop (o:=.f) (Nat.le_refl t)
    have r20:=r2.drop (o:=.f) (Nat.le_succ t)
    have gg:=g2.drop (t':=t)
    have gog:=go.drop gd.wt
    obtain⟨p1,vs,rfl,q1',s1⟩:=r10.seqT
    obtain⟨p2,us,rfl,q2',s2⟩:=r20.seqT
    have l1:=s1.length
    have l2:=s2.length
    cases ds with
    | nil=>
     have:vs=[]:=List.length_eq_zero_iff.mp (by rw[<- l1];rfl)
     subst this
     refine .inl ⟨p1,p2,us,rfl,rfl,q1',q2',k _ H2 (x2b t w2) [] gg.up gog ?_⟩
     exact(Rep.go gg.wl (fun a x e n=>⟨sm e,n⟩) r20 (fun _ z=>nomatch z):Rep X.K H2 (x2b t w2) (.t t) 0 _ _ []).nolist rfl |>.2 9
    | cons d ds=>
     refine .inr ⟨p1,p2,vs,us,rfl,rfl,q1',q2',(fun z=>by rw[z]at l1;cases l1),y1c (by rw[<- l1,<- l2];exact hl),fun z=>?_,fun _ p hp=>?_⟩
     ·have:es=[]:=List.length_eq_zero_iff.mp (by rw[l2,z];rfl)
      subst this
      rw[List.append_nil]at k
      exact k _ H2 (x2b t w2) [] gg.up gog ((Rep.go gg.wl (fun a x e n=>⟨sm e,n⟩) r10 (fun _ z=>nomatch z):Rep X.K H2 (x2b t w2) (.t t) 0 _ _ []).nolist rfl |>.2 9)
     ·obtain⟨a1,a2,a3⟩:=y4o gg hp (s2.app s1)
      exact k _ _ _ _ a1 (gog.trans a2) a3
   ·cases ee
  ·cases ee
 ·cases ee
abbrev z9o:=Rho->Option (Option Int×Rho)
def tDO (K:PySem.W.Frag)(f:z9o):TO:=fun σ H Q=>∃ ρ w t o ρ',Good K ρ σ H w t/\f ρ=some (o,ρ')/\∀ H' w',Good K ρ' σ H' w' t->Go H w H' w'->Q o H'
abbrev PDO (X:Cx)(e:Option Expr)(f:z9o):Prop:=PO X e (tDO X.K f)
@[simp] def z1k:z9o:=fun ρ=>some (none,ρ)
@[simp] def y8t (f:Den):z9o:=fun ρ=>match f ρ with
 | some (.int i,_,ρ1)=>some (some i,ρ1)
 | _=>none
theorem PO.imp {e:Option Expr}{t t':TO}(h:PO X e t)(i:∀ σ H Q,t' σ H Q->t σ H Q):PO X e t':=fun pins s σ H Q I q=>h pins s σ H Q I (i σ H Q q)
theorem z7d:PDO X none z1k:=PO.imp j0k fun σ H Q hh0=>by
 obtain⟨ρ,w,t,o,ρ',gd,ee,k⟩:=hh0
 cases ee
 exact k H w gd Go.refl
theorem z6u (h:PD X e f):PDO X (some e) (y8t f):=PO.imp (j31 h) fun σ H Q hh0=>by
 obtain⟨ρ,w,t,o,ρ',gd,ee,k⟩:=hh0
 unfold y8t at ee
 split at ee
 ·rename_i i q1 ρ1 h1
  cases ee
  exact⟨ρ,w,t,_,_,_,gd,h1,fun v H1 w1 F1 g1 go1 r1=>⟨i,x4t r1,k H1 (x2b t w1) g1.drop (go1.drop gd.wt)⟩⟩
 ·cases ee
section
variable {prog:Program}{w:World}{A:Around}{E:Value->Shared->Prop}{s:Shared}
theorem z2g {t sl:Addr}{us:Array Value}{vl vu:Value}{lo hi:Option Int}{Q:Value->Shared->Prop}(ht:IsTup s.heap t us)(hs:s.heap.IsSliceOf sl vl vu .none)(pl:IsPart vl lo)(pu:IsPart vu hi)
  (hw:HT.sIx us.size 0 lo=0/\HT.sIx us.size us.size hi=us.size) (h:Q (.ref t) s):wpAny (model prog w) A (getItem (.ref t) (.ref sl)) Q E s:=by
 obtain⟨os,hos,hcs,hds⟩:=id hs
 have ts:s.TypeIs (.ref sl) "slice":=⟨os,hos,hcs⟩
 unfold getItem
 try with_reducible refine wpAny_holding ?_
 first|refine wpAny_bind (wpAny_pure ?_)|skip
 refine wpAny_bind (wpAny_sequenceKey ht.typeIs (by decide) (wpAny_bind (wpAny_callSpecial?_slot (name:=Str.ofString "__getitem__") ht.typeIs PyProof.Rows.slot_tuple_getitem (wpAny_call_entry PyProof.Rows.slot_tuple_getitem ht.typeIs entry_tuple_getitem ?_ (args_tuple_getitem _ _)))))
 show wpAny _ _ (Builtin.Tuple.tupleItemsOf (.ref t) >>= _) _ _ s
 refine wpAny_bind (tupleItemsOf_ ht (wpAny_bind (wpAny_typeOf ts ?_)))
 rw[if_pos (by decide)]
 refine wpAny_bind (HT.y23 hs pl pu ?_)
 have yes:(((HT.sIx us.size 0 lo:Nat):Int)==0&&(1:Int)==1&&(HT.sIx us.size us.size hi-HT.sIx us.size 0 lo)==us.size)=true:=by rw[hw.1,hw.2];simp
 show wpAny _ _ (if(((HT.sIx us.size 0 lo:Nat):Int)==0&&(1:Int)==1&&(HT.sIx us.size us.size hi-HT.sIx us.size 0 lo)==us.size)=true then _ else _) _ _ s
 rw[if_pos yes]
 refine wpAny_bind (m:=Builtin.Tuple.tupleIsExact _) ?_
 unfold Builtin.Tuple.tupleIsExact
 refine wpAny_bind (wpAny_typeOf ht.typeIs (wpAny_pure ?_))
 rw[if_pos (by decide)]
 exact wpAny_bind (wpAny_rule (wpAny_pure ⟨_,rfl,wpAny_pure h⟩))
end
def j5m (xs:List D)(lo hi:Option Int):List D:=(xs.drop (HT.sIx xs.length 0 lo)).take (HT.sIx xs.length xs.length hi-HT.sIx xs.length 0 lo)
@[simp] def eSl (fa:Den)(fl fh:z9o):Den:=fun ρ=>match fa ρ with
 | some (.tup ds,_,ρ1)=>match fl ρ1 with
  | some (lo,ρ2)=>match fh ρ2 with
   | some (hi,ρ3)=>some (.tup (j5m ds lo hi),9,ρ3)
   | none=>none
  | none=>none
 | _=>none
theorem Reps.take0 {K:PySem.W.Frag}{H:Hp}{w:Wn}:∀ {ds:List D} {vs:List V} (i:Nat),Reps K H w .f 0 ds vs []->Reps K H w .f 0 (ds.take i) (vs.take i) []
 | _,_,0,_=>by rw[List.take_zero,List.take_zero];exact .nil
 | ds,vs,i+1,r=>by
  generalize hF:([]:List Addr)=F at r
  cases r with
  | nil=>exact .nil
  | cons r s _=>
   have h2:=s.zero
   have h1:=r.zero
   subst h2
   subst h1
   exact .cons (F:=[]) (G:=[]) r (Reps.take0 i s) (fun _ z=>nomatch z)
theorem z80:SlR X (fun x lo hi H Q=>∃ a xs,x=.ref a/\SqT X.K H a xs/\(HT.sIx xs.length 0 lo=0/\HT.sIx xs.length xs.length hi=xs.length)/\Q (.ref a) H):=by
 intro pins s σ H x v vl vu lo hi sl Q I rx hs pl pu h
 obtain⟨a,xs,rfl,hx,hw,q⟩:=h
 cases rx
 obtain⟨its,r,ht,hz⟩:=I.tuple hx
 have hlen:its.toArray.size=xs.length:=by rw[List.size_toArray];exact r.length.symm
 exact⟨"tuple",_,PyProof.Rows.slot_tuple_getitem.lookup,ht.typeIs,z2g ht hs pl pu (by rw[hlen];exact hw) ⟨.ref a,H,I,rfl,q⟩⟩
theorem j8k {lo hi:Option Expr}{fl fh:z9o}(ha:PD X a fa)(hl:PDO X lo fl)(hh:PDO X hi fh):PD X (.Subscript a (.Slice lo hi none p2) pos) (eSl fa fl fh):=PE.imp (z85 (z80.or j63) ha hl hh) fun σ H Q hh0=>by
 obtain⟨ρ,w,t,r',q,ρ',gd,ee,k⟩:=hh0
 unfold eSl at ee
 split at ee
 ·rename_i ds q1 ρ1 h1
  split at ee
  ·rename_i lo ρ2 h2
   split at ee
   ·rename_i hi ρ3 h3
    cases ee
    refine⟨ρ,w,t,_,_,_,gd,h1,fun v H1 w1 F1 g1 go1 r1=>?_⟩
    have gg1:=g1.drop (t':=t)
    have r0:=r1.drop (o:=.f) (Nat.le_refl t)
    refine⟨ρ1,x2b t w1,t,_,_,gg1,h2,fun H2 w2 g2 go2=>⟨ρ2,w2,t,_,_,g2,h3,fun H3 w3 g3 go3=>?_⟩⟩
    have r3:=(r0.go0 gg1.wl go2.stab).go0 g2.wl go3.stab
    obtain⟨p1,vs,rfl,q1',s1⟩:=r3.seqT
    have l1:=s1.length
    by_cases hw:HT.sIx ds.length 0 lo=0/\HT.sIx ds.length ds.length hi=ds.length
    ·have ec:j5m ds lo hi=ds:=by unfold j5m;rw[hw.1,hw.2,List.drop_zero,Nat.sub_zero,List.take_length]
     rw[ec]at k
     refine .inl ⟨p1,vs,rfl,q1',by rw[<- l1];exact hw,?_⟩
     exact k _ H3 w3 [] g3.up (((go1.drop gd.wt).trans go2).trans go3) ((Rep.go g3.wl (fun a x e n=>⟨sm e,n⟩) r3 (fun _ z=>nomatch z):Rep X.K H3 w3 (.t t) 0 _ _ []).nolist rfl |>.2 9)
    ·refine .inr ⟨p1,vs,rfl,q1',by rw[<- l1];exact hw,fun p hp=>?_⟩
     have s4:Reps X.K H3 w3 .f 0 (j5m ds lo hi) (z9y vs lo hi) []:=by
      unfold j5m z9y
      rw[<- l1]
      exact(s1.drop0 _).take0 _
     obtain⟨a1,a2,a3⟩:=y4o g3 hp s4
     exact k _ _ _ _ a1 ((((go1.drop gd.wt).trans go2).trans go3).trans a2) a3
   ·cases ee
  ·cases ee
 ·cases ee
end
section
variable {X:Cx}{k b n:Nat}{a c e tg:Expr}{es:List Expr}{pt:x7x}{ps:y0m}{pos:Pos}{fa fb f:Den}
theorem z34 {p q r:x7x}:∀ ds ρ ρ',x18 p (x18 q (x18 r x5v)) ds ρ=some ρ'->ds.length=3:=fun ds ρ ρ' h=>by
 match ds with
 | []=>cases h
 | [_]=>unfold x18 at h;simp at h;split at h<;>cases h
 | [_,_]=>unfold x18 at h;simp at h;split at h;(split at h<;>cases h);cases h
 | [_,_,_]=>rfl
 | _::_::_::_::_=>
  exfalso
  unfold x18 at h
  simp at h
  split at h
  ·split at h
   ·split at h<;>cases h
   ·cases h
  ·cases h
@[simp] def j3l (f:Den)(pt:x7x):x1a:=fun ρ=>match f ρ with
 | some (d,_,ρ1)=>match pt d ρ1 with
  | some ρ2=>some (.nx ρ2)
  | none=>none
 | none=>none
theorem j0t (he:PD X e f)(hg:PDG X 0 tg pt)(hs:swapsWithSole [tg] e pos.line X.env=pure false:=by rfl)(hw:swappedStores [tg] e X.env=pure none:=by rfl)(h1:(assignEach [tg] X.env).map (·.2)=[assign tg X.env]:=by rfl):PDS X (.Assign [tg] e pos) (j3l f pt):=PS.imp (z5f he hg hs hw h1) fun D σ H hh0=>by
 obtain⟨ρ,w,o,g,ee,k⟩:=hh0
 unfold j3l at ee
 split at ee
 ·rename_i d q ρ1 h1
  split at ee
  ·rename_i ρ2 h2
   cases ee
   refine⟨ρ,w,0,d,q,ρ1,g,h1,fun v H1 w1 F1 g1 go1 r1=>?_⟩
   exact⟨d,ρ1,x2b 0 w1,0,ρ2,g1.drop,r1.drop (Nat.le_refl 0),h2,fun σ' H' w' hl _ g' go'=>k σ' H' w' hl g' ((go1.drop g.wt).trans go')⟩
  ·cases ee
 ·cases ee
end
theorem z2p:fillsNumberSlot (.type "tuple") "mul" = pure false:=PySem.fillsNumberSlot_seq (id:="tuple.__mul__") (r:=some (.builtin "tuple.__rmul__")) F.slot_tuple_mul.lookup (by decide +kernel) F.slot_tuple_rmul.lookup (by decide +kernel)
theorem z1v:seqRepeat? (.type "tuple")=pure (some (.builtin "tuple.__mul__")):=by
 unfold seqRepeat?
 rw[PySem.seqSlot_of (T:="tuple") (name:="__mul__") (id:="tuple.__mul__") F.slot_tuple_mul.lookup (by decide +kernel),PySem.seqSlot_of (T:="tuple") (name:="__rmul__") (id:="tuple.__rmul__") F.slot_tuple_rmul.lookup (by decide +kernel)];rfl
theorem y80 (a:Int)(t:Tok)(l:Addr)(us:Array Value)(n:Nat)(dd:Option Addr)(sl:Array (Option Value)) :
  Meets (Builtin.«int.__rmul__» ⟨[.int a t,.ref l],[]⟩) (fun _ R s=>s.heap.get? l=some { cls:=.type "tuple",dict:=dd,data:=.seq us n,slots:=sl }/\R (.ok (.ret Value.notImplemented)) s):=.of_wp fun prog w A R s h=>by
 obtain⟨hp,g,d,tk,os⟩:=s
 obtain⟨hl,h⟩:=h
 wp_walk
 exact⟨_,rfl,h⟩
theorem z8z (t:Tok)(l:Addr)(us:Array Value)(n:Nat)(dd:Option Addr)(sl:Array (Option Value)) :
  Meets (Builtin.«tuple.__mul__» ⟨[.ref l,.int 1 t],[]⟩) (fun _ R s=>s.heap.get? l=some { cls:=.type "tuple",dict:=dd,data:=.seq us n,slots:=sl }/\R (.ok (.ret (.ref l))) s):=.of_wp fun prog w A R s h=>by
 obtain⟨hp,g,d,tk,os⟩:=s
 obtain⟨hl,h⟩:=h
 have f1:=AutoSeq1.idx_int
 wp_walk using wpAny_loadPart' hl
 exact⟨_,rfl,h⟩
theorem z8w (k:Int)(t:Tok)(l:Addr)(us:Array Value)(n:Nat)(dd:Option Addr)(sl:Array (Option Value))(h2:¬ (decide (k < -(2 ^ 63))||decide (k ≥ 2 ^ 63))=true)(h3:¬ (us.isEmpty||k==1)=true)(h4:¬ (decide (k<=0)||us.isEmpty)=true)(h5:¬ (us.size:Int)*k > (2 ^ 63-1) / 8)(h6:¬ Builtin.Tuple.tupleTooMany ((us.size:Int)*k)=true)(hsz:(List.foldl (· ++ ·) #[] (List.replicate k.toNat us)).size<=sizeLine) :
  Meets (Builtin.«tuple.__mul__» ⟨[.ref l,.int k t],[]⟩) (fun _ R s=>s.heap.get? l=some { cls:=.type "tuple",dict:=dd,data:=.seq us n,slots:=sl }/\R (.ok (.ret (.ref s.heap.objs.size))) { s with heap:=s.heap.push { cls:=.type "tuple",data:=.seq (List.foldl (· ++ ·) #[] (List.replicate k.toNat us)) } }):=.of_wp fun prog w A R s h=>by
 obtain⟨hp,g,d,tk,os⟩:=s
 obtain⟨hl,h⟩:=h
 have f1:=AutoSeq1.idx_int
 wp_walk using wpAny_loadPart' hl
 rw[if_neg h2]
 wp_walk using wpAny_loadPart' hl
 rw[if_neg h5]
 wp_walk using wpAny_loadPart' hl
 exact⟨_,rfl,h⟩
section
variable {X:Cx}{a b c e:Expr}{fa fb fc f:Den}{pos:Pos}
theorem j1g:OpR X (binaryOp .Mult) (fun x y H Q=>∃ a k xs,x=.ref a/\y=.int k/\SqT X.K H a xs/\xs ≠ []/\1<=k/\xs.length*k.toNat<=1000/\(k=1->Q (.ref a) H)/\(k≠1->∀ p,H p=none->Q (.ref p) (upd H p (.tup (List.replicate k.toNat xs).flatten)))):=by
 intro pins s σ H x y v u Q I rx ry h
 obtain⟨l,k,xs,rfl,rfl,hq,hne,h1,hz,q1,q2⟩:=h
 cases rx
 obtain⟨t,rfl⟩:=ry
 obtain⟨its,r,pt,_⟩:=I.tuple hq
 obtain⟨⟨c1,d1,a1,s1⟩,e,hc1,n1,ha1⟩:=id pt
 simp only at hc1 ha1
 subst hc1 ha1
 have hl:=r.length
 have hpos:0<its.length:=by rw[<- hl];exact List.length_pos_iff.mpr hne
 refine wpAny_binaryOp_repeat_ref (T:="tuple") (U:="int") (by decide) ⟨_,e,rfl⟩ (fun s'=>typeIs_int s' k t) z2p F.fills_int_mul F.slot_int_rmul z1v F.slot_int_index.lookup
  (call_meets F.slot_int_rmul (typeIs_int s k t) F.entry_int_rmul (F.args_int_rmul_2 _ _) (y80 k t l its.toArray n1 d1 s1) ⟨e,rfl,⟨_,e,rfl⟩,?_⟩)
 by_cases hk:k=1
 ·subst hk
  exact call_meets F.slot_tuple_mul ⟨_,e,rfl⟩ F.entry_tuple_mul (F.args_tuple_mul_2 _ _) (z8z t l its.toArray n1 d1 s1) ⟨e,⟨.ref l,H,I,rfl,q1 rfl⟩⟩
 ·have hm:its.length*k.toNat<=1000:=by rw[<- hl];exact hz
  have hk':k.toNat<=1000:=by
   have:=Nat.le_mul_of_pos_left k.toNat hpos
   omega
  have f0:List.foldl (fun x1 x2=>x1++x2) #[] (List.replicate k.toNat its.toArray)=(List.replicate k.toNat its).flatten.toArray:=by
   have:=y2k its k.toNat []
   rw[List.nil_append]at this
   exact this
  have lf:(List.replicate k.toNat its).flatten.length<=1000:=by rw[y90,Nat.mul_comm];exact hm
  have em:((its.toArray.size:Nat):Int)*k=((its.length*k.toNat:Nat):Int):=by
   rw[List.size_toArray,Int.natCast_mul,Int.toNat_of_nonneg (by omega)]
  refine call_meets F.slot_tuple_mul ⟨_,e,rfl⟩ F.entry_tuple_mul (F.args_tuple_mul_2 _ _) (z8w k t l its.toArray n1 d1 s1 (by simp;omega) (by simp[hk];exact List.ne_nil_of_length_pos hpos) (by simp;exact⟨by omega,List.ne_nil_of_length_pos hpos⟩) (by rw[em];omega) (by
   unfold Builtin.Tuple.tupleTooMany
   rw[em]
   simp only[gt_iff_lt,decide_eq_true_eq,Int.not_lt]
   have:(1000:Nat)<=sizeLine:=by decide
   omega) (by rw[f0,List.size_toArray];exact y1c lf)) ⟨e,?_⟩
  rw[f0]
  refine⟨.ref s.heap.objs.size,_,I.laid (t':=s.toks) (o:=.tup (List.replicate k.toNat xs).flatten) (fun b ob q=>Heap.get?_push_of_some _ q) (Nat.le_refl _) ?_,rfl,q2 hk _ (I.hok.fresh (Nat.le_refl _))⟩
  exact⟨y1c (by rw[y90,Nat.mul_comm];exact hz),_,r.rep k.toNat,x5n.new _ _⟩
@[simp] def y9h (fa fb:Den):Den:=fun ρ=>match fa ρ with
 | some (.tup ds,_,ρ1)=>match fb ρ1 with
  | some (.int n,_,ρ2)=>if ds.isEmpty=false/\1<=n/\ds.length*n.toNat<=1000 then some (.tup (List.replicate n.toNat ds).flatten,9,ρ2)else none
  | _=>none
 | _=>none
theorem j1l (ha:PD X a fa)(hb:PD X b fb):PD X (.BinOp a .Mult b pos) (y9h fa fb):=PE.imp (y89 j1g ha hb) fun σ H Q hh0=>by
 obtain⟨ρ,w,t,r',q,ρ',gd,ee,k⟩:=hh0
 unfold y9h at ee
 split at ee
 ·rename_i ds q1 ρ1 h1
  split at ee
  ·rename_i n q2 ρ2 h2
   split at ee
   ·rename_i hl
    cases ee
    obtain⟨hd,hn,hz⟩:=hl
    refine j1s gd h1 h2 fun u u' H2 w2 F1 F2 g2 go r1 r2=>?_
    have r10:=r1.drop (o:=.f) (Nat.le_refl t)
    have gg:=g2.drop (t':=t)
    have gog:=go.drop gd.wt
    obtain⟨p1,vs,rfl,q1',s1⟩:=r10.seqT
    have l1:=s1.length
    refine⟨p1,n,vs,rfl,x4t r2,q1',fun z=>?_,hn,by rw[<- l1];exact hz,fun z=>?_,fun _ p hp=>?_⟩
    ·subst z
     have:ds=[]:=List.length_eq_zero_iff.mp l1
     subst this
     cases hd
    ·subst z
     have e:(List.replicate (Int.toNat 1) ds).flatten=ds:=by show(List.replicate 1 ds).flatten=ds;simp
     rw[e]at k
     exact k _ H2 (x2b t w2) [] gg.up gog ((Rep.go gg.wl (fun a x e n=>⟨sm e,n⟩) r10 (fun _ z=>nomatch z):Rep X.K H2 (x2b t w2) (.t t) 0 _ _ []).nolist rfl |>.2 9)
    ·obtain⟨a1,a2,a3⟩:=y4o gg hp (s1.times n.toNat)
     exact k _ _ _ _ a1 (gog.trans a2) a3
   ·cases ee
  ·cases ee
 ·cases ee
end
section
variable {X:Cx}{a b c e:Expr}{es:List Expr}{fa fb fc f:Den}{ga gb:x23}{g:x1v}{pos p p1 p2 cpos apos:Pos}
theorem j10 {x:Str}{i:Int}(h:∃ t,X.mg x=some (.int i t))(hg:Gl X x:=by rfl)(hd:(x==("__debug__":Str))=false:=by decide):PD X (.Name x pos) (eC (.int i)):=by
 obtain⟨t,h⟩:=h
 exact x9g (z3w (v:=.int i) hg h ⟨t,rfl⟩ hd) fun _ _ _ _ _=>.int i
@[simp] def j7m (i:Nat)(f:Den):Den:=fun ρ=>if z1l ρ[i]? = true then match f ρ with
 | some (.lst es,1,ρ1)=>match ρ1[i]? with
  | some (some (.lst ds,1))=>if ds.length+es.length<=1000 then some (.non,9,ρ1.set i (some (.lst (ds++es),1)))else none
  | _=>none
 | _=>none
 else none
theorem z5g {i:Nat}{x:Str}(h:PE X (.Name x p1) (y0z i))(ha:PD X e f)
  (hbase:attributeBase (.Name x p1) "extend" X.env (eval (.Name x p1) X.env)=eval (.Name x p1) X.env:=by rfl)
  (hfew:((backTo cpos (starEach [e] X.env)).all (fun x=>!x.1)&&(backToKw cpos (keywordEach [] X.env)).all (fun x=>x.1.isSome)
    && decide ([e].length+([]:List Keyword).length+(if([]:List Keyword).isEmpty then 0 else 1)<30))=true:=by rfl)
  (hline:(apos.endLine==cpos.line)=true:=by rfl) (hs:starEach [e] X.env=(false,eval e X.env)::starEach [] X.env:=by rfl) (hplain:(backTo cpos (starEach [] X.env)).any (·.1)=false:=by rfl) :
  PD X (.Call (.Attribute (.Name x p1) "extend" apos) [e] [] cpos) (j7m i f):=
 PE.imp (z22 PySem.F.plainAttrs_list PySem.F.slot_list_extend PySem.F.type_list_extend z3y h (x3v ha x71 hs) hbase hfew hline hs hplain) fun σ H Q hh0=>by
 obtain⟨ρ,w,t,r',q,ρ',gd,ee,k⟩:=hh0
 unfold j7m at ee
 split at ee
 ·rename_i hl
  obtain⟨l,hσ,us,hq⟩:=gd.isL hl
  split at ee
  ·rename_i es' ρ1 h1
   split at ee
   ·rename_i ds e1
    split at ee
    ·rename_i hlen
     cases ee
     refine⟨_,hσ,.inl ⟨rfl,us,hq⟩,ρ,w,t,_,_,_,gd,h1,fun v H1 w1 F1 g1 go1 r1=>?_⟩
     obtain⟨l',ws,hσ',hH,rs,mk⟩:=g1.mut e1
     rw[hσ]at hσ'
     cases hσ'
     cases r1 with
     | own hb _ rz _=>
      have z0:=rz.zero
      subst z0
      have rz':Reps X.K H1 w1 .f 0 es' _ []:=rz.any g1.wl
      obtain⟨m1,m2⟩:=mk _ _ (rz'.app rs)
      refine⟨l,_,ws,_,rfl,rfl,hH,hb,y1c (by rw[<- rs.length,<- rz'.length];exact hlen),?_⟩
      exact k .non _ w1 [] m1 (go1.trans m2) .non
    ·cases ee
   ·cases ee
  ·cases ee
 ·cases ee
end
section
variable {X:Cx}{a b c e:Expr}{es:List Expr}{fa fb fc f:Den}{ga gb gc:x23}{g:x1v}{qa qb:y2b}{s:x1a}{pos p p1 p2 cpos apos:Pos}
@[simp] def y7y:x1a:=fun _=>none
theorem z3a {st:Stmt}:PDS X st y7y:=PS.imp z9b fun D σ H hh0=>by obtain⟨ρ,w,o,g,ee,k⟩:=hh0;cases ee
def x7y (c:x23)(b:x1a):Nat->Rho->Option Out
 | 0,_=>none
 | m+1,ρ=>match c ρ with
  | none=>none
  | some (t,ρ1)=>if t=true then match b ρ1 with
    | none=>none
    | some (.nx ρ2)=>x7y c b m ρ2
    | some (.ct ρ2)=>x7y c b m ρ2
    | some (.bk ρ2)=>some (.nx ρ2)
    | some (.rt d q)=>some (.rt d q)
   else some (.nx ρ1)
def y7v (c:x23)(b:x1a):x1a:=x7y c b 1000
theorem z3m {body:List Stmt}(hp:PassesOwn (model X.prog X.w) X.A X.env X.xe)(hc:PDT X c gc)(hb:z2j X body s):PDS X (.While c body [] pos) (y7v gc s):=
 PS.imp (z86 hp hc hb) fun D σ H hh0=>by
 obtain⟨ρ,w,o,g,ee,k⟩:=hh0
 refine⟨fun m σ' H'=>σ'.length=σ.length/\∃ ρ' w',Good X.K ρ' σ' H' w' 0/\x7y gc s m ρ'=some o/\y47 X.K D σ.length H' w' o,⟨1000,rfl,ρ,w,g,ee,k⟩,?_⟩
 rintro m σ' H' ⟨hσ,ρ',w',g',e',k'⟩
 cases m with
 | zero=>cases e'
 | succ m=>
  unfold x7y at e'
  split at e'
  ·cases e'
  ·rename_i t ρ1 h1
   refine⟨ρ',w',0,t,ρ1,g',h1,fun H1 w1 g1 go1=>?_⟩
   cases t with
   | true=>
    rw[if_pos rfl]at e' ⊢
    refine⟨fun σ2 H2=>σ2.length=σ.length/\∃ ρ2 w2,Good X.K ρ2 σ2 H2 w2 0/\x7y gc s m ρ2=some o/\y47 X.K D σ.length H2 w2 o,fun σ2 H2 n2=>⟨m,Nat.lt_succ_self m,n2⟩,?_⟩
    have nx:∀ {ρ5:Rho},x7y gc s m ρ5=some o->∀ σ5 H5 w5,σ5.length=σ'.length->Good X.K ρ5 σ5 H5 w5 0->Go H1 w1 H5 w5->σ5.length=σ.length/\∃ ρ2 w2,Good X.K ρ2 σ5 H5 w2 0/\x7y gc s m ρ2=some o/\y47 X.K D σ.length H5 w2 o:=fun {ρ5} e5 σ5 H5 w5 l5 g5 go5=>⟨by rw[l5,hσ],ρ5,w5,g5,e5,k'.trans (go1.trans go5)⟩
    cases h6:s ρ1 with
    | none=>rw[h6]at e';cases e'
    | some o6=>
     rw[h6]at e'
     refine⟨ρ1,w1,o6,g1,h6,?_⟩
     cases o6 with
     | nx ρ5=>exact nx e'
     | ct ρ5=>exact nx e'
     | bk ρ5=>
      cases e'
      exact fun σ5 H5 w5 l5 g5 go5=>k' σ5 H5 w5 (by rw[l5,hσ]) g5 (go1.trans go5)
     | rt d q=>
      cases e'
      exact fun v H5 w5 F wl5 go5 r5=>k' v H5 w5 F wl5 (go1.trans go5) r5
   | false=>
    rw[if_neg (by decide)]at e' ⊢
    cases e'
    exact k' σ' H1 w1 hσ g1 go1
@[simp] def z07 (n:Nat)(qi:y2b)(fe:Den):x1a:=fun ρ=>match fe ρ with
 | some (d,_,ρ1)=>match qi ρ1,ρ1[n]? with
  | some i,some (some (.lst ds,1))=>match ixN ds.length i with
   | some m=>some (.nx (ρ1.set n (some (.lst (ds.set m d),1))))
   | none=>none
  | _,_=>none
 | none=>none
theorem z6l {n:Nat}{x:Str}(h:PE X (.Name x p1) (y0z n))(ha:PQ X a qa)(he:PD X e f)
  (hasg:∀ v,assign (.Subscript (.Name x p1) a p) X.env v=(do
    let ov <- holding [v] (eval (.Name x p1) X.env)
    let iv <- holding [v,ov] (eval a X.env)
    standAt p
    holding [v,ov,iv] (setItem ov iv v)
    release [v,ov,iv] []):=by exact fun _=>rfl)
  (hs:swapsWithSole [.Subscript (.Name x p1) a p] e pos.line X.env=pure false:=by rfl) :
  PDS X (.Assign [.Subscript (.Name x p1) a p] e pos) (z07 n qa f):=by
 refine PS.imp (z5f he (z9t h ha z17 hasg) hs) fun D σ H ⟨ρ,w,o,gd,ee,k⟩=>?_
 unfold z07 at ee
 split at ee
 ·rename_i d q0 ρ1 h1
  split at ee
  ·rename_i i ds hi er
   split at ee
   ·rename_i m hm
    cases ee
    refine⟨ρ,w,0,d,q0,ρ1,gd,h1,fun v H1 w1 F1 g1 go1 r1=>?_⟩
    have rv:=r1.drop (o:=.f) (Nat.le_refl 0)
    have gg:=g1.drop (t':=0)
    obtain⟨l,vs,m1,m2,m3,mk⟩:=gg.mut er
    refine⟨_,m1,ρ1,x2b 0 w1,0,i,gg,hi,l,vs,i,m,rfl,rfl,m2,?_,?_⟩
    ·rw[<- m3.length];exact hm
    ·obtain⟨n1,n2⟩:=mk _ _ (m3.set0 rv m)
     exact k _ _ _ rfl n1 ((go1.drop gd.wt).trans n2)
   ·cases ee
  ·cases ee
 ·cases ee
def j8v (K:PySem.W.Frag):R2:=fun x y H Q=>∃ l b xs zs,x=.ref l/\y=.ref b/\SqL K H l xs/\SqL K H b zs/\xs.length+zs.length<=sizeLine/\∀ p,H p=none->Q (.ref p) (upd H p (.lst (xs++zs)))
theorem j0q:OpR X (binaryOp .Add) (j8v X.K):=by
 intro pins s σ H x y v u Q I rx ry h
 obtain⟨l,b,xs,zs,rfl,rfl,hH,hB,hz,q⟩:=h
 cases rx
 cases ry
 obtain⟨its,r,pl,z⟩:=I.list hH
 obtain⟨its2,r2,pl2,z2⟩:=I.list hB
 obtain⟨⟨cls,dd,data,sl⟩,n,ho,hc,_,hd⟩:=pl
 obtain⟨⟨cls2,dd2,data2,sl2⟩,n2,ho2,hc2,_,hd2⟩:=pl2
 simp only at hc hd hc2 hd2
 subst hc hd hc2 hd2
 have l1:=r.length
 have l2:=r2.length
 refine concat_meets ⟨_,ho,rfl⟩ ⟨_,ho2,rfl⟩ noFill_list_add seq_list_add PySem.F.slot_list_add PySem.F.entry_list_add (PySem.F.args_list_add_2 _ _) (list_addW l b its.toArray its2.toArray n n2 dd dd2 sl sl2 (by rw[List.size_toArray,List.size_toArray,<- l1,<- l2];exact hz)) ⟨ho,ho2,?_⟩
 have e:its.toArray++its2.toArray=(its++its2).toArray:=by simp
 rw[e]
 exact⟨.ref _,_,I.lnew (t':=s.toks) (r.append r2) (by rw[List.length_append];omega),rfl,q _ I.fresh⟩
@[simp] def z2x (fa fb:Den):Den:=fun ρ=>match fa ρ with
 | some (.lst ds,_,ρ1)=>match fb ρ1 with
  | some (.lst es,_,ρ2)=>if ds.length+es.length<=1000 then some (.lst (ds++es),1,ρ2)else none
  | _=>none
 | _=>none
theorem j3g (ha:PD X a fa)(hb:PD X b fb):PD X (.BinOp a .Add b pos) (z2x fa fb):=PE.imp (y89 j0q ha hb) fun σ H Q hh0=>by
 obtain⟨ρ,w,t,r',q,ρ',gd,ee,k⟩:=hh0
 unfold z2x at ee
 split at ee
 ·rename_i ds q1 ρ1 h1
  split at ee
  ·rename_i es q2 ρ2 h2
   split at ee
   ·rename_i hl
    cases ee
    refine j1s gd h1 h2 fun u u' H2 w2 F1 F2 g2 go r1 r2=>?_
    have r10:=r1.drop (o:=.f) (Nat.le_refl t)
    have r20:=r2.drop (o:=.f) (Nat.le_succ t)
    have gg:=g2.drop (t':=t)
    have gog:=go.drop gd.wt
    obtain⟨p1,vs,rfl,q1',s1⟩:=r10.seqL0
    obtain⟨p2,us,rfl,q2',s2⟩:=r20.seqL0
    refine⟨p1,p2,vs,us,rfl,rfl,q1',q2',y1c (by rw[<- s1.length,<- s2.length];exact hl),fun p hp=>?_⟩
    obtain⟨a1,a2,a3⟩:=y7x gg hp (s2.app s1)
    exact k _ _ _ _ a1 (gog.trans a2) a3
   ·cases ee
  ·cases ee
 ·cases ee
end
section
variable {X:Cx}{a b c e:Expr}{es:List Expr}{fa fb fc f:Den}{ga gb gc:x23}{g:x1v}{qa qb:y2b}{s:x1a}{pos p p1 p2 p3 cpos apos:Pos}
@[simp] def x9d (n:Nat)(c:Int):y2b:=fun ρ=>match ρ[n]? with
 | some (some (.tup es,_))=>match L2.atI es c with
  | some d=>match x5o d with
   | some m=>some (Int.ofNat m)
   | none=>none
  | none=>none
 | _=>none
theorem z92 {n j:Nat}{c:Int}{x:Str}(hm:X.mg "len" = none)(h:PE X (.Name x p1) (y0z n))(hg:Gl X "len":=by rfl)(hs:x5i (.Constant (.int c) j p2):=by exact fun _ _=>rfl)
  (he:starEach [.Subscript (.Name x p1) (.Constant (.int c) j p2) p3] X.env=(false,eval (.Subscript (.Name x p1) (.Constant (.int c) j p2) p3) X.env)::starEach [] X.env:=by rfl) (hpl:(backTo pos (starEach [] X.env)).any (·.1)=false:=by rfl) :
  PQ X (.Call (.Name "len" p) [.Subscript (.Name x p1) (.Constant (.int c) j p2) p3] [] pos) (x9d n c):=
 PE.imp (x51 x7o hg hm PySem.boot_len (x3v (z5h y84 h z9u hs) x71 he) (by decide) (by decide) he hpl) fun σ H Q hh0=>by
 obtain⟨ρ,w,t,i,gd,ee,k⟩:=hh0
 unfold x9d at ee
 split at ee
 ·rename_i es q e0
  split at ee
  ·rename_i d hd
   split at ee
   ·rename_i m hm'
    cases ee
    obtain⟨v,F,h1,h2⟩:=gd.slot n _ _ e0
    obtain⟨p0,vs,rfl,hq,rs⟩:=h2.seqT
    obtain⟨u,hu,ru⟩:=rs.atI hd
    obtain⟨p',ys,rfl,hs',hl⟩:=ru.len hm'
    exact⟨_,h1,.inr (.inl ⟨p0,vs,c,_,rfl,rfl,hq,hu,p',ys,rfl,hs',by rw[hl];exact k⟩)⟩
   ·cases ee
  ·cases ee
 ·cases ee
@[simp] def z28 (k l:Str)(qa qb:y2b):Den:=fun ρ=>match qa ρ,qb ρ with
 | some i,some j=>some (.dic [k,l] [.int i,.int j],9,ρ)
 | _,_=>none
theorem j5n {K:PySem.W.Frag}{ρ:Rho}{σ:St}{t:Nat}{H1:Hp}{p:Addr}{ks:List Str}{vs:List V}{ds:List D}{w1:Wn}(g:Good K ρ σ H1 w1 t)(hp:H1 p=none)(r:Reps K H1 w1 .f 0 ds vs []) :
  Good K ρ σ (upd H1 p (.dK (kvL ks vs))) w1 (t+1)/\Go H1 w1 (upd H1 p (.dK (kvL ks vs))) w1/\Rep K (upd H1 p (.dK (kvL ks vs))) w1 (.t t) 9 (.dic ks ds) (.ref p) []:=by
 have ne:∀ a x,H1 a=some x->a≠p:=fun a x e=>x1r e hp
 have nw:∀ a o,w1 a=some o->a≠p:=fun a o e=>by obtain⟨vs,q⟩:=g.wl a o e;exact ne a _ q
 have st:x8d H1 w1 (upd H1 p (.dK (kvL ks vs))) w1:=fun a x e n=>⟨sm (by rw[x0y (ne a x e)];exact e),n⟩
 refine⟨⟨⟨fun a o e=>?_,g.wl.tb.upd rfl (.inl hp)⟩,g.ws,fun a i e=>Nat.lt_succ_of_lt (g.wt a i e),g.len,fun i d q e=>?_⟩,⟨st,fun a o e _=>⟨x0y (nw a o e),e⟩⟩,?_⟩
 ·obtain⟨us,q⟩:=g.wl a o e
  exact⟨us,by rw[x0y (nw a o e)];exact q⟩
 ·obtain⟨v,F,h1,h2⟩:=g.slot i d q e
  exact⟨v,F,h1,Rep.go g.wl st h2 fun a m=>⟨x0y (nw a _ (h2.owns a m)),h2.owns a m⟩⟩
 ·exact .dic x1z (Reps.go g.wl st r (fun _ z=>nomatch z))
theorem j26 {k l:Str}{j1 j2:Nat}(hkl:k≠l)(ha:PQ X a qa)(hb:PQ X b qb) :
  PD X (.Dict [some (.Constant (.str k) j1 p1),some (.Constant (.str l) j2 p2)] [a,b] pos) (z28 k l qa qb):=
 PE.imp (j2b (z1a z0b ha (z1a z0b hb j21)) rfl rfl (by simp) (by show 2<=15;decide)) fun σ H Q hh0=>by
 obtain⟨ρ,w,t,r',q,ρ',gd,ee,kk⟩:=hh0
 unfold z28 at ee
 split at ee
 ·rename_i i j hi hj
  cases ee
  intro p0 hp
  have ne:∀ a x,H a=some x->upd H p0 (.dK []) a=some x:=fun a x e=>by rw[x0y (x1r e hp)];exact e
  obtain⟨g1,go1⟩:=gd.more ⟨ne,fun t=>t.upd rfl (.inl hp)⟩
  refine⟨ρ,w,t,i,g1,hi,ρ,w,t,j,g1,hj,x1z,[(.inr k,.int i),(.inr l,.int j)],rfl,by show 2<=15;decide,?_⟩
  have e:y2e [] [((.inr k:Key),V.int i),(.inr l,.int j)]=kvL [k,l] [.int i,.int j]:=by
   have hkl':¬ ((Sum.inr k:Key)=.inr l):=fun z=>hkl (Sum.inr.inj z)
   simp[y2e,z8m,kvL,hkl']
  rw[e,j0y]
  obtain⟨a1,a2,a3⟩:=j5n (ks:=[k,l]) (ds:=[.int i,.int j]) (vs:=[.int i,.int j]) gd hp (.cons (F:=[]) (G:=[]) (.int i) (.cons (F:=[]) (G:=[]) (.int j) .nil (fun _ z=>nomatch z)) (fun _ z=>nomatch z))
  exact kk _ _ _ _ a1 a2 a3
 ·cases ee
def y8h:List Str->List D->Str->Option D
 | x::ks,d::ds,k=>if x=k then some d else y8h ks ds k
 | _,_,_=>none
@[simp] def z6d (fo fe ff:Den):Den:=fun ρ=>match fo ρ with
 | some (.dic ks ds,_,ρ1)=>match fe ρ1 with
  | some (.str k,_,ρ2)=>match ff ρ2 with
   | some (z,_,ρ3)=>some ((y8h ks ds k).getD z,x20 ((y8h ks ds k).getD z),ρ3)
   | none=>none
  | _=>none
 | _=>none
theorem z1h {K:PySem.W.Frag}{H:Hp}{w:Wn}{o:Ow}(k:Str):∀ {ks:List Str} {ds:List D} {vs:List V},Reps K H w o 0 ds vs []->
  (∀ d,y8h ks ds k=some d->∃ v,z0y (kvL ks vs) (.inr k)=some v/\Rep K H w o 0 d v [])/\(y8h ks ds k=none->z0y (kvL ks vs) (.inr k)=none)
 | [],ds,vs,r=>by
  refine⟨fun d h=>?_,fun _=>rfl⟩
  unfold y8h at h
  cases h
 | x::ks,ds,vs,r=>by
  generalize hF:([]:List Addr)=F at r
  cases r with
  | nil=>exact⟨(fun d h=>by unfold y8h at h;cases h),fun _=>rfl⟩
  | @cons _ d' v' ds' vs' F' G' r s _=>
   have h1:F'=[]:=r.zero
   have h2:G'=[]:=s.zero
   subst h1 h2
   have ih:=z1h k (ks:=ks) s
   by_cases hx:x=k
   ·subst hx
    refine⟨fun d h=>?_,fun h=>?_⟩
    ·unfold y8h at h
     rw[if_pos rfl]at h
     cases h
     exact⟨v',y6m rfl,r⟩
    ·unfold y8h at h
     rw[if_pos rfl]at h
     cases h
   ·have hk:¬ ((Sum.inr x:Key)=.inr k):=fun z=>hx (Sum.inr.inj z)
    have e:z0y (kvL (x::ks) (v'::vs')) (.inr k)=z0y (kvL ks vs') (.inr k):=y6g hk
    rw[e]
    unfold y8h
    rw[if_neg hx]
    exact ih
theorem j3i {k:Nat}(hr:Room k X.A)(ho:PD X a fa)(he:PD X b fb)(hf:PD X c fc)
  (hbase:attributeBase a "get" X.env (eval a X.env)=eval a X.env:=by rfl)
  (hfew:((backTo cpos (starEach [b,c] X.env)).all (fun x=>!x.1)&&(backToKw cpos (keywordEach [] X.env)).all (fun x=>x.1.isSome)
    && decide (([b,c]:List Expr).length+([]:List Keyword).length+(if([]:List Keyword).isEmpty then 0 else 1)<30))=true:=by rfl)
  (hline:(apos.endLine==cpos.line)=true:=by rfl) (htr:backTo cpos (starEach [b,c] X.env)=[(false,eval b X.env),(false,eval c X.env)]:=by rfl) :
  PD X (.Call (.Attribute a "get" apos) [b,c] [] cpos) (z6d fa fb fc):=
 PE.imp (z64 (j85 hr) ho he hf ⟨hbase,hfew,hline,htr⟩) fun σ H Q hh0=>by
 obtain⟨ρ,w,t,r',q,ρ',gd,ee,kk⟩:=hh0
 unfold z6d at ee
 split at ee
 ·rename_i ks ds q1 ρ1 h1
  split at ee
  ·rename_i k0 q2 ρ2 h2
   split at ee
   ·rename_i z q3 ρ3 h3
    cases ee
    refine⟨ρ,w,t,_,_,_,gd,h1,fun x H1 w1 F1 g1 go1 r1=>?_⟩
    have r1':=r1
    cases r1' with
    | @dic _ a0 _ vs0 _ hH0 _=>
     refine⟨a0,rfl,.inl ⟨_,.inl hH0⟩,ρ1,w1,t+1,_,_,_,g1,h2,fun y H2 w2 F2 g2 go2 r2=>⟨ρ2,w2,t+2,_,_,_,g2,h3,fun zv H3 w3 F3 g3 go3 r3=>?_⟩⟩
     have hy:y=kV (.inr k0):=by cases r2;rfl
     subst hy
     have r13:=(r1.gone g1.wl (go2.trans go3)).drop (o:=.t t) (Nat.le_refl t)
     have rz:=r3.drop (o:=.t t) (t':=t) (by omega)
     have go:=(go1.trans go2).trans go3
     cases r13 with
     | @dic _ _ _ vs _ hH rs=>
      obtain⟨v1,v2⟩:=z1h (ks:=ks) k0 rs
      refine⟨_,j6o.k hH,?_⟩
      cases hg:y8h ks ds k0 with
      | none=>
       rw[v2 hg]
       rw[hg]at kk
       exact j2l kk gd g3 go rz.dep
      | some d=>
       obtain⟨v,ev,rv⟩:=v1 d hg
       rw[ev]
       rw[hg]at kk
       exact j2l kk gd g3 go rv.dep
   ·cases ee
  ·cases ee
 ·cases ee
theorem j27 {x2j:List Expr}{env:Env}{ks:List (Option Expr)}{vs:List Expr}:starEach (.Dict ks vs pos::x2j) env=(false,eval (.Dict ks vs pos) env)::starEach x2j env:=by simp only[starEach]
end
theorem j6r {prog:Program}{w:World}{A:Around}(hh:A.handled=none)(it p:Addr)(hne:p≠it)(items:Array Value) :
  Draws prog w A it [it,p] items.size (fun i v=>items[i]? = some v) (fun i h=>h.IsTupleIter it p i/\h.IsTuple p items) where
 live:=fun _ _ st=>by obtain⟨⟨o,ho,_⟩,_⟩:=st;exact⟨o,ho⟩
 frame:=fun _ _ _ st hk=>by
  obtain⟨a,⟨o,e,r⟩⟩:=st
  exact⟨a.at fun o e=>hk it (by simp) o e,⟨o,hk p (by simp) o e,r⟩⟩
 item:=fun i s Q E hi st hQ=>by
  refine x88 st.1 st.2 (v:=items[i]) (by simp[hi]) fun h' hit' hs'=>?_
  exact hQ _ h' s.toks (by simp[hi]) ⟨hit',st.2.extBut hs'.extBut hne⟩ hs'
 done:=fun s Q E st hE=>y2c hh st.1 st.2 (by simp) hE
section
variable {prog:Program}{w:World}{A:Around}{E:Value->Shared->Prop}{s:Shared}
theorem z4x {p:Addr}{xs:Array Value}{Q:Value->Shared->Prop}(t1:s.heap.IsTuple p xs)
  (k:∀ h',IsEnum h' (s.heap.objs.size+1) s.heap.objs.size 0 .none->h'.IsTupleIter s.heap.objs.size p 0->h'.objs.size=s.heap.objs.size+2->
    (∀ b o,s.heap.get? b=some o->h'.get? b=some o)->Q (.ref (s.heap.objs.size+1)) { s with heap:=h' }) :
  wpAny (model prog w) A (call (.type "enumerate") [.ref p]) Q E s:=by
 have mt:Meets (Builtin.«enumerate.__new__» ⟨[.type "enumerate",.ref p],[]⟩) (fun _ R s'=>s'=s /\
   R (.ok (.ret (.ref (s.heap.push { cls:=.type "tuple_iterator",data:=.fields #[.ref p,.int 0 0] }).objs.size)))
    { s with heap:=(s.heap.push { cls:=.type "tuple_iterator",data:=.fields #[.ref p,.int 0 0] }).push { cls:=.type "enumerate",data:=.fields #[.none,.bool false,.ref s.heap.objs.size,rawInt 0,.none,.none] } }):=.of_wp fun prog w A R s' h=>by
  obtain⟨rfl,h⟩:=h
  have hsub:=sub_enumerate
  obtain⟨hp,gn,dr,tk,os⟩:=s'
  have q1:Heap.IsTuple (Shared.heap ⟨hp,gn,dr,tk,os⟩) p xs:=t1
  wp_walk using wpAny_pyIter_tuple q1
  refine wpAny_stack_any fun st=>wpAny_pure ?_
  split
  ·rename_i c _ _ _ _ _
   cases (c==Value.type "enumerate")
   ·wp_walk using wpAny_pyIter_tuple q1
    exact⟨_,rfl,h⟩
   ·wp_walk using wpAny_pyIter_tuple q1
    exact⟨_,rfl,h⟩
  ·wp_walk using wpAny_pyIter_tuple q1
   exact⟨_,rfl,h⟩
 refine callType_new F.called_enumerate (by decide) (F.typeCall_enumerate_1 _) (F.newCall_enumerate_1 _) (fun obj=>F.args_object_init_2 obj _) F.entry_enumerate_new mt ⟨rfl,?_⟩
 have hz:(s.heap.push { cls:=.type "tuple_iterator",data:=.fields #[.ref p,.int 0 0] }).objs.size=s.heap.objs.size+1:=Heap.size_push ..
 show _/\_
 rw[hz]
 have he:IsEnum ((s.heap.push { cls:=.type "tuple_iterator",data:=.fields #[.ref p,.int 0 0] }).push
   { cls:=.type "enumerate",data:=.fields #[.none,.bool false,.ref s.heap.objs.size,rawInt 0,.none,.none] }) (s.heap.objs.size+1) s.heap.objs.size 0 .none:=by
  have:=Heap.get?_push_size (s.heap.push { cls:=.type "tuple_iterator",data:=.fields #[.ref p,.int 0 0] })
   (o:={ cls:=.type "enumerate",data:=.fields #[.none,.bool false,.ref s.heap.objs.size,rawInt 0,.none,.none] }) rfl
  rw[hz]at this;exact this
 exact⟨⟨_,he,rfl⟩,k _ he ⟨_,Heap.get?_push_of_some _ (Heap.get?_push_size _ rfl),rfl,rfl⟩ (by rw[Heap.size_push,hz]) fun b o x=>Heap.get?_push_of_some _ (Heap.get?_push_of_some _ x)⟩
end
structure Src (P:Program) (w:World) (K:PySem.W.Frag) (it p:Addr) (Sq:Hp->List V->Prop) (tn:Nat->Heap->Prop):Prop where
 keep:∀ i h h',tn i h->(∀ o,h.get? it=some o->h'.get? it=some o)->tn i h'
 obj:∀ i h,tn i h->∃ o vs,h.get? it=some o/\o.data=.fields vs
 draw:∀ (X:Cx),X.prog=P->X.w=w->X.K=K->X.calm=true->∀ (pins:List (Addr×Obj)) (s:Shared) (σ:St) (H:Hp) (xs:List V),Inv X pins σ H s->Sq H xs->∃ (us:List Value) (St:Nat->Heap->Prop),x37 xs us /\
  Draws P w X.A.in1 it [it,p] us.length (fun i v=>us[i]? = some v) St/\(∀ i,tn i s.heap->St i s.heap)/\(∀ i h,St i h->tn i h)/\∀ ys,Sq H ys->ys=xs
theorem z7h {P:Program}{w:World}{K:PySem.W.Frag}{it p:Addr}(hne:p≠it):Src P w K it p (fun H xs=>SqL K H p xs) (fun i h=>h.IsListIter it p i) where
 keep:=fun i h h' st k=>st.at k
 obj:=fun i h st=>by obtain⟨o,e,c,d⟩:=st;exact⟨o,_,e,d⟩
 draw:=fun X hP hw hK hc pins s σ H xs I hq=>by
  subst hP hw hK
  obtain⟨its,rv,pl,_⟩:=I.list hq
  have D:=Draws.list (prog:=X.prog) (w:=X.w) (A:=X.A.in1) (I.ok.hd hc) it p hne its.toArray
  rw[List.size_toArray]at D
  exact⟨its,(fun i h=>h.IsListIter it p i/\h.IsList p its.toArray),rv,(by simpa using D),fun i st=>⟨st,pl.isList⟩,fun i h st=>st.1,fun ys hy=>I.list_inj hy hq⟩
theorem j1w {P:Program}{w:World}{K:PySem.W.Frag}{it p:Addr}(hne:p≠it):Src P w K it p (fun H xs=>SqT K H p xs) (fun i h=>h.IsTupleIter it p i) where
 keep:=fun i h h' st k=>st.at k
 obj:=fun i h st=>by obtain⟨o,e,c,d⟩:=st;exact⟨o,_,e,d⟩
 draw:=fun X hP hw hK hc pins s σ H xs I hq=>by
  subst hP hw hK
  obtain⟨its,rv,pl,_⟩:=I.tuple hq
  have D:=j6r (prog:=X.prog) (w:=X.w) (A:=X.A.in1) (I.ok.hd hc) it p hne its.toArray
  rw[List.size_toArray]at D
  exact⟨its,(fun i h=>h.IsTupleIter it p i/\h.IsTuple p its.toArray),rv,(by simpa using D),fun i st=>⟨st,pl⟩,fun i h st=>st.1,fun ys hy=>I.tuple_inj hy hq⟩
def Ite (Sq:Hp->List V->Prop):It:=
 ⟨fun i H=>∃ xs x,Sq H xs/\xs[i]? = some x,
  fun i H v H'=>∃ T x,v=.ref T/\H T=none/\(∀ xs,Sq H xs->xs[i]? = some x)/\H'=upd H T (.tup [.int (Int.ofNat i),x]),
  fun i H=>∃ xs,Sq H xs/\xs.length=i⟩
theorem z3q {P:Program}{w:World}{K:PySem.W.Frag}{elts:List Expr}{kt:Nat}{tp:Pos}{e it p:Addr}{Sq:Hp->List V->Prop}{tn:Nat->Heap->Prop}(S:Src P w K it p Sq tn)(hne:e≠it)(hp:e≠p) :
  Turn P w K (.Tuple elts kt tp) (Ite Sq) [e,it] e (fun i h=>(∃ old,IsEnum h e it i old)/\tn i h) where
 mem:=by simp
 obj:=fun i h st b hb=>by
  obtain⟨⟨old,he⟩,st⟩:=st
  simp only[List.mem_cons,List.not_mem_nil,or_false]at hb
  rcases hb with rfl|rfl
  ·exact⟨_,he,fun v e=>nomatch e⟩
  ·obtain⟨o,vs,e,d⟩:=S.obj i h st
   exact⟨o,e,fun v z=>by rw[d]at z;cases z⟩
 keep:=fun i h h' st k=>by
  obtain⟨⟨old,he⟩,st⟩:=st
  exact⟨⟨old,k e (by simp) _ he⟩,S.keep i h h' st fun o z=>k it (by simp) o z⟩
 item:=by
  intro X hP hw hK hc i pins s σ H E I hf st hg
  obtain⟨⟨old,he⟩,st⟩:=st
  obtain⟨xs,x,hq,hx⟩:=hg
  obtain⟨us,St,rv,D,s1,s2,inj⟩:=S.draw X hP hw hK hc pins s σ H xs I hq
  obtain⟨u,hu,ru⟩:=rv.get hx
  have hlt:i<us.length:=(List.getElem?_eq_some_iff.mp hu).1
  refine wpAny_pyNext_enum_itemD D he (s1 i st) hlt hne (by simp[hne,hp]) fun u' g tk hP' ho hs' hT hsz hk=>?_
  have eu:u'=u:=by rw[hu]at hP';exact(Option.some.inj hP').symm
  subst eu
  refine⟨_,rfl,wpAny_letOwnedTupleGo_enum (s:={ s with heap:=g,toks:=tk+1 }) ho fun g' he' sb=>?_⟩
  have sb':Heap.SameBut e g g':=sb
  have fr:H s.heap.objs.size=none:=I.hok.fresh (Nat.le_refl _)
  have ri:x4g (.int (Int.ofNat i)) (.int i tk):=⟨tk,rfl⟩
  have I1:Inv X pins σ (upd H s.heap.objs.size (.tup [.int (Int.ofNat i),x])) { s with heap:=s.heap.push { cls:=.type "tuple",data:=.seq #[.int i tk,u'] } }:=
   I.laid (t':=s.toks) (fun b q e=>Heap.get?_push_of_some _ e) (Nat.le_refl _) (show x32 X.prog X.w _ _ _ (.tup _)from⟨(by show 2<=sizeLine;decide),[.int i tk,u'],.cons ri (.cons ru .nil),x5n.new _ _⟩)
  have lt:∀ b ∈ [e,it],b<s.heap.objs.size:=fun b hb=>by
   simp only[List.mem_cons,List.not_mem_nil,or_false]at hb
   rcases hb with rfl|rfl
   ·exact Heap.lt_size he
   ·obtain⟨o,_,e,_⟩:=S.obj i _ st;exact Heap.lt_size e
  have hn:∀ b ∈ [e,it],upd H s.heap.objs.size (.tup [.int (Int.ofNat i),x]) b=none:=fun b hb=>by rw[x0y (Nat.ne_of_lt (lt b hb))];exact(hf b hb).1
  have I2:Inv X pins σ (upd H s.heap.objs.size (.tup [.int (Int.ofNat i),x])) { s with heap:=g',toks:=tk+1 }:=y9x (s:={ s with heap:=s.heap.push { cls:=.type "tuple",data:=.seq #[.int i tk,u'] } }) (t':=tk+1) (ch:=[e,it]) I1 (fun b q nb z=>by
   have b1:b≠e:=fun h=>nb (by simp[h])
   have b2:b≠it:=fun h=>nb (by simp[h])
   rcases Heap.get?_push_cases z with⟨rfl,rfl⟩|z'
   ·exact sb'.extBut _ _ b1 hT
   ·exact sb'.extBut _ _ b1 (hk b q b1 b2 z')) fun b hb=>by
     obtain⟨f0,f1,f2,f3,f4,f5⟩:=hf b hb
     exact⟨hn b hb,f1,f2,f3,f4,f5⟩
  refine⟨.ref s.heap.objs.size,_,I2,rfl,⟨s.heap.objs.size,x,rfl,fr,fun zs hz=>?_,rfl⟩,⟨⟨_,he'⟩,?_⟩,hn⟩
  ·rw[inj zs hz];exact hx
  ·exact S.keep _ _ _ (s2 _ _ hs') fun o z=>sb'.extBut _ _ (Ne.symm hne) z
 done:=by
  intro X hP hw hK hc i pins s σ H E I hf st hg
  obtain⟨⟨old,he⟩,st⟩:=st
  obtain⟨xs,hq,hx⟩:=hg
  obtain⟨us,St,rv,D,s1,s2,inj⟩:=S.draw X hP hw hK hc pins s σ H xs I hq
  have hl:us.length=i:=by rw[<- rv.length];exact hx
  subst hl
  refine wpAny_pyNext_enum_endD D he (s1 _ st) fun g kp=>⟨rfl,?_⟩
  obtain⟨f0,f1,f2,f3,f4,f5⟩:=hf it (by simp)
  exact I.turned (t':=s.toks) (fun b o hb z=>kp b o hb z) f0 f1 f3 f4 f5
 self:=fun _ _ _ _ _ st h=>by
  obtain⟨⟨old,he⟩,_⟩:=st
  exact wpAny_pyIter_enum he h
section
variable {X:Cx}{a b c e:Expr}{es elts:List Expr}{fa fb fc f:Den}{g:x1v}{pos p p1 p2 tp:Pos}{kt:Nat}
def k06 (K:PySem.W.Frag)(ta:TA):TI:=fun σ H R=>ta σ H fun vs H1=>∃ p,vs=[.ref p]/\(((∃ xs,SqL K H1 p xs)/\R (Ite fun H xs=>SqL K H p xs) H1)\/((∃ xs,SqT K H1 p xs)/\R (Ite fun H xs=>SqT K H p xs) H1))
theorem j1z {ta:TA}(hg:Gl X "enumerate")(hm:X.mg "enumerate" = none)(ha:PA X [a] ta)(hs:starEach [a] X.env=[(false,eval a X.env)]:=by rfl) :
  PI X (.Tuple elts kt tp) (.Call (.Name "enumerate" p) [a] [] pos) (k06 X.K ta):=by
 intro pins s σ H R I h
 refine Call_ (y2i I hg hm boot_enumerate (PyProof.Rows.callWith_type1 (thn (ha pos pins s σ H _ I h) fun us s1 ⟨vs,H1,I1,r1,q1⟩=>?_) hs rfl))
 obtain⟨q,ee,hq⟩:=q1
 subst ee
 cases r1 with
 | cons r rr=>
  cases rr
  cases r
  have ne1:s1.heap.objs.size+1≠s1.heap.objs.size:=Nat.succ_ne_self _
  have fin:∀ {g:Heap} {Sq:Hp->List V->Prop} {tn:Nat->Heap->Prop},q<s1.heap.objs.size->Src X.prog X.w X.K s1.heap.objs.size q Sq tn->IsEnum g (s1.heap.objs.size+1) s1.heap.objs.size 0 .none->tn 0 g->(∀ b o,s1.heap.get? b=some o->g.get? b=some o)->R (Ite Sq) H1->
    wpAny (model X.prog X.w) X.A (pyIter (.ref (s1.heap.objs.size+1))) (PIE X pins σ (.Tuple elts kt tp) R) X.xe { s1 with heap:=g }:=fun {g Sq tn} lq S he ht kp hR=>by
   have ne2:s1.heap.objs.size+1≠q:=Nat.ne_of_gt (Nat.lt_succ_of_lt lq)
   refine wpAny_pyIter_enum he ⟨s1.heap.objs.size+1,[s1.heap.objs.size+1,s1.heap.objs.size],_,_,H1,rfl,I1.kept (t':=s1.toks) kp,z3q S ne1 ne2,⟨⟨_,he⟩,ht⟩,fun b hb=>?_,hR⟩
   have far:s1.heap.objs.size<=b:=by
    simp only[List.mem_cons,List.not_mem_nil,or_false]at hb
    rcases hb with rfl|rfl
    ·exact Nat.le_add_right _ _
    ·exact Nat.le_refl _
   exact I1.fpOk far (I1.hok.fresh far)
  rcases hq with⟨⟨xs,hx⟩,hR⟩|⟨⟨xs,hx⟩,hR⟩
  ·obtain⟨its,rv,pl,_⟩:=I1.list hx
   have lq:q<s1.heap.objs.size:=by obtain⟨_,e,_⟩:=pl.isList;exact Heap.lt_size e
   exact call_enumerate_list pl.isList fun g he hi _ kp=>fin lq (z7h (Nat.ne_of_lt lq)) he hi kp hR
  ·obtain⟨its,rv,pl,_⟩:=I1.tuple hx
   have lq:q<s1.heap.objs.size:=by obtain⟨_,e,_⟩:=pl;exact Heap.lt_size e
   exact z4x (show s1.heap.IsTuple q its.toArray from pl) fun g he hi _ kp=>fin lq (j1w (Nat.ne_of_lt lq)) he hi kp hR
def y3z (ds:List D):List D:=ds.zipIdx.map fun x=>.tup [.int (Int.ofNat x.2),x.1]
theorem x9q (ds:List D):(y3z ds).length=ds.length:=by simp[y3z]
theorem y7f (ds:List D)(i:Nat):(y3z ds)[i]? = (ds[i]?).map fun d=>.tup [.int (Int.ofNat i),d]:=by
 simp only[y3z,List.getElem?_map,List.getElem?_zipIdx,Option.map_map]
 cases ds[i]? with
 | none=>rfl
 | some d=>simp
@[simp] def z5o (g:x1v):y4b:=fun ρ=>match g ρ with
 | some ([.lst ds],ρ1)=>if ds.length<=1000 then some (y3z ds,ρ1)else none
 | some ([.tup ds],ρ1)=>if ds.length<=1000 then some (y3z ds,ρ1)else none
 | _=>none
theorem It.enum {K:PySem.W.Frag}{Sq:Hp->List V->Prop}{vs:List V}{ds:List D}{P:Hp->Wn->Prop}(hl:ds.length=vs.length)(sq:∀ H w,P H w->Sq H vs/\Reps K H w .f 0 ds vs [])(ps:∀ H w H' w',P H w->WL K w H->x8d H w H' w'->P H' w'):ItOk K (Ite Sq) (y3z ds) P:=by
 refine⟨fun i H w p hi=>⟨vs,vs[i]'(by rw[x9q]at hi;omega),(sq H w p).1,by simp⟩,fun i H w x H' d p wl hd y=>?_,fun H w p=>⟨vs,(sq H w p).1,by rw[x9q];exact hl.symm⟩,ps⟩
 obtain⟨T,v,rfl,hT,hv,rfl⟩:=y
 obtain⟨q1,r1⟩:=sq H w p
 rw[y7f]at hd
 cases hz:ds[i]? with
 | none=>rw[hz]at hd;cases hd
 | some d0=>
  rw[hz]at hd
  cases hd
  obtain⟨v',hv',rv⟩:=r1.get hz
  have ev:v'=v:=by have:=hv vs q1;rw[hv']at this;exact Option.some.inj this
  subst ev
  have mo:∀ a o,H a=some o->upd H T (.tup [.int (Int.ofNat i),v']) a=some o:=fun a o e=>by rw[x0y (x1r e hT)];exact e
  have st:x8d H w (upd H T (.tup [.int (Int.ofNat i),v'])) w:=fun a x e n=>⟨sm (mo a x e),n⟩
  exact⟨⟨mo,fun t=>t.upd rfl (.inl hT)⟩,.tup x1z (.cons (F:=[]) (G:=[]) (.int _) (.cons (F:=[]) (G:=[]) (Rep.go0 rv wl st) .nil (fun _ z=>nomatch z)) (fun _ z=>nomatch z)),ps _ _ _ _ p wl st⟩
theorem z6f (hm:X.mg "enumerate" = none)(ha:PDA X [a] g)(hg:Gl X "enumerate":=by rfl)(hs:starEach [a] X.env=[(false,eval a X.env)]:=by rfl) :
  PDI X (.Tuple elts kt tp) (.Call (.Name "enumerate" p) [a] [] pos) (z5o g):=PI.imp (j1z hg hm ha hs) fun σ H R hh0=>by
 obtain⟨ρ,w,t,ds,ρ',gd,ee,k⟩:=hh0
 unfold z5o at ee
 split at ee
 ·rename_i d1 ρ1 h1
  split at ee
  ·rename_i hl
   cases ee
   refine⟨ρ,w,t,_,_,gd,h1,fun vs H1 w1 g1 go1 r1=>?_⟩
   obtain⟨v,rfl,rv⟩:=one r1
   have hz:(y3z d1).length<sizeLine:=by rw[x9q];exact x4a hl
   cases rv with
   | kl h r=>exact⟨_,rfl,.inl ⟨⟨_,h.sq⟩,k _ _ H1 w1 g1 go1 (It.enum (P:=fun H w=>(KL X.K _ _\/False)/\Reps X.K H w .f 0 d1 _ []) r.length (fun H w p=>⟨p.1.elim (fun z=>z.sq) fun z=>z.elim,p.2⟩) fun H w H' w' p wl st=>⟨p.1,Reps.go wl st p.2 (fun _ z=>nomatch z)⟩) ⟨.inl h,r⟩ hz⟩⟩
   | shr h n r=>exact⟨_,rfl,.inl ⟨⟨_,.inl h⟩,k _ _ H1 w1 g1 go1 (It.enum (P:=fun H w=>(Rd H _ (.lst _)/\w _=none)/\Reps X.K H w .f 0 d1 _ []) r.length (fun H w p=>⟨.inl p.1.1,p.2⟩) fun H w H' w' p wl st=>⟨RdL.go st p.1.2 p.1.1,Reps.go wl st p.2 (fun _ z=>nomatch z)⟩) ⟨⟨h,n⟩,r⟩ hz⟩⟩
  ·cases ee
 ·rename_i d1 ρ1 h1
  split at ee
  ·rename_i hl
   cases ee
   refine⟨ρ,w,t,_,_,gd,h1,fun vs H1 w1 g1 go1 r1=>?_⟩
   obtain⟨v,rfl,rv⟩:=one r1
   have hz:(y3z d1).length<sizeLine:=by rw[x9q];exact x4a hl
   obtain⟨p1,as,rfl,q1,s1⟩:=rv.seqT
   exact⟨p1,rfl,.inr ⟨⟨_,q1⟩,k _ _ H1 w1 g1 go1 (It.enum (P:=fun H w=>SqT X.K H p1 as/\Reps X.K H w .f 0 d1 as []) s1.length (fun H w p=>p) fun H w H' w' p wl st=>⟨SqT.go wl st p.1,Reps.go wl st p.2 (fun _ z=>nomatch z)⟩) ⟨q1,s1⟩ hz⟩⟩
  ·cases ee
 ·cases ee
end
end L3
namespace L3
open PySem PySem.Spec PyProof.Rows PySem.W L2
theorem j0w {P:Program}{w:World}{H:Hp}{h:Heap}{a:Addr}{o:HO}(x:x32 P w H h a o):∃ ob,h.get? a=some ob:=by
 cases o with
 | lst xs=>obtain⟨_,_,_,_,e⟩:=x;exact⟨_,e⟩
 | tup xs=>obtain⟨_,_,_,o,e,_⟩:=x;exact⟨_,e⟩
 | dK kvs=>obtain⟨_,_,_,_,o,_,_,e,_⟩:=x;exact⟨_,e⟩
 | dT kvs=>obtain⟨_,_,_,_,o,_,_,e,_⟩:=x;exact⟨_,e⟩
 | set S n=>obtain⟨o,_,_,_,e,_⟩:=x;exact⟨_,e⟩
 | ins C dx fs=>obtain⟨_,_,_,e,_⟩:=x;exact⟨_,e⟩
 | own y=>obtain⟨_,e⟩:=x;exact⟨_,e⟩
 | xd fs=>obtain⟨_,⟨_,_,_,e,_⟩,_⟩:=x;exact⟨_,e⟩
 | rng lo hi=>obtain⟨_,_,_,e⟩:=x;exact⟨_,e⟩
 | frz ob u=>obtain⟨e,_⟩:=x;exact⟨_,e⟩
 | tbl ps=>exact⟨_,(show h.get? a=some _ from x)⟩
 | met f y=>exact⟨_,(show h.get? a=some _ from x)⟩
 | ext φ=>obtain⟨_,⟨_,e⟩,_⟩:=x;exact⟨_,e⟩
theorem z03 {P:Program}{w:World}{H:Hp}{h h':Heap}(x:HOk P w H h)(k:∀ b u o,H b=some u->h.get? b=some o->h'.get? b=some o):HOk P w H h':=fun b u e=>
 (x b u e).stay (fun c o hc q=>by
  rcases hc with z|z
  ·rw[z]at q ⊢;exact k b u o e q
  ·exact k c _ o z q) (fun _ q=>q) fun _ _ q=>q
structure Fly (P:Program) (w:World) (outer:List Env) (H:Hp) (s:Shared) (a C t:Addr) (B:Heap) (H':Hp) (s':Shared):Prop where
 os:s'.os=s.os
 bare:AllBare s'.gens
 un:Un (frs outer) [] H H' s.heap s'.heap
 hok:HOk P w H' s'.heap
 fl:Heap.FlyingW B outer a (.ref C) (.ref t) s'.heap
 old:∀ b o,s.heap.get? b=some o->H b=none->b ∉ frs outer->B.get? b=some o
 oldT:∀ b o,s.heap.get? b=some o->b ∉ frs outer->∃ o',B.get? b=some o'
 trk:∀ b u o,H' b=some u->s'.heap.get? b=some o->B.get? b=some o
 free:H' a=none
def CXF (P:Program)(w:World):CXT:=fun outer H s E e s'=>∃ (a C t:Addr) (B:Heap) (H':Hp),e=.ref a/\Fly P w outer H s a C t B H' s'/\E (.ref C) none H'
section
variable {P:Program}{w:World}{K:PySem.W.Frag}{mg:Str->Option Value}{base:Heap}{N:List Str}{qual:Str}{scope:Scope}{f:Addr}{cd:Value}{A:Around}{outer:List Env}{s₀:Shared}{H₀:Hp}{E:XK}{pins:List (Addr×Obj)}{σ:St}{H:Hp}{s:Shared}
abbrev cxF (P:Program)(w:World)(K:PySem.W.Frag)(mg:Str->Option Value)(base:Heap)(N:List Str)(qual:Str)(scope:Scope)(f:Addr)(cd:Value)(A:Around)(outer:List Env)(s₀:Shared)(H₀:Hp)(E:XK):Cx:=z2u (CXF P w) P w K mg base N qual scope f cd A outer s₀ H₀ E
theorem y7o (I:Inv (cxF P w K mg base N qual scope f cd A outer s₀ H₀ E) pins σ H s){b:Addr}(hb:b∈frs outer){o:Obj}(e:s.heap.get? b=some o):∀ vs,o.data ≠ .fields vs:=by
 obtain⟨_,o',ho,hd⟩:=I.funs.mem hb
 rw[e]at ho;cases ho
 exact hd
theorem y97 {h':Heap}{e C:Addr}{vs:List Value}(I:Inv (cxF P w K mg base N qual scope f cd A outer s₀ H₀ E) pins σ H s)(hm:Heap.MadeExcOf s.heap h' e (.ref C) vs)(hE:E (.ref C) none H) :
  (cxF P w K mg base N qual scope f cd A outer s₀ H₀ E).xe (.ref e) { s with heap:=h' }:=by
 have nL:∀ b o,s₀.heap.get? b=some o->b≠s₀.heap.objs.size:=fun b o q=>Nat.ne_of_lt (Heap.lt_size q)
 have hid:∀ b o,s.heap.get? b=some o->b≠s₀.heap.objs.size->b ∉ frs outer->(hideAll s.heap (frs (envOfC qual scope s₀.heap.objs.size f cd::outer))).get? b=some o:=fun b o q n1 n2=>hideAll_get _ q fun hm=>by
  rcases List.mem_cons.mp (show b∈s₀.heap.objs.size::frs outer from hm)with z|z
  ·exact n1 z
  ·exact n2 z
 have hin:∀ env∈(envOfC qual scope s₀.heap.objs.size f cd::outer),∀ b,env.frame=some b->b∈frs (envOfC qual scope s₀.heap.objs.size f cd::outer):=fun env he b hb=>List.mem_filterMap.mpr ⟨env,he,hb⟩
 have nstk:∀ b u,H b=some u->b≠s₀.heap.objs.size/\b ∉ frs outer:=fun b u q=>by
  refine⟨fun z=>?_,fun z=>?_⟩
  ·have:=I.free
   rw[z]at q
   have this':H s₀.heap.objs.size=none:=this
   rw[this']at q;cases q
  ·have:=I.stkFree b (List.mem_cons_of_mem _ z)
   rw[this]at q;cases q
 have base0:Un (frs outer) [] H₀ H s₀.heap s.heap:=I.base
 show wpAny _ _ (leaving (envOfC qual scope s₀.heap.objs.size f cd) (.ref e)) _ _ _
 refine wpAny_leaves_madeW (s:={ s with heap:=h' }) (L:=s₀.heap.objs.size) (outer:=outer) I.ok.frames rfl (fun b o q=>of_hideAll _ q) (funFrames_hide I.stack hin) hm fun h2 t fl _ _ up=>?_
 have old:∀ b o,s₀.heap.get? b=some o->H₀ b=none->b ∉ frs outer->(hideAll s.heap (frs (envOfC qual scope s₀.heap.objs.size f cd::outer))).get? b=some o:=fun b o q n hb=>hid b o (base0.keep b o q n hb (by simp)) (nL b o q) hb
 have slot:∀ b o,s.heap.get? b=some o->b∈frs outer->∃ sl,h2.get? b=some { o with slots:=sl }:=fun b o q hb=>up b o (hm.keeps b o q) (y7o I hb q)
 have trk:∀ b u o,H b=some u->s.heap.get? b=some o->(hideAll s.heap (frs (envOfC qual scope s₀.heap.objs.size f cd::outer))).get? b=some o:=fun b u o q e=>hid b o e (nstk b u q).1 (nstk b u q).2
 refine⟨e,C,t,_,H,rfl,⟨I.os,I.bare,⟨fun b o q n hb _=>fl.1 b o (old b o q n hb),fun b o q n hb _=>?_,fun b o q n _=>base0.free b o q n (by simp),fun b o q _=>?_,base0.tups,base0.frzs,base0.tbls⟩,z03 I.hok fun b u o q e=>fl.1 b o (trk b u o q e),fl,old,fun b o q hb=>?_,fun b u o q e=>?_,?_⟩,hE⟩
 ·obtain⟨sl,q1⟩:=base0.slot b o q n hb (by simp)
  obtain⟨sl',q2⟩:=slot b _ q1 hb
  exact⟨sl',q2⟩
 ·obtain⟨o',q1⟩:=base0.there b o q (by simp)
  by_cases hb:b∈frs outer
  ·obtain⟨sl,q2⟩:=slot b o' q1 hb
   exact⟨_,q2⟩
  ·exact⟨o',fl.1 b o' (hid b o' q1 (nL b o q) hb)⟩
 ·obtain⟨o',q1⟩:=base0.there b o q (by simp)
  exact⟨o',hid b o' q1 (nL b o q) hb⟩
 ·obtain⟨o1,q1⟩:=j0w (I.hok b u q)
  have q2:=trk b u o1 q q1
  have q3:=fl.1 b o1 q2
  have e':h2.get? b=some o:=e
  rw[q3]at e';cases e'
  exact q2
 ·cases q:H e with
  | none=>rfl
  | some u=>
   obtain⟨o1,q1⟩:=j0w (I.hok e u q)
   rw[hm.new]at q1;cases q1
theorem j4k {E':XK}(hE:∀ C H',E' (.ref C) none H'->E (.ref C) none H')(I:Inv (cxF P w K mg base N qual scope f cd A outer s₀ H₀ E) pins σ H s){e:Value}{s':Shared}(h:CXF P w (envOfC qual scope s₀.heap.objs.size f cd::outer) H s E' e s') :
  (cxF P w K mg base N qual scope f cd A outer s₀ H₀ E).xe e s':=by
 obtain⟨a,C,t,B,H',rfl,F,hE'⟩:=h
 have nL:∀ b o,s₀.heap.get? b=some o->b≠s₀.heap.objs.size:=fun b o q=>Nat.ne_of_lt (Heap.lt_size q)
 have base0:Un (frs outer) [] H₀ H s₀.heap s.heap:=I.base
 have nst:∀ b o,s₀.heap.get? b=some o->b ∉ frs outer->b ∉ frs (envOfC qual scope s₀.heap.objs.size f cd::outer):=fun b o q n hm=>by
  rcases List.mem_cons.mp (show b∈s₀.heap.objs.size::frs outer from hm)with z|z
  ·exact nL b o q z
  ·exact n z
 show wpAny _ _ (leaving (envOfC qual scope s₀.heap.objs.size f cd) (.ref a)) _ _ _
 refine wpAny_leaves_onW (L:=s₀.heap.objs.size) (outer:=outer) I.ok.frames rfl F.fl fun h2 fl up=>?_
 have old:∀ b o,s₀.heap.get? b=some o->H₀ b=none->b ∉ frs outer->B.get? b=some o:=fun b o q n hb=>F.old b o (base0.keep b o q n hb (by simp)) (base0.free b o q n (by simp)) (nst b o q hb)
 have slot:∀ b o,s.heap.get? b=some o->H b=none->b∈frs outer->∃ sl,h2.get? b=some { o with slots:=sl }:=fun b o q n hb=>by
  obtain⟨sl,q1⟩:=F.un.slot b o q n (List.mem_cons_of_mem _ hb) (by simp)
  obtain⟨sl',q2⟩:=up b _ q1 (fun vs z=>y7o I hb q vs z)
  exact⟨sl',q2⟩
 have fH:∀ b∈frs outer,H b=none:=fun b hb=>I.stkFree b (List.mem_cons_of_mem _ hb)
 refine⟨a,C,t,B,H',rfl,⟨F.os.trans I.os,F.bare,⟨fun b o q n hb _=>fl.1 b o (old b o q n hb),fun b o q n hb _=>?_,fun b o q n _=>?_,fun b o q _=>?_,fun b xs q=>F.un.tups b xs (base0.tups b xs q),fun b o u q=>F.un.frzs b o u (base0.frzs b o u q),fun b ps q=>?_⟩,z03 F.hok fun b u o q e=>fl.1 b o (F.trk b u o q e),fl,old,fun b o q hb=>?_,fun b u o q e=>?_,F.free⟩,hE C H' hE'⟩
 ·obtain⟨sl,q1⟩:=base0.slot b o q n hb (by simp)
  obtain⟨sl',q2⟩:=slot b _ q1 (fH b hb) hb
  exact⟨sl',q2⟩
 ·obtain⟨o',q1⟩:=base0.there b o q (by simp)
  exact F.un.free b o' q1 (base0.free b o q n (by simp)) (by simp)
 ·obtain⟨o',q1⟩:=base0.there b o q (by simp)
  by_cases hb:b∈frs outer
  ·obtain⟨sl,q2⟩:=slot b o' q1 (fH b hb) hb
   exact⟨_,q2⟩
  ·obtain⟨o2,q2⟩:=F.oldT b o' q1 (nst b o q hb)
   exact⟨o2,fl.1 b o2 q2⟩
 ·obtain⟨m1,e1⟩:=base0.tbls b ps q
  obtain⟨m2,e2⟩:=F.un.tbls b _ e1
  exact⟨m1++m2,by rw[e2,Array.append_assoc]⟩
 ·obtain⟨o',q1⟩:=base0.there b o q (by simp)
  exact F.oldT b o' q1 (nst b o q hb)
 ·obtain⟨o1,q1⟩:=j0w (F.hok b u q)
  have q2:=F.trk b u o1 q q1
  have q3:=fl.1 b o1 q2
  have e':h2.get? b=some o:=e
  rw[q3]at e';cases e'
  exact q2
end
structure XNm (K:Frag) (mg:Str->Option Value) (nm:Str) (C:Addr):Prop extends XKls K nm C where
 mg:mg nm=some (.ref C)
theorem j2z {K:Frag}{h:Heap}{C:Addr}{bmB:List Value}{newId:String}(X:K.In h)(q:excIn K C bmB newId=true) :
  ∃ bm N nm q bs hdct sn sub ab col dd k0 k1 k2 k3 k5 mN,h.get? C=some (excClassObj nm q C N bs bm hdct sn sub ab col dd k0 k1 k2 k3 k5 newId)/\h.Ns N mN/\mN "__init__" = none/\OwnTail h bmB bm:=by
 unfold excIn at q
 split at q
 ·rename_i dd cd sl ho
  split at q
  ·rename_i C' bm k0 k1 k2 k3 n k5 hm hs
   simp only[Bool.and_eq_true,beq_iff_eq,Bool.not_eq_true']at q
   obtain⟨⟨⟨⟨⟨rfl,rfl⟩,hdel⟩,ht⟩,hok⟩,hni⟩:=q
   obtain⟨nm,bs,mro,ns,qn,hd,sn,sub,ab,col,del⟩:=cd
   dsimp only at hm hdel hok hni
   subst hm hdel
   have hsl:sl = #[k0,k1,k2,k3,some (.builtin n),k5]:=by
    obtain⟨l⟩:=sl
    simp only at hs
    rw[hs]
   subst hsl
   exact⟨bm,ns,nm,qn,bs,hd,sn,sub,ab,col,dd,k0,k1,k2,k3,k5,_,X _ _ ho,.of_isNs (isNs_of_in X hok),nsMap_none_of_in X hok hni,tail_of_in X ht⟩
  ·cases q
 ·cases q
section
variable {P:Program}{w:World}{K:PySem.W.Frag}{mg:Str->Option Value}{base:Heap}{N:List Str}{qual:Str}{scope:Scope}{f:Addr}{cd:Value}{A:Around}{outer:List Env}{s₀:Shared}{H₀:Hp}{E:XK}{pins:List (Addr×Obj)}{σ:St}{H:Hp}{s:Shared}
theorem z8y {nm txt:Str}{C:Addr}{j:Nat}{np cpos tpos pos:Pos}(hA:A.handled=none)(hC:XNm K mg nm C)(hg:Gl (cxF P w K mg base N qual scope f cd A outer s₀ H₀ E) nm)(hdb:(nm==("__debug__":Str))=false:=by decide) :
  PS (cxF P w K mg base N qual scope f cd A outer s₀ H₀ E) (.Raise (some (.Call (.Name nm np) [.Constant (.str txt) j tpos] [] cpos)) none pos) (fun _ _ H=>E (.ref C) none H):=by
 intro pins s σ H D I h
 obtain⟨tl,Nn,nm',q,bs,hdct,sn,sub,ab,col,dd,k0,k1,k2,k3,k5,mN,hC',hN,hni,T⟩:=j2z I.mod.kin hC.ex
 refine wpAny_Raise_call_subT (C:=C) (nm:=nm') (q:=q) (N:=Nn) (bs:=bs) (bm:=tl) (hdct:=hdct) (sn:=sn) (sub:=sub) (ab:=ab) (col:=col) (dd:=dd) (k0:=k0) (k1:=k1) (k2:=k2) (k3:=k3) (k5:=k5)
  PySem.F.excBase_ValueError (mN:=mN) (T.hasType PySem.F.excBase_ValueError.hasBase) hA rfl hni (y36 I hg hC.mg ⟨rfl,?_⟩ hdb)
 refine Calls.evalArgs_plain (Calls.spliced_cons (thn (z0b (j:=j) (pos:=tpos) pins s σ H (fun v H1=>v=.str txt/\H1=H) I ⟨rfl,rfl⟩) fun u s1 hh0=>?_))
 obtain⟨v,H1,I1,r1,e1,e2⟩:=hh0
 subst e1 e2
 refine Calls.spliced_nil ⟨rfl,by show 1<=sizeLine;decide,I1.bk _ _ hC',hN.keeps I1.bk,T.keeps I1.bk,fun h' e hm=>y97 I1 hm h⟩
end
abbrev y1q:=Rho->Option Str
def tX (K:PySem.W.Frag)(x:y1q)(E:XK):TS:=fun _ σ H=>∃ ρ w nm,Good K ρ σ H w 0/\x ρ=some nm/\∀ C H' w',nsIn K mainGlobals nm=some (some (.ref C))->WL K w' H'->Go H w H' w'->E (.ref C) none H'
def spX (K:PySem.W.Frag)(n:Nat)(F:List D->Option Str):Sp:=fun vs H _ E=>vs.length=n/\∃ ds w nm,(∀ a o,w a=some o->o=.f)/\WL K w H/\Reps K H w .f 0 ds vs []/\F ds=some nm /\
 ∀ C H' w',nsIn K mainGlobals nm=some (some (.ref C))->WL K w' H'->Go H w H' w'->E (.ref C) none H'
def fnX (n:Nat)(x:y1q):List D->Option Str:=fun ds=>x (x4x n ds)
def y6n (P:Program)(w:World)(K:PySem.W.Frag)(mg:Str->Option Value)(base:Heap)(k:Nat)(x:Str)(n:Nat)(F:List D->Option Str):Prop:=
 ∃ f fd ps,FnOk P w K mg base (CXF P w) k f fd ps (spX K n F)/\mg x=some (.ref f)/\PySem.W.keepIn K (.ref f)=true/\y6c K fd ps []
theorem y6n.mk {P:Program}{w:World}{K:PySem.W.Frag}{mg:Str->Option Value}{base:Heap}{k:Nat}{x:Str}{st:Stmt}{N ps:List Str}{xb:y1q}(a:At K mg x st ps)(S:FnScope N ps (x0b st))
  (h:∀ (f:Addr) (cdv:Value) (A:Around) (outer:List Env) (s:Shared) (H:Hp) (E:XK),Room k (A.deeper (envOfC x (x0b st) s.heap.objs.size f cdv))->PSs (cxF P w K mg base N x (x0b st) f cdv A outer s H E) (x3o st) (tX K xb E)) :
  y6n P w K mg base (k+1) x ps.length (fnX N.length xb):=by
 obtain⟨f,fd,F,m,b⟩:=a
 refine⟨f,fd,ps,?_,m,F.kp,b⟩
 obtain⟨oc,od,kV,doc,pm,an,cdv,ct,osl,rfl,lk,hcd⟩:=F.ex
 refine j6a lk hcd S (fun vs H Q E h=>h.1) fun A outer s H vs Q E hr hsp=>⟨_,h f cdv A outer s H E hr,?_⟩
 obtain⟨hn,ds,w,nm,hw,wl,rs,e,k⟩:=hsp
 exact⟨_,w,nm,y12 hw wl rs,e,k⟩
def y7j (F:List D->Option Str)(n:Nat)(g:x1v):y1q:=fun ρ=>match g ρ with
 | some (ds,_)=>if ds.length=n then F ds else none
 | none=>none
theorem z77 {M:Model}{A:Around}{E:Value->Shared->Prop}{K:Frag}{s:Shared}{x C R:Addr}{ox:Obj}{Q:Bool->Shared->Prop}(X:K.In s.heap)(I:XAt s.heap x ox C)(hR:XCls K R)(hty:typeIn K (.ref R)=some (.type "type"))
  (hsub:subIn K (.ref C) (.ref R)=some true) (h:Q true s):wpAny M A (excMatches (.ref x) (.ref R)) Q E s:=by
 obtain⟨h0,g,d,tt,os⟩:=s
 have L0:=I.type (M:=M)
 have L1:=looks_typeIn (M:=M) X hty
 have L2:=x7p (M:=M) X hR.ci
 have L3:=looks_mroIn (M:=M) X hR.mb
 have L4:=looks_subIn (M:=M) X hsub
 have f:=tc_notTuple
 have L5:Looks M h0 (isSubtype (.type "type") (.type "tuple")) false:=Looks.of_pure f
 unfold excMatches isInstance isExcClass
 repeat (first|lk|wp_step)
 exact h
section
variable {X:Cx}{pins:List (Addr×Obj)}{σ:St}{H H':Hp}{s s':Shared}{a C t:Addr}{B:Heap}
theorem z49 {M:Model}{A:Around}{E:Value->Shared->Prop}{i:Nat}{x:Str}{pos:Pos}{Q:Unit->Shared->Prop}(I:Inv X pins σ H s)(hN:X.N.Nodup)(hi:X.N[i]? = some x)(hx:X.env.scope.names.lookup x=some .local)
  (h:∀ s',Inv X pins (σ.set i none) H s'->Q () s'):wpAny M A (do bindName X.env x .none;unbindBehindTheSuite X.env x pos) Q E s:=by
 obtain⟨m,hn,hl⟩:=id I.loc
 have hcls:(X.env.scope.kind == .class||(X.env.scope.kind == .module&&X.env.locals != X.env.globals))=false:=by rw[I.ok.kind];rfl
 have hiσ:i<σ.length:=by rw[I.len];exact(List.getElem?_eq_some_iff.mp hi).1
 have cne:=I.cne
 refine wpAny_nameGoes_keeps hx hn hcls fun h' v hn' hs=>?_
 obtain⟨oL,_,_,hoL,_⟩:=id hn
 have tracked:HOk X.prog X.w H h':=fun b ob e=>by
  refine(I.hok b ob e).stay (fun c w' hc q=>(hs.2 c ?_).trans q) (fun _ q=>q) fun _ _ q=>q
  rintro rfl
  rcases hc with rfl|hc
  ·rw[I.free]at e;cases e
  ·rw[I.free]at hc;cases hc
 refine h _ ⟨I.ok,I.os,I.bare,⟨fun b o e n hb hx=>?_,fun b o e n hb hx=>?_,I.base.free,fun b o e hx=>?_,I.base.tups,I.base.frzs,I.base.tbls⟩,⟨_,hn',fun j y v' e1 e2 e3=>?_⟩,fun y c e=>?_,I.free,I.freeC,fun p hp=>?_,tracked,by simpa using I.len⟩
 ·exact(hs.2 b (Nat.ne_of_lt (Nat.lt_of_lt_of_le (Heap.lt_size e) I.ok.above))).trans (I.base.keep b o e n hb hx)
 ·obtain⟨sl,e1⟩:=I.base.slot b o e n hb hx
  exact⟨sl,(hs.2 b (Nat.ne_of_lt (Nat.lt_of_lt_of_le (Heap.lt_size e) I.ok.above))).trans e1⟩
 ·obtain⟨o',e1⟩:=I.base.there b o e hx
  exact⟨o',(hs.2 b (Nat.ne_of_lt (Nat.lt_of_lt_of_le (Heap.lt_size e) I.ok.above))).trans e1⟩
 ·by_cases hj:j=i
  ·subst hj
   rw[List.getElem?_set_self hiσ]at e2
   cases e2
  ·rw[List.getElem?_set_ne (Ne.symm hj)]at e2
   obtain⟨u',r',q⟩:=hl j y v' e1 e2 e3
   refine⟨u',r',?_⟩
   rcases q with⟨k,e⟩|⟨k,c,e,z⟩
   ·refine .inl ⟨k,?_⟩
    have:y≠x:=fun e=>hj (y6j hN e1 (e ▸ hi))
    simp[this,e]
   ·exact .inr ⟨k,c,e,z.sameBut hs (cne y c e)⟩
 ·obtain⟨w',z⟩:=I.cell y c e
  exact⟨w',z.sameBut hs (cne y c e)⟩
 ·obtain⟨e,n,ne,nf,d⟩:=I.pin p hp
  exact⟨(hs.2 p.1 ne).trans e,n,ne,nf,d⟩
def j3n (a:Addr)(oe:Obj):HO:=.frz oe (.ext fun h=>h.get? a=some oe)
theorem Fly.un2 (I:Inv X pins σ H s)(F:Fly X.prog X.w X.stack H s a C t B H' s'){h':Heap}(fl:Heap.FlyingW B X.stack a (.ref C) (.ref t) h')(up:s'.heap.UpToSlots h'):Un (frs X.stack) [] H H' s.heap h'/\HOk X.prog X.w H' h':=by
 have slot:∀ b o,s.heap.get? b=some o->H b=none->b∈frs X.stack->∃ sl,h'.get? b=some { o with slots:=sl }:=fun b o q n hb=>by
  obtain⟨sl,q1⟩:=F.un.slot b o q n hb (by simp)
  obtain⟨_,o',ho,hd⟩:=I.stack.mem hb
  rw[q]at ho;cases ho
  obtain⟨sl',q2⟩:=up b _ q1 hd
  exact⟨sl',q2⟩
 refine⟨⟨fun b o q n hb _=>fl.1 b o (F.old b o q n hb),fun b o q n hb _=>slot b o q n hb,F.un.free,fun b o q _=>?_,F.un.tups,F.un.frzs,F.un.tbls⟩,z03 F.hok fun b u o q e=>fl.1 b o (F.trk b u o q e)⟩
 by_cases hb:b∈frs X.stack
 ·obtain⟨sl,q2⟩:=slot b o q (I.stkFree b hb) hb
  exact⟨_,q2⟩
 ·obtain⟨o2,q2⟩:=F.oldT b o q hb
  exact⟨o2,fl.1 b o2 q2⟩
theorem Fly.inv (I:Inv X pins σ H s)(F:Fly X.prog X.w X.stack H s a C t B H' s'){h':Heap}(fl:Heap.FlyingW B X.stack a (.ref C) (.ref t) h')(up:s'.heap.UpToSlots h'):Inv X pins σ H' { s' with heap:=h' }:=
 I.call' (s':={ s' with heap:=h' }) F.os (F.un2 I fl up).1 (F.un2 I fl up).2 F.bare (fun b hb=>nomatch hb)
theorem Fly.inv2 (I:Inv X pins σ H s)(F:Fly X.prog X.w X.stack H s a C t B H' s'){h':Heap}(fl:Heap.FlyingW B X.stack a (.ref C) (.ref t) h')(up:s'.heap.UpToSlots h'){oe:Obj}{vs:Array Value}(ho:h'.get? a=some oe)(hd:oe.data=.fields vs) :
  Inv X pins σ (upd H' a (j3n a oe)) { s' with heap:=h' }:=by
 obtain⟨u,hk⟩:=F.un2 I fl up
 have na:∀ b x,H' b=some x->upd H' a (j3n a oe) b=some x:=fun b x q=>by
  unfold upd
  rw[if_neg (fun z=>by rw[z,F.free]at q;cases q)]
  exact q
 have nfr:a ∉ frs X.stack:=fun hb=>by
  obtain⟨_,o',ho',hd'⟩:=fl.2.2.1.mem hb
  rw[ho]at ho';cases ho'
  exact hd' vs hd
 refine I.call' (s':={ s' with heap:=h' }) F.os ⟨u.keep,u.slot,fun b o q n e=>?_,u.there,fun b xs q=>na b _ (u.tups b xs q),fun b o' u' q=>na b _ (u.frzs b o' u' q),fun b ps q=>?_⟩ (fun b x q=>?_) F.bare (fun b hb=>nomatch hb)
 ·unfold upd
  rw[if_neg (fun z=>?_)]
  ·exact u.free b o q n e
  ·subst z
   obtain⟨o2,q2⟩:=F.oldT b o q nfr
   rw[fl.2.1]at q2;cases q2
 ·obtain⟨m,q1⟩:=u.tbls b ps q
  exact⟨m,na b _ q1⟩
 ·by_cases hb:b=a
  ·subst hb
   unfold upd at q
   rw[if_pos rfl]at q
   cases q
   exact⟨ho,ho,⟨_,ho⟩,fun h1 h2 q1 q2=>q2 _ q1⟩
  ·have q':=q
   unfold upd at q
   rw[if_neg hb]at q
   exact(hk b x q).stay (fun _ _ _ z=>z) (fun c z=>na c _ z) (fun c xs z=>na c _ z)
abbrev Cx.mark (X:Cx)(e:Value):Cx:={ X with A:=X.A.mark (some e),calm:=false,xe:=fun _ _=>False }
theorem Inv.mark (I:Inv X pins σ H s)(e:Value):Inv (Cx.mark X e) pins σ H s:=
 ⟨⟨I.ok.mod,I.ok.kind,I.ok.glob,I.ok.blt,I.ok.above,I.ok.inj,I.ok.has,I.ok.cab,(fun z=>by cases z),I.ok.frames,I.ok.stk,I.ok.exf,I.ok.bs,I.ok.bsz,I.ok.noex,I.ok.exfs,I.ok.funs,I.ok.frf⟩,I.os,I.bare,I.base,I.loc,I.cell,I.free,I.freeC,I.pin,I.hok,I.len⟩
theorem Inv.unmark {e:Value}(hX:X.Ok)(I:Inv (Cx.mark X e) pins σ H s):Inv X pins σ H s:=⟨hX,I.os,I.bare,I.base,I.loc,I.cell,I.free,I.freeC,I.pin,I.hok,I.len⟩
theorem z7c {R n kx:Str}{RA:Addr}{np kp vp apos pos:Pos}{ie ik:Nat}{Q:Flow->Shared->Prop}{E:Value->Shared->Prop}(I:Inv X pins σ H s)(F:Fly X.prog X.w X.stack H s a C t B H' s')(hst:X.stack=X.env::X.outer)(hfm:X.env.frame=some X.env.locals)
  (hN:X.N.Nodup) (hie:X.N[ie]? = some n) (hik:X.N[ik]? = some kx) (hne:X.env.scope.names.lookup n=some .local) (hnk:X.env.scope.names.lookup kx=some .local) (hR:XCls X.K RA) (hRt:typeIn X.K (.ref RA)=some (.type "type")) (hsub:subIn X.K (.ref C) (.ref RA)=some true) (hmg:X.mg R=some (.ref RA)) (hg:Gl X R)
  (hdb:(R==("__debug__":Str))=false) (hdn:(n==("__debug__":Str))=false) (hcn:(n==("__classdict__":Str))=false) (hsw:swapsWith (.Name n vp) (some (.Name kx kp)) apos.line X.env=pure false)
  (hQ:∀ s5 oe,oe.cls=.ref C->Inv X pins (((σ.set ie (some (.ref a))).set ik (some (.ref a))).set ie none) (upd H' a (j3n a oe)) s5->Q .next s5) :
  wpAny (model X.prog X.w) X.A (noteFrame (.ref a) X.env) (fun _ s₂=>wpAny (model X.prog X.w) X.A (setFlight (.ref a) none) (fun _ s₃=>
   wpAny (model X.prog X.w) X.A (handleBy (.ref a) X.env [.ExceptHandler (some (.Name R np)) (some n) [.Assign [.Name kx kp] (.Name n vp) apos] pos]) Q E s₃) E s₂) E s':=by
 have hiσ:ie<σ.length:=by rw[I.len];exact(List.getElem?_eq_some_iff.mp hie).1
 have fl0:=F.fl
 have hst':=hst
 rw[hst]at fl0
 refine wpAny_looks_onW (L:=X.env.locals) (outer:=X.outer) (by rw[<- hst];exact I.ok.frames) hfm fl0 fun h₄ hheld₄ up₄=>?_
 refine wpAny_landsW hheld₄ fun h₅ fl₅ up₅=>?_
 have fl₅':=fl₅
 rw[<- hst]at fl₅'
 have I5:=F.inv I fl₅' (up₄.trans up₅)
 obtain⟨ob,hob,hobc⟩:=fl₅'.there
 have J5:=Inv.mark I5 (.ref a)
 refine wpAny_handleBy_cons (codeAny_handlers_test (y36 (X:=Cx.mark X (.ref a)) J5 hg hmg ?_ hdb)) (by intro q;cases q)
 refine z77 J5.kIn ⟨hob,hobc⟩ hR hRt hsub ?_
 refine codeAny_handlers_suite_as ?_
 refine lands_againW fl₅ fun h₆ fl₆ up₆=>?_
 have fl₆':=fl₆
 rw[<- hst]at fl₆'
 obtain⟨oe,ws,hoe,hoec,hoed,hoe0⟩:=fl₆'.first
 have I6:=F.inv2 I fl₆' ((up₄.trans up₅).trans up₆) hoe hoed
 refine y5h (v:=.ref a) I6 hN hie (.inl hne) rfl (fun s7 I7=>?_) (.inr hne)
 have J7:=Inv.mark I7 (.ref a)
 have body:=z4k (z9z (X:=Cx.mark X (.ref a)) (i:=ik) (x:=kx) (pos:=apos) (pos':=kp) hN hik (.inl hnk) (pv (X:=Cx.mark X (.ref a)) ie (x:=n) (pos:=vp) hie (.inl hne) hdn hcn) hsw (.inr hnk))
 refine wpAny_mono (body pins s7 _ _ { nx:=fun σ' H1=>σ'=(σ.set ie (some (.ref a))).set ik (some (.ref a))/\H1=upd H' a (j3n a oe),rt:=fun _ _=>False } J7 ⟨.ref a,List.getElem?_set_self hiσ,rfl,rfl⟩) (fun fl s8 q=>?_) (fun _ _ z=>False.elim z)
 cases fl with
 | next=>
  obtain⟨σ8,H8,J8,rfl,rfl⟩:=q
  exact z49 (Inv.unmark I.ok J8) hN hie hne fun s9 I9=>hQ s9 oe hoec I9
 | brk=>obtain⟨_,_,_,z⟩:=q;exact z.elim
 | cont=>obtain⟨_,_,_,z⟩:=q;exact z.elim
 | ret u=>obtain⟨_,_,_,_,_,z⟩:=q;exact z.elim
end
theorem Good.unset {K:PySem.W.Frag}{ρ:Rho}{σ:St}{H:Hp}{w:Wn}{t i:Nat}{v:Option V}(g:Good K ρ σ H w t)(hi:i<σ.length) :
  Good K (ρ.set i none) (σ.set i v) H (x6l i w) t/\Go H w H (x6l i w):=by
 have st:x8d H w H (x6l i w):=fun a x h n=>⟨sm h,x60 n⟩
 refine⟨⟨⟨fun a o h=>g.wl a o (x3l h).1,g.wl.tb⟩,fun a j h=>by rw[List.length_set];exact g.ws a j (x3l h).1,fun a j h=>g.wt a j (x3l h).1,by rw[List.length_set,List.length_set];exact g.len,fun j d' q' e'=>?_⟩,⟨st,fun a o h n=>⟨rfl,x85 h (n i)⟩⟩⟩
 by_cases hj:i=j
 ·subst hj
  rw[List.getElem?_set_self (by rw[g.len];exact hi)]at e'
  cases e'
 ·rw[List.getElem?_set_ne hj]at e'
  obtain⟨v',F,h1,h2⟩:=g.slot j d' q' e'
  exact⟨v',F,by rw[List.getElem?_set_ne hj];exact h1,Rep.go g.wl st h2 fun a m=>⟨rfl,x85 (h2.owns a m) (fun z=>hj (by cases z;rfl))⟩⟩
theorem Good.grow {K:PySem.W.Frag}{ρ:Rho}{σ:St}{H H':Hp}{w:Wn}{t:Nat}(g:Good K ρ σ H w t)(h:∀ b o,H b=some o->Sm o (H' b))(tb:TB K H'):Good K ρ σ H' w t/\Go H w H' w:=by
 have st:x8d H w H' w:=fun a x e n=>⟨h a x e,n⟩
 have kp:∀ a o,w a=some o->H' a=H a:=fun a o e=>by
  obtain⟨vs,q⟩:=g.wl a o e
  rw[q,(h a _ q).eq rfl]
 refine⟨⟨⟨fun a o e=>?_,tb⟩,g.ws,g.wt,g.len,fun i d q e=>?_⟩,st,fun a o e _=>⟨kp a o e,e⟩⟩
 ·obtain⟨vs,q⟩:=g.wl a o e
  exact⟨vs,(h a _ q).eq rfl⟩
 ·obtain⟨v,F,h1,h2⟩:=g.slot i d q e
  exact⟨v,F,h1,Rep.go g.wl st h2 fun a m=>⟨kp a _ (h2.owns a m),h2.owns a m⟩⟩
def y3u (K:Frag)(mg:Str->Option Value)(R:Str)(L:List Str):Prop:=∃ RA,XCls K RA/\typeIn K (.ref RA)=some (.type "type")/\mg R=some (.ref RA) /\
 ∀ nm∈L,∀ C,nsIn K mainGlobals nm=some (some (.ref C))->XKls K nm C/\subIn K (.ref C) (.ref RA)=some true
end L3
namespace L3
open PySem PySem.Spec PyProof.Rows PySem.W L2 PySem.SeqAt
def IsC (K:Frag)(mg:Str->Option Value)(L:List Str)(nm:Str):Prop:=∃ C,mg nm=some (.ref C)/\∀ n∈L,∀ B,nsIn K mainGlobals n=some (some (.ref B))->(n=nm->isIn K (.ref B) C=true)/\(n≠nm->kin_not K B C=true)
section
variable {X:Cx}{a b c e:Expr}{es:List Expr}{fa fb fc f:Den}{ga gb:x23}{g:x1v}{pos p p1 p2 pT cpos apos:Pos}
theorem z7f {C:Addr}{L:List Str}{nm:Str}(h:∀ n∈L,∀ B,nsIn X.K mainGlobals n=some (some (.ref B))->(n=nm->isIn X.K (.ref B) C=true)/\(n≠nm->kin_not X.K B C=true)) :
  y0c X (.builtin "isinstance") (fun xs H Q=>∃ x w o q F n,xs=[x,.ref C]/\n∈L/\Rep X.K H w o q (.exc n) x F/\Q (.bl (n==nm)) H):=by
 intro pins s σ H xs us Q I r hh
 obtain⟨x,w,o,q,F,n,rfl,hn,rd,hq⟩:=hh
 obtain⟨u,v,rfl,ru,rv⟩:=z7s r
 cases rv
 cases rd with
 | exc ha xo _=>
  obtain⟨B,hc,k⟩:=xo
  cases ru
  obtain⟨e1,_⟩:=(show x32 X.prog X.w H s.heap _ (.frz _ _)from I.hok _ _ ha)
  obtain⟨h1,h2⟩:=h n hn B k.ns
  by_cases z:n=nm
  ·rw[beq_iff_eq.mpr z]at hq
   exact j53 I.kIn ⟨e1,hc⟩ (h1 z) ⟨.bl true,H,I,rfl,hq⟩
  ·rw[beq_eq_false_iff_ne.mpr z]at hq
   exact j89 I.kIn ⟨e1,hc⟩ k.xc (h2 z) ⟨.bl false,H,I.tok _,rfl,hq⟩
def z7l (L:List Str)(nm:Str)(fa:Den):Den:=fun ρ=>match fa ρ with
 | some (.exc n,_,ρ1)=>if n∈L then some (.bl (n==nm),9,ρ1)else none
 | _=>none
theorem j49 {L:List Str}{nm:Str}(hC:IsC X.K X.mg L nm)(hm:X.mg "isinstance" = none)(ha:PD X a fa)(hg:Gl X "isinstance":=by rfl)(hgT:Gl X nm:=by rfl)(hdT:(nm==("__debug__":Str))=false:=by decide)
  (hs:starEach [a,.Name nm pT] X.env=(false,eval a X.env)::starEach [.Name nm pT] X.env:=by rfl) (hpl:(backTo pos (starEach [.Name nm pT] X.env)).any (·.1)=false:=by rfl):PD X (.Call (.Name "isinstance" p) [a,.Name nm pT] [] pos) (z7l L nm fa):=by
 obtain⟨C,hmC,hall⟩:=hC
 refine PE.imp (x51 (z7f hall) hg hm PyProof.Rows.boot_isinstance (x3v ha (x3v (z3w (v:=.ref C) hgT hmC rfl hdT) x71 x03) hs) (by decide) (by decide) hs hpl) fun σ H Q hh0=>?_
 obtain⟨ρ,w,t,r',q,ρ',gd,ee,k⟩:=hh0
 unfold z7l at ee
 split at ee
 ·rename_i n q1 ρ1 h1
  split at ee
  ·rename_i hL
   cases ee
   refine⟨ρ,w,t,_,_,_,gd,h1,fun v H1 w1 F1 g1 go1 r1=>?_⟩
   exact⟨v,w1,_,_,F1,n,rfl,hL,r1,k _ H1 (x2b t w1) [] g1.drop.up (go1.drop gd.wt) (.bl _)⟩
  ·cases ee
 ·cases ee
theorem z7v:y0c X (.builtin "isinstance") (fun xs H Q=>∃ x w o q F n,xs=[x,.ty "ValueError"]/\Rep X.K H w o q (.exc n) x F/\Q (.bl true) H):=by
 intro pins s σ H xs us Q I r hh
 obtain⟨x,w,o,q,F,n,rfl,rd,hq⟩:=hh
 obtain⟨u,v,rfl,ru,rv⟩:=z7s r
 cases rv
 cases rd with
 | exc ha xo _=>
  obtain⟨B,hc,k⟩:=xo
  cases ru
  obtain⟨e1,_⟩:=(show x32 X.prog X.w H s.heap _ (.frz _ _)from I.hok _ _ ha)
  exact j0n I.kIn ⟨e1,hc⟩ (by kernel_rfl) k.ve ⟨.bl true,H,I,rfl,hq⟩
def j7j (fa:Den):Den:=fun ρ=>match fa ρ with
 | some (.exc n,_,ρ1)=>some (.bl true,9,ρ1)
 | _=>none
theorem j5r (hm:X.mg "isinstance" = none)(hmT:X.mg "ValueError" = none)(ha:PD X a fa)(hg:Gl X "isinstance":=by rfl)(hgT:Gl X "ValueError":=by rfl)
  (hs:starEach [a,.Name "ValueError" pT] X.env=(false,eval a X.env)::starEach [.Name "ValueError" pT] X.env:=by rfl) (hpl:(backTo pos (starEach [.Name "ValueError" pT] X.env)).any (·.1)=false:=by rfl):PD X (.Call (.Name "isinstance" p) [a,.Name "ValueError" pT] [] pos) (j7j fa):=by
 refine PE.imp (x51 z7v hg hm PyProof.Rows.boot_isinstance (x3v ha (x3v (z4r (v:=.ty "ValueError") hgT hmT (by kernel_rfl) rfl (by decide) (by decide)) x71 x03) hs) (by decide) (by decide) hs hpl) fun σ H Q hh0=>?_
 obtain⟨ρ,w,t,r',q,ρ',gd,ee,k⟩:=hh0
 unfold j7j at ee
 split at ee
 ·rename_i n q1 ρ1 h1
  cases ee
  refine⟨ρ,w,t,_,_,_,gd,h1,fun v H1 w1 F1 g1 go1 r1=>?_⟩
  exact⟨v,w1,_,_,F1,n,rfl,r1,k _ H1 (x2b t w1) [] g1.drop.up (go1.drop gd.wt) (.bl _)⟩
 ·cases ee
def j4i:D->D->Option D
 | .non,.non=>some (.bl true)
 | .exc _,.non=>some (.bl false)
 | .int _,.non=>some (.bl false)
 | .tup _,.non=>some (.bl false)
 | .str _,.non=>some (.bl false)
 | _,_=>none
def j9b:R2:=fun x y H Q=>y=.non/\((x=.non/\Q (.bl true) H)\/((∃ i,x=.int i)\/(∃ i,x=.str i)\/(∃ i,x=.ref i))/\Q (.bl false) H)
theorem z9n:OpR X (compareOp .Is) j9b:=by
 intro pins s σ H x y v u Q I rx ry h
 obtain⟨rfl,h⟩:=h
 cases ry
 rcases h with⟨rfl,q⟩|⟨⟨i,rfl⟩|⟨i,rfl⟩|⟨i,rfl⟩,q⟩
 ·cases rx
  exact wpAny_pure ⟨.bl true,H,I,rfl,q⟩
 ·obtain⟨t,rfl⟩:=rx
  exact wpAny_pure ⟨.bl false,H,I,rfl,q⟩
 ·obtain⟨t,rfl⟩:=rx
  exact wpAny_pure ⟨.bl false,H,I,rfl,q⟩
 ·cases rx
  exact wpAny_pure ⟨.bl false,H,I,rfl,q⟩
theorem k0e {K:PySem.W.Frag}:∀ σ H Q,tD K (e2 j4i fa fb) σ H Q->tOp j9b (tD K fa) (tD K fb) σ H Q:=y2y fun x y d h=>by
 unfold j4i at h
 split at h
 ·cases h
  exact⟨_,rfl,fun H w o o' q q' u u' F F' r1 r2 _ Q hq=>by cases r1;cases r2;exact⟨rfl,.inl ⟨rfl,hq⟩⟩⟩
 ·cases h
  exact⟨_,rfl,fun H w o o' q q' u u' F F' r1 r2 _ Q hq=>by cases r1;cases r2;exact⟨rfl,.inr ⟨.inr (.inr ⟨_,rfl⟩),hq⟩⟩⟩
 ·cases h
  exact⟨_,rfl,fun H w o o' q q' u u' F F' r1 r2 _ Q hq=>by cases r1;cases r2;exact⟨rfl,.inr ⟨.inl ⟨_,rfl⟩,hq⟩⟩⟩
 ·cases h
  exact⟨_,rfl,fun H w o o' q q' u u' F F' r1 r2 _ Q hq=>by cases r1;cases r2;exact⟨rfl,.inr ⟨.inr (.inr ⟨_,rfl⟩),hq⟩⟩⟩
 ·cases h
  exact⟨_,rfl,fun H w o o' q q' u u' F F' r1 r2 _ Q hq=>by cases r1;cases r2;exact⟨rfl,.inr ⟨.inr (.inl ⟨_,rfl⟩),hq⟩⟩⟩
 ·cases h
theorem j2s (ha:PD X a fa)(hb:PD X b fb):PDT X (.Compare a [.Is] [b] pos) (x3c (e2 j4i fa fb)):=x92 z9n k0e ha hb (y2m _)
def z43 (d:D)(ds:List D):Nat:=(x86 ds).countP fun y=>PyData.eqv y (toP d)
def j8j (K:PySem.W.Frag):V->List V->Hp->VK->Prop:=fun x xs H Q=>∃ ds d y,xs=[y]/\Is K H (.lst ds) x/\Is K H d y/\okD (.lst ds)=true/\okD d=true/\Q (.int (Int.ofNat (z43 d ds))) H
theorem j1y (hu:X.A.units+65<cLine):MtR X "list.count" (j8j X.K):=by
 intro pins s σ H x xs v us Q I rx rs ⟨ds,d,y,e,⟨w,o,q,F,h1⟩,⟨w',o',q',F',h2⟩,k1,k2,hq⟩
 subst e
 obtain⟨u,rfl,ru⟩:=y3k rs
 obtain⟨as,ra⟩:=h1.reads I rx (y1s k1)
 obtain⟨bs,rb⟩:=h2.reads I ru (y1s k2)
 replace k1:=y1u k1
 replace k2:=y1u k2
 unfold toP at ra k1
 have hc1:PyData.canLayAll0 (x86 ds)=true:=SeqAt.canLay_of_shaped k1
 have hc2:=SeqAt.canLay_of_shaped k2
 cases ra with
 | @list a ob vs n _ _ ho hcl hd hrs=>
  obtain⟨cls,dd,data,sl⟩:=ob
  simp only at hcl hd
  subst hcl hd
  have hmap:=SeqAt.readsAll_map _ _ _ hc1 hrs
  have hcnt:vs.toList.countP (fun y=>PyData.eqv (SeqAt.readOf s.heap y) (toP d))=z43 d ds:=by
   unfold z43
   rw[<- hmap,List.countP_map]
   rfl
  refine call_meets PySem.F.slot_list_count ⟨_,ho,rfl⟩ PySem.F.entry_list_count (PySem.F.args_list_count_2 _ _)
   (list_countAt a vs n dd sl u (fun y=>PyData.eqv (SeqAt.readOf s.heap y) (toP d))) ⟨ho,SeqAt.items_eqAt hrs rb hc1 hc2 (room_in_shaped k2 hu),?_⟩
  rw[hcnt]
  exact⟨.int (Int.ofNat (z43 d ds)),H,I.tok _,⟨_,rfl⟩,hq⟩
def j7o (fo:Den)(g:x1v):Den:=fun ρ=>match fo ρ with
 | some (.lst ds,_,ρ1)=>match g ρ1 with
  | some ([d],ρ2)=>if okD (.lst ds)=true/\okD d=true then some (.int (Int.ofNat (z43 d ds)),9,ρ2)else none
  | _=>none
 | _=>none
def j0u (K:PySem.W.Frag):V->List V->Hp->VK->Prop:=fun x xs H Q=>∃ ds d y j,xs=[y]/\Is K H (.lst ds) x/\Is K H d y/\okD (.lst ds)=true/\okD d=true/\j3m d ds=some j/\(j:Int)<1000/\Q (.int (Int.ofNat j)) H
theorem z4s (hu:X.A.units+65<cLine):MtR X "list.index" (j0u X.K):=by
 intro pins s σ H x xs v us Q I rx rs ⟨ds,d,y,j,e,⟨w,o,q,F,h1⟩,⟨w',o',q',F',h2⟩,k1,k2,hj,hsm,hq⟩
 subst e
 obtain⟨u,rfl,ru⟩:=y3k rs
 obtain⟨as,ra⟩:=h1.reads I rx (y1s k1)
 obtain⟨bs,rb⟩:=h2.reads I ru (y1s k2)
 replace k1:=y1u k1
 replace k2:=y1u k2
 unfold toP at ra k1
 have hc1:PyData.canLayAll0 (x86 ds)=true:=SeqAt.canLay_of_shaped k1
 have hc2:=SeqAt.canLay_of_shaped k2
 cases ra with
 | @list a ob vs n _ _ ho hcl hd hrs=>
  obtain⟨cls,dd,data,sl⟩:=ob
  simp only at hcl hd
  subst hcl hd
  have hmap:=SeqAt.readsAll_map _ _ _ hc1 hrs
  have hfi:=List.findIdx?_eq_some_iff_getElem.mp hj
  obtain⟨hjl,hjt,hjf⟩:=hfi
  have hlen:vs.size=(x86 ds).length:=by rw[<- hmap];simp
  have hat:∀ m (hm:m<vs.size) (hm':m<(x86 ds).length),SeqAt.readOf s.heap vs[m]=(x86 ds)[m]:=fun m hm hm'=>by
   have:(vs.toList.map (SeqAt.readOf s.heap))[m]? = (x86 ds)[m]?:=by rw[hmap]
   simpa [hm,hm']using this
  refine call_meets PySem.F.slot_list_index ⟨_,ho,rfl⟩ PySem.F.entry_list_index (PySem.F.args_list_index_2 _ _)
   (list_indexAt a vs n dd sl u (fun y=>PyData.eqv (SeqAt.readOf s.heap y) (toP d)) j (by omega) (by omega) (by rw[hat j (by omega) hjl];simpa using hjt) (fun m hm hmj=>by rw[hat m hm (by omega)];simpa using hjf m hmj)) ⟨ho,SeqAt.items_eqAt hrs rb hc1 hc2 (room_in_shaped k2 hu),?_⟩
  exact⟨.int (Int.ofNat j),H,I.tok _,⟨_,rfl⟩,hq⟩
def y5y (fo:Den)(g:x1v):Den:=fun ρ=>match fo ρ with
 | some (.lst ds,_,ρ1)=>match g ρ1 with
  | some ([d],ρ2)=>if okD (.lst ds)=true/\okD d=true then match j3m d ds with
   | some j=>if(j:Int)<1000 then some (.int (Int.ofNat j),9,ρ2)else none
   | none=>none
   else none
  | _=>none
 | _=>none
theorem Rep.sqL {K:PySem.W.Frag}{H:Hp}{w:Wn}{ds:List D}{v:V}{F:List Addr}(r:Rep K H w .f 0 (.lst ds) v F):∃ a us,v=.ref a/\SqL K H a us:=by
 cases r with
 | kl h _=>exact⟨_,_,rfl,.inr h⟩
 | shr h _ _=>exact⟨_,_,rfl,.inl h⟩
theorem j22 {k:Nat}(hr:Room k X.A)(ho:PD X a fa)(ha:PDA X [e] g)
  (hbase:attributeBase a "count" X.env (eval a X.env)=eval a X.env:=by rfl)
  (hfew:((backTo cpos (starEach [e] X.env)).all (fun x=>!x.1)&&(backToKw cpos (keywordEach [] X.env)).all (fun x=>x.1.isSome)
    && decide ([e].length+([]:List Keyword).length+(if([]:List Keyword).isEmpty then 0 else 1)<30))=true:=by rfl)
  (hline:(apos.endLine==cpos.line)=true:=by rfl) (hs:starEach [e] X.env=(false,eval e X.env)::starEach [] X.env:=by rfl) (hplain:(backTo cpos (starEach [] X.env)).any (·.1)=false:=by rfl) :
  PD X (.Call (.Attribute a "count" apos) [e] [] cpos) (j7o fa g):=
 PE.imp (z22 PySem.F.plainAttrs_list PySem.F.slot_list_count PySem.F.type_list_count (j1y (u65 hr)) ho ha hbase hfew hline hs hplain) fun σ H Q hh0=>by
 obtain⟨ρ,w,t,r',q,ρ',gd,ee,k⟩:=hh0
 unfold j7o at ee
 split at ee
 ·rename_i ds q1 ρ1 h1
  split at ee
  ·rename_i d ρ2 h2
   split at ee
   ·rename_i hok
    cases ee
    refine⟨ρ,w,t,_,_,_,gd,h1,fun v H1 w1 F1 g1 go1 r1=>?_⟩
    have r0:=r1.drop (o:=.f) (Nat.le_refl t)
    have gg:=g1.drop (t':=t)
    obtain⟨p0,us,rfl,hq⟩:=Rep.sqL r0
    refine⟨.inl ⟨rfl,us,hq⟩,ρ1,x2b t w1,t,_,_,gg,h2,fun vs2 H2 w2 g2 go2 r2=>?_⟩
    obtain⟨v2,rfl,rv2⟩:=one r2
    have r3:Rep X.K H2 w2 .f 0 (.lst ds) (.ref p0) []:=r0.go0 gg.wl go2.stab
    exact⟨ds,d,v2,rfl,⟨_,_,_,_,r3⟩,⟨_,_,_,_,rv2⟩,hok.1,hok.2,k _ H2 w2 [] g2.up ((go1.drop gd.wt).trans go2) (.int _)⟩
   ·cases ee
  ·cases ee
 ·cases ee
theorem z3d {k:Nat}(hr:Room k X.A)(ho:PD X a fa)(ha:PDA X [e] g)
  (hbase:attributeBase a "index" X.env (eval a X.env)=eval a X.env:=by rfl)
  (hfew:((backTo cpos (starEach [e] X.env)).all (fun x=>!x.1)&&(backToKw cpos (keywordEach [] X.env)).all (fun x=>x.1.isSome)
    && decide ([e].length+([]:List Keyword).length+(if([]:List Keyword).isEmpty then 0 else 1)<30))=true:=by rfl)
  (hline:(apos.endLine==cpos.line)=true:=by rfl) (hs:starEach [e] X.env=(false,eval e X.env)::starEach [] X.env:=by rfl) (hplain:(backTo cpos (starEach [] X.env)).any (·.1)=false:=by rfl) :
  PD X (.Call (.Attribute a "index" apos) [e] [] cpos) (y5y fa g):=
 PE.imp (z22 PySem.F.plainAttrs_list PySem.F.slot_list_index PySem.F.type_list_index (z4s (u65 hr)) ho ha hbase hfew hline hs hplain) fun σ H Q hh0=>by
 obtain⟨ρ,w,t,r',q,ρ',gd,ee,k⟩:=hh0
 unfold y5y at ee
 split at ee
 ·rename_i ds q1 ρ1 h1
  split at ee
  ·rename_i d ρ2 h2
   split at ee
   ·rename_i hok
    split at ee
    ·rename_i j hj
     split at ee
     ·rename_i hsm
      cases ee
      refine⟨ρ,w,t,_,_,_,gd,h1,fun v H1 w1 F1 g1 go1 r1=>?_⟩
      have r0:=r1.drop (o:=.f) (Nat.le_refl t)
      have gg:=g1.drop (t':=t)
      obtain⟨p0,us,rfl,hq⟩:=Rep.sqL r0
      refine⟨.inl ⟨rfl,us,hq⟩,ρ1,x2b t w1,t,_,_,gg,h2,fun vs2 H2 w2 g2 go2 r2=>?_⟩
      obtain⟨v2,rfl,rv2⟩:=one r2
      have r3:Rep X.K H2 w2 .f 0 (.lst ds) (.ref p0) []:=r0.go0 gg.wl go2.stab
      exact⟨ds,d,v2,j,rfl,⟨_,_,_,_,r3⟩,⟨_,_,_,_,rv2⟩,hok.1,hok.2,hj,hsm,k _ H2 w2 [] g2.up ((go1.drop gd.wt).trans go2) (.int _)⟩
     ·cases ee
    ·cases ee
   ·cases ee
  ·cases ee
 ·cases ee
end
end L3
namespace L3
open PySem PySem.Spec PyProof.Rows L2
end L3
namespace L3
open PySem PySem.Spec PyProof.Rows PySem.W L2
def tXe (K:PySem.W.Frag)(x:y1q)(E:XK):St->Hp->Prop:=fun σ H=>∃ ρ w t nm,Good K ρ σ H w t/\x ρ=some nm/\∀ C H' w',nsIn K mainGlobals nm=some (some (.ref C))->WL K w' H'->Go H w H' w'->E (.ref C) none H'
theorem tX.e {K:PySem.W.Frag}{x:y1q}{E:XK}{D:Ends}{σ:St}{H:Hp}(h:tX K x E D σ H):tXe K x E σ H:=by
 obtain⟨ρ,w,nm,g,e,k⟩:=h
 exact⟨ρ,w,0,nm,g,e,k⟩
def j36:y1q:=fun _=>none
def j3o (g:x23)(x y:y1q):y1q:=fun ρ=>match g ρ with
 | some (b,ρ1)=>if b=true then x ρ1 else y ρ1
 | none=>none
def z5v (nm:Str):y1q:=fun _=>some nm
abbrev PXE (X:Cx)(E:XK)(e:Expr)(x:y1q):Prop:=PE X e fun σ H _=>tXe X.K x E σ H
abbrev PXS (X:Cx)(E:XK)(st:Stmt)(x:y1q):Prop:=PS X st (tX X.K x E)
abbrev PXB (X:Cx)(E:XK)(ss:List Stmt)(x:y1q):Prop:=PSs X ss (tX X.K x E)
section
variable {X:Cx}{E:XK}{st:Stmt}{ss x2j a b:List Stmt}{x y:y1q}{f:x1a}{g:x23}{c e:Expr}{es:List Expr}{pos pos' p:Pos}
theorem z87:PXB X E ss j36:=fun _ _ _ _ _ _ h=>by
 obtain⟨_,_,_,_,e,_⟩:=h
 cases e
theorem z33 (h:PXS X E st x):PXB X E (st::x2j) x:=by
 intro pins s σ H D I hh
 refine wpAny_execs_cons (thn (h pins s σ H { nx:=fun _ _=>False,rt:=fun _ _=>False } I hh) fun fl s1 q=>?_)
 cases fl with
 | next=>obtain⟨_,_,_,z⟩:=q;exact z.elim
 | brk=>obtain⟨_,_,_,z⟩:=q;exact z.elim
 | cont=>obtain⟨_,_,_,z⟩:=q;exact z.elim
 | ret u=>obtain⟨_,_,_,_,_,z⟩:=q;exact z.elim
theorem j1j (hc:PDT X c g)(ha:PXB X E a x)(hb:PXB X E b y):PXS X E (.If c a b pos) (j3o g x y):=PS.imp (j4j hc ha hb) fun D σ H hh0=>by
 obtain⟨ρ,w,nm,gd,e,k⟩:=hh0
 unfold j3o at e
 split at e
 ·rename_i b' ρ1 h1
  refine⟨ρ,w,0,b',ρ1,gd,h1,fun H1 w1 g1 go1=>?_⟩
  cases b' with
  | true=>exact⟨ρ1,w1,nm,g1,e,fun C H2 w2 n wl go2=>k C H2 w2 n wl (go1.trans go2)⟩
  | false=>exact⟨ρ1,w1,nm,g1,e,fun C H2 w2 n wl go2=>k C H2 w2 n wl (go1.trans go2)⟩
 ·cases e
theorem j1v {z:Str}(he:PXE X E e x)(hs:swapsWith e (some (.Name z pos')) pos.line X.env=pure false:=by rfl):PXS X E (.Assign [.Name z pos'] e pos) x:=by
 intro pins s σ H D I h
 refine wpAny_Assign_Name (thn (he pins s σ H (fun _ _=>False) I h.e) fun v s1 q=>?_) hs
 obtain⟨_,_,_,_,z⟩:=q
 exact z.elim
theorem z61 (he:PXE X E e x)(hs:swapsWith e none pos.line X.env=pure false:=by rfl):PXS X E (.Expr e pos) x:=PS.imp (z36 he hs) fun D σ H hh0=>hh0.e
end
section
variable {P:Program}{w:World}{K:PySem.W.Frag}{mg:Str->Option Value}{base:Heap}{N:List Str}{qual:Str}{scope:Scope}{f:Addr}{cd:Value}{A:Around}{outer:List Env}{s₀:Shared}{H₀:Hp}{E:XK}
theorem z47 {nm txt:Str}{k j:Nat}{np cpos tpos pos:Pos}(hr:Room k (A.deeper (envOfC qual scope s₀.heap.objs.size f cd)))(hC:∃ C,XNm K mg nm C)(hg:Gl (cxF P w K mg base N qual scope f cd A outer s₀ H₀ E) nm:=by rfl)(hdb:(nm==("__debug__":Str))=false:=by decide) :
  PXS (cxF P w K mg base N qual scope f cd A outer s₀ H₀ E) E (.Raise (some (.Call (.Name nm np) [.Constant (.str txt) j tpos] [] cpos)) none pos) (z5v nm):=by
 obtain⟨C,hC⟩:=hC
 refine PS.imp (z8y hr.hd hC hg hdb) fun D σ H hh0=>?_
 obtain⟨ρ,w',nm',g,e,k⟩:=hh0
 cases e
 exact k C H w' hC.ns g.wl Go.refl
theorem z8s {j k n:Nat}{x:Str}{F:List D->Option Str}{e:Expr}{es:List Expr}{g:x1v}{p pos:Pos}(Cx':y6n P w K mg base k x n F)(hr:Room j (A.deeper (envOfC qual scope s₀.heap.objs.size f cd)))(hk:k<=j)(ha:PDA (cxF P w K mg base N qual scope f cd A outer s₀ H₀ E) (e::es) g)
  (hg:Gl (cxF P w K mg base N qual scope f cd A outer s₀ H₀ E) x:=by rfl) (hdb:(x==("__debug__":Str))=false:=by decide) (he:starEach (e::es) (envOfC qual scope s₀.heap.objs.size f cd)=(false,eval e (envOfC qual scope s₀.heap.objs.size f cd))::starEach es (envOfC qual scope s₀.heap.objs.size f cd):=by rfl)
  (hpl:(backTo pos (starEach es (envOfC qual scope s₀.heap.objs.size f cd))).any (·.1)=false:=by rfl) :
  PXE (cxF P w K mg base N qual scope f cd A outer s₀ H₀ E) E (.Call (.Name x p) (e::es) [] pos) (y7j F n g):=by
 obtain⟨fn,fd,ps,G,hm,hkp,hb⟩:=Cx'
 refine PE.imp (z4p (X:=cxF P w K mg base N qual scope f cd A outer s₀ H₀ E) (E:=E) G (hr.mono hk) hg hm hkp hb .nil (fun pins σ H s e s' I h=>j4k (fun _ _ h=>h) I h) ha hdb he hpl) fun σ H Q hh0=>?_
 obtain⟨ρ,w',t,nm,gd,e,k'⟩:=hh0
 unfold y7j at e
 split at e
 ·rename_i ds ρ1 h1
  split at e
  ·rename_i hn
   refine⟨ρ,w',t,ds,ρ1,gd,h1,fun vs H1 w1 g1 go1 r1=>?_⟩
   show spX K n F (vs++[]) H1 Q E
   rw[List.append_nil]
   refine⟨by rw[<- r1.length];exact hn,ds,fun a=>(w1 a).map fun _=>Ow.f,nm,fun a o e=>?_,⟨fun a o e=>?_,g1.wl.tb⟩,?_,e,fun C H2 w2 hns wl2 go2=>k' C H2 w1 hns ⟨fun a o ew=>?_,wl2.tb⟩ (go1.trans ⟨fun a x e n=>?_,fun a o ew no=>?_⟩)⟩
   ·try dsimp only at e
    cases ew:w1 a with
    | none=>rw[ew]at e;cases e
    | some o'=>rw[ew]at e;cases e;rfl
   ·try dsimp only at e
    cases ew:w1 a with
    | none=>rw[ew]at e;cases e
    | some o'=>exact g1.wl a o' ew
   ·exact Reps.freeze (fun a n=>by show(w1 a).map _=_;rw[n];rfl) r1 (fun _ z=>nomatch z)
   ·obtain⟨vs',q⟩:=g1.wl a o ew
    have:=(go2.keep a .f (by show(w1 a).map _=_;rw[ew];rfl) (fun i z=>nomatch z)).1
    exact⟨vs',by rw[this];exact q⟩
   ·exact⟨(go2.stab a x e (by show(w1 a).map _=_;rw[n];rfl)).1,n⟩
   ·exact⟨(go2.keep a .f (by show(w1 a).map _=_;rw[ew];rfl) (fun i z=>nomatch z)).1,ew⟩
  ·cases e
 ·cases e
end
abbrev z2v:=Rho->Option (Str×Rho)
def CE (Y:Cx)(pins:List (Addr×Obj))(σ:St)(H:Hp)(w:Wn)(nm:Str)(ρ1:Rho)(ev:Value)(s':Shared):Prop:=
 ∃ s1 H1 w1 a C t B H',ev=.ref a/\Inv Y.nox pins σ H1 s1/\Good Y.K ρ1 σ H1 w1 0/\Go H w H1 w1/\Fly Y.prog Y.w Y.stack H1 s1 a C t B H' s'/\nsIn Y.K mainGlobals nm=some (some (.ref C))/\(∀ b o,H1 b=some o->Sm o (H' b))/\TB Y.K H'
def PTS (Y:Cx)(st:Stmt)(y:z2v):Prop:=∀ (pins:List (Addr×Obj)) (s:Shared) (σ:St) (H:Hp) (ρ:Rho) (w:Wn) (nm:Str) (ρ1:Rho),Inv Y.nox pins σ H s->Good Y.K ρ σ H w 0->y ρ=some (nm,ρ1)->
 wpAny (model Y.prog Y.w) Y.A (exec st Y.env) (fun _ _=>False) (CE Y pins σ H w nm ρ1) s
def PTB (Y:Cx)(ss:List Stmt)(y:z2v):Prop:=∀ (pins:List (Addr×Obj)) (s:Shared) (σ:St) (H:Hp) (ρ:Rho) (w:Wn) (nm:Str) (ρ1:Rho),Inv Y.nox pins σ H s->Good Y.K ρ σ H w 0->y ρ=some (nm,ρ1)->
 wpAny (model Y.prog Y.w) Y.A (execs ss Y.env) (fun _ _=>False) (CE Y pins σ H w nm ρ1) s
def z2s (Fx:List D->Option Str)(n:Nat)(g:x1v):z2v:=fun ρ=>match g ρ with
 | some (ds,ρ1)=>if ds.length=n then(Fx ds).map fun nm=>(nm,ρ1)else none
 | none=>none
def y8b (L:List Str)(f:x1a)(y:z2v)(ie ik:Nat):x1a:=fun ρ=>match y ρ with
 | some (nm,ρ1)=>if nm∈L then some (.nx (((ρ1.set ie (some (.exc nm,9))).set ik (some (.exc nm,9))).set ie none))else none
 | none=>f ρ
section
variable {Y:Cx}{c e:Expr}{es:List Expr}{g:x1v}{gt:x23}{x y:z2v}{a b ss:List Stmt}{st:Stmt}{pos:Pos}
theorem j0x (h:PTS Y st y):PTB Y [st] y:=fun pins s σ H ρ w nm ρ1 I gd e=>
 wpAny_execs_cons (thn (h pins s σ H ρ w nm ρ1 I gd e) fun _ _ z=>z.elim)
theorem z8n {z u:Str}{Fx:List D->Option Str}{j k n:Nat}{yp fp cpos spos:Pos}(CX:y6n Y.prog Y.w Y.K Y.mg Y.base k z n Fx)(hr:Room j Y.A)(hk:k<=j)(ha:PDA Y.nox (e::es) g)
  (hgx:Gl Y z:=by rfl) (hdx:(z==("__debug__":Str))=false:=by decide) (hsc:swapsWith (.Call (.Name z fp) (e::es) [] cpos) (some (.Name u yp)) spos.line Y.env=pure false:=by rfl)
  (he:starEach (e::es) Y.env=(false,eval e Y.env)::starEach es Y.env:=by rfl) (hpl:(backTo cpos (starEach es Y.env)).any (·.1)=false:=by rfl) :
  PTS Y (.Assign [.Name u yp] (.Call (.Name z fp) (e::es) [] cpos) spos) (z2s Fx n g):=by
 intro pins s σ H ρ w nm ρ1 I gd ee
 unfold z2s at ee
 split at ee
 ·rename_i ds ρ2 h1
  split at ee
  ·rename_i hn
   obtain⟨nm',hx,e0⟩:=Option.map_eq_some_iff.mp ee
   cases e0
   obtain⟨fn,fd,ps,G,hm,hkp,hb⟩:=CX
   refine wpAny_Assign_Name ?_ hsc
   refine wpAny_Call_Name_kw (y36 (X:=Y.nox) I hgx hm ?_ hdx)
   refine PySem.W.callWith_K (h₀:=Y.base) I.ok.mod.kin hkp (wpAny_mono (ha cpos pins s σ H (fun vs H1=>∃ w1,Good Y.K ρ1 σ H1 w1 0/\Go H w H1 w1/\Reps Y.K H1 w1 .f 0 ds vs []) I ⟨ρ,w,0,ds,ρ1,gd,h1,fun vs H1 w1 g1 go1 r1=>⟨w1,g1,go1,r1⟩⟩) (fun us s1 hh1=>?_) (fun _ _ z=>False.elim z)) he hpl
   obtain⟨vs,H1,I1,rv,w1,g1,go1,r1⟩:=hh1
   refine⟨I1.kIn,?_⟩
   have hsp:spX Y.K n Fx vs H1 (fun _ _=>False) (fun c _ H'=>∃ C,c=.ref C/\nsIn Y.K mainGlobals nm=some (some (.ref C))/\(∀ b o,H1 b=some o->Sm o (H' b))/\TB Y.K H'):=by
    refine⟨by rw[<- r1.length];exact hn,ds,fun a=>(w1 a).map fun _=>Ow.f,nm,fun a o e=>?_,⟨fun a o e=>?_,g1.wl.tb⟩,?_,hx,fun C H2 w2 hns wl2 go2=>⟨C,rfl,hns,fun b o e=>?_,wl2.tb⟩⟩
    ·try dsimp only at e
     cases ew:w1 a with
     | none=>rw[ew]at e;cases e
     | some o'=>rw[ew]at e;cases e;rfl
    ·try dsimp only at e
     cases ew:w1 a with
     | none=>rw[ew]at e;cases e
     | some o'=>exact g1.wl a o' ew
    ·exact Reps.freeze (fun a n=>by show(w1 a).map _=_;rw[n];rfl) r1 (fun _ z=>nomatch z)
    ·cases ew:w1 b with
     | none=>exact(go2.stab b o e (by show(w1 b).map _=_;rw[ew];rfl)).1
     | some o'=>exact sm (((go2.keep b .f (by show(w1 b).map _=_;rw[ew];rfl) (fun i z=>nomatch z)).1).trans e)
   have hl:us.length=ps.length:=by rw[<- rv.length];exact G.len _ _ _ _ hsp
   have hbb:=hb s1 us I1.kIn (by rw[List.append_nil];exact hl)
   rw[List.append_nil]at hbb
   refine wpAny_call (codeAny_mono (G.run Y.A Y.stack s1 H1 ⟨us,[]⟩ us vs _ _ (hr.mono hk) I1.env0 hbb rv hsp) fun r s' hq=>?_)
   cases r with
   | ok fl=>
    cases fl with
    | ret u=>obtain⟨_,_,_,z⟩:=I1.after hq;exact z.2.elim
    | next=>exact False.elim hq
    | brk=>exact False.elim hq
    | cont=>exact False.elim hq
   | error ev=>
    obtain⟨a,C,t,B,H',rfl,F',C',eC,hns,hext,tb'⟩:=hq
    cases eC
    exact⟨s1,H1,w1,a,C,t,B,H',rfl,I1,g1,go1,F',hns,hext,tb'⟩
  ·cases ee
 ·cases ee
theorem z98 {R nn kx:Str}{L:List Str}{f:x1a}{ie ik:Nat}{np kp vp apos hpos:Pos}(hU:y3u Y.K Y.mg R L)(hf:z2j Y.nox ss f)(hx:PTB Y ss y)(hN:Y.N.Nodup)(hie:Y.N[ie]? = some nn)(hik:Y.N[ik]? = some kx)(hst:Y.stack=Y.env::Y.outer:=by rfl)(hfm:Y.env.frame=some Y.env.locals:=by rfl)
  (hne:Y.env.scope.names.lookup nn=some .local:=by rfl) (hnk:Y.env.scope.names.lookup kx=some .local:=by rfl) (hg:Gl Y R:=by rfl)
  (hdb:(R==("__debug__":Str))=false:=by decide) (hdn:(nn==("__debug__":Str))=false:=by decide) (hcn:(nn==("__classdict__":Str))=false:=by decide) (hsw:swapsWith (.Name nn vp) (some (.Name kx kp)) apos.line Y.env=pure false:=by rfl) :
  PDS Y.nox (.Try ss [.ExceptHandler (some (.Name R np)) (some nn) [.Assign [.Name kx kp] (.Name nn vp) apos] hpos] [] [] pos) (y8b L f y ie ik):=by
 intro pins s σ H Dn I hh
 obtain⟨ρ,w,o,gd,ee,K'⟩:=hh
 unfold y8b at ee
 refine wpAny_Try_except ?_
 split at ee
 ·rename_i nm ρ1 h1
  split at ee
  ·rename_i hL
   cases ee
   obtain⟨RA,hR,hRt,hmg,hall⟩:=hU
   refine wpAny_mono (hx pins s σ H ρ w nm ρ1 I gd h1) (fun _ _ z=>z.elim) fun ev s' q=>?_
   obtain⟨s1,H1,w1,a,C,t,B,H',rfl,I1,g1,go1,F',hns,hext,tb'⟩:=q
   obtain⟨hXk,hsub⟩:=hall nm hL C hns
   refine z7c (X:=Y.nox) I1 F' hst hfm hN hie hik hne hnk hR hRt hsub hmg hg hdb hdn hcn hsw fun s5 oe hoc I5=>?_
   have hσe:ie<σ.length:=by rw[I.len];exact(List.getElem?_eq_some_iff.mp hie).1
   have hσk:ik<σ.length:=by rw[I.len];exact(List.getElem?_eq_some_iff.mp hik).1
   have hfr:=F'.free
   obtain⟨g2,go2⟩:=g1.grow (H':=upd H' a (j3n a oe)) (fun b o q=>by
    obtain⟨y,ey,_⟩:=(hext b o q).is
    unfold upd
    rw[if_neg (fun z=>by rw[<- z,ey]at hfr;cases hfr)]
    exact hext b o q) (tb'.upd rfl (.inl hfr))
   have rep:∀ w',Rep Y.K (upd H' a (j3n a oe)) w' .f 0 (.exc nm) (.ref a) []:=fun w'=>.exc (ob:=oe) (u:=.ext fun h=>h.get? a=some oe) (by unfold upd;rw[if_pos rfl];rfl) ⟨C,hoc,hXk⟩ (fun _ z=>nomatch z)
   obtain⟨g3,go3⟩:=g2.setV (i:=ie) hσe (rep _)
   obtain⟨g4,go4⟩:=g3.setV (i:=ik) (by rw[List.length_set];exact hσk) (rep _)
   obtain⟨g5,go5⟩:=g4.unset (i:=ie) (v:=none) (by rw[List.length_set,List.length_set];exact hσe)
   exact⟨_,_,I5,K' _ _ _ (by rw[List.length_set,List.length_set,List.length_set]) g5 ((((go1.trans go2).trans go3).trans go4).trans go5)⟩
  ·cases ee
 ·refine wpAny_mono (hf pins s σ H Dn I ⟨ρ,w,o,gd,ee,K'⟩) (fun fl s1 q=>?_) (fun _ _ z=>False.elim z)
  cases fl with
  | next=>exact wpAny_execs_nil q
  | brk=>exact q
  | cont=>exact q
  | ret u=>exact q
end
structure Lm (K:PySem.W.Frag) (mg:Str->Option Value) (base:Heap):Prop where
 bm:∃ bm o,mg "__builtins__" = some (.ref bm)/\bm≠builtinsNs/\base.get? bm=some o/\o.cls=.type "module" /\ o.dict=some builtinsNs/\o.data=.plain
 cd:∀ x∈y2n,∀ c P,tabIn K x=some (c,P)->CodeHd base c P
end L3
namespace L3
open PySem PySem.Spec PyProof.Rows L2
@[simp] def z19 (i:Nat):Den:=fun ρ=>match ρ[i]? with
 | some (some (.lst ds,q))=>if q<=1 then some (.lst ds,1,ρ)else none
 | some (some (.tup ds,_))=>some (.lst ds,1,ρ)
 | _=>none
theorem Rep.seqV {K:PySem.W.Frag}{H:Hp}{w:Wn}{o:Ow}{q:Nat}{ds:List D}{v:V}{F:List Addr}(r:Rep K H w o q (.lst ds) v F)(hq:q<=1):∃ a vs,v=.ref a/\SqL K H a vs/\Reps K H w o 0 ds vs []:=by
 cases r with
 | kl h r=>exact⟨_,_,rfl,h.sq,r⟩
 | shr h n r=>exact⟨_,_,rfl,.inl h,r⟩
 | own h n r ne=>
  rename_i q' _ _ _
  obtain rfl:q'=0:=by omega
  have e:=r.zero
  subst e
  exact⟨_,_,rfl,SqL.of h,r⟩
section
variable {X:Cx}{pos p p1 p2:Pos}
theorem z7a {i:Nat}{x:Str}(hm:X.mg "list" = none)(hb:bootBuiltins "list" = some (.type "list"))(h:PE X (.Name x p1) (y0z i))(hg:Gl X "list":=by rfl)(he:starEach [.Name x p1] X.env=(false,eval (.Name x p1) X.env)::starEach [] X.env:=by rfl)(hpl:(backTo pos (starEach [] X.env)).any (·.1)=false:=by rfl):PD X (.Call (.Name "list" p) [.Name x p1] [] pos) (z19 i):=
 PE.imp (x67 y1d hg hm hb (x3v h x71 he) (by decide) (by decide) he hpl) fun σ H Q hh0=>by
 obtain⟨ρ,w,t,r',q,ρ',gd,ee,k⟩:=hh0
 unfold z19 at ee
 split at ee
 ·rename_i ds q0 e0
  split at ee
  ·rename_i hq
   cases ee
   obtain⟨v,F,h1,h2⟩:=gd.slot i _ q0 e0
   obtain⟨p,ys,rfl,hs,rs⟩:=h2.seqV hq
   refine⟨_,h1,p,ys,rfl,.inl hs,fun l hl=>?_⟩
   obtain⟨a1,a2,a3⟩:=y7x gd hl (rs.any gd.wl)
   exact k _ _ _ _ a1 a2 a3
  ·cases ee
 ·rename_i ds q0 e0
  cases ee
  obtain⟨v,F,h1,h2⟩:=gd.slot i _ q0 e0
  obtain⟨p,ys,rfl,hs,rs⟩:=h2.seqT
  refine⟨_,h1,p,ys,rfl,.inr hs,fun l hl=>?_⟩
  obtain⟨a1,a2,a3⟩:=y7x gd hl (rs.any gd.wl)
  exact k _ _ _ _ a1 a2 a3
 ·cases ee
end
end L3
namespace L3
open PySem PySem.Spec PyProof.Rows PySem.W L2
theorem z2n:isSubtype (.type "tuple") (.type "set")=pure false:=by rw[isSubtype_type];kernel_rfl
theorem z1u:isSubtype (.type "tuple") (.type "frozenset")=pure false:=by rw[isSubtype_type];kernel_rfl
abbrev set0 (b:Bool):Obj:={ cls:=.type "set",dict:=none,data:=.set #[] 0 (.fresh 0 0 b) }
abbrev met (ks:List Int):List Int:=firstMet (fun i=>ks.getD i 0) ks.length
section
variable {prog:Program}{w:World}{A:Around}{E:Value->Shared->Prop}{s:Shared}
set_option maxHeartbeats 3200000 in
theorem z2k {t:Addr}{us:List Value}{ks:List Int}{Q:Value->Shared->Prop}(hA:A.handled=none)(ht:s.heap.IsTuple t us.toArray)(hk:IntsAre us ks)(hb:ks.length+1<scanBound)
  (q:∀ (h':Heap) (tk:Nat),h'.SetOf (intKind prog w) s.heap.objs.size (fun k=>(met ks).any (· == k)) (met ks).length->(∀ b o,b<s.heap.objs.size->s.heap.get? b=some o->h'.get? b=some o)->Q (.ref s.heap.objs.size) { s with heap:=h',toks:=tk }) :
  wpAny (model prog w) A (call (.type "set") [.ref t]) Q E s:=by
 have hlen:us.length=ks.length:=IntsAre.length hk
 have c1:=PySem.F.called_set.made
 have c2:=PySem.F.called_set.sub
 obtain⟨cc,tl,c3⟩:=PySem.F.called_set.mro
 have c4:=PySem.F.called_set.notType
 have c5:=PySem.F.called_set.canCreate
 have c6:=PySem.F.typeCall_set_1 (.ref t)
 refine wpAny_call (codeAny_of_tree (show wpAny _ _ (callAny (.type "set") _) _ _ _ from wpAny_pure ⟨Code.quiet_builtin _ (by decide +kernel),codeAny_builtin PySem.F.entry_type_call ?_⟩))
 rw[Around.under_plain (weight_type_call_type "set" [.ref t] []) rfl]
 repeat (any_goals (first|assumption|wp_step))
 refine codeAny_mono (code_set_new_1 (.ref t) (E:=E) (Q₁:=fun ob s1=>∃ b:Bool,ob=.ref s.heap.objs.size/\s1={ s with heap:=s.heap.push (set0 b) }) fun b=>⟨b,rfl,rfl⟩) fun r s1 hr=>?_
 cases r with
 | error e=>exact hr
 | ok fl=>
  cases fl with
  | ret ob=>
   obtain⟨b,rfl,rfl⟩:=hr
   have g0:(s.heap.push (set0 b)).get? s.heap.objs.size=some (set0 b):=Heap.get?_push_size _ rfl
   have g1:Shared.TypeIs { s with heap:=s.heap.push (set0 b) } (.ref s.heap.objs.size) "set":=⟨_,g0,rfl⟩
   have g2:=PySem.F.called_set.init.lookup
   have g3:=PySem.F.called_set.init.bind (.ref s.heap.objs.size)
   repeat (any_goals (first|assumption|wp_step))
   refine codeAny_mono (codeAny_call_builtin (R:=wants (fun r s2=>r=.none/\∃ h' tk,s2={ s with heap:=h',toks:=tk }/\h'.SetOf (intKind prog w) s.heap.objs.size (fun k=>(met ks).any (· == k)) (met ks).length/\(∀ b o,b<s.heap.objs.size->s.heap.get? b=some o->h'.get? b=some o)) E)
    PySem.F.called_set.init.plain PySem.F.entry_set_init (check_set_init_1 g1 ?_)) fun r2 s2 hr2=>?_
   ·obtain⟨ol,hol,hcl,nl,hdl⟩:=ht
    obtain⟨oc,od,odt,osl⟩:=ol
    simp only at hcl hdl
    subst hcl hdl
    have hol':(s.heap.push (set0 b)).get? t=some _:=Heap.get?_push_of_some _ hol
    have n1:=z2n
    have n2:=z1u
    have n3:(Value.type "tuple" == Value.type "dict")=false:=by decide
    have tt:(s.heap.push (set0 b)).IsTuple t us.toArray:=⟨_,hol',rfl,nl,rfl⟩
    unfold Builtin.«set.__init__» noKeywords Builtin.Frozenset.updateFrom
    generalize hPI:pyIter=PI
    wp_walk
    subst hPI
    refine wpAny_pyIter_tuple tt (wpAny_bind (wpAny_runValue ?_))
    have lt:=Heap.lt_size hol
    have e1:(s.heap.push (set0 b)).objs.size=s.heap.objs.size+1:=Heap.size_push ..
    have hval:∀ (i:Nat) (v:Value),us.toArray[i]? = some v->∃ z,v=.int ((fun i=>ks.getD i 0) i) z:=fun i v hv=>IntsAre.int_at hk i v (by rw[<- hv];simp)
    have sz:us.toArray.size=ks.length:=by rw[List.size_toArray,hlen]
    refine codeAny_set_update_loopS ((Walks.tuple (A:=A.in1.in1.in1) (by simp[hA]) _ t (by rw[e1];exact Nat.ne_of_lt (Nat.lt_succ_of_lt lt)) us.toArray).toS) s.heap.objs.size (by rw[e1];simp only[List.mem_cons,List.not_mem_nil,or_false,not_or];exact⟨Nat.ne_of_lt (Nat.lt_succ_self _),Nat.ne_of_gt lt⟩) (fun i=>ks.getD i 0) hval (by rw[sz];exact hb) (us.toArray.size-0) 0 _ (by omega) (Nat.zero_le _) ⟨⟨_,Heap.get?_push_size _ rfl,rfl,rfl⟩,tt.push _⟩ ?zz1 ?zz2
    case zz1=>exact SetOf_congr ((setObjOf_fresh (knd:=intKind prog w) b).setOf (Heap.get?_push_of_some _ g0) (by unfold scanBound;omega)) (fun _=>rfl) rfl
    case zz2=>
     intro s' hm hS
     rw[sz]at hS
     obtain⟨h',g',d',tk',os'⟩:=s'
     cases (show g'=s.gens from hm.gens)
     cases (show d'=s.drawn from hm.drawn)
     cases (show os'=s.os from hm.os)
     refine wpAny_pure (show wpAny _ _ (ret Value.none) _ _ _ from wpAny_pure ⟨rfl,h',tk',rfl,hS,fun c o hc e=>hm.heap c o ?_ (Heap.get?_push_of_some _ (Heap.get?_push_of_some _ e))⟩)
     rw[e1]
     simp only[List.mem_cons,List.not_mem_nil,or_false,not_or]
     exact⟨Nat.ne_of_lt hc,Nat.ne_of_lt (Nat.lt_succ_of_lt hc)⟩
   ·cases r2 with
    | error e=>exact hr2
    | ok fl2=>
     cases fl2 with
     | ret r=>
      obtain⟨rfl,h',tk,rfl,hS,kp⟩:=hr2
      repeat (any_goals (first|assumption|wp_step))
      exact q _ _ hS kp
     | _=>exact hr2.elim
  | _=>exact hr.elim
end
theorem y1j:∀ {ks:List Int} {us:List Value},x37 (ks.map V.int) us->IntsAre us ks
 | [],_,h=>by cases h;exact .nil
 | k::ks,_,h=>by
  cases h with
  | cons r rs=>
   obtain⟨t,rfl⟩:=r
   exact .cons k t (y1j rs)
theorem z9h {K:PySem.W.Frag}{H:Hp}{w:Wn}{o:Ow}:∀ {ks:List Int} {vs:List V} {F:List Addr},Reps K H w o 0 (ks.map D.int) vs F->vs=ks.map V.int
 | [],_,_,h=>by cases h;rfl
 | k::ks,_,_,h=>by
  cases h with
  | cons r rs _=>rw[x4t r,z9h rs];rfl
def y9k:List D->Option (List Int)
 | []=>some []
 | .int i::ds=>(y9k ds).map (i :: ·)
 | _=>none
theorem z0r:∀ {ds:List D} {ks:List Int},y9k ds=some ks->ds=ks.map D.int
 | [],_,h=>by cases h;rfl
 | .int i::ds,_,h=>by
  obtain⟨ks,e,rfl⟩:=Option.map_eq_some_iff.mp (show(y9k ds).map (i :: ·)=some _ from h)
  rw[z0r e];rfl
 | .bl _::_,_,h=>by cases h
 | .non::_,_,h=>by cases h
 | .str _::_,_,h=>by cases h
 | .tup _::_,_,h=>by cases h
 | .lst _::_,_,h=>by cases h
 | .dic _ _::_,_,h=>by cases h
 | .exc _::_,_,h=>by cases h
 | .ob _ _ _ _::_,_,h=>by cases h
theorem y55:∀ ks:List Int,y9k (ks.map D.int)=some ks
 | []=>rfl
 | k::ks=>by show(y9k (ks.map D.int)).map (k :: ·)=_;rw[y55 ks];rfl
abbrev j2y (ks:List Int)(k:Int):Bool:=(met ks).any (· == k)
section
variable {X:Cx}{a:Expr}{fa:Den}{p p2 pos pos2:Pos}
theorem z46 (hc:X.calm=true):y0c X (.type "set") (fun xs H Q=>∃ t ks,xs=[.ref t]/\SqT X.K H t (ks.map V.int)/\ks.length<=1000/\∀ p,H p=none->Q (.ref p) (upd H p (.set (j2y ks) (met ks).length))):=by
 intro pins s σ H xs us Q I r hh
 obtain⟨t,ks,rfl,hq,hl,q⟩:=hh
 obtain⟨u,rfl,ru⟩:=y3k r
 cases ru
 obtain⟨its,rv,ht,_⟩:=I.tuple hq
 refine z2k (I.ok.hd hc) ht (y1j rv) (by unfold scanBound;omega) fun h' tk hS kp=>?_
 exact⟨.ref s.heap.objs.size,_,I.laid (o:=.set (j2y ks) (met ks).length) (h':=h') (t':=tk) (fun b o e=>kp b o (Heap.lt_size e) e) (Nat.le_refl _) hS,rfl,q _ (I.hok.fresh (Nat.le_refl _))⟩
theorem z3u:y0c X (.builtin "len") (fun xs H Q=>∃ t S n,xs=[.ref t]/\H t=some (.set S n)/\Q (.int (Int.ofNat n)) H):=by
 intro pins s σ H xs us Q I r hh
 obtain⟨t,S,n,rfl,hq,q⟩:=hh
 obtain⟨u,rfl,ru⟩:=y3k r
 cases ru
 obtain⟨o,es,ep,tb,ho,hex,hd,_,_,hb,hf,rfl⟩:=(show s.heap.SetOf (intKind X.prog X.w) t S n from I.hok _ _ hq)
 exact call_len_set ho hex hd hf (by unfold scanBound at hb;omega) ⟨.int (Int.ofNat es.size),H,I.tok _,⟨_,rfl⟩,q⟩
def x8w (fa:Den):Den:=fun ρ=>match fa ρ with
 | some (.tup ds,_,ρ1)=>match y9k ds with
  | some ks=>if ks.length<=1000 then some (.int (Int.ofNat (met ks).length),9,ρ1)else none
  | none=>none
 | _=>none
theorem z3o (hc:X.calm=true)(hm:X.mg "len" = none)(hmS:X.mg "set" = none)(ha:PD X a fa)(hb:bootBuiltins "set" = some (.type "set"):=by kernel_rfl)(hg:Gl X "len":=by rfl)(hgS:Gl X "set":=by rfl)
  (hs:starEach [a] X.env=(false,eval a X.env)::starEach [] X.env:=by rfl) (hpl:(backTo pos2 (starEach [] X.env)).any (·.1)=false:=by rfl)
  (hs2:starEach [.Call (.Name "set" p2) [a] [] pos2] X.env=(false,eval (.Call (.Name "set" p2) [a] [] pos2) X.env)::starEach [] X.env:=by rfl) (hpl2:(backTo pos (starEach [] X.env)).any (·.1)=false:=by rfl) :
  PD X (.Call (.Name "len" p) [.Call (.Name "set" p2) [a] [] pos2] [] pos) (x8w fa):=by
 refine PE.imp (x51 z3u hg hm PySem.boot_len (x3v (x67 (z46 hc) hgS hmS hb (x3v ha x71 hs) (by decide) (by decide) hs hpl) x71 hs2) (by decide) (by decide) hs2 hpl2) fun σ H Q hh0=>?_
 obtain⟨ρ,w,t,r',q,ρ',gd,ee,k⟩:=hh0
 unfold x8w at ee
 split at ee
 ·rename_i ds q1 ρ1 h1
  split at ee
  ·rename_i ks h2
   split at ee
   ·rename_i hl
    cases ee
    have e:=z0r h2
    subst e
    refine⟨ρ,w,t,_,_,_,gd,h1,fun v H1 w1 F1 g1 go1 r1=>?_⟩
    have r0:=r1.drop (o:=.f) (Nat.le_refl t)
    obtain⟨p1,vs,rfl,hsq,rs⟩:=r0.seqT
    have ev:=z9h rs
    subst ev
    refine⟨p1,ks,rfl,hsq,hl,fun p' hp'=>⟨p',_,_,rfl,x1z,?_⟩⟩
    have gg:=g1.drop (t':=t)
    obtain⟨g2,go2⟩:=gg.grow (H':=upd H1 p' (.set (j2y ks) (met ks).length)) (fun b o q=>by
     unfold upd
     rw[if_neg (fun z=>by rw[z,hp']at q;cases q)]
     exact sm q) (gg.wl.tb.upd rfl (.inl hp'))
    exact k _ _ _ [] g2.up ((go1.drop gd.wt).trans go2) (.int _)
   ·cases ee
  ·cases ee
 ·cases ee
end
end L3
namespace L3
open PySem PySem.Spec PyProof.Rows L2
structure QE (X:Cx) (e:Expr) (t:TE):Prop where mk::o:PE X e t
structure QD (X:Cx) (e:Expr) (f:Den):Prop where mk::o:PD X e f
structure QDA (X:Cx) (e:List Expr) (f:x1v):Prop where mk::o:PDA X e f
structure QDT (X:Cx) (e:Expr) (f:x23):Prop where mk::o:PDT X e f
structure QDW (X:Cx) (e:Expr) (f:x23):Prop where mk::o:PDW X e f
structure QDS (X:Cx) (e:Stmt) (f:x1a):Prop where mk::o:PDS X e f
structure QDSs (X:Cx) (e:List Stmt) (f:x1a):Prop where mk::o:z2j X e f
structure QDI (X:Cx) (tg e:Expr) (f:y4b):Prop where mk::o:PDI X tg e f
structure QDG (X:Cx) (b:Nat) (e:Expr) (f:x7x):Prop where mk::o:PDG X b e f
structure QDGs (X:Cx) (b:Nat) (e:List Expr) (f:y0m):Prop where mk::o:j50 X b e f
structure QDO (X:Cx) (e:Option Expr) (f:z9o):Prop where mk::o:PDO X e f
structure QDTs (X:Cx) (e:List Expr) (f:x23):Prop where mk::o:j4x X e f
structure QQ (X:Cx) (e:Expr) (f:y2b):Prop where mk::o:PQ X e f
structure QXE (X:Cx) (E:XK) (e:Expr) (x:y1q):Prop where mk::o:PXE X E e x
structure QXS (X:Cx) (E:XK) (e:Stmt) (x:y1q):Prop where mk::o:PXS X E e x
structure QXB (X:Cx) (E:XK) (e:List Stmt) (x:y1q):Prop where mk::o:PXB X E e x
structure QTS (Y:Cx) (e:Stmt) (y:z2v):Prop where mk::o:PTS Y e y
structure QTB (Y:Cx) (e:List Stmt) (y:z2v):Prop where mk::o:PTB Y e y
theorem qv {X:Cx}(i:Nat){x:Str}{pos:Pos}(hN:X.N[i]? = some x:=by rfl)(hv:Vis X.env.scope x:=by first|exact Or.inl rfl|exact Or.inr (Or.inl rfl)|exact Or.inr (Or.inr rfl))(hd:(x==("__debug__":Str))=false:=by decide)(hcd:(x==("__classdict__":Str))=false:=by decide):QE X (.Name x pos) (y0z i):=⟨pv i hN hv hd hcd⟩
theorem y1x {X:Cx}{e:Expr}{f:x23}(h:QDW X e f):QDT X e f:=⟨PW.pt h.o⟩
section
variable {X:Cx}{a b c e:Expr}{fa fb fc f:Den}{pos:Pos}
theorem x0d {i j}:QD X (.Constant (.int i) j pos) (eC (.int i)):=⟨j5j ⟩
theorem x4r {i j}:QD X (.Constant (.bool i) j pos) (eC (.bl i)):=⟨j8n ⟩
theorem z1d {j}:QD X (.Constant .none j pos) (eC .non):=⟨j4g ⟩
theorem x7u {x j}:QD X (.Constant (.str x) j pos) (eC (.str x)):=⟨j66 ⟩
theorem x02 {i:Nat}{x:Str}(h:QE X (.Name x pos) (y0z i)):QD X (.Name x pos) (x05 i):=⟨j71 h.o⟩
theorem x1p (ha:QD X a fa)(hb:QD X b fb):QD X (.BinOp a .Add b pos) (e2 x3f fa fb):=⟨j4d ha.o hb.o⟩
theorem x7a (ha:QD X a fa)(hb:QD X b fb):QD X (.BinOp a .Mult b pos) (e2 y5f fa fb):=⟨j4q ha.o hb.o⟩
theorem z5u (ha:QD X a fa)(hb:QD X b fb):QD X (.BinOp a .FloorDiv b pos) (e2 j69 fa fb):=⟨j5x ha.o hb.o⟩
theorem y4p (ha:QD X a fa)(hb:QD X b fb):QD X (.BinOp a .Mod b pos) (e2 z9f fa fb):=⟨j3s ha.o hb.o⟩
theorem x4u (ha:QD X a fa)(hb:QD X b fb)(hs:x5i b:=by exact fun _ _=>rfl):QD X (.Subscript a b pos) (eIx fa fb):=⟨j8s ha.o hb.o hs⟩
theorem x04:QDA X [] x0g:=⟨j1c ⟩
theorem x00 {es:List Expr}{g:x1v}(ha:QD X e f)(hr:QDA X es g)(hs:starEach (e::es) X.env=(false,eval e X.env)::starEach es X.env:=by rfl):QDA X (e::es) (x01 f g):=⟨z6s ha.o hr.o hs⟩
theorem x2v {es:List Expr}{g:x1v}(h:QDA X es g):QD X (.List es pos) (x6q g):=⟨j45 h.o⟩
theorem x3r {es:List Expr}{g:x1v}{x1}(h:QDA X es g):QD X (.Tuple es x1 pos) (x6z g):=⟨j4w h.o⟩
end
section
variable {X:Cx}{a b c e:Expr}{fa fb fc f:Den}{ga gb gc:x23}{pos:Pos}
theorem x27 (ha:QD X a fa)(he:∀ whole,isTrue a X.env whole=(do let v <- whole;standAt a.pos;holding [v] (truthy v)):=by exact fun _=>rfl):QDT X a (x76 fa):=⟨j2n ha.o he⟩
theorem y8f (ha:QD X a fa)(hb:QD X b fb):QDT X (.Compare a [.Lt] [b] pos) (x3c (e2 dLt fa fb)):=⟨j6w ha.o hb.o⟩
theorem j02 (ha:QD X a fa)(hb:QD X b fb):QDT X (.Compare a [.Gt] [b] pos) (x3c (e2 dGt fa fb)):=⟨j4y ha.o hb.o⟩
theorem x2z (ha:QDT X a ga):QDT X (.UnaryOp .Not a pos) (x43 ga):=⟨j2j ha.o⟩
end
section
variable {X:Cx}{a b c e:Expr}{fa fb fc f:Den}{ga gb gc:x23}{pos:Pos}{x2j:List Expr}
theorem z0u (ha:QDT X a ga):QDW X (.BoolOp .And [a] pos) ga:=⟨z65 ha.o⟩
theorem x5t (ha:QDT X a ga):QDW X (.BoolOp .Or [a] pos) ga:=⟨j0d ha.o⟩
theorem y9d (ha:QDT X a ga)(hb:QDW X (.BoolOp .And (b::x2j) pos) gb):QDW X (.BoolOp .And (a::b::x2j) pos) (y2q ga gb):=⟨j2p ha.o hb.o⟩
theorem x81 (ha:QDT X a ga)(hb:QDW X (.BoolOp .Or (b::x2j) pos) gb):QDW X (.BoolOp .Or (a::b::x2j) pos) (y8i ga gb):=⟨j5o ha.o hb.o⟩
theorem z0v (hc:QDT X c gc)(ha:QD X a fa)(hb:QD X b fb):QD X (.IfExp c a b pos) (eIf gc fa fb):=⟨z7w hc.o ha.o hb.o⟩
end
section
variable {X:Cx}{a b c e:Expr}{fa fb fc f:Den}{ga gb gc:x23}{pos:Pos}{st:Stmt}{x2j sa sb:List Stmt}{s s':x1a}
theorem x1e:QDSs X [] x53:=⟨j2r ⟩
theorem x06 (h1:QDS X st s)(h2:QDSs X x2j s'):QDSs X (st::x2j) (x14 s s'):=⟨z8l h1.o h2.o⟩
theorem x0a (h1:QDS X st s):QDSs X [st] s:=⟨j14 h1.o⟩
theorem x0i (h:QD X e f):QDS X (.Return (some e) pos) (x21 f):=⟨j34 h.o⟩
theorem x1w (hc:QDT X c gc)(ha:QDSs X sa s)(hb:QDSs X sb s'):QDS X (.If c sa sb pos) (sIf gc s s'):=⟨j4h hc.o ha.o hb.o⟩
theorem x0o {i:Nat}{x:Str}{pos':Pos}(hN:X.N.Nodup)(hi:X.N[i]? = some x)(hx:Loc X.env.scope x)(he:QD X e f)(hs:swapsWith e (some (.Name x pos')) pos.line X.env=pure false:=by rfl)(hf:X.fn x=true\/X.env.scope.names.lookup x=some .local:=by first|exact .inl rfl|exact .inr rfl):QDS X (.Assign [.Name x pos'] e pos) (x25 i f):=⟨j20 hN hi hx he.o hs hf⟩
theorem x3n (he:QD X e f)(hs:swapsWith e none pos.line X.env=pure false:=by rfl):QDS X (.Expr e pos) (x50 f):=⟨z8o he.o hs⟩
end
section
variable {X:Cx}{tg a b c e:Expr}{fa fb fc f:Den}{ga gb gc:x23}{pos p:Pos}
theorem x0v {g:x1v}(hm:X.mg "range" = none)(ha:QDA X [a] g)(hg:Gl X "range":=by rfl)(hs:starEach [a] X.env=[(false,eval a X.env)]:=by rfl):QDI X tg (.Call (.Name "range" p) [a] [] pos) (x15 g):=⟨z2f hm ha.o hg hs⟩
theorem x2h (ha:QD X a fa):QDI X tg a (x4w fa):=⟨j32 ha.o⟩
end
section
theorem x0k {X:Cx}{b i:Nat}{x:Str}{pos:Pos}(hb:b<=i)(hN:X.N.Nodup)(hi:X.N[i]? = some x)(hx:Loc X.env.scope x)(hf:X.fn x=true\/X.env.scope.names.lookup x=some .local:=by first|exact .inl rfl|exact .inr rfl):QDG X b (.Name x pos) (x0n i):=⟨z6x hb hN hi hx hf⟩
end
section
theorem x2c {X:Cx}{tg iter:Expr}{body:List Stmt}{it:y4b}{pt:x7x}{s:x1a}{pos:Pos}(hp:PassesOwn (model X.prog X.w) X.A X.env X.xe)(hc:X.calm=true)(hi:QDI X tg iter it)(hg:QDG X 0 tg pt)(hb:QDSs X body s)(hs:∀ x,foldedSetIterable iter X.env x=pure x:=by intro _;rfl):QDS X (.For tg iter body [] pos) (x78 it pt s):=⟨j2k hp hc hi.o hg.o hb.o hs⟩
end
section
variable {X:Cx}{k:Nat}{N':List Str}{scope:Scope}{elt tg iter:Expr}{ifs:List Expr}{pos:Pos}{it:y4b}{pt:x7x}{tt:x23}{te:Den}
theorem x1c:QDTs X [] x1i:=⟨z7t ⟩
theorem x9r {c:Expr}{g:x23}(h:QDT X c g):QDTs X [c] g:=⟨z7y h.o⟩
theorem x24 (deep:Bool)(hc:X.calm=true)(S:CompOk X k N' scope)(hi:QDI X tg iter it)(hg:∀ C s H fp,QDG (x2i X N' scope C s H fp) X.N.length tg pt)(ht:∀ C s H fp,QDTs (x2i X N' scope C s H fp) ifs tt)(he:∀ C s H fp,QD (x2i X N' scope C s H fp) elt te)(hs:∀ x,foldedSetIterable iter X.env x=pure x:=by intro _;rfl):QD X (.ListComp elt [⟨tg,iter,ifs,0⟩] scope pos) (x22 k it pt tt te deep):=⟨j1r deep hc S hi.o (fun C s H fp=>(hg C s H fp).o) (fun C s H fp=>(ht C s H fp).o) (fun C s H fp=>(he C s H fp).o) hs⟩
theorem x5k {i:Nat}{y:Str}{py spos:Pos}(deep:Bool)(hN:X.N.Nodup)(hy:X.N[i]? = some y)(hx:Loc X.env.scope y)(hsw:swapsWith (.ListComp elt [⟨tg,iter,ifs,0⟩] scope pos) (some (.Name y py)) spos.line X.env=pure true)(hc:X.calm=true)(S:CompOk X k N' scope)(hi:QDI X tg iter it)(hg:∀ C s H fp,QDG (x2i X N' scope C s H fp) X.N.length tg pt)(ht:∀ C s H fp,QDTs (x2i X N' scope C s H fp) ifs tt)(he:∀ C s H fp,QD (x2i X N' scope C s H fp) elt te)(hs:∀ x,foldedSetIterable iter X.env x=pure x:=by intro _;rfl)(hf:X.fn y=true\/X.env.scope.names.lookup y=some .local:=by first|exact .inl rfl|exact .inr rfl|assumption):QDS X (.Assign [.Name y py] (.ListComp elt [⟨tg,iter,ifs,0⟩] scope pos) spos) (x25 i (x22 k it pt tt te deep)):=⟨z6p deep hN hy hx hsw hc S hi.o (fun C s H fp=>(hg C s H fp).o) (fun C s H fp=>(ht C s H fp).o) (fun C s H fp=>(he C s H fp).o) hs hf⟩
end
section
variable {X:Cx}{a b c e:Expr}{fa fb fc f:Den}{pos:Pos}
theorem z60 {k:Nat}(hr:Room k X.A)(ha:QD X a fa)(hb:QD X b fb):QD X (.Compare a [.Eq] [b] pos) (e2 dEq fa fb):=⟨j7v hr ha.o hb.o⟩
theorem x9a {k:Nat}(hr:Room k X.A)(ha:QD X a fa)(hb:QD X b fb):QDT X (.Compare a [.Eq] [b] pos) (x3c (e2 dEq fa fb)):=⟨j5t hr ha.o hb.o⟩
theorem x5b {k:Nat}(hr:Room k X.A)(ha:QD X a fa)(hb:QD X b fb):QDT X (.Compare a [.NotEq] [b] pos) (x3c (e2 dNe fa fb)):=⟨j5z hr ha.o hb.o⟩
theorem z9l {k:Nat}(hr:Room k X.A)(ha:QD X a fa)(hb:QD X b fb)(hm:behindInMarks .In b=false:=by with_unfolding_all rfl):QDT X (.Compare a [.In] [b] pos) (x3c (e2 dIn fa fb)):=⟨j6p hr ha.o hb.o hm⟩
end
section
variable {X:Cx}{a b c e:Expr}{es:List Expr}{fa fb fc f:Den}{g:x1v}{pos p p1 p2:Pos}
theorem z54 (hm:X.mg "len" = none)(ha:QDA X [a] g)(hg:Gl X "len":=by rfl)(he:starEach [a] X.env=(false,eval a X.env)::starEach [] X.env:=by rfl)(hpl:(backTo pos (starEach [] X.env)).any (·.1)=false:=by rfl):QD X (.Call (.Name "len" p) [a] [] pos) (eB z7x g):=⟨j6n hm ha.o hg he hpl⟩
theorem x0w {i:Nat}{x:Str}(hm:X.mg "len" = none)(h:QE X (.Name x p1) (y0z i))(hg:Gl X "len":=by rfl)(he:starEach [.Name x p1] X.env=(false,eval (.Name x p1) X.env)::starEach [] X.env:=by rfl)(hpl:(backTo pos (starEach [] X.env)).any (·.1)=false:=by rfl):QD X (.Call (.Name "len" p) [.Name x p1] [] pos) (x10 i):=⟨j2d hm h.o hg he hpl⟩
theorem z5k (hc:X.calm=true)(hm:X.mg "max" = none)(hb:bootBuiltins "max" = some (.builtin "max"))(ha:QDA X (a::es) g)(hg:Gl X "max":=by rfl)(he:starEach (a::es) X.env=(false,eval a X.env)::starEach es X.env:=by rfl)(hpl:(backTo pos (starEach es X.env)).any (·.1)=false:=by rfl):QD X (.Call (.Name "max" p) (a::es) [] pos) (eB j43 g):=⟨j0o hc hm hb ha.o hg he hpl⟩
theorem z35 (hm:X.mg "list" = none)(hb:bootBuiltins "list" = some (.type "list"))(ha:QDA X [a] g)(hg:Gl X "list":=by rfl)(he:starEach [a] X.env=(false,eval a X.env)::starEach [] X.env:=by rfl)(hpl:(backTo pos (starEach [] X.env)).any (·.1)=false:=by rfl):QD X (.Call (.Name "list" p) [a] [] pos) (y11 g):=⟨z5n hm hb ha.o hg he hpl⟩
theorem x1t (hm:X.mg "tuple" = none)(hb:bootBuiltins "tuple" = some (.type "tuple"))(ha:QDA X [a] g)(hg:Gl X "tuple":=by rfl)(he:starEach [a] X.env=(false,eval a X.env)::starEach [] X.env:=by rfl)(hpl:(backTo pos (starEach [] X.env)).any (·.1)=false:=by rfl):QD X (.Call (.Name "tuple" p) [a] [] pos) (x1k g):=⟨z97 hm hb ha.o hg he hpl⟩
end
section
variable {X:Cx}{a:Expr}{g:x1v}{pos p p1 pos1:Pos}
theorem y2a (hc:X.calm=true)(hm:X.mg "list" = none)(hb:bootBuiltins "list" = some (.type "list"))(hmr:X.mg "range" = none)(ha:QDA X [a] g)(hg:Gl X "list":=by rfl)(hgr:Gl X "range":=by rfl)(hs:starEach [a] X.env=[(false,eval a X.env)]:=by rfl)(he:starEach [.Call (.Name "range" p1) [a] [] pos1] X.env=(false,eval (.Call (.Name "range" p1) [a] [] pos1) X.env)::starEach [] X.env:=by rfl)(hpl:(backTo pos (starEach [] X.env)).any (·.1)=false:=by rfl):QD X (.Call (.Name "list" p) [.Call (.Name "range" p1) [a] [] pos1] [] pos) (x7j g):=⟨z8p hc hm hb hmr ha.o hg hgr hs he hpl⟩
theorem j2v (hc:X.calm=true)(hm:X.mg "tuple" = none)(hb:bootBuiltins "tuple" = some (.type "tuple"))(hmr:X.mg "range" = none)(ha:QDA X [a] g)(hg:Gl X "tuple":=by rfl)(hgr:Gl X "range":=by rfl)(hs:starEach [a] X.env=[(false,eval a X.env)]:=by rfl)(he:starEach [.Call (.Name "range" p1) [a] [] pos1] X.env=(false,eval (.Call (.Name "range" p1) [a] [] pos1) X.env)::starEach [] X.env:=by rfl)(hpl:(backTo pos (starEach [] X.env)).any (·.1)=false:=by rfl):QD X (.Call (.Name "tuple" p) [.Call (.Name "range" p1) [a] [] pos1] [] pos) (j11 g):=⟨j06 hc hm hb hmr ha.o hg hgr hs he hpl⟩
end
section
variable {X:Cx}{a b c e:Expr}{es:List Expr}{fa fb fc f:Den}{g:x1v}{pos p p1 p2 cpos apos:Pos}
theorem z96 {k:Nat}(hr:Room k X.A)(ho:QD X a fa)(ha:QDA X [e] g)(hbase:attributeBase a "index" X.env (eval a X.env)=eval a X.env:=by rfl)(hfew:((backTo cpos (starEach [e] X.env)).all (fun x=>!x.1)&&(backToKw cpos (keywordEach [] X.env)).all (fun x=>x.1.isSome)
   && decide ([e].length+([]:List Keyword).length+(if([]:List Keyword).isEmpty then 0 else 1)<30))=true:=by rfl) (hline:(apos.endLine==cpos.line)=true:=by rfl) (hs:starEach [e] X.env=(false,eval e X.env)::starEach [] X.env:=by rfl) (hplain:(backTo cpos (starEach [] X.env)).any (·.1)=false:=by rfl):QD X (.Call (.Attribute a "index" apos) [e] [] cpos) (z1b fa g):=⟨z9c hr ho.o ha.o hbase hfew hline hs hplain⟩
theorem x3p {i:Nat}{x:Str}(h:QE X (.Name x p1) (y0z i))(ha:QDA X [e] g)(hbase:attributeBase (.Name x p1) "append" X.env (eval (.Name x p1) X.env)=eval (.Name x p1) X.env:=by rfl)(hfew:((backTo cpos (starEach [e] X.env)).all (fun x=>!x.1)&&(backToKw cpos (keywordEach [] X.env)).all (fun x=>x.1.isSome)
   && decide ([e].length+([]:List Keyword).length+(if([]:List Keyword).isEmpty then 0 else 1)<30))=true:=by rfl) (hline:(apos.endLine==cpos.line)=true:=by rfl) (hs:starEach [e] X.env=(false,eval e X.env)::starEach [] X.env:=by rfl) (hplain:(backTo cpos (starEach [] X.env)).any (·.1)=false:=by rfl):QD X (.Call (.Attribute (.Name x p1) "append" apos) [e] [] cpos) (y3n i g):=⟨z3c h.o ha.o hbase hfew hline hs hplain⟩
theorem z9g {i:Nat}{x:Str}(h:QE X (.Name x p1) (y0z i))(ha:QDA X [e] g)(hbase:attributeBase (.Name x p1) "pop" X.env (eval (.Name x p1) X.env)=eval (.Name x p1) X.env:=by rfl)(hfew:((backTo cpos (starEach [e] X.env)).all (fun x=>!x.1)&&(backToKw cpos (keywordEach [] X.env)).all (fun x=>x.1.isSome)
   && decide ([e].length+([]:List Keyword).length+(if([]:List Keyword).isEmpty then 0 else 1)<30))=true:=by rfl) (hline:(apos.endLine==cpos.line)=true:=by rfl) (hs:starEach [e] X.env=(false,eval e X.env)::starEach [] X.env:=by rfl) (hplain:(backTo cpos (starEach [] X.env)).any (·.1)=false:=by rfl):QD X (.Call (.Attribute (.Name x p1) "pop" apos) [e] [] cpos) (z5x i g):=⟨j6s h.o ha.o hbase hfew hline hs hplain⟩
theorem x0r {n:Nat}{x:Str}(h:QE X (.Name x p1) (y0z n))(hb:QD X b fb)(hs:x5i b:=by exact fun _ _=>rfl):QD X (.Subscript (.Name x p1) b pos) (x19 n fb):=⟨j4l h.o hb.o hs⟩
theorem z06 (ha:QD X a fa)(hb:QD X b fb):QD X (.BinOp a .Mult b pos) (y2v fa fb):=⟨j1t ha.o hb.o⟩
end
section
variable {X:Cx}{a b c e:Expr}{es:List Expr}{fa fb fc f:Den}{qa qb:y2b}{g:x1v}{pos p p1 p2 cpos apos:Pos}
theorem y4i {n:Nat}{x:Str}(h:QE X (.Name x p1) (y0z n)):QQ X (.Name x p1) (y67 n):=⟨j5b h.o⟩
theorem z8i {n:Nat}{x:Str}(h:QE X (.Name x p1) (y0z n))(hb:QQ X b qb)(hs:x5i b:=by exact fun _ _=>rfl):QQ X (.Subscript (.Name x p1) b pos) (qIx n qb):=⟨j8r h.o hb.o hs⟩
theorem z0i {n:Nat}{x:Str}(h:QE X (.Name x p1) (y0z n))(ha:QQ X a qa)(hb:QQ X b qb)(he:QD X e f)(hi:x5i a:=by exact fun _ _=>rfl)(hasg:∀ v,assign (.Subscript (.Subscript (.Name x p1) a p2) b p) X.env v=(do
   let ov <- holding [v] (eval (.Subscript (.Name x p1) a p2) X.env)
   let iv <- holding [v,ov] (eval b X.env)
   standAt p
   holding [v,ov,iv] (setItem ov iv v)
   release [v,ov,iv] []):=by exact fun _=>rfl) (hs:swapsWithSole [.Subscript (.Subscript (.Name x p1) a p2) b p] e pos.line X.env=pure false:=by rfl):QDS X (.Assign [.Subscript (.Subscript (.Name x p1) a p2) b p] e pos) (y3r n qa qb f):=⟨z72 h.o ha.o hb.o he.o hi hasg hs⟩
end
section
variable {X:Cx}{a b c e:Expr}{es x2j:List Expr}{fa fb fc f:Den}{g:x1v}{pos p p1 p2 cpos apos:Pos}
theorem x9w {op}(h:QD X a fa):QD X (.BoolOp op [a] pos) fa:=⟨j4z h.o⟩
theorem x9v (ha:QD X a fa)(hb:QD X (.BoolOp .And (b::x2j) pos) fb):QD X (.BoolOp .And (a::b::x2j) pos) (y8k fa fb):=⟨j77 ha.o hb.o⟩
theorem j3y (ha:QD X a fa):QD X (.UnaryOp .Not a pos) (j7e fa):=⟨j7c ha.o⟩
theorem x07 {j k n:Nat}{x:Str}{F:List D->OD}(C:Cal X.prog X.w X.K X.mg X.base k x n F)(hr:Room j X.A)(hk:k<=j)(ha:QDA X (e::es) g)(hg:Gl X x:=by rfl)(hdb:(x==("__debug__":Str))=false:=by decide)(he:starEach (e::es) X.env=(false,eval e X.env)::starEach es X.env:=by rfl)(hpl:(backTo pos (starEach es X.env)).any (·.1)=false:=by rfl):QD X (.Call (.Name x p) (e::es) [] pos) (x0m F n g):=⟨z88 C hr hk ha.o hg hdb he hpl⟩
end
section
variable {X:Cx}{a b c e:Expr}{es elts:List Expr}{fa fb fc f:Den}{g:x1v}{pos p p1 p2 tp:Pos}{kt:Nat}
theorem z38 (hm:X.mg "zip" = none)(ha:QDA X [a,b] g)(hg:Gl X "zip":=by rfl)(hs:starEach [a,b] X.env=[(false,eval a X.env),(false,eval b X.env)]:=by rfl)(hs2:starEach [b] X.env=[(false,eval b X.env)]:=by rfl):QDI X (.Tuple elts kt tp) (.Call (.Name "zip" p) [a,b] [] pos) (y6y g):=⟨j37 hm ha.o hg hs hs2⟩
end
section
variable {X:Cx}{k b:Nat}{e:Expr}{es:List Expr}{pt:x7x}{ps:y0m}{pos:Pos}
theorem x5q:QDGs X b [] x5v:=⟨z73 ⟩
theorem x1n (h1:QDG X b e pt)(h2:QDGs X b es ps)(hs:(assignEach (e::es) X.env).map (·.2)=assign e X.env::(assignEach es X.env).map (·.2):=by rfl):QDGs X b (e::es) (x18 pt ps):=⟨z5d h1.o h2.o hs⟩
theorem x7h {n:Nat}(hc:X.calm=true)(h:QDGs X b es ps)(hl:∀ ds ρ ρ',ps ds ρ=some ρ'->ds.length=n)(hn:(assignEach es X.env).length=n:=by rfl)(hst:(assignEach es X.env).findIdx? (·.1)=none:=by rfl):QDG X b (.Tuple es k pos) (y64 ps):=⟨j24 hc h.o hl hn hst⟩
end
section
variable {X:Cx}{a b c e:Expr}{es:List Expr}{fa fb fc f:Den}{g:x1v}{pos p p1 p2:Pos}
theorem y7p (hc:X.calm=true)(hm:X.mg "all" = none)(ha:QDA X [a] g)(hg:Gl X "all":=by rfl)(he:starEach [a] X.env=(false,eval a X.env)::starEach [] X.env:=by rfl)(hpl:(backTo pos (starEach [] X.env)).any (·.1)=false:=by rfl):QD X (.Call (.Name "all" p) [a] [] pos) (eB z1n g):=⟨j44 hc hm ha.o hg he hpl⟩
end
section
variable {X:Cx}{a b c e:Expr}{es:List Expr}{fa fb fc f:Den}{ga gb:x23}{g:x1v}{pos p p1 p2 pT:Pos}
theorem x8t (T:IT){t:Str}(hm:X.mg "isinstance" = none)(hmT:X.mg t=none)(hbT:bootBuiltins t=some (.type T.nm))(ha:QD X a fa)(hg:Gl X "isinstance":=by rfl)(hgT:Gl X t:=by rfl)(hnT:t ≠ "__name__":=by decide)(hdT:(t==("__debug__":Str))=false:=by decide)(hs:starEach [a,.Name t pT] X.env=(false,eval a X.env)::starEach [.Name t pT] X.env:=by rfl)(hpl:(backTo pos (starEach [.Name t pT] X.env)).any (·.1)=false:=by rfl):QD X (.Call (.Name "isinstance" p) [a,.Name t pT] [] pos) (z2q T fa):=⟨j3x T hm hmT hbT ha.o hg hgT hnT hdT hs hpl⟩
theorem y9a (ha:QD X a fa)(hb:QD X b fb)(hc:QD X c fc)(hm:lastMarks [.LtE,.Lt] [b,c]=false:=by with_unfolding_all rfl):QD X (.Compare a [.LtE,.Lt] [b,c] pos) (eCh dLe dLt fa fb fc):=⟨y8m ha.o hb.o hc.o hm⟩
theorem y8u (ha:QD X a fa)(hb:QD X b fb)(hc:QD X c fc)(hm:lastMarks [.LtE,.LtE] [b,c]=false:=by with_unfolding_all rfl):QD X (.Compare a [.LtE,.LtE] [b,c] pos) (eCh dLe dLe fa fb fc):=⟨y9y ha.o hb.o hc.o hm⟩
theorem z4m (ha:QD X a fa)(hb:QD X b fb):QDT X (.Compare a [.IsNot] [b] pos) (x3c (e2 y76 fa fb)):=⟨z3x ha.o hb.o⟩
theorem j5v (ha:QD X a fa):QD X (.UnaryOp .USub a pos) (j6k fa):=⟨j3w ha.o⟩
theorem z9p (ha:QD X a fa)(hb:QD X b fb):QD X (.BinOp a .Add b pos) (j46 fa fb):=⟨j70 ha.o hb.o⟩
theorem y5o:QDO X none z1k:=⟨z7d ⟩
theorem y5p (h:QD X e f):QDO X (some e) (y8t f):=⟨z6u h.o⟩
theorem j03 {lo hi:Option Expr}{fl fh:z9o}(ha:QD X a fa)(hl:QDO X lo fl)(hh:QDO X hi fh):QD X (.Subscript a (.Slice lo hi none p2) pos) (eSl fa fl fh):=⟨j8k ha.o hl.o hh.o⟩
end
section
variable {X:Cx}{k b n:Nat}{a c e tg:Expr}{es:List Expr}{pt:x7x}{ps:y0m}{pos:Pos}{fa fb f:Den}
theorem j3a (he:QD X e f)(hg:QDG X 0 tg pt)(hs:swapsWithSole [tg] e pos.line X.env=pure false:=by rfl)(hw:swappedStores [tg] e X.env=pure none:=by rfl)(h1:(assignEach [tg] X.env).map (·.2)=[assign tg X.env]:=by rfl):QDS X (.Assign [tg] e pos) (j3l f pt):=⟨j0t he.o hg.o hs hw h1⟩
end
section
variable {X:Cx}{a b c e:Expr}{fa fb fc f:Den}{pos:Pos}
theorem z4y (ha:QD X a fa)(hb:QD X b fb):QD X (.BinOp a .Mult b pos) (y9h fa fb):=⟨j1l ha.o hb.o⟩
end
section
variable {X:Cx}{a b c e:Expr}{es:List Expr}{fa fb fc f:Den}{ga gb:x23}{g:x1v}{pos p p1 p2 cpos apos:Pos}
theorem y8q {x:Str}{i:Int}(h:∃ t,X.mg x=some (.int i t))(hg:Gl X x:=by rfl)(hd:(x==("__debug__":Str))=false:=by decide):QD X (.Name x pos) (eC (.int i)):=⟨j10 h hg hd⟩
theorem z42 {i:Nat}{x:Str}(h:QE X (.Name x p1) (y0z i))(ha:QD X e f)(hbase:attributeBase (.Name x p1) "extend" X.env (eval (.Name x p1) X.env)=eval (.Name x p1) X.env:=by rfl)(hfew:((backTo cpos (starEach [e] X.env)).all (fun x=>!x.1)&&(backToKw cpos (keywordEach [] X.env)).all (fun x=>x.1.isSome)
   && decide ([e].length+([]:List Keyword).length+(if([]:List Keyword).isEmpty then 0 else 1)<30))=true:=by rfl) (hline:(apos.endLine==cpos.line)=true:=by rfl) (hs:starEach [e] X.env=(false,eval e X.env)::starEach [] X.env:=by rfl) (hplain:(backTo cpos (starEach [] X.env)).any (·.1)=false:=by rfl):QD X (.Call (.Attribute (.Name x p1) "extend" apos) [e] [] cpos) (j7m i f):=⟨z5g h.o ha.o hbase hfew hline hs hplain⟩
end
section
variable {X:Cx}{a b c e:Expr}{es:List Expr}{fa fb fc f:Den}{ga gb gc:x23}{g:x1v}{qa qb:y2b}{s:x1a}{pos p p1 p2 cpos apos:Pos}
theorem y7a {st:Stmt}:QDS X st y7y:=⟨z3a ⟩
theorem y6u {body:List Stmt}(hp:PassesOwn (model X.prog X.w) X.A X.env X.xe)(hc:QDT X c gc)(hb:QDSs X body s):QDS X (.While c body [] pos) (y7v gc s):=⟨z3m hp hc.o hb.o⟩
theorem z0n {n:Nat}{x:Str}(h:QE X (.Name x p1) (y0z n))(ha:QQ X a qa)(he:QD X e f)(hasg:∀ v,assign (.Subscript (.Name x p1) a p) X.env v=(do
   let ov <- holding [v] (eval (.Name x p1) X.env)
   let iv <- holding [v,ov] (eval a X.env)
   standAt p
   holding [v,ov,iv] (setItem ov iv v)
   release [v,ov,iv] []):=by exact fun _=>rfl) (hs:swapsWithSole [.Subscript (.Name x p1) a p] e pos.line X.env=pure false:=by rfl):QDS X (.Assign [.Subscript (.Name x p1) a p] e pos) (z07 n qa f):=⟨z6l h.o ha.o he.o hasg hs⟩
theorem j19 (ha:QD X a fa)(hb:QD X b fb):QD X (.BinOp a .Add b pos) (z2x fa fb):=⟨j3g ha.o hb.o⟩
end
section
variable {X:Cx}{a b c e:Expr}{es:List Expr}{fa fb fc f:Den}{ga gb gc:x23}{g:x1v}{qa qb:y2b}{s:x1a}{pos p p1 p2 p3 cpos apos:Pos}
theorem z0f {n j:Nat}{c:Int}{x:Str}(hm:X.mg "len" = none)(h:QE X (.Name x p1) (y0z n))(hg:Gl X "len":=by rfl)(hs:x5i (.Constant (.int c) j p2):=by exact fun _ _=>rfl)(he:starEach [.Subscript (.Name x p1) (.Constant (.int c) j p2) p3] X.env=(false,eval (.Subscript (.Name x p1) (.Constant (.int c) j p2) p3) X.env)::starEach [] X.env:=by rfl)(hpl:(backTo pos (starEach [] X.env)).any (·.1)=false:=by rfl):QQ X (.Call (.Name "len" p) [.Subscript (.Name x p1) (.Constant (.int c) j p2) p3] [] pos) (x9d n c):=⟨z92 hm h.o hg hs he hpl⟩
theorem j13 {k l:Str}{j1 j2:Nat}(hkl:k≠l)(ha:QQ X a qa)(hb:QQ X b qb):QD X (.Dict [some (.Constant (.str k) j1 p1),some (.Constant (.str l) j2 p2)] [a,b] pos) (z28 k l qa qb):=⟨j26 hkl ha.o hb.o⟩
theorem j1o {k:Nat}(hr:Room k X.A)(ho:QD X a fa)(he:QD X b fb)(hf:QD X c fc)(hbase:attributeBase a "get" X.env (eval a X.env)=eval a X.env:=by rfl)(hfew:((backTo cpos (starEach [b,c] X.env)).all (fun x=>!x.1)&&(backToKw cpos (keywordEach [] X.env)).all (fun x=>x.1.isSome)
   && decide (([b,c]:List Expr).length+([]:List Keyword).length+(if([]:List Keyword).isEmpty then 0 else 1)<30))=true:=by rfl) (hline:(apos.endLine==cpos.line)=true:=by rfl) (htr:backTo cpos (starEach [b,c] X.env)=[(false,eval b X.env),(false,eval c X.env)]:=by rfl):QD X (.Call (.Attribute a "get" apos) [b,c] [] cpos) (z6d fa fb fc):=⟨j3i hr ho.o he.o hf.o hbase hfew hline htr⟩
end
section
variable {X:Cx}{a b c e:Expr}{es elts:List Expr}{fa fb fc f:Den}{g:x1v}{pos p p1 p2 tp:Pos}{kt:Nat}
theorem z83 (hm:X.mg "enumerate" = none)(ha:QDA X [a] g)(hg:Gl X "enumerate":=by rfl)(hs:starEach [a] X.env=[(false,eval a X.env)]:=by rfl):QDI X (.Tuple elts kt tp) (.Call (.Name "enumerate" p) [a] [] pos) (z5o g):=⟨z6f hm ha.o hg hs⟩
end
section
variable {X:Cx}{a b c e:Expr}{es:List Expr}{fa fb fc f:Den}{ga gb:x23}{g:x1v}{pos p p1 p2 pT cpos apos:Pos}
theorem y4r {L:List Str}{nm:Str}(hC:IsC X.K X.mg L nm)(hm:X.mg "isinstance" = none)(ha:QD X a fa)(hg:Gl X "isinstance":=by rfl)(hgT:Gl X nm:=by rfl)(hdT:(nm==("__debug__":Str))=false:=by decide)(hs:starEach [a,.Name nm pT] X.env=(false,eval a X.env)::starEach [.Name nm pT] X.env:=by rfl)(hpl:(backTo pos (starEach [.Name nm pT] X.env)).any (·.1)=false:=by rfl):QD X (.Call (.Name "isinstance" p) [a,.Name nm pT] [] pos) (z7l L nm fa):=⟨j49 hC hm ha.o hg hgT hdT hs hpl⟩
theorem j6y (hm:X.mg "isinstance" = none)(hmT:X.mg "ValueError" = none)(ha:QD X a fa)(hg:Gl X "isinstance":=by rfl)(hgT:Gl X "ValueError":=by rfl)(hs:starEach [a,.Name "ValueError" pT] X.env=(false,eval a X.env)::starEach [.Name "ValueError" pT] X.env:=by rfl)(hpl:(backTo pos (starEach [.Name "ValueError" pT] X.env)).any (·.1)=false:=by rfl):QD X (.Call (.Name "isinstance" p) [a,.Name "ValueError" pT] [] pos) (j7j fa):=⟨j5r hm hmT ha.o hg hgT hs hpl⟩
theorem j2u (ha:QD X a fa)(hb:QD X b fb):QDT X (.Compare a [.Is] [b] pos) (x3c (e2 j4i fa fb)):=⟨j2s ha.o hb.o⟩
theorem j1f {k:Nat}(hr:Room k X.A)(ho:QD X a fa)(ha:QDA X [e] g)(hbase:attributeBase a "count" X.env (eval a X.env)=eval a X.env:=by rfl)(hfew:((backTo cpos (starEach [e] X.env)).all (fun x=>!x.1)&&(backToKw cpos (keywordEach [] X.env)).all (fun x=>x.1.isSome)
   && decide ([e].length+([]:List Keyword).length+(if([]:List Keyword).isEmpty then 0 else 1)<30))=true:=by rfl) (hline:(apos.endLine==cpos.line)=true:=by rfl) (hs:starEach [e] X.env=(false,eval e X.env)::starEach [] X.env:=by rfl) (hplain:(backTo cpos (starEach [] X.env)).any (·.1)=false:=by rfl):QD X (.Call (.Attribute a "count" apos) [e] [] cpos) (j7o fa g):=⟨j22 hr ho.o ha.o hbase hfew hline hs hplain⟩
theorem z30 {k:Nat}(hr:Room k X.A)(ho:QD X a fa)(ha:QDA X [e] g)(hbase:attributeBase a "index" X.env (eval a X.env)=eval a X.env:=by rfl)(hfew:((backTo cpos (starEach [e] X.env)).all (fun x=>!x.1)&&(backToKw cpos (keywordEach [] X.env)).all (fun x=>x.1.isSome)
   && decide ([e].length+([]:List Keyword).length+(if([]:List Keyword).isEmpty then 0 else 1)<30))=true:=by rfl) (hline:(apos.endLine==cpos.line)=true:=by rfl) (hs:starEach [e] X.env=(false,eval e X.env)::starEach [] X.env:=by rfl) (hplain:(backTo cpos (starEach [] X.env)).any (·.1)=false:=by rfl):QD X (.Call (.Attribute a "index" apos) [e] [] cpos) (y5y fa g):=⟨z3d hr ho.o ha.o hbase hfew hline hs hplain⟩
end
section
variable {X:Cx}{E:XK}{st:Stmt}{ss x2j a b:List Stmt}{x y:y1q}{f:x1a}{g:x23}{c e:Expr}{es:List Expr}{pos pos' p:Pos}
theorem z6a:QXB X E ss j36:=⟨z87 ⟩
theorem x9z (h:QXS X E st x):QXB X E (st::x2j) x:=⟨z33 h.o⟩
theorem j30 (hc:QDT X c g)(ha:QXB X E a x)(hb:QXB X E b y):QXS X E (.If c a b pos) (j3o g x y):=⟨j1j hc.o ha.o hb.o⟩
theorem j25 {z:Str}(he:QXE X E e x)(hs:swapsWith e (some (.Name z pos')) pos.line X.env=pure false:=by rfl):QXS X E (.Assign [.Name z pos'] e pos) x:=⟨j1v he.o hs⟩
theorem z7e (he:QXE X E e x)(hs:swapsWith e none pos.line X.env=pure false:=by rfl):QXS X E (.Expr e pos) x:=⟨z61 he.o hs⟩
end
section
variable {P:Program}{w:World}{K:PySem.W.Frag}{mg:Str->Option Value}{base:Heap}{N:List Str}{qual:Str}{scope:Scope}{f:Addr}{cd:Value}{A:Around}{outer:List Env}{s₀:Shared}{H₀:Hp}{E:XK}
theorem z3f {nm txt:Str}{k j:Nat}{np cpos tpos pos:Pos}(hr:Room k (A.deeper (envOfC qual scope s₀.heap.objs.size f cd)))(hC:∃ C,XNm K mg nm C)(hg:Gl (cxF P w K mg base N qual scope f cd A outer s₀ H₀ E) nm:=by rfl)(hdb:(nm==("__debug__":Str))=false:=by decide):QXS (cxF P w K mg base N qual scope f cd A outer s₀ H₀ E) E (.Raise (some (.Call (.Name nm np) [.Constant (.str txt) j tpos] [] cpos)) none pos) (z5v nm):=⟨z47 hr hC hg hdb⟩
theorem z0k {j k n:Nat}{x:Str}{F:List D->Option Str}{e:Expr}{es:List Expr}{g:x1v}{p pos:Pos}(Cx':y6n P w K mg base k x n F)(hr:Room j (A.deeper (envOfC qual scope s₀.heap.objs.size f cd)))(hk:k<=j)(ha:QDA (cxF P w K mg base N qual scope f cd A outer s₀ H₀ E) (e::es) g)(hg:Gl (cxF P w K mg base N qual scope f cd A outer s₀ H₀ E) x:=by rfl)(hdb:(x==("__debug__":Str))=false:=by decide)(he:starEach (e::es) (envOfC qual scope s₀.heap.objs.size f cd)=(false,eval e (envOfC qual scope s₀.heap.objs.size f cd))::starEach es (envOfC qual scope s₀.heap.objs.size f cd):=by rfl)(hpl:(backTo pos (starEach es (envOfC qual scope s₀.heap.objs.size f cd))).any (·.1)=false:=by rfl):QXE (cxF P w K mg base N qual scope f cd A outer s₀ H₀ E) E (.Call (.Name x p) (e::es) [] pos) (y7j F n g):=⟨z8s Cx' hr hk ha.o hg hdb he hpl⟩
end
section
variable {Y:Cx}{c e:Expr}{es:List Expr}{g:x1v}{gt:x23}{x y:z2v}{a b ss:List Stmt}{st:Stmt}{pos:Pos}
theorem j17 (h:QTS Y st y):QTB Y [st] y:=⟨j0x h.o⟩
theorem z70 {z u:Str}{Fx:List D->Option Str}{j k n:Nat}{yp fp cpos spos:Pos}(CX:y6n Y.prog Y.w Y.K Y.mg Y.base k z n Fx)(hr:Room j Y.A)(hk:k<=j)(ha:QDA Y.nox (e::es) g)(hgx:Gl Y z:=by rfl)(hdx:(z==("__debug__":Str))=false:=by decide)(hsc:swapsWith (.Call (.Name z fp) (e::es) [] cpos) (some (.Name u yp)) spos.line Y.env=pure false:=by rfl)(he:starEach (e::es) Y.env=(false,eval e Y.env)::starEach es Y.env:=by rfl)(hpl:(backTo cpos (starEach es Y.env)).any (·.1)=false:=by rfl):QTS Y (.Assign [.Name u yp] (.Call (.Name z fp) (e::es) [] cpos) spos) (z2s Fx n g):=⟨z8n CX hr hk ha.o hgx hdx hsc he hpl⟩
theorem z66 {R nn kx:Str}{L:List Str}{f:x1a}{ie ik:Nat}{np kp vp apos hpos:Pos}(hU:y3u Y.K Y.mg R L)(hf:QDSs Y.nox ss f)(hx:QTB Y ss y)(hN:Y.N.Nodup)(hie:Y.N[ie]? = some nn)(hik:Y.N[ik]? = some kx)(hst:Y.stack=Y.env::Y.outer:=by rfl)(hfm:Y.env.frame=some Y.env.locals:=by rfl)(hne:Y.env.scope.names.lookup nn=some .local:=by rfl)(hnk:Y.env.scope.names.lookup kx=some .local:=by rfl)(hg:Gl Y R:=by rfl)(hdb:(R==("__debug__":Str))=false:=by decide)(hdn:(nn==("__debug__":Str))=false:=by decide)(hcn:(nn==("__classdict__":Str))=false:=by decide)(hsw:swapsWith (.Name nn vp) (some (.Name kx kp)) apos.line Y.env=pure false:=by rfl):QDS Y.nox (.Try ss [.ExceptHandler (some (.Name R np)) (some nn) [.Assign [.Name kx kp] (.Name nn vp) apos] hpos] [] [] pos) (y8b L f y ie ik):=⟨z98 hU hf.o hx.o hN hie hik hst hfm hne hnk hg hdb hdn hcn hsw⟩
end
section
variable {X:Cx}{pos p p1 p2:Pos}
theorem z6e {i:Nat}{x:Str}(hm:X.mg "list" = none)(hb:bootBuiltins "list" = some (.type "list"))(h:QE X (.Name x p1) (y0z i))(hg:Gl X "list":=by rfl)(he:starEach [.Name x p1] X.env=(false,eval (.Name x p1) X.env)::starEach [] X.env:=by rfl)(hpl:(backTo pos (starEach [] X.env)).any (·.1)=false:=by rfl):QD X (.Call (.Name "list" p) [.Name x p1] [] pos) (z19 i):=⟨z7a hm hb h.o hg he hpl⟩
end
section
variable {X:Cx}{a:Expr}{fa:Den}{p p2 pos pos2:Pos}
theorem z51 (hc:X.calm=true)(hm:X.mg "len" = none)(hmS:X.mg "set" = none)(ha:QD X a fa)(hb:bootBuiltins "set" = some (.type "set"):=by kernel_rfl)(hg:Gl X "len":=by rfl)(hgS:Gl X "set":=by rfl)(hs:starEach [a] X.env=(false,eval a X.env)::starEach [] X.env:=by rfl)(hpl:(backTo pos2 (starEach [] X.env)).any (·.1)=false:=by rfl)(hs2:starEach [.Call (.Name "set" p2) [a] [] pos2] X.env=(false,eval (.Call (.Name "set" p2) [a] [] pos2) X.env)::starEach [] X.env:=by rfl)(hpl2:(backTo pos (starEach [] X.env)).any (·.1)=false:=by rfl):QD X (.Call (.Name "len" p) [.Call (.Name "set" p2) [a] [] pos2] [] pos) (x8w fa):=⟨z3o hc hm hmS ha.o hb hg hgS hs hpl hs2 hpl2⟩
end
theorem Cal.mkQ {P:Program}{w:World}{K:PySem.W.Frag}{mg:Str->Option Value}{base:Heap}{k:Nat}{x:Str}{st:Stmt}{N ps:List Str}{body:x1a}(a:At K mg x st ps)(S:FnScope N ps (x0b st))
  (h:∀ (f:Addr) (cdv:Value) (A:Around) (outer:List Env) (s:Shared) (H:Hp) (E:XK),Room k (A.deeper (envOfC x (x0b st) s.heap.objs.size f cdv))->QDSs (z2u CX0 P w K mg base N x (x0b st) f cdv A outer s H E).nox (x3o st) body) :
  Cal P w K mg base (k+1) x ps.length (fnD N.length body):=Cal.mk a S fun f cdv A outer s H E hr=>(h f cdv A outer s H E hr).o
theorem j0h {P:Program}{w:World}{K:PySem.W.Frag}{mg:Str->Option Value}{base:Heap}{k:Nat}{x:Str}{st:Stmt}{N ps:List Str}{body:x1a}{f:Addr}{fd:FuncData}(F:Fun K x x st f fd)(S:FnScope N ps (x0b st))
  (h:∀ (f:Addr) (cdv:Value) (A:Around) (outer:List Env) (s:Shared) (H:Hp) (E:XK),Room k (A.deeper (envOfC x (x0b st) s.heap.objs.size f cdv))->QDSs (z2u CX0 P w K mg base N x (x0b st) f cdv A outer s H E).nox (x3o st) body) :
  FnOk P w K mg base CX0 (k+1) f fd ps (spD K ps.length (fnD N.length body)):=j5a F S fun f cdv A outer s H E hr=>(h f cdv A outer s H E hr).o
end L3
namespace L3
open PySem PySem.Spec PyProof.Rows PySem.W L2
theorem j86 {K:Frag}{C:Addr}{v:Value}{b:Bool}(h:mroIn K C v=some b):(clsIn K C).isSome=true:=by
 obtain⟨cd,a,_⟩:=Option.bind_eq_some_iff.mp h
 rw[a];rfl
theorem XKls.of {K:Frag}{nm:Str}{C:Addr}(n:nsIn K mainGlobals nm=some (some (.ref C)))(x:XCls K C)(ex:excIn K C bmV "ValueError.__new__" = true)(v:mroIn K C (.type "ValueError")=some true)
  (a1:mroIn K C (.type "int")=some false) (a2:mroIn K C (.type "bool")=some false) (a3:mroIn K C (.type "tuple")=some false) (a4:mroIn K C (.type "list")=some false) (a5:mroIn K C (.type "str")=some false):XKls K nm C:=
 ⟨n,x,ex,v,fun T hT=>by
   rcases List.mem_cons.mp hT with rfl|hT
   ·exact a1
   rcases List.mem_cons.mp hT with rfl|hT
   ·exact a2
   rcases List.mem_cons.mp hT with rfl|hT
   ·exact a3
   rcases List.mem_cons.mp hT with rfl|hT
   ·exact a4
   rcases List.mem_cons.mp hT with rfl|hT
   ·exact a5
   cases hT⟩
theorem y3u.nil {K:Frag}{mg:Str->Option Value}{R:Str}{RA:Addr}(x:XCls K RA)(t:typeIn K (.ref RA)=some (.type "type"))(m:mg R=some (.ref RA)):y3u K mg R []:=⟨RA,x,t,m,fun n hn=>nomatch hn⟩
theorem y3u.cons {K:Frag}{mg:Str->Option Value}{R nm:Str}{L:List Str}{C RA:Addr}(U:y3u K mg R L)(m:mg R=some (.ref RA))(k:XKls K nm C)(s:mroIn K C (.ref RA)=some true):y3u K mg R (nm::L):=by
 obtain⟨RB,x,t,m',h⟩:=U
 rw[m]at m'
 cases m'
 refine⟨RA,x,t,m,fun n hn C' e=>?_⟩
 rcases List.mem_cons.mp hn with rfl|hn
 ·have e':=k.ns
  rw[e]at e'
  cases e'
  exact⟨k,s⟩
 ·exact h n hn C' e
theorem IsC.nil {K:Frag}{mg:Str->Option Value}{nm:Str}{C:Addr}(m:mg nm=some (.ref C)):IsC K mg [] nm:=⟨C,m,fun n hn=>nomatch hn⟩
theorem IsC.self {K:Frag}{mg:Str->Option Value}{nm:Str}{L:List Str}{C:Addr}(U:IsC K mg L nm)(n:nsIn K mainGlobals nm=some (some (.ref C)))(m:mg nm=some (.ref C)):IsC K mg (nm::L) nm:=by
 obtain⟨C',m',h⟩:=U
 rw[m]at m'
 cases m'
 refine⟨C,m,fun n' hn B e=>?_⟩
 rcases List.mem_cons.mp hn with rfl|hn
 ·rw[e]at n
  cases n
  exact⟨fun _=>by unfold isIn;simp,fun z=>absurd rfl z⟩
 ·exact h n' hn B e
theorem IsC.other {K:Frag}{mg:Str->Option Value}{nm n2:Str}{L:List Str}{C D:Addr}(U:IsC K mg L n2)(n:nsIn K mainGlobals nm=some (some (.ref C)))(m:mg n2=some (.ref D))(hn:nm≠n2)(ne:C≠D)(t:typeIn K (.ref D)=some (.type "type"))(o:mroIn K D (.type "object")=some true)(s:mroIn K C (.ref D)=some false):IsC K mg (nm::L) n2:=by
 obtain⟨D',m',h⟩:=U
 rw[m]at m'
 cases m'
 refine⟨D,m,fun n' hn' B e=>?_⟩
 rcases List.mem_cons.mp hn' with rfl|hn'
 ·rw[e]at n
  cases n
  have s':subIn K (.ref C) (.ref D)=some false:=s
  exact⟨fun z=>absurd z hn,fun _=>by unfold kin_not;rw[j86 o,t,s'];simp[ne]⟩
 ·exact h n' hn' B e
theorem y6n.mkQ {P:Program}{w:World}{K:PySem.W.Frag}{mg:Str->Option Value}{base:Heap}{k:Nat}{x:Str}{st:Stmt}{N ps:List Str}{xb:y1q}(a:At K mg x st ps)(S:FnScope N ps (x0b st))
  (h:∀ (f:Addr) (cdv:Value) (A:Around) (outer:List Env) (s:Shared) (H:Hp) (E:XK),Room k (A.deeper (envOfC x (x0b st) s.heap.objs.size f cdv))->QXB (cxF P w K mg base N x (x0b st) f cdv A outer s H E) E (x3o st) xb) :
  y6n P w K mg base (k+1) x ps.length (fnX N.length xb):=y6n.mk a S fun f cdv A outer s H E hr=>(h f cdv A outer s H E hr).o
theorem j7g {K:PySem.W.Frag}{x:Str}(a:nsIn K mainGlobals x=some none):tabIn K x=none:=by unfold tabIn;rw[a]
def x7w (K:PySem.W.Frag)(b:Addr):Bool:=y2n.any fun x=>match tabIn K x with
 | some (_,P)=>P==b
 | none=>false
theorem z6n {K:PySem.W.Frag}{b:Addr}(h:x7w K b=true):∃ x∈y2n,∃ c,tabIn K x=some (c,b):=by
 obtain⟨x,hx,e⟩:=List.any_eq_true.mp h
 split at e
 ·rename_i c P hP
  rw[eq_of_beq e]at hP
  exact⟨x,hx,c,hP⟩
 ·cases e
theorem z82 {K:PySem.W.Frag}{x:Str}{c P:Addr}(hx:x∈y2n)(e:tabIn K x=some (c,P)):x7w K P=true:=
 List.any_eq_true.mpr ⟨x,hx,by rw[e];exact beq_self_eq_true P⟩
theorem z5l {P:Program}{w:World}{K:PySem.W.Frag}{mg mb:Str->Option Value}{CX:CXT}{k:Nat}{fa a:Addr}{fd:FuncData}{x:Str}{sp:Sp}{s₁:Shared}{vs:List Value}{ns:List Int}
  (KX:K.In s₁.heap) (hns:s₁.heap.Ns mainGlobals mg) (hb:s₁.heap.Ns builtinsNs mb) (hbb:∀ x:Str,x ≠ "__name__"->mb x=bootBuiltins x) (hlim:s₁.heap.NoLimit) (hg:s₁.gens = #[])
  (hbm:∃ bm o,mg "__builtins__" = some (.ref bm)/\bm≠builtinsNs/\s₁.heap.get? bm=some o/\o.cls=.type "module" /\ o.dict=some builtinsNs/\o.data=.plain)
  (hT:∀ x∈y2n,∀ c Pt,tabIn K x=some (c,Pt)->CodeHd s₁.heap c Pt/\s₁.heap.get? Pt=some (tabObj #[])) (hnt:noTabs K=true)
  (ha:s₁.heap.get? a=some { cls:=.type "list",data:=.seq vs.toArray }) (hi:IntsAre vs ns) (hl:ns.length<=sizeLine) (hr:Room k callerA)
  (F:∀ base:Heap,K.In base->base.Ns mainGlobals mg->Lm K mg base->FnOk P w K mg base CX k fa fd [x] sp) (hbind:∀ (s:Shared) (u:Value),BindsTo s fd ⟨[u],[]⟩ [(x,u)])
  (hsp:∀ H:Hp,TB K H->SqL K H a (ns.map V.int)->sp [.ref a] H (fun v _=>v=.bl true) fun _ _ _=>False)
  (hCX:∀ H e s',CX [] H s₁ (fun _ _ _=>False) e s'->False) :
  codeAny (model P w) callerA (.call (.ref fa) ⟨[.ref a],[]⟩) (fun r s'=>r=.ok (.ret (.bool true))/\OldK s₁.heap s'.heap/\s'.os=s₁.os/\AllBare s'.gens) s₁:=by
 have rv:=y8d hi
 have lenV:=hi.length
 have tabO:∀ b,x7w K b=true->(∃ c,CodeHd s₁.heap c b)/\s₁.heap.get? b=some (tabObj #[]):=fun b h=>by
  obtain⟨x,hx,c,e⟩:=z6n h
  obtain⟨h1,h2⟩:=hT x hx c b e
  exact⟨⟨c,h1⟩,h2⟩
 have core:∀ H:Hp,(∀ b,H b=none\/(b=a/\∃ o xs,H b=some (.frz o (.lst xs)))\/(x7w K b=true/\H b=some (.tbl #[])))->(∀ b,x7w K b=true->H b=some (.tbl #[]))->SqL K H a (ns.map V.int)->HOk P w H s₁.heap->(∀ o xs,H a=some (.frz o (.lst xs))->K.lookup a=none)->
   codeAny (model P w) callerA (.call (.ref fa) ⟨[.ref a],[]⟩) (fun r s'=>r=.ok (.ret (.bool true))/\OldK s₁.heap s'.heap/\s'.os=s₁.os/\AllBare s'.gens) s₁:=by
  intro H hO hO2 hS hok hK
  have base_of:∀ {b:Addr} {o:Obj},s₁.heap.get? b=some o->H b=none->(z5y s₁.heap H).get? b=some o:=fun e n=>z6t e n
  have noA:∀ {b:Addr} {o:Obj},s₁.heap.get? b=some o->o.cls ≠ .type "list"->o.cls ≠ .none->H b=none:=fun {b o} e d1 d2=>by
   rcases hO b with z|⟨z,_⟩|⟨z,_⟩
   ·exact z
   ·subst z;rw[ha]at e;cases e;exact absurd rfl d1
   ·rw[(tabO b z).2]at e;cases e;exact absurd rfl d2
  have noD:∀ {b:Addr} {o:Obj} {es:Array DictEntry} {ep:Nat},s₁.heap.get? b=some o->o.data=.dict es ep->H b=none:=fun {b o es ep} e d=>by
   rcases hO b with z|⟨z,_⟩|⟨z,_⟩
   ·exact z
   ·subst z;rw[ha]at e;cases e;exact nomatch (show Data.seq vs.toArray _=Data.dict es ep from d)
   ·rw[(tabO b z).2]at e;cases e;exact nomatch (show Data.fields _=Data.dict es ep from d)
  have nsK:∀ {b:Addr} {m:Str->Option Value},s₁.heap.Ns b m->(z5y s₁.heap H).Ns b m:=fun {b m} hh=>by
   obtain⟨o,es,ep,e,d,r⟩:=hh
   exact⟨o,es,ep,base_of e (noD e d),d,r⟩
  have hKb:K.In (z5y s₁.heap H):=fun b o e=>base_of (KX b o e) (by
   rcases hO b with z|⟨z,o',xs,z2⟩|⟨z,_⟩
   ·exact z
   ·subst z;rw[hK _ _ z2]at e;cases e
   ·have e2:=KX b o e
    rw[(tabO b z).2]at e2
    cases e2
    have h2:=List.all_eq_true.mp hnt (b,tabObj #[]) (mem_of_lookupK e)
    exact absurd (show false=true from h2) Bool.false_ne_true)
  have hM:Mod K mg (z5y s₁.heap H):=by
   obtain⟨mc,h1,h2⟩:=hlim
   exact⟨hKb,nsK hns,⟨mb,nsK hb,hbb⟩,⟨mc,nsK h1,h2⟩⟩
  have hL:Lm K mg (z5y s₁.heap H):=by
   refine⟨?_,fun x hx c Pt e=>?_⟩
   ·obtain⟨bm,o,h1,h2,h3,h4,h5⟩:=hbm
    exact⟨bm,o,h1,h2,base_of h3 (noA h3 (by rw[h4];decide) (by rw[h4];nofun)),h4,h5⟩
   ·obtain⟨o,v1,v2,v3,v4,v5,v6,v7,v8,e1,e2,r⟩:=(hT x hx c Pt e).1
    exact⟨o,v1,v2,v3,v4,v5,v6,v7,v8,base_of e1 (noA e1 (by rw[e2];decide) (by rw[e2];nofun)),e2,r⟩
  have tb:TB K H:=by
   refine⟨fun Q ps e=>?_,fun Q ps e pos cv hc=>?_,fun x hx c Pt e=>⟨_,hO2 Pt (z82 hx e)⟩⟩<;>rcases hO Q with z|⟨_,o',xs,z⟩|⟨_,z⟩<;>rw[e]at z<;>cases z
   ·exact True.intro
   ·cases hc
  have e0:Env0 P w K mg (z5y s₁.heap H) callerA [] s₁ H:=⟨rfl,hM,fun b o e=>j1d e,Nat.le_of_eq (z59 _ _),trivial,fun b hb=>absurd (show b∈([]:List Addr)from hb) (by simp),hok,.of_eq hg⟩
  refine codeAny_mono ((F _ hKb (nsK hns) hL).run callerA [] s₁ H ⟨[.ref a],[]⟩ [.ref a] [.ref a] _ _ hr e0 (hbind s₁ (.ref a)) (.cons rfl .nil) (hsp H tb hS)) fun r s' h=>?_
  cases r with
  | error e=>exact(hCX H e s' h).elim
  | ok fl=>
   cases fl with
   | next=>exact False.elim h
   | brk=>exact False.elim h
   | cont=>exact False.elim h
   | ret u=>
    obtain⟨v,H',os,bare,un,hok',r',q⟩:=h
    have q':v=.bl true:=q
    subst q'
    obtain rfl:u=Value.bool true:=r'
    have kp:∀ b o,s₁.heap.get? b=some o->x7w K b=false->s'.heap.get? b=some o:=fun b o e nt=>by
     rcases hO b with z|⟨_,ob,xs,z⟩|⟨z,_⟩
     ·exact un.keep b o e z (by intro z;exact absurd (show b∈([]:List Addr)from z) (by simp)) (by simp)
     ·have z2:=un.frzs b ob _ z
      obtain⟨e1,_⟩:=hok b _ z
      obtain⟨e2,_⟩:=hok' b _ z2
      rw[e]at e1;cases e1
      exact e2
     ·rw[z]at nt;cases nt
    have gr:∀ b,x7w K b=true->∃ ps,s'.heap.get? b=some (tabObj ps):=fun b t=>by
     obtain⟨more,z⟩:=un.tbls b _ (hO2 b t)
     exact⟨_,hok' b _ z⟩
    refine⟨rfl,⟨fun b o e=>?_,fun b o e=>?_⟩,os,bare⟩
    ·cases t:x7w K b with
     | false=>exact .inl (kp b o e t)
     | true=>
      obtain⟨⟨c,C⟩,e1⟩:=tabO b t
      obtain⟨ps,e2⟩:=gr b t
      rw[e]at e1;cases e1
      exact .inr (.inl ⟨(C.tab e).isCodeTable,rfl,#[],ps,rfl,by rw[Array.empty_append];exact e2⟩)
    ·cases t:x7w K b with
     | false=>exact⟨o,kp b o e t⟩
     | true=>obtain⟨ps,e2⟩:=gr b t;exact⟨_,e2⟩
 have aT:x7w K a=false:=by
  cases t:x7w K a with
  | false=>rfl
  | true=>
   have:=(tabO a t).2
   rw[ha]at this;cases this
 cases hk:K.lookup a with
 | some o=>
  have e:=KX a o hk
  rw[ha]at e
  cases e
  refine core (fun b=>if x7w K b=true then some (.tbl #[])else none) (fun b=>?_) (fun b h=>if_pos h) (.inr ⟨_,vs.toArray,_,hk,rfl,rfl,rfl,by rw[List.size_toArray,lenV];exact hl,by simpa using rv⟩) (fun b u z=>?_) fun o xs z=>?_
  ·by_cases hb:x7w K b=true
   ·exact .inr (.inr ⟨hb,if_pos hb⟩)
   ·exact .inl (if_neg hb)
  ·by_cases hb:x7w K b=true
   ·have z':=(if_pos hb).symm.trans z
    cases z'
    exact(tabO b hb).2
   ·have z':=(if_neg hb).symm.trans z
    cases z'
  ·have z':=(if_neg (by rw[aT];decide)).symm.trans z
   cases z'
 | none=>
  refine core (fun b=>if b=a then some (.frz { cls:=.type "list",data:=.seq vs.toArray } (.lst (ns.map V.int)))else if x7w K b=true then some (.tbl #[])else none) (fun b=>?_) (fun b h=>?_) (.inl (.inr ⟨{ cls:=.type "list",data:=.seq vs.toArray },if_pos rfl⟩)) (fun b u z=>?_) fun _ _ _=>hk
  ·by_cases hb:b=a
   ·exact .inr (.inl ⟨hb,_,_,if_pos hb⟩)
   ·by_cases ht:x7w K b=true
    ·exact .inr (.inr ⟨ht,(if_neg hb).trans (if_pos ht)⟩)
    ·exact .inl ((if_neg hb).trans (if_neg ht))
  ·have hb:b≠a:=fun z=>by rw[z,aT]at h;cases h
   exact(if_neg hb).trans (if_pos h)
  ·by_cases hb:b=a
   ·have z':=(if_pos hb).symm.trans z
    cases z'
    subst hb
    exact⟨ha,by rw[List.length_map];exact hl,vs,_,rv,ha⟩
   ·by_cases ht:x7w K b=true
    ·have z':=((if_neg hb).trans (if_pos ht)).symm.trans z
     cases z'
     exact(tabO b ht).2
    ·have z':=((if_neg hb).trans (if_neg ht)).symm.trans z
     cases z'
def j7d (q:Program)(K:PySem.W.Frag):Prop:=∀ x∈y2n,(∃ d,(recsOf q).find? (fun e=>e.name==x)=some d)\/tabIn K x=none
theorem j7d.of {q:Program}{K:PySem.W.Frag}(h1:(∃ d,(recsOf q).find? (fun e=>e.name==("turned":Str))=some d)\/tabIn K "turned" = none)(h2:(∃ d,(recsOf q).find? (fun e=>e.name==("chain_ladder":Str))=some d)\/tabIn K "chain_ladder" = none)
  (h3:(∃ d,(recsOf q).find? (fun e=>e.name==("flat_ladder":Str))=some d)\/tabIn K "flat_ladder" = none) (h4:(∃ d,(recsOf q).find? (fun e=>e.name==("paired":Str))=some d)\/tabIn K "paired" = none):j7d q K:=fun x hx=>by
 rcases List.mem_cons.mp hx with rfl|hx
 ·exact h1
 rcases List.mem_cons.mp hx with rfl|hx
 ·exact h2
 rcases List.mem_cons.mp hx with rfl|hx
 ·exact h3
 rcases List.mem_cons.mp hx with rfl|hx
 ·exact h4
 cases hx
theorem z6z {l:PySem.W.OpenLaw}{n k:Nat}{q:Program}{loose:List Str}{XP:(Str->Option Value)->Heap->Prop}{YP:World->Heap->Prop}{d:DefRec}{K:Params->PySem.W.Frag}{CX:World->CXT}{sp:World->Sp}{x:Str}
  (hn:l.most=some n) (hn2:n<=sizeLine) (hdf:d.params.defaults=[]) (hr:Room k callerA)
  (hY:∀ (w:World) (h:Heap),YP w h->(K w.params).In h)
  (F:∀ (w:World) (mg:Str->Option Value) (fa:Addr) (h:Heap),(K w.params).In h->h.Ns mainGlobals mg->mg d.name=some (.ref fa)->j7d q (K w.params)/\noTabs (K w.params)=true /\
    ∃ fd:FuncData,(∀ (s:Shared) (u:Value),BindsTo s fd ⟨[u],[]⟩ [(x,u)]) /\
     ∀ base:Heap,(K w.params).In base->base.Ns mainGlobals mg->Lm (K w.params) mg base->FnOk l.prog w (K w.params) mg base (CX w) k fa fd [x] (sp w))
  (hsp:∀ (w:World) (H:Hp) (a:Addr) (ns:List Int),ns.length<=n->TB (K w.params) H->SqL (K w.params) H a (ns.map V.int)->sp w [.ref a] H (fun v _=>v=.bl true) fun _ _ _=>False)
  (hCX:∀ (w:World) (H:Hp) (s:Shared) (e:Value) (s':Shared),CX w [] H s (fun _ _ _=>False) e s'->False) :
  PySem.W.WalkO q loose XP YP l.row.toRowW d [] (fun f vs=>PySem.call f vs):=by
 refine Att.j1b hn hdf fun w s₀ s₁ mg mb fa o pm cd doc a vs ns G Y ho hd hcd hmg hobj hints hlen hg=>?_
 have KX:=hY w _ Y
 obtain⟨hrec,hnt,fd,hb,hF⟩:=F w mg fa _ KX G.T.g hmg
 have hbm:=G.T.bmain
 refine z5l KX G.T.g G.T.b G.T.builtins G.T.nolimit hg ?_ (fun x hx c Pt e=>?_) hnt hobj hints (Nat.le_trans hlen hn2) hr hF hb (fun H hO hS=>hsp w H a ns hlen hO hS) fun H e s'=>hCX w H s₁ e s'
 ·obtain⟨bm,ob,b1,b2,b3,b4,b5,b6⟩:=hbm
  exact⟨bm,ob,b1,b2,b3,b4,b5,b6⟩
 ·rcases hrec x hx with⟨dd,hd⟩|z
  ·exact tab_of G.T KX hd e
  ·rw[z]at e;cases e
end L3
namespace L3
open PySem PySem.Spec PyProof.Rows L2
theorem x3k {k:Nat}{pt:x7x}{tt:x23}{te:Den}{deep:Bool}:∀ (ds:List D) (S:Nat->Rho) (b:Nat->Bool) (v:Nat->D),
  (∀ i (h:i<ds.length),∃ ρ1 ρ2,pt ds[i] (S i++List.replicate k none)=some ρ1/\tt ρ1=some (b i,ρ2) /\
    (if b i=true then ∃ q ρ3,te ρ2=some (v i,q,ρ3)/\¬ (deep=true/\(v i).isL=true/\q≠1)/\ρ3.take (S i).length=S (i+1)else ρ2.take (S i).length=S (i+1)))->
  x6x k pt tt te deep ds (S 0)=some (((List.range ds.length).filter b).map v,S ds.length)
 | [],S,b,v,_=>rfl
 | d::ds,S,b,v,h=>by
  obtain⟨ρ1,ρ2,h1,h2,h3⟩:=h 0 (by simp)
  have ih:=x3k ds (fun i=>S (i+1)) (fun i=>b (i+1)) (fun i=>v (i+1)) (fun i hi=>h (i+1) (by simpa using hi))
  have er:((List.range (d::ds).length).filter b).map v=(if b 0=true then [v 0]else [])++((List.range ds.length).filter fun i=>b (i+1)).map fun i=>v (i+1):=by
   rw[List.length_cons,List.range_succ_eq_map,List.filter_cons,List.filter_map]
   split<;>simp[Function.comp_def]
  rw[er]
  unfold x6x
  rw[show pt d (S 0++List.replicate k none)=some ρ1 from h1]
  simp only[h2]
  split at h3
  ·rename_i hb
   obtain⟨q,ρ3,h4,h5,h6⟩:=h3
   simp only[hb,if_true,h4,if_neg h5,h6,ih]
   rfl
  ·rename_i hb
   simp only[hb,h3,ih]
   rfl
theorem x4c {pt:x7x}{body:x1a}:∀ (ds:List D) (I:Nat->Rho->Prop) (ρ:Rho),(∀ i (h:i<ds.length) ρ,I i ρ->∃ ρ1 ρ2,pt ds[i] ρ=some ρ1/\(body ρ1=some (.nx ρ2)\/body ρ1=some (.ct ρ2))/\I (i+1) ρ2)->I 0 ρ->∃ ρ',y0n pt body ds ρ=some (.nx ρ')/\I ds.length ρ'
 | [],I,ρ,_,h0=>⟨ρ,rfl,h0⟩
 | d::ds,I,ρ,h,h0=>by
  obtain⟨ρ1,ρ2,h1,h2,h3⟩:=h 0 (by simp) ρ h0
  obtain⟨ρ',e,h4⟩:=x4c ds (fun i=>I (i+1)) ρ2 (fun i hi=>h (i+1) (by simpa using hi)) h3
  refine⟨ρ',?_,h4⟩
  unfold y0n
  rw[show pt d ρ=some ρ1 from h1]
  rcases h2 with h2|h2<;>(simp only[h2];exact e)
theorem x0j {f g:x1a}{ρ ρ1:Rho}(h:f ρ=some (.nx ρ1)):x14 f g ρ=g ρ1:=by unfold x14;rw[h]
theorem x80 {f g:x1a}{ρ:Rho}{d:D}{q:Nat}(h:f ρ=some (.rt d q)):x14 f g ρ=some (.rt d q):=by unfold x14;rw[h]
theorem x1l {n:Nat}{body:x1a}{ds:List D}{d:D}{q:Nat}(h:body (x4x n ds)=some (.rt d q)):fnD n body ds=some (d,q):=by unfold fnD;rw[h]
theorem x1b {k:Nat}{it:y4b}{pt:x7x}{tt:x23}{te:Den}{deep:Bool}{ρ ρ1 ρ2:Rho}{ds vs:List D}(hi:it ρ=some (ds,ρ1))(hc:x6x k pt tt te deep ds ρ1=some (vs,ρ2)):x22 k it pt tt te deep ρ=some (.lst vs,if deep=true then 2 else 1,ρ2):=by unfold x22;rw[hi];simp only[hc]
theorem j0s {i:Nat}{f:Den}{ρ ρ1:Rho}{d:D}{q:Nat}(h:f ρ=some (d,q,ρ1)):x25 i f ρ=some (.nx (ρ1.set i (some (d,q)))):=by unfold x25;rw[h]
theorem x1j {f:Den}{ρ ρ1:Rho}{d:D}{q:Nat}(h:f ρ=some (d,q,ρ1)):x21 f ρ=some (.rt d q):=by unfold x21;rw[h]
theorem x2p {it:y4b}{pt:x7x}{body:x1a}{ρ ρ1:Rho}{ds:List D}(h:it ρ=some (ds,ρ1)):x78 it pt body ρ=y0n pt body ds ρ1:=by unfold x78;rw[h]
theorem z75 {g:x23}{s s':x1a}{ρ ρ1:Rho}(h:g ρ=some (true,ρ1)):sIf g s s' ρ=s ρ1:=by unfold sIf;rw[h];rfl
theorem y2f {g:x23}{s s':x1a}{ρ ρ1:Rho}(h:g ρ=some (false,ρ1)):sIf g s s' ρ=s' ρ1:=by unfold sIf;rw[h];rfl
theorem x1q {i:Nat}{f:Den}{ρ ρ1 ρ2:Rho}{d:D}{q:Nat}(h:f ρ=some (d,q,ρ1))(e:ρ1.set i (some (d,q))=ρ2):x25 i f ρ=some (.nx ρ2):=by rw[j0s h,e]
theorem x0z {f:Den}{ρ ρ1:Rho}{d:D}{q:Nat}(h:f ρ=some (d,q,ρ1)):x01 f x0g ρ=some ([d],ρ1):=by unfold x01;rw[h];rfl
theorem x0u {f:Den}{g:x1v}{ρ ρ1 ρ2:Rho}{d:D}{q:Nat}{ds:List D}(h:f ρ=some (d,q,ρ1))(h':g ρ1=some (ds,ρ2)):x01 f g ρ=some (d::ds,ρ2):=by unfold x01;rw[h];simp only[h']
theorem x2q {g:x1v}{ρ ρ1:Rho}{ds:List D}(h:g ρ=some ([.lst ds],ρ1)):x1k g ρ=some (.tup ds,9,ρ1):=by unfold x1k;rw[h]
theorem y3g {g:x1v}{ρ ρ1:Rho}{ds:List D}(h:x15 g ρ=some (ds,ρ1)):x7j g ρ=some (.lst ds,1,ρ1):=by unfold x7j;rw[h]
theorem x0p {F:List D->OD}{n:Nat}{g:x1v}{ρ ρ1:Rho}{ds:List D}{d:D}{q:Nat}(h:g ρ=some (ds,ρ1))(hl:ds.length=n)(hF:F ds=some (d,q)):x0m F n g ρ=some (d,q,ρ1):=by unfold x0m;rw[h];simp only[hl,if_true,hF]
def x0f (l:List Nat):List D:=l.map fun i=>.int (Int.ofNat i)
def y3w (n:Nat)(f:Nat->Nat->Nat)(i:Nat):D:=.tup (x0f ((List.range n).map fun j=>f i j))
def x09 (n:Nat)(f:Nat->Nat->Nat):D:=.tup ((List.range n).map fun i=>y3w n f i)
def x61 (n:Nat)(f:Nat->Nat->Nat)(i:Nat):D:=.lst (x0f ((List.range n).map fun j=>f i j))
def x2n (n:Nat)(f:Nat->Nat->Nat):D:=.lst ((List.range n).map fun i=>x61 n f i)
@[simp] theorem z6q {n:Nat}{f:Nat->Nat->Nat}:(x09 n f).isL=false:=rfl
@[simp] theorem z8x {n:Nat}{f:Nat->Nat->Nat}{i:Nat}:(y3w n f i).isL=false:=rfl
@[simp] theorem j7n {n:Nat}{f:Nat->Nat->Nat}:(x2n n f).isL=true:=rfl
@[simp] theorem j7f {n:Nat}{f:Nat->Nat->Nat}{i:Nat}:(x61 n f i).isL=true:=rfl
theorem x0x (l:List Nat):(x0f l).length=l.length:=by simp[x0f]
theorem x8e (l:List Nat)(i:Nat):(x0f l)[i]? = (l[i]?).map fun x=>.int (Int.ofNat x):=by simp[x0f]
theorem x6w {n i:Nat}(h:i<n):ixN n (Int.ofNat i)=some i:=by
 unfold ixN
 rw[if_pos (by exact Int.natCast_nonneg i),if_pos (by show(i:Int)<n;omega)]
 rfl
theorem y7r {α:Type}{xs:List α}{i:Nat}{x:α}(h:xs[i]? = some x):L2.atI xs (Int.ofNat i)=some x:=by
 unfold L2.atI
 rw[x6w (List.getElem?_eq_some_iff.mp h).1]
 exact h
theorem y9v {l:List Nat}{i x:Nat}(h:l[i]? = some x):L2.atI (x0f l) (Int.ofNat i)=some (.int (Int.ofNat x)):=y7r (by rw[x8e,h];rfl)
theorem z9s {g:Nat->D}{n i:Nat}(h:i<n):L2.atI ((List.range n).map g) (Int.ofNat i)=some (g i):=y7r (by rw[List.getElem?_map,List.getElem?_range h];rfl)
theorem x1s {g:Nat->Nat}{n i:Nat}(h:i<n):L2.atI (x0f ((List.range n).map g)) (Int.ofNat i)=some (.int (Int.ofNat (g i))):=y9v (by rw[List.getElem?_map,List.getElem?_range h];rfl)
theorem x3u {n:Nat}{f:Nat->Nat->Nat}{i:Nat}(h:i<n):atD (x09 n f) (Int.ofNat i)=some (y3w n f i):=z9s h
theorem x47 {n:Nat}{f:Nat->Nat->Nat}{i j:Nat}(h:j<n):atD (y3w n f i) (Int.ofNat j)=some (.int (Int.ofNat (f i j))):=x1s h
theorem j2f {n:Nat}{f:Nat->Nat->Nat}{i:Nat}(h:i<n):atD (x2n n f) (Int.ofNat i)=some (x61 n f i):=z9s h
theorem j09 {n:Nat}{f:Nat->Nat->Nat}{i j:Nat}(h:j<n):atD (x61 n f i) (Int.ofNat j)=some (.int (Int.ofNat (f i j))):=x1s h
theorem x17 {n:Nat}{f:Nat->Nat->Nat}:x5o (x09 n f)=some n:=by simp[x09,x5o]
theorem y0b {n:Nat}{f:Nat->Nat->Nat}:x5o (x2n n f)=some n:=by simp[x2n,x5o]
theorem x55 {n:Nat}{f g:Nat->Nat->Nat}(h:∀ a b,a<n->b<n->f a b=g a b):x2n n f=x2n n g:=by
 unfold x2n x61
 refine congrArg D.lst (List.map_congr_left fun a ha=>?_)
 refine congrArg (fun l=>D.lst (x0f l)) (List.map_congr_left fun b hb=>?_)
 exact h a b (List.mem_range.mp ha) (List.mem_range.mp hb)
theorem x9f {α:Type}{g:Nat->α}{n m:Nat}{x:α}:((List.range n).map g).set m x=(List.range n).map fun a=>if a=m then x else g a:=by
 apply List.ext_getElem?
 intro i
 by_cases hi:i<n
 ·by_cases h:m=i
  ·subst h
   rw[List.getElem?_set_self (by simpa using hi),List.getElem?_map,List.getElem?_range hi]
   simp
  ·rw[List.getElem?_set_ne h,List.getElem?_map,List.getElem?_map,List.getElem?_range hi]
   simp
   exact fun z=>absurd z.symm h
 ·rw[List.getElem?_eq_none (by simp;omega),List.getElem?_eq_none (by simp;omega)]
theorem x4n {g:Nat->Nat}{n:Nat}:x0f ((List.range n).map g)=(List.range n).map fun i=>.int (Int.ofNat (g i)):=by simp[x0f]
theorem z15 {n:Nat}{f:Nat->Nat->Nat}{a b v:Nat}:D.lst (((List.range n).map fun i=>x61 n f i).set a (.lst ((x0f ((List.range n).map fun j=>f a j)).set b (.int (Int.ofNat v)))))=x2n n fun i j=>if i=a/\j=b then v else f i j:=by
 unfold x2n
 rw[x9f]
 refine congrArg D.lst (List.map_congr_left fun i hi=>?_)
 by_cases h:i=a
 ·subst h
  rw[if_pos rfl,x4n,x9f]
  unfold x61
  rw[x4n]
  refine congrArg D.lst (List.map_congr_left fun j hj=>?_)
  by_cases hj:j=b<;>simp[hj]
 ·rw[if_neg h]
  unfold x61
  simp[h]
theorem j5g (n:Nat):D.lst (List.replicate n [D.int 0]).flatten=x61 n (fun _ _=>0) 0:=by
 unfold x61 x0f
 congr 1
 simp[List.flatten_replicate_singleton,List.map_const']
theorem z0o:∀ ds:List D,x86 ds=ds.map toP
 | []=>rfl
 | d::ds=>by rw[x86,z0o ds];rfl
def lay (d:D):Bool:=x9t d&&(toP d).canLay0
theorem j4b {d:D}(h:lay d=true):x9t d=true:=(Bool.and_eq_true_iff.mp h).1
theorem j54 {d:D}(h:lay d=true):(toP d).canLay0=true:=(Bool.and_eq_true_iff.mp h).2
theorem y0k:∀ {ds:List D},(∀ d∈ds,lay d=true)->y2u ds=true
 | [],_=>rfl
 | d::ds,h=>by
  show(x9t d&&y2u ds)=true
  rw[j4b (h d List.mem_cons_self),y0k fun x m=>h x (List.mem_cons_of_mem _ m)]
  rfl
def dep (d:D):Nat:=(toP d).depth
theorem z4o:∀ {ds:List D},(∀ d∈ds,lay d=true)->PyData.canLayAll0 (x86 ds)=true
 | [],_=>rfl
 | d::ds,h=>by
  rw[x86,PyData.canLayAll0,z4o fun x m=>h x (List.mem_cons_of_mem _ m),Bool.and_true]
  exact j54 (h d List.mem_cons_self)
theorem z2y {k:Nat}:∀ {ds:List D},(∀ d∈ds,dep d<=k)->PyData.depthAll (x86 ds)<=k
 | [],_=>Nat.zero_le _
 | d::ds,h=>by
  rw[x86,PyData.depthAll]
  exact Nat.max_le.mpr ⟨h d List.mem_cons_self,z2y fun x m=>h x (List.mem_cons_of_mem _ m)⟩
def Sh (k:Nat)(d:D):Prop:=lay d=true/\dep d<=k
theorem Sh.int {k:Nat}(i:Int):Sh k (.int i):=⟨rfl,Nat.zero_le _⟩
theorem Sh.non {k:Nat}:Sh k .non:=⟨rfl,Nat.zero_le _⟩
theorem Sh.tup {k:Nat}{ds:List D}(h:∀ d∈ds,Sh k d):Sh (k+1) (.tup ds):=⟨Bool.and_eq_true_iff.mpr ⟨y0k fun d m=>(h d m).1,z4o fun d m=>(h d m).1⟩,Nat.succ_le_succ (z2y fun d m=>(h d m).2)⟩
theorem Sh.lst {k:Nat}{ds:List D}(h:∀ d∈ds,Sh k d):Sh (k+1) (.lst ds):=⟨Bool.and_eq_true_iff.mpr ⟨y0k fun d m=>(h d m).1,z4o fun d m=>(h d m).1⟩,Nat.succ_le_succ (z2y fun d m=>(h d m).2)⟩
theorem Sh.ok {k:Nat}{d:D}(h:Sh k d)(hk:k<=64:=by decide):okD d=true:=by
 show(x9t d&&((toP d).canLay0&&decide ((toP d).depth<=64)))=true
 rw[j4b h.1,j54 h.1,Bool.true_and,Bool.true_and]
 exact decide_eq_true (Nat.le_trans h.2 hk)
theorem z4c {l:List Nat}{d:D}(m:d∈x0f l):Sh 0 d:=by
 obtain⟨x,_,rfl⟩:=List.mem_map.mp m
 exact .int _
theorem j7l (l:List Nat):Sh 1 (.lst (x0f l)):=.lst fun _ m=>z4c m
theorem j72 (l:List Nat):Sh 1 (.tup (x0f l)):=.tup fun _ m=>z4c m
theorem j04 (n:Nat)(f:Nat->Nat->Nat):Sh 2 (x09 n f):=.tup fun d m=>by
 obtain⟨x,_,rfl⟩:=List.mem_map.mp m
 exact j72 _
theorem x8u:∀ l l':List Nat,PyData.eqvAll (x86 (x0f l)) (x86 (x0f l'))=decide (l=l')
 | [],[]=>rfl
 | [],_::_=>rfl
 | _::_,[]=>rfl
 | x::l,y::l'=>by
  show(((x:Int)==(y:Int))&&PyData.eqvAll (x86 (x0f l)) (x86 (x0f l')))=_
  rw[x8u l l']
  by_cases h:x=y
  ·subst h;simp
  ·have:((x:Int)==(y:Int))=false:=by simp;omega
   rw[this]
   simp[h]
theorem j8f (l l':List Nat):eqD (.lst (x0f l)) (.lst (x0f l'))=decide (l=l'):=x8u l l'
theorem j4c (l l':List Nat):eqD (.tup (x0f l)) (.tup (x0f l'))=decide (l=l'):=x8u l l'
theorem y9q (i j:Int):eqD (.int i) (.int j)=decide (i=j):=by
 show(i==j)=_
 rw[Bool.beq_eq_decide_eq]
theorem y99 (i j:Nat):eqD (.int (Int.ofNat i)) (.int (Int.ofNat j))=decide (i=j):=by
 rw[y9q]
 exact decide_eq_decide.mpr ⟨fun h=>Int.ofNat.inj h,fun h=>by rw[h]⟩
theorem j1k (l l':List Nat):dEq (.lst (x0f l)) (.lst (x0f l'))=some (.bl (decide (l=l'))):=by unfold dEq;rw[if_pos ⟨(j7l l).ok,(j7l l').ok⟩,j8f]
theorem z3l (i j:Int):dEq (.int i) (.int j)=some (.bl (decide (i=j))):=by unfold dEq;rw[if_pos ⟨(Sh.int (k:=0) i).ok,(Sh.int (k:=0) j).ok⟩,y9q]
theorem y5x (i j:Int):dNe (.int i) (.int j)=some (.bl (!decide (i=j))):=by unfold dNe;rw[if_pos ⟨(Sh.int (k:=0) i).ok,(Sh.int (k:=0) j).ok⟩,y9q]
theorem x96 (i j:Nat):dEq (.int (Int.ofNat i)) (.int (Int.ofNat j))=some (.bl (decide (i=j))):=by unfold dEq;rw[if_pos ⟨(Sh.int (k:=0) _).ok,(Sh.int (k:=0) _).ok⟩,y99]
theorem x7r (i j:Nat):dNe (.int (Int.ofNat i)) (.int (Int.ofNat j))=some (.bl (!decide (i=j))):=by unfold dNe;rw[if_pos ⟨(Sh.int (k:=0) _).ok,(Sh.int (k:=0) _).ok⟩,y99]
theorem x9j {α:Type}{p:α->Bool}:∀ {l:List α} {j:Nat} {x:α},l[j]? = some x->p x=true->(∀ i y,i<j->l[i]? = some y->p y=false)->l.findIdx? p=some j
 | [],j,x,h,_,_=>by simp at h
 | a::l,0,x,h,hp,_=>by
  simp at h;subst h
  simp[List.findIdx?_cons,hp]
 | a::l,j+1,x,h,hp,hn=>by
  have h0:p a=false:=hn 0 a (Nat.succ_pos _) rfl
  have ih:=x9j (l:=l) (j:=j) (x:=x) (by simpa using h) hp fun i y hi hy=>hn (i+1) y (Nat.succ_lt_succ hi) (by simpa using hy)
  simp[List.findIdx?_cons,h0,ih]
structure Lad (n:Nat) (f:Nat->Nat->Nat):Prop where
 lo:0<n
 hi:n<=16
 cl:∀ i j,i<n->j<n->f i j<n
 idem:∀ i,i<n->f i i=i
 comm:∀ i j,i<n->j<n->f i j=f j i
 assoc:∀ i j k,i<n->j<n->k<n->f (f i j) k=f i (f j k)
 bot:∃ z,z<n/\∀ j,j<n->f z j=j
def j87 (n:Nat)(f:Nat->Nat->Nat):Bool:=
 decide (0<n)&&decide (n<=16)&&((List.range n).all fun i=>(List.range n).all fun j=>decide (f i j<n))&&((List.range n).all fun i=>decide (f i i=i))&&((List.range n).all fun i=>(List.range n).all fun j=>decide (f i j=f j i)) &&
 ((List.range n).all fun i=>(List.range n).all fun j=>(List.range n).all fun k=>decide (f (f i j) k=f i (f j k)))&&((List.range n).any fun z=>(List.range n).all fun j=>decide (f z j=j))
theorem y9u {n:Nat}{f:Nat->Nat->Nat}(h:j87 n f=true):Lad n f:=by
 unfold j87 at h
 simp only[Bool.and_eq_true,decide_eq_true_eq,List.all_eq_true,List.any_eq_true,List.mem_range]at h
 obtain⟨⟨⟨⟨⟨⟨h1,h2⟩,h3⟩,h4⟩,h5⟩,h6⟩,z,hz,h7⟩:=h
 exact⟨h1,h2,fun i j hi hj=>h3 i hi j hj,h4,fun i j hi hj=>h5 i hi j hj,fun i j k hi hj hk=>h6 i hi j hj k hk,z,hz,h7⟩
theorem Lad.ren {n:Nat}{f:Nat->Nat->Nat}(L:Lad n f){π ι:Nat->Nat}(h1:∀ i,i<n->π i<n)(h2:∀ i,i<n->ι i<n)(h3:∀ i,i<n->ι (π i)=i)(h4:∀ i,i<n->π (ι i)=i):Lad n fun a b=>π (f (ι a) (ι b)):=by
 obtain⟨l1,l2,cl,idem,comm,assoc,z,hz,bot⟩:=L
 refine⟨l1,l2,fun i j hi hj=>h1 _ (cl _ _ (h2 i hi) (h2 j hj)),fun i hi=>?_,fun i j hi hj=>?_,fun i j k hi hj hk=>?_,π z,h1 z hz,fun j hj=>?_⟩
 ·show π (f (ι i) (ι i))=i
  rw[idem _ (h2 i hi),h4 i hi]
 ·show π (f (ι i) (ι j))=π (f (ι j) (ι i))
  rw[comm _ _ (h2 i hi) (h2 j hj)]
 ·show π (f (ι (π (f (ι i) (ι j)))) (ι k))=π (f (ι i) (ι (π (f (ι j) (ι k)))))
  rw[h3 _ (cl _ _ (h2 i hi) (h2 j hj)),h3 _ (cl _ _ (h2 j hj) (h2 k hk)),assoc _ _ _ (h2 i hi) (h2 j hj) (h2 k hk)]
 ·show π (f (ι (π z)) (ι j))=j
  rw[h3 z hz,bot _ (h2 j hj),h4 j hj]
def x45 (p:Nat->Nat->Nat)(n:Nat):Nat->List Nat
 | 0=>List.range n
 | k+1=>(x45 p n k).eraseIdx (p k (x45 p n k).length)
def drawn (p:Nat->Nat->Nat)(n k:Nat):Nat:=(x45 p n k).getD (p k (x45 p n k).length) 0
theorem y0j:∀ (l:List Nat) (j:Nat),(x0f l).eraseIdx j=x0f (l.eraseIdx j)
 | [],_=>rfl
 | _::_,0=>rfl
 | a::l,j+1=>congrArg (D.int (Int.ofNat a) :: ·) (y0j l j)
theorem x6a {p:Nat->Nat->Nat}{n:Nat}(hp:∀ k m,0<m->p k m<m):∀ k,k<=n->(x45 p n k).length=n-k
 | 0,_=>by simp[x45]
 | k+1,h=>by
  have ih:=x6a hp k (Nat.le_of_succ_le h)
  have:=hp k (n-k) (by omega)
  rw[x45,List.length_eraseIdx,ih,if_pos this]
  omega
theorem y4h:∀ {l:List Nat} {j:Nat} (h:j<l.length),(l[j]::l.eraseIdx j).Perm l
 | a::l,0,_=>List.Perm.refl _
 | a::l,j+1,h=>(List.Perm.swap a (l[j]'(by simpa using h)) (l.eraseIdx j)).trans (List.Perm.cons a (y4h (by simpa using h)))
theorem y7l {p:Nat->Nat->Nat}{n:Nat}(hp:∀ k m,0<m->p k m<m):∀ k,k<=n->(((List.range k).map (drawn p n))++x45 p n k).Perm (List.range n)
 | 0,_=>by simp[x45]
 | k+1,h=>by
  have ih:=y7l hp k (Nat.le_of_succ_le h)
  have hl:=x6a hp k (by omega:k<=n)
  have hj:p k (x45 p n k).length<(x45 p n k).length:=by rw[hl];exact hp k _ (by omega)
  refine List.Perm.trans ?_ ih
  rw[List.range_succ,List.map_append,List.append_assoc]
  refine List.Perm.append_left _ ?_
  have e:drawn p n k=(x45 p n k)[p k (x45 p n k).length]:=by unfold drawn;rw[List.getD_eq_getElem?_getD,List.getElem?_eq_getElem hj];rfl
  show(drawn p n k::(x45 p n (k+1))).Perm _
  rw[e,x45]
  exact y4h hj
theorem x8a {p:Nat->Nat->Nat}{n:Nat}(hp:∀ k m,0<m->p k m<m):((List.range n).map (drawn p n)).Perm (List.range n):=by
 have h:=y7l hp n (Nat.le_refl n)
 have hl:=x6a hp n (Nat.le_refl n)
 rw[Nat.sub_self]at hl
 rw[List.length_eq_zero_iff.mp hl,List.append_nil]at h
 exact h
theorem y5s {p:Nat->Nat->Nat}{n:Nat}(hp:∀ k m,0<m->p k m<m){i:Nat}(h:i<n):drawn p n i<n:=by
 have m:drawn p n i∈(List.range n).map (drawn p n):=List.mem_map.mpr ⟨i,List.mem_range.mpr h,rfl⟩
 exact List.mem_range.mp ((x8a hp).mem_iff.mp m)
def x3w (p:Nat->Nat->Nat)(n a:Nat):Nat:=((List.range n).map (drawn p n)).idxOf a
theorem y0w {p:Nat->Nat->Nat}{n:Nat}(hp:∀ k m,0<m->p k m<m){a:Nat}(h:a<n):x3w p n a<n:=by
 have m:a∈(List.range n).map (drawn p n):=(x8a hp).mem_iff.mpr (List.mem_range.mpr h)
 have:=List.idxOf_lt_length_of_mem m
 rw[List.length_map,List.length_range]at this
 exact this
theorem x6r {p:Nat->Nat->Nat}{n:Nat}(hp:∀ k m,0<m->p k m<m){a:Nat}(h:a<n):drawn p n (x3w p n a)=a:=by
 have m:a∈(List.range n).map (drawn p n):=(x8a hp).mem_iff.mpr (List.mem_range.mpr h)
 have:=List.getElem_idxOf (List.idxOf_lt_length_of_mem m)
 rw[List.getElem_map,List.getElem_range]at this
 exact this
theorem x6s {p:Nat->Nat->Nat}{n:Nat}(hp:∀ k m,0<m->p k m<m){i:Nat}(h:i<n):x3w p n (drawn p n i)=i:=by
 have nd:((List.range n).map (drawn p n)).Nodup:=(x8a hp).nodup_iff.mpr List.nodup_range
 have hi:i<((List.range n).map (drawn p n)).length:=by simpa using h
 have:=nd.idxOf_getElem i hi
 rw[List.getElem_map,List.getElem_range]at this
 exact this
theorem y5i {i n:Nat}{tt:x23}{te:Den}{ρ:Rho}{deep:Bool}(hi:ρ.length=i)(b:Nat->Bool)(v:Nat->D)(q:Nat->Nat)(ht:∀ j,j<n->tt (ρ++[some (.int (Int.ofNat j),9)])=some (b j,ρ++[some (.int (Int.ofNat j),9)]))
  (he:∀ j,j<n->b j=true->te (ρ++[some (.int (Int.ofNat j),9)])=some (v j,q j,ρ++[some (.int (Int.ofNat j),9)])) (hd:deep=true->∀ j,(v j).isL=true->q j=1:=by intro h;cases h) :
  x6x 1 (x0n i) tt te deep (x12 n) ρ=some (((List.range n).filter b).map v,ρ):=by
 have h:=x3k (k:=1) (pt:=x0n i) (tt:=tt) (te:=te) (deep:=deep) (x12 n) (fun _=>ρ) b v (fun j hj=>?_)
 ·rw[x0q]at h
  exact h
 ·rw[x0q]at hj
  refine⟨ρ++[some (.int (Int.ofNat j),9)],_,?_,ht j hj,?_⟩
  ·have:(x12 n)[j]'(by rw[x0q];exact hj)=.int (Int.ofNat j):=by simp[x12]
   rw[this]
   unfold x0n
   rw[if_pos (by simp[hi])]
   subst hi
   simp[List.set_append]
  ·by_cases hb:b j=true
   ·rw[if_pos hb]
    exact⟨q j,_,he j hj hb,fun⟨h1,h2,h3⟩=>h3 (hd h1 j h2),by simp⟩
   ·rw[if_neg hb]
    simp
theorem y54 {z:Nat}:∀ n:Nat,(List.range n).filter (fun w=>decide (w=z))=if z<n then [z]else []
 | 0=>by simp
 | n+1=>by
  rw[List.range_succ,List.filter_append,y54 n]
  by_cases h:n=z
  ·subst h;simp
  ·have:¬ (n=z):=h
   by_cases h2:z<n
   ·rw[if_pos h2,if_pos (by omega)];simp[h]
   ·rw[if_neg h2,if_neg (by omega)];simp[h]
theorem y7m {n:Nat}{g:Nat->Nat}:(List.range n).map g=List.range n ↔ ∀ j,j<n->g j=j:=by
 constructor
 ·intro h j hj
  have:=congrArg (fun l=>l[j]?) h
  simpa [hj]using this
 ·intro h
  have e:=List.map_congr_left (l:=List.range n) (f:=g) (g:=id) fun a ha=>h a (List.mem_range.mp ha)
  rw[e,List.map_id]
namespace Lad
variable {n:Nat}{f:Nat->Nat->Nat}(L:Lad n f)
include L
theorem bot_uniq {z x:Nat}(hz:z<n)(bz:∀ j,j<n->f z j=j)(hx:x<n)(bx:∀ j,j<n->f x j=j):x=z:=by
 have h1:=bx z hz
 have h2:=bz x hx
 rw[L.comm x z hx hz]at h1
 omega
theorem fold_lt:∀ {l:List Nat} {a:Nat},a<n->(∀ x∈l,x<n)->l.foldl f a<n
 | [],a,ha,_=>ha
 | y::l,a,ha,h=>fold_lt (l:=l) (L.cl a y ha (h y List.mem_cons_self)) fun x m=>h x (List.mem_cons_of_mem _ m)
theorem z4l:∀ {l:List Nat} {a x:Nat},a<n->x<n->(∀ x∈l,x<n)->f x a=a->f x (l.foldl f a)=l.foldl f a
 | [],a,x,_,_,_,e=>e
 | y::l,a,x,ha,hx,h,e=>by
  have hy:=h y List.mem_cons_self
  refine z4l (l:=l) (L.cl a y ha hy) hx (fun x m=>h x (List.mem_cons_of_mem _ m)) ?_
  rw[<- L.assoc x a y hx ha hy,e]
theorem fold_mem:∀ {l:List Nat} {a x:Nat},a<n->(∀ x∈l,x<n)->x∈l->f x (l.foldl f a)=l.foldl f a
 | y::l,a,x,ha,h,m=>by
  have hy:=h y List.mem_cons_self
  have hl:∀ x∈l,x<n:=fun x m=>h x (List.mem_cons_of_mem _ m)
  rcases List.mem_cons.mp m with rfl|m
  ·refine z4l L (l:=l) (L.cl a x ha hy) hy hl ?_
   rw[L.comm a x ha hy,<- L.assoc x x a hy hy ha,L.idem x hy]
  ·exact fold_mem (l:=l) (L.cl a y ha hy) hl m
theorem fold_out {z:Nat}(hz:z<n)(bz:∀ j,j<n->f z j=j):∀ {l:List Nat} {a:Nat},a<n->(∀ x∈l,x<n)->l.foldl f a=f a (l.foldl f z)
 | [],a,ha,_=>by show a=f a z;rw[L.comm a z ha hz,bz a ha]
 | y::l,a,ha,h=>by
  have hy:=h y List.mem_cons_self
  have hl:∀ x∈l,x<n:=fun x m=>h x (List.mem_cons_of_mem _ m)
  show l.foldl f (f a y)=f a (l.foldl f (f z y))
  rw[bz y hy,fold_out hz bz (L.cl a y ha hy) hl,fold_out hz bz hy hl,L.assoc a y _ ha hy (L.fold_lt hz hl)]
end Lad
theorem x9e {pt:x7x}{body:x1a}{d:D}{q:Nat}:∀ (ds:List D) (I:Rho->Prop) (ok:Nat->Bool) (ρ:Rho),
  (∀ i (h:i<ds.length) ρ,I ρ->∃ ρ1,pt ds[i] ρ=some ρ1/\(ok i=true->∃ ρ2,body ρ1=some (.nx ρ2)/\I ρ2)/\(ok i=false->body ρ1=some (.rt d q)))->I ρ->
  ((List.range ds.length).all ok=true->∃ ρ',y0n pt body ds ρ=some (.nx ρ')/\I ρ')/\((List.range ds.length).all ok=false->y0n pt body ds ρ=some (.rt d q))
 | [],I,ok,ρ,_,h0=>⟨fun _=>⟨ρ,rfl,h0⟩,fun h=>by simp at h⟩
 | x::ds,I,ok,ρ,h,h0=>by
  obtain⟨ρ1,h1,h2,h3⟩:=h 0 (by simp) ρ h0
  have e1:pt x ρ=some ρ1:=h1
  have er:(List.range (x::ds).length).all ok=(ok 0&&(List.range ds.length).all fun i=>ok (i+1)):=by
   rw[List.length_cons,List.range_succ_eq_map,List.all_cons,List.all_map];rfl
  rw[er]
  cases hk:ok 0 with
  | false=>
   refine⟨fun z=>by simp at z,fun _=>?_⟩
   unfold y0n
   simp only[e1,h3 hk]
  | true=>
   obtain⟨ρ2,h4,h5⟩:=h2 hk
   obtain⟨i1,i2⟩:=x9e ds I (fun i=>ok (i+1)) ρ2 (fun i hi=>h (i+1) (by simpa using hi)) h5
   rw[Bool.true_and]
   unfold y0n
   simp only[e1,h4]
   exact⟨i1,i2⟩
theorem range_all {n:Nat}{p:Nat->Bool}:(List.range n).all p=true ↔ ∀ i,i<n->p i=true:=by
 rw[List.all_eq_true]
 exact⟨fun h i hi=>h i (List.mem_range.mpr hi),fun h i hi=>h i (List.mem_range.mp hi)⟩
theorem z0h (p:Nat->Bool):∀ l:List Nat,((List.range l.length).all fun i=>p (l.getD i 0))=l.all p
 | []=>rfl
 | a::l=>by
  rw[List.length_cons,List.range_succ_eq_map,List.all_cons,List.all_map,List.all_cons,<- z0h p l]
  rfl
theorem y6q {l:List Nat}{i:Nat}(h:i<(x0f l).length):(x0f l)[i]=.int (Int.ofNat (l.getD i 0)):=by
 have h':i<l.length:=by rw[x0x]at h;exact h
 simp[x0f,h']
theorem y6f {l:List Nat}{i:Nat}(h:i<l.length):l.getD i 0∈l:=by
 rw[List.getD_eq_getElem?_getD,List.getElem?_eq_getElem h]
 exact List.getElem_mem h
theorem z5i {i:Nat}{te:Den}{ρ:Rho}{deep:Bool}(l:List Nat)(hi:ρ.length=i)(v:Nat->D)(q:Nat->Nat)
  (he:∀ x,x∈l->te (ρ++[some (.int (Int.ofNat x),9)])=some (v x,q x,ρ++[some (.int (Int.ofNat x),9)])) (hd:deep=true->∀ j,(v j).isL=true->q j=1:=by intro h;cases h) :
  x6x 1 (x0n i) x1i te deep (x0f l) ρ=some (l.map v,ρ):=by
 have h:=x3k (k:=1) (pt:=x0n i) (tt:=x1i) (te:=te) (deep:=deep) (x0f l) (fun _=>ρ) (fun _=>true) (fun j=>v (l.getD j 0)) (fun j hj=>?_)
 ·rw[x0x,show(List.range l.length).filter (fun _=>true)=List.range l.length by simp]at h
  rw[h]
  have e:(List.range l.length).map (fun j=>v (l.getD j 0))=l.map v:=by
   apply List.ext_getElem?
   intro k
   by_cases hk:k<l.length
   ·simp[hk]
   ·rw[List.getElem?_eq_none (by simp;omega),List.getElem?_eq_none (by simp;omega)]
  rw[e]
 ·have hj':j<l.length:=by rw[x0x]at hj;exact hj
  refine⟨ρ++[some (.int (Int.ofNat (l.getD j 0)),9)],_,?_,rfl,?_⟩
  ·rw[y6q hj]
   unfold x0n
   rw[if_pos (by simp[hi])]
   subst hi
   simp[List.set_append]
  ·rw[if_pos rfl]
   exact⟨q _,_,he _ (y6f hj'),fun⟨h1,h2,h3⟩=>h3 (hd h1 _ h2),by simp⟩
theorem y4m {l:List Nat}{b:Nat->Bool}:decide (l.filter (fun x=>!b x)=[])=l.all b:=by
 rw[Bool.eq_iff_iff,decide_eq_true_eq,List.filter_eq_nil_iff,List.all_eq_true]
 exact⟨fun h x m=>by simpa using h x m,fun h x m=>by simpa using h x m⟩
theorem x90 {g:D->D->Option D}{fa fb:Den}{ρ ρ1 ρ2:Rho}{x y d:D}{q q':Nat}(ha:fa ρ=some (x,q,ρ1))(hb:fb ρ1=some (y,q',ρ2))(hg:g x y=some d):e2 g fa fb ρ=some (d,9,ρ2):=by unfold e2;rw[ha];simp only[hb,hg]
theorem x56 {f:Den}{ρ ρ1:Rho}{b:Bool}{q:Nat}(h:f ρ=some (.bl b,q,ρ1)):x3c f ρ=some (b,ρ1):=by unfold x3c;rw[h]
theorem z5t {i:Nat}{g:x1v}{ρ ρ1 ρ2:Rho}{ds:List D}{d:D}(hl:z1l ρ[i]? = true)(hg:g ρ=some ([d],ρ1))(h1:ρ1[i]? = some (some (.lst ds,1)))(hn:ds.length<=1000)(e:ρ1.set i (some (.lst (ds++[d]),1))=ρ2):x50 (y3n i g) ρ=some (.nx ρ2):=by
 unfold x50 y3n
 rw[if_pos hl,hg]
 simp only[h1,if_pos hn,e]
theorem j29 {b:List D->Option D}{g:x1v}{ρ ρ1:Rho}{ds:List D}{d:D}(h:g ρ=some (ds,ρ1))(hd:b ds=some d):eB b g ρ=some (d,9,ρ1):=by unfold eB;rw[h];simp only[hd]
def x0c (n:Nat)(r:Nat->Nat):D:=.tup (x0f ((List.range n).map r))
@[simp] theorem j74 {n:Nat}{r:Nat->Nat}:(x0c n r).isL=false:=rfl
theorem x1x {n i:Nat}{r:Nat->Nat}(h:i<n):atD (x0c n r) (Int.ofNat i)=some (.int (Int.ofNat (r i))):=x1s h
theorem y5a (l l':List Nat):dNe (.tup (x0f l)) (.tup (x0f l'))=some (.bl (!decide (l=l'))):=by unfold dNe;rw[if_pos ⟨(j72 l).ok,(j72 l').ok⟩,j4c]
theorem y6k {n:Nat}(g:Nat->Nat):D.tup ((List.range n).map fun i=>.int (Int.ofNat (g i)))=x0c n g:=by unfold x0c;rw[x4n]
theorem y6w (n:Nat)(a b:Nat->Nat):((x0f ((List.range n).map a)).zip (x0f ((List.range n).map b))).map (fun x=>D.tup [x.1,x.2])=(List.range n).map fun j=>.tup [.int (Int.ofNat (a j)),.int (Int.ofNat (b j))]:=by
 rw[x4n,x4n,List.zip_map',List.map_map]
 rfl
theorem j3d {i n:Nat}{tt:x23}{te:Den}{ρ:Rho}{deep:Bool}(hi:ρ.length=i)(a b:Nat->Nat)(ok:Nat->Bool)(v:Nat->D)(q:Nat->Nat)
  (ht:∀ j,j<n->tt (ρ++[some (.int (Int.ofNat (a j)),9),some (.int (Int.ofNat (b j)),9)])=some (ok j,ρ++[some (.int (Int.ofNat (a j)),9),some (.int (Int.ofNat (b j)),9)]))
  (he:∀ j,j<n->ok j=true->te (ρ++[some (.int (Int.ofNat (a j)),9),some (.int (Int.ofNat (b j)),9)])=some (v j,q j,ρ++[some (.int (Int.ofNat (a j)),9),some (.int (Int.ofNat (b j)),9)]))
  (hd:deep=true->∀ j,(v j).isL=true->q j=1:=by intro h;cases h) :
  x6x 2 (y64 (x18 (x0n i) (x18 (x0n (i+1)) x5v))) tt te deep ((List.range n).map fun j=>.tup [.int (Int.ofNat (a j)),.int (Int.ofNat (b j))]) ρ=some (((List.range n).filter ok).map v,ρ):=by
 have h:=x3k (k:=2) (pt:=y64 (x18 (x0n i) (x18 (x0n (i+1)) x5v))) (tt:=tt) (te:=te) (deep:=deep) ((List.range n).map fun j=>.tup [.int (Int.ofNat (a j)),.int (Int.ofNat (b j))]) (fun _=>ρ) ok v (fun j hj=>?_)
 ·rw[List.length_map,List.length_range]at h
  exact h
 ·rw[List.length_map,List.length_range]at hj
  refine⟨ρ++[some (.int (Int.ofNat (a j)),9),some (.int (Int.ofNat (b j)),9)],_,?_,ht j hj,?_⟩
  ·subst hi
   simp[-Int.ofNat_eq_natCast,List.set_append]
  ·by_cases hb:ok j=true
   ·rw[if_pos hb]
    exact⟨q j,_,he j hj hb,fun⟨h1,h2,h3⟩=>h3 (hd h1 j h2),by simp⟩
   ·rw[if_neg hb]
    simp
namespace Lad
variable {n:Nat}{f:Nat->Nat->Nat}(L:Lad n f)
include L
theorem le_trans {x y z:Nat}(hx:x<n)(hy:y<n)(hz:z<n)(h1:f x y=y)(h2:f y z=z):f x z=z:=by
 rw[<- h2,<- L.assoc x y z hx hy hz,h1]
theorem le_anti {x y:Nat}(hx:x<n)(hy:y<n)(h1:f x y=y)(h2:f y x=x):x=y:=by
 rw[L.comm y x hy hx,h1]at h2;exact h2.symm
theorem le_l {x y:Nat}(hx:x<n)(hy:y<n):f x (f x y)=f x y:=by rw[<- L.assoc x x y hx hx hy,L.idem x hx]
theorem le_r {x y:Nat}(hx:x<n)(hy:y<n):f y (f x y)=f x y:=by rw[L.comm x y hx hy];exact L.le_l hy hx
theorem lub {x y z:Nat}(hx:x<n)(hy:y<n)(hz:z<n)(h1:f x z=z)(h2:f y z=z):f (f x y) z=z:=by rw[L.assoc x y z hx hy hz,h2,h1]
theorem sup_least {z:Nat}(hz:z<n)(bz:∀ j,j<n->f z j=j){b:Nat}(hb:b<n):∀ {l:List Nat},(∀ x∈l,x<n)->(∀ x∈l,f x b=b)->f (l.foldl f z) b=b
 | [],_,_=>bz b hb
 | y::l,h,k=>by
  have hy:=h y List.mem_cons_self
  have hl:∀ x∈l,x<n:=fun x m=>h x (List.mem_cons_of_mem _ m)
  have e:(y::l).foldl f z=f y (l.foldl f z):=by
   show l.foldl f (f z y)=_
   rw[bz y hy,L.fold_out hz bz hy hl]
  rw[e]
  exact L.lub hy (L.fold_lt hz hl) hb (k y List.mem_cons_self) (sup_least hz bz hb hl fun x m=>k x (List.mem_cons_of_mem _ m))
omit L
def low (n:Nat)(f:Nat->Nat->Nat)(x:Nat):List Nat:=(List.range n).filter fun y=>decide (f y x=x)
theorem mem_low {x y:Nat}:y∈low n f x ↔ y<n/\f y x=x:=by simp[low]
def lr (n:Nat)(f:Nat->Nat->Nat)(z:Nat)(r:Nat->Nat)(x:Nat):Nat:=((low n f x).map r).foldl f z
include L
variable {z:Nat}(hz:z<n)(bz:∀ j,j<n->f z j=j){r s:Nat->Nat}(hr:∀ i,i<n->r i<n)
include hz bz hr
theorem lr_mem {x:Nat}:∀ y∈(low n f x).map r,y<n:=fun y m=>by
 obtain⟨k,hk,rfl⟩:=List.mem_map.mp m
 exact hr k (mem_low.mp hk).1
theorem lr_lt (x:Nat):lr n f z r x<n:=L.fold_lt hz (lr_mem L hz bz hr)
theorem lr_ub {x y:Nat}(hy:y<n)(h:f y x=x):f (r y) (lr n f z r x)=lr n f z r x:=L.fold_mem hz (lr_mem L hz bz hr) (List.mem_map.mpr ⟨y,mem_low.mpr ⟨hy,h⟩,rfl⟩)
theorem lr_least {x b:Nat}(hb:b<n)(h:∀ y,y<n->f y x=x->f (r y) b=b):f (lr n f z r x) b=b:=L.sup_least hz bz hb (lr_mem L hz bz hr) fun y m=>by
 obtain⟨k,hk,rfl⟩:=List.mem_map.mp m
 exact h k (mem_low.mp hk).1 (mem_low.mp hk).2
theorem lr_rises {x y:Nat}(hx:x<n)(hy:y<n)(h:f x y=y):f (lr n f z r x) (lr n f z r y)=lr n f z r y:=
 L.lr_least hz bz hr (L.lr_lt hz bz hr y) fun k hk e=>L.lr_ub hz bz hr hk (L.le_trans hk hx hy e h)
end Lad
theorem k01 {α:Type}{us:List α}(h:us.length=1):∃ a,us=[a]:=match us,h with|[a],_=>⟨a,rfl⟩
theorem j9e {α:Type}{us:List α}(h:us.length=2):∃ a b,us=[a,b]:=by
 cases us with
 | nil=>cases h
 | cons a us=>
  obtain⟨b,hh⟩:=k01 (Nat.succ.inj h)
  exact⟨a,b,by rw[hh]⟩
theorem j9d {α:Type}{us:List α}(h:us.length=3):∃ a b c,us=[a,b,c]:=by
 cases us with
 | nil=>cases h
 | cons a us=>
  obtain⟨b,c,hh⟩:=j9e (Nat.succ.inj h)
  exact⟨a,b,c,by rw[hh]⟩
theorem k0f {α:Type}{us:List α}(h:us.length=4):∃ a b c d,us=[a,b,c,d]:=by
 cases us with
 | nil=>cases h
 | cons a us=>
  obtain⟨b,c,d,hh⟩:=j9d (Nat.succ.inj h)
  exact⟨a,b,c,d,by rw[hh]⟩
theorem j0m {pt:x7x}{body:x1a}{d:D}{ds:List D}{ρ ρ1 ρ2:Rho}(h1:pt d ρ=some ρ1)(h2:body ρ1=some (.nx ρ2)):y0n pt body (d::ds) ρ=y0n pt body ds ρ2:=by
 show(match pt d ρ with|none=>none|some ρ1=>_)=_
 simp only[h1,h2]
theorem y09 {α J σ:Type}{pt:x7x}{body:x1a}(enc:α->D)(S:σ->J->Rho)(g:σ->α->σ)(I:σ->Prop):∀ (l:List α) (s:σ) (j:J),I s->
  (∀ x∈l,∀ s j,I s->I (g s x)/\∃ ρ1 j',pt (enc x) (S s j)=some ρ1/\body ρ1=some (.nx (S (g s x) j')))->∃ j',y0n pt body (l.map enc) (S s j)=some (.nx (S (l.foldl g s) j'))/\I (l.foldl g s)
 | [],s,j,i,_=>⟨j,rfl,i⟩
 | x::l,s,j,i,h=>by
  obtain⟨i1,ρ1,j1,h1,h2⟩:=h x List.mem_cons_self s j i
  obtain⟨j2,e,i2⟩:=y09 enc S g I l (g s x) j1 i1 fun y m=>h y (List.mem_cons_of_mem _ m)
  exact⟨j2,(j0m h1 h2).trans e,i2⟩
theorem y4s {c:x23}{b:x1a}{Q:Rho->Prop}(I:Nat->Rho->Prop)
  (h:∀ k ρ,I k ρ->(∃ ρ1,c ρ=some (false,ρ1)/\Q ρ1)\/(∃ ρ1 ρ2 k',c ρ=some (true,ρ1)/\b ρ1=some (.nx ρ2)/\k'<k/\I k' ρ2)):∀ m k ρ,k<m->I k ρ->∃ ρ',x7y c b m ρ=some (.nx ρ')/\Q ρ'
 | 0,k,_,hk,_=>absurd hk (Nat.not_lt_zero k)
 | m+1,k,ρ,hk,i=>by
  rcases h k ρ i with⟨ρ1,h1,h2⟩|⟨ρ1,ρ2,k',h1,h2,h3,h4⟩
  ·exact⟨ρ1,by unfold x7y;simp[h1],h2⟩
  ·obtain⟨ρ',e,q⟩:=y4s I h m k' ρ2 (by omega) h4
   refine⟨ρ',?_,q⟩
   unfold x7y
   simp[h1,h2,e]
theorem y4q {c:x23}{b:x1a}{Q:Rho->Prop}(I:Nat->Rho->Prop){k:Nat}{ρ:Rho}(hk:k<1000)(i:I k ρ)
  (h:∀ k ρ,I k ρ->(∃ ρ1,c ρ=some (false,ρ1)/\Q ρ1)\/(∃ ρ1 ρ2 k',c ρ=some (true,ρ1)/\b ρ1=some (.nx ρ2)/\k'<k/\I k' ρ2)):∃ ρ',y7v c b ρ=some (.nx ρ')/\Q ρ':=y4s I h 1000 k ρ hk i
def gv (v:List Nat)(i:Nat):Nat:=v.getD i 0
theorem z0m {v:List Nat}{i:Nat}(h:i<v.length):v[i]? = some (gv v i):=by unfold gv;simp[h]
theorem j6q {v:List Nat}{i:Nat}(h:i<v.length):gv v i∈v:=y6f h
theorem j4v {v:List Nat}{i:Nat}(h:i<v.length):atD (.lst (x0f v)) (Int.ofNat i)=some (.int (Int.ofNat (gv v i))):=y9v (z0m h)
theorem j7k {v:List Nat}{i:Nat}(h:i<v.length):atD (.tup (x0f v)) (Int.ofNat i)=some (.int (Int.ofNat (gv v i))):=y9v (z0m h)
theorem z0l (v:List Nat)(i x:Nat):(x0f v).set i (.int (Int.ofNat x))=x0f (v.set i x):=by simp[x0f,List.map_set]
theorem j4o {v:List Nat}{i:Nat}(h:i<v.length)(x j:Nat):gv (v.set i x) j=if j=i then x else gv v j:=by
 unfold gv
 rw[List.getD_eq_getElem?_getD,List.getD_eq_getElem?_getD]
 by_cases e:j=i
 ·subst e;rw[if_pos rfl,List.getElem?_set_self h];rfl
 ·rw[if_neg e,List.getElem?_set_ne (fun z=>e z.symm)]
theorem z50 {u v:List Nat}(h:u.length=v.length)(k:∀ i,i<u.length->gv u i=gv v i):u=v:=by
 apply List.ext_getElem?
 intro i
 by_cases hi:i<u.length
 ·rw[z0m hi,z0m (by omega),k i hi]
 ·rw[List.getElem?_eq_none (by omega),List.getElem?_eq_none (by omega)]
theorem x4y {p i:Nat}(g:Nat->Nat)(h:i<p):gv ((List.range p).map g) i=g i:=by unfold gv;simp[h]
theorem j98 (v:List Nat):v=(List.range v.length).map (gv v):=z50 (by simp) fun i hi=>(x4y _ hi).symm
structure Vn (n p:Nat) (v:List Nat):Prop where
 len:v.length=p
 lt:∀ x∈v,x<n
theorem Vn.gv {n p:Nat}{v:List Nat}(h:Vn n p v){i:Nat}(hi:i<p):gv v i<n:=h.lt _ (j6q (by rw[h.len];exact hi))
theorem Vn.set {n p:Nat}{v:List Nat}(h:Vn n p v){i x:Nat}(hx:x<n):Vn n p (v.set i x):=⟨by rw[List.length_set];exact h.len,fun y hy=>by
 rcases List.mem_or_eq_of_mem_set hy with h' | h'
 ·exact h.lt y h'
 ·rw[h'];exact hx⟩
theorem Vn.map {n p:Nat}{g:Nat->Nat}(h:∀ i,i<p->g i<n):Vn n p ((List.range p).map g):=⟨by simp,fun x hx=>by
 obtain⟨i,hi,rfl⟩:=List.mem_map.mp hx
 exact h i (List.mem_range.mp hi)⟩
def leV (f:Nat->Nat->Nat)(p:Nat)(u v:List Nat):Prop:=∀ i,i<p->f (gv u i) (gv v i)=gv v i
abbrev ChS:=Nat×(List Nat->Nat)
def doS (f:Nat->Nat->Nat)(v:List Nat)(s:ChS):List Nat:=v.set s.1 (f (gv v s.1) (s.2 v))
structure OkS (n p:Nat) (f:Nat->Nat->Nat) (s:ChS):Prop where
 pl:s.1<p
 lt:∀ v,Vn n p v->s.2 v<n
 mono:∀ u v,Vn n p u->Vn n p v->leV f p u v->f (s.2 u) (s.2 v)=s.2 v
def ClS (f:Nat->Nat->Nat)(l:List ChS)(v:List Nat):Prop:=∀ s∈l,f (s.2 v) (gv v s.1)=gv v s.1
namespace Lad
variable {n:Nat}{f:Nat->Nat->Nat}(L:Lad n f){p:Nat}
include L
theorem leV_refl {v:List Nat}(h:Vn n p v):leV f p v v:=fun i hi=>L.idem _ (h.gv hi)
theorem leV_trans {u v w:List Nat}(hu:Vn n p u)(hv:Vn n p v)(hw:Vn n p w)(a:leV f p u v)(b:leV f p v w):leV f p u w:=fun i hi=>L.le_trans (hu.gv hi) (hv.gv hi) (hw.gv hi) (a i hi) (b i hi)
theorem leV_anti {u v:List Nat}(hu:Vn n p u)(hv:Vn n p v)(a:leV f p u v)(b:leV f p v u):u=v:=
 z50 (hu.len.trans hv.len.symm) fun i hi=>by
  rw[hu.len]at hi
  exact L.le_anti (hu.gv hi) (hv.gv hi) (a i hi) (b i hi)
theorem doS_V {v:List Nat}{s:ChS}(hs:OkS n p f s)(h:Vn n p v):Vn n p (doS f v s):=h.set (L.cl _ _ (h.gv hs.pl) (hs.lt v h))
theorem doS_gv {v:List Nat}{s:ChS}(hs:OkS n p f s)(h:Vn n p v)(i:Nat):gv (doS f v s) i=if i=s.1 then f (gv v s.1) (s.2 v)else gv v i:=j4o (by rw[h.len];exact hs.pl) _ _
theorem doS_up {v:List Nat}{s:ChS}(hs:OkS n p f s)(h:Vn n p v):leV f p v (doS f v s):=fun i hi=>by
 rw[L.doS_gv hs h]
 by_cases e:i=s.1
 ·subst e;rw[if_pos rfl];exact L.le_l (h.gv hi) (hs.lt v h)
 ·rw[if_neg e];exact L.idem _ (h.gv hi)
theorem doS_mono {u v:List Nat}{s:ChS}(hs:OkS n p f s)(hu:Vn n p u)(hv:Vn n p v)(a:leV f p u v):leV f p (doS f u s) (doS f v s):=fun i hi=>by
 rw[L.doS_gv hs hu,L.doS_gv hs hv]
 by_cases e:i=s.1
 ·subst e
  rw[if_pos rfl,if_pos rfl]
  have h1:=hu.gv hs.pl
  have h2:=hs.lt u hu
  have h3:=hv.gv hs.pl
  have h4:=hs.lt v hv
  exact L.lub h1 h2 (L.cl _ _ h3 h4) (L.le_trans h1 h3 (L.cl _ _ h3 h4) (a _ hs.pl) (L.le_l h3 h4)) (L.le_trans h2 h4 (L.cl _ _ h3 h4) (hs.mono u v hu hv a) (L.le_r h3 h4))
 ·rw[if_neg e,if_neg e];exact a i hi
theorem doS_fix {v:List Nat}{s:ChS}(hs:OkS n p f s)(h:Vn n p v):doS f v s=v ↔ f (s.2 v) (gv v s.1)=gv v s.1:=by
 constructor
 ·intro e
  have:=congrArg (fun u=>gv u s.1) e
  rw[L.doS_gv hs h,if_pos rfl]at this
  rw[L.comm _ _ (hs.lt v h) (h.gv hs.pl)]
  exact this
 ·intro e
  refine z50 (by unfold doS;rw[List.length_set]) fun i hi=>?_
  rw[L.doS_gv hs h]
  by_cases e':i=s.1
  ·subst e';rw[if_pos rfl,L.comm _ _ (h.gv hs.pl) (hs.lt v h)];exact e
  ·rw[if_neg e']
theorem foldS_V:∀ {l:List ChS} {v:List Nat},(∀ s∈l,OkS n p f s)->Vn n p v->Vn n p (l.foldl (doS f) v)
 | [],v,_,h=>h
 | s::l,v,hs,h=>foldS_V (l:=l) (fun t m=>hs t (List.mem_cons_of_mem _ m)) (L.doS_V (hs s List.mem_cons_self) h)
theorem foldS_up:∀ {l:List ChS} {v:List Nat},(∀ s∈l,OkS n p f s)->Vn n p v->leV f p v (l.foldl (doS f) v)
 | [],v,_,h=>L.leV_refl h
 | s::l,v,hs,h=>by
  have h1:=L.doS_V (hs s List.mem_cons_self) h
  have hl:∀ t∈l,OkS n p f t:=fun t m=>hs t (List.mem_cons_of_mem _ m)
  exact L.leV_trans h h1 (L.foldS_V (l:=l) hl h1) (L.doS_up (hs s List.mem_cons_self) h) (foldS_up (l:=l) hl h1)
theorem foldS_below {a:List Nat}(ha:Vn n p a):∀ {l:List ChS} {v:List Nat},(∀ s∈l,OkS n p f s)->Vn n p v->ClS f l a->leV f p v a->leV f p (l.foldl (doS f) v) a
 | [],v,_,h,_,e=>e
 | s::l,v,hs,h,c,e=>by
  have s0:=hs s List.mem_cons_self
  have h1:=L.doS_V s0 h
  have hl:∀ t∈l,OkS n p f t:=fun t m=>hs t (List.mem_cons_of_mem _ m)
  refine foldS_below ha (l:=l) hl h1 (fun t m=>c t (List.mem_cons_of_mem _ m)) ?_
  have:=L.doS_mono s0 h ha e
  rw[(L.doS_fix s0 ha).mpr (c s List.mem_cons_self)]at this
  exact this
theorem foldS_fix:∀ {l:List ChS} {v:List Nat},(∀ s∈l,OkS n p f s)->Vn n p v->(l.foldl (doS f) v=v ↔ ClS f l v)
 | [],v,_,h=>⟨fun _ _ m=>(List.not_mem_nil m).elim,fun _=>rfl⟩
 | s::l,v,hs,h=>by
  have s0:=hs s List.mem_cons_self
  have h1:=L.doS_V s0 h
  have hl:∀ t∈l,OkS n p f t:=fun t m=>hs t (List.mem_cons_of_mem _ m)
  constructor
  ·intro e
   have e0:l.foldl (doS f) (doS f v s)=v:=e
   have up:=L.foldS_up hl h1
   rw[e0]at up
   have e1:doS f v s=v:=L.leV_anti h1 h up (L.doS_up s0 h)
   rw[e1]at e0
   have c:=(foldS_fix (l:=l) hl h).mp e0
   intro t m
   rcases List.mem_cons.mp m with rfl|m
   ·exact(L.doS_fix s0 h).mp e1
   ·exact c t m
  ·intro c
   show l.foldl (doS f) (doS f v s)=v
   rw[(L.doS_fix s0 h).mpr (c s List.mem_cons_self)]
   exact(foldS_fix (l:=l) hl h).mpr fun t m=>c t (List.mem_cons_of_mem _ m)
def cnt (n:Nat)(f:Nat->Nat->Nat)(x:Nat):Nat:=((List.range n).filter fun y=>decide (f x y=y)).length
def mu (n:Nat)(f:Nat->Nat->Nat)(v:List Nat):Nat:=(v.map (cnt n f)).sum
omit L in
theorem j5q (x:Nat):cnt n f x<=n:=by
 have:=List.length_filter_le (fun y=>decide (f x y=y)) (List.range n)
 rw[List.length_range]at this
 exact this
omit L in
theorem mu_le {v:List Nat}(h:Vn n p v):mu n f v<=p*n:=by
 have key:∀ l:List Nat,(l.map (cnt n f)).sum<=l.length*n:=by
  intro l
  induction l with
  | nil=>simp
  | cons x l ih=>
   have:=j5q (n:=n) (f:=f) x
   simp only[List.map_cons,List.sum_cons,List.length_cons,Nat.succ_mul]
   omega
 have:=key v
 rw[h.len]at this
 exact this
omit L in
theorem x9x {q r:Nat->Bool}{a:Nat}:∀ {l:List Nat},(∀ x∈l,r x=true->q x=true)->a∈l->q a=true->r a=false->(l.filter r).length<(l.filter q).length
 | y::l,h,ha,hq,hr=>by
  have hl:∀ x∈l,r x=true->q x=true:=fun x m=>h x (List.mem_cons_of_mem _ m)
  have le:∀ l:List Nat,(∀ x∈l,r x=true->q x=true)->(l.filter r).length<=(l.filter q).length:=by
   intro l
   induction l with
   | nil=>intro _;simp
   | cons z l ih=>
    intro h
    have i:=ih fun x m=>h x (List.mem_cons_of_mem _ m)
    by_cases hz:r z=true
    ·rw[List.filter_cons_of_pos hz,List.filter_cons_of_pos (h z List.mem_cons_self hz)]
     simp only[List.length_cons];omega
    ·rw[List.filter_cons_of_neg hz]
     by_cases hz':q z=true
     ·rw[List.filter_cons_of_pos hz'];simp only[List.length_cons];omega
     ·rw[List.filter_cons_of_neg hz'];exact i
  by_cases e:y=a
  ·subst e
   rw[List.filter_cons_of_neg (by rw[hr];simp),List.filter_cons_of_pos hq]
   have:=le l hl
   simp only[List.length_cons];omega
  ·have ha':a∈l:=by
    rcases List.mem_cons.mp ha with h' | h'
    ·exact absurd h'.symm e
    ·exact h'
   have i:=x9x (l:=l) hl ha' hq hr
   by_cases hz:r y=true
   ·rw[List.filter_cons_of_pos hz,List.filter_cons_of_pos (h y List.mem_cons_self hz)]
    simp only[List.length_cons];omega
   ·rw[List.filter_cons_of_neg hz]
    by_cases hz':q y=true
    ·rw[List.filter_cons_of_pos hz'];simp only[List.length_cons];omega
    ·rw[List.filter_cons_of_neg hz'];exact i
theorem cnt_lt {x y:Nat}(hx:x<n)(hy:y<n)(h:f x y=y)(ne:x≠y):cnt n f y<cnt n f x:=by
 refine x9x (a:=x) (fun k m hk=>?_) (List.mem_range.mpr hx) (decide_eq_true (L.idem x hx)) (decide_eq_false fun e=>ne (L.le_anti hx hy h e))
 exact decide_eq_true (L.le_trans hx hy (List.mem_range.mp m) h (of_decide_eq_true hk))
theorem mu_lt {u v:List Nat}(hu:Vn n p u)(hv:Vn n p v)(a:leV f p u v)(ne:u≠v):mu n f v<mu n f u:=by
 have key:∀ (u v:List Nat),u.length=v.length->(∀ x∈u,x<n)->(∀ x∈v,x<n)->(∀ i,i<u.length->f (gv u i) (gv v i)=gv v i)->((v.map (cnt n f)).sum<=(u.map (cnt n f)).sum)/\(u≠v->(v.map (cnt n f)).sum<(u.map (cnt n f)).sum):=by
  intro u
  induction u with
  | nil=>
   intro v hl _ _ _
   have:v=[]:=List.length_eq_zero_iff.mp hl.symm
   subst this
   exact⟨Nat.le_refl _,fun h=>absurd rfl h⟩
  | cons x u ih=>
   intro v hl h1 h2 h3
   cases v with
   | nil=>cases hl
   | cons y v=>
    have hl':u.length=v.length:=by simpa using hl
    obtain⟨i1,i2⟩:=ih v hl' (fun z m=>h1 z (List.mem_cons_of_mem _ m)) (fun z m=>h2 z (List.mem_cons_of_mem _ m)) (fun i hi=>h3 (i+1) (by simpa using hi))
    have e0:f x y=y:=h3 0 (by simp)
    have hx:=h1 x List.mem_cons_self
    have hy:=h2 y List.mem_cons_self
    simp only[List.map_cons,List.sum_cons]
    by_cases e:x=y
    ·subst e
     exact⟨by omega,fun h=>by have:=i2 (fun z=>h (by rw[z]));omega⟩
    ·have:=L.cnt_lt hx hy e0 e
     exact⟨by omega,fun _=>by omega⟩
 exact(key u v (hu.len.trans hv.len.symm) hu.lt hv.lt (fun i hi=>a i (by rw[<- hu.len];exact hi))).2 ne
end Lad
end L3
namespace My
open PySem PySem.Spec PyProof.Rows L2 L3
def top (i:Nat):Stmt:=PySem.Challenge.pw_ladderhall_k91_whole_mapped.main.body.getD i (.Pass ⟨0,0,0,0⟩)
structure Bt (mg:Str->Option Value):Prop where
 m_ValueError:mg "ValueError" = none
 m_all:mg "all" = none
 m_bool:mg "bool" = none
 m_enumerate:mg "enumerate" = none
 m_int:mg "int" = none
 m_isinstance:mg "isinstance" = none
 m_len:mg "len" = none
 m_list:mg "list" = none
 m_max:mg "max" = none
 m_range:mg "range" = none
 m_set:mg "set" = none
 m_str:mg "str" = none
 m_tuple:mg "tuple" = none
 m_zip:mg "zip" = none
 k_MOST_BEGINS:∃ t,mg "MOST_BEGINS" = some (.int 60 t)
 k_MOST_PLACES:∃ t,mg "MOST_PLACES" = some (.int 8 t)
 k_MOST_WAYS:∃ t,mg "MOST_WAYS" = some (.int 60 t)
structure Xt (K:PySem.W.Frag) (mg:Str->Option Value):Prop where
 u:y3u K mg "RiseError" ["NoMap"]
 x_NoMap:∃ C,XNm K mg "NoMap" C
 i_NoHouse:IsC K mg ["NoMap"] "NoHouse"
 i_NoMap:IsC K mg ["NoMap"] "NoMap"
 i_NoPlace:IsC K mg ["NoMap"] "NoPlace"
 i_NoRule:IsC K mg ["NoMap"] "NoRule"
 i_NoStep:IsC K mg ["NoMap"] "NoStep"
 i_TooGreat:IsC K mg ["NoMap"] "TooGreat"
section
variable {P:Program}{w:World}{K:PySem.W.Frag}{mg:Str->Option Value}{base:Heap}
def y2p:x1a:=x14 (sIf (x3c (e2 dLt (x05 1) (x10 0))) (x21 (x19 0 (x05 1))) x53)
 (x14 (sIf (x3c (e2 dEq (x05 0) (x6q x0g))) (x21 (eC (.int 0))) x53)
 (x21 (e2 x3f (e2 y5f (x19 0 (e2 z9f (x05 1) (x10 0))) (eC (.int 31))) (x05 1))))
def x5a:List D->OD:=fnD 2 (y2p)
theorem y77:FnScope ["_law_script","_law_k"] ["_law_script","_law_k"] (x0b (top 57)):=fsq
theorem y91 (B:Bt mg)(a:At K mg "_law_cell" (top 57) ["_law_script","_law_k"]):Cal P w K mg base 1 "_law_cell" 2 (x5a):=
 Cal.mkQ (k:=0) a y77 fun f cdv A outer s H E hr=>
  x06 (x1w (y8f (x02 (qv 1)) (x0w B.m_len (qv 0))) (x0a (x0i (x0r (qv 0) (x02 (qv 1))))) x1e)
  (x06 (x1w (x9a hr (x02 (qv 0)) (x2v x04)) (x0a (x0i x0d)) x1e)
  (x0a (x0i (x1p (x7a (x0r (qv 0) (y4p (x02 (qv 1)) (x0w B.m_len (qv 0)))) x0d) (x02 (qv 1))))))
def y2z:x1a:=x14 (x25 3 (e2 z9f (e2 y5f (e2 x3f (x0m x5a 2 (x01 (x05 0) (x01 (x05 1) x0g))) (e2 y5f (eC (.int 6151)) (e2 x3f (x05 1) (eC (.int 1))))) (eC (.int 40692))) (eC (.int 2147483399))))
 (x21 (e2 z9f (e2 z9f (e2 x3f (e2 y5f (x05 3) (x05 3)) (e2 j69 (x05 3) (eC (.int 31)))) (eC (.int 2147483629))) (x05 2)))
def x0h:List D->OD:=fnD 4 (y2z)
theorem y1g:FnScope ["_law_script","_law_k","_law_many","_law_drawn"] ["_law_script","_law_k","_law_many"] (x0b (top 58)):=fsq
theorem y9e (B:Bt mg)(c11:Cal P w K mg base 1 "_law_cell" 2 x5a)(a:At K mg "_law_pick" (top 58) ["_law_script","_law_k","_law_many"]):Cal P w K mg base 2 "_law_pick" 3 (x0h):=
 Cal.mkQ (k:=1) a y1g fun f cdv A outer s H E hr=>
  x06 (x0o (i:=3) y1g.nd rfl (Or.inl rfl) (y4p (x7a (x1p (x07 c11 hr (by decide) (x00 (x02 (qv 0)) (x00 (x02 (qv 1)) x04 x03) x03)) (x7a x0d (x1p (x02 (qv 1)) x0d))) x0d) x0d))
  (x0a (x0i (y4p (y4p (x1p (x7a (x02 (qv 3)) (x02 (qv 3))) (z5u (x02 (qv 3)) x0d)) x0d) (x02 (qv 2)))))
def y6s:x1a:=x21 (x22 1 (x15 (x01 (x05 0) x0g)) (x0n 1) x1i (x22 1 (x15 (x01 (x05 0) x0g)) (x0n 2) x1i (eB j43 (x01 (x05 1) (x01 (x05 2) x0g))) false) false)
def x1f:List D->OD:=fnD 1 (y6s)
theorem y5c:FnScope ["_law_many"] ["_law_many"] (x0b (top 59)):=fsq
abbrev x9s:List Str:=["_law_many","_law_one","_law_other"]
theorem y3s:(x9s).Nodup:=by decide +kernel
abbrev x9o:List Str:=["_law_many","_law_one"]
theorem y3t:(x9o).Nodup:=by decide +kernel
theorem y7d (B:Bt mg)(a:At K mg "_law_chain" (top 59) ["_law_many"]):Cal P w K mg base 1 "_law_chain" 1 (x1f):=
 Cal.mkQ (k:=0) a y5c fun f cdv A outer s H E hr=>
  x0a (x0i (x24 (k:=1) (N':=x9o) false rfl ⟨rfl,by decide +kernel,rfl,rfl,rfl⟩ (x0v B.m_range (x00 (x02 (qv 0)) x04 x03)) (fun _ _ _ _=>x0k (i:=1) (show 1<=1 by decide) y3t rfl (Or.inr rfl) (Or.inl rfl)) (fun _ _ _ _=>x1c) (fun _ _ _ _=>x24 (k:=1) (N':=x9s) false rfl ⟨rfl,by decide +kernel,rfl,rfl,rfl⟩ (x0v B.m_range (x00 (x02 (qv 0)) x04 x03)) (fun _ _ _ _=>x0k (i:=2) (show 2<=2 by decide) y3s rfl (Or.inl rfl) (Or.inr rfl)) (fun _ _ _ _=>x1c) (fun _ _ _ _=>z5k rfl B.m_max PyProof.Rows.boot_max (x00 (x02 (qv 1)) (x00 (x02 (qv 2)) x04 x03) x03)))))
def y3m:x1a:=x14 (x25 2 (x10 1))
 (x14 (x25 3 (x6q x0g))
 (x14 (x78 (x15 (x01 (e2 y5f (x10 0) (x05 2)) x0g)) (x0n 4) (x14 (x25 5 (x6q x0g))
 (x14 (x78 (x15 (x01 (e2 y5f (x10 0) (x05 2)) x0g)) (x0n 6) (x14 (x25 7 (eIx (x19 0 (e2 j69 (x05 4) (x05 2))) (e2 j69 (x05 6) (x05 2))))
 (x50 (y3n 5 (x01 (e2 x3f (e2 y5f (x05 7) (x05 2)) (eIx (x19 1 (e2 z9f (x05 4) (x05 2))) (e2 z9f (x05 6) (x05 2)))) x0g)))))
 (x50 (y3n 3 (x01 (x05 5) x0g))))))
 (x21 (x05 3))))
def x13:List D->OD:=fnD 8 (y3m)
theorem x2f:FnScope ["_law_one","_law_other","_law_many","_law_made","_law_here","_law_row","_law_there","_law_first"] ["_law_one","_law_other"] (x0b (top 60)):=fsq
theorem y43 (B:Bt mg)(a:At K mg "_law_couples" (top 60) ["_law_one","_law_other"]):Cal P w K mg base 1 "_law_couples" 2 (x13):=
 Cal.mkQ (k:=0) a x2f fun f cdv A outer s H E hr=>
  x06 (x0o (i:=2) x2f.nd rfl (Or.inl rfl) (x0w B.m_len (qv 1)))
  (x06 (x0o (i:=3) x2f.nd rfl (Or.inl rfl) (x2v x04))
  (x06 (x2c PassesOwn.never rfl (x0v B.m_range (x00 (x7a (x0w B.m_len (qv 0)) (x02 (qv 2))) x04 x1h)) (x0k (i:=4) (show 0<=4 by decide) x2f.nd rfl (Or.inl rfl)) (x06 (x0o (i:=5) x2f.nd rfl (Or.inl rfl) (x2v x04))
  (x06 (x2c PassesOwn.never rfl (x0v B.m_range (x00 (x7a (x0w B.m_len (qv 0)) (x02 (qv 2))) x04 x1h)) (x0k (i:=6) (show 0<=6 by decide) x2f.nd rfl (Or.inl rfl)) (x06 (x0o (i:=7) x2f.nd rfl (Or.inl rfl) (x4u (x0r (qv 0) (z5u (x02 (qv 4)) (x02 (qv 2)))) (z5u (x02 (qv 6)) (x02 (qv 2)))))
  (x0a (x3n (x3p (qv 5) (x00 (x1p (x7a (x02 (qv 7)) (x02 (qv 2))) (x4u (x0r (qv 1) (y4p (x02 (qv 4)) (x02 (qv 2)))) (y4p (x02 (qv 6)) (x02 (qv 2))))) x04 x1h))))))
  (x0a (x3n (x3p (qv 3) (x00 (x02 (qv 5)) x04 x03)))))))
  (x0a (x0i (x02 (qv 3))))))
def x95:x1a:=x14 (x25 1 (x6q x0g))
 (x14 (x78 (x15 (x01 (e2 x3f (x05 0) (eC (.int 2))) x0g)) (x0n 2) (x14 (x25 3 (x6q x0g))
 (x14 (x78 (x15 (x01 (e2 x3f (x05 0) (eC (.int 2))) x0g)) (x0n 4) (x50 (y3n 3 (x01 (eIf (y8i (x3c (e2 dIn (eC (.int 0)) (x6z (x01 (x05 2) (x01 (x05 4) x0g))))) (x3c (e2 dEq (x05 2) (x05 4)))) (eB j43 (x01 (x05 2) (x01 (x05 4) x0g))) (e2 x3f (x05 0) (eC (.int 1)))) x0g))))
 (x50 (y3n 1 (x01 (x05 3) x0g))))))
 (x21 (x05 1)))
def x16:List D->OD:=fnD 5 (x95)
theorem x26:FnScope ["_law_many","_law_made","_law_one","_law_row","_law_other"] ["_law_many"] (x0b (top 61)):=fsq
theorem x8v (B:Bt mg)(a:At K mg "_law_side_by_side" (top 61) ["_law_many"]):Cal P w K mg base 1 "_law_side_by_side" 1 (x16):=
 Cal.mkQ (k:=0) a x26 fun f cdv A outer s H E hr=>
  x06 (x0o (i:=1) x26.nd rfl (Or.inl rfl) (x2v x04))
  (x06 (x2c PassesOwn.never rfl (x0v B.m_range (x00 (x1p (x02 (qv 0)) x0d) x04 x1h)) (x0k (i:=2) (show 0<=2 by decide) x26.nd rfl (Or.inl rfl)) (x06 (x0o (i:=3) x26.nd rfl (Or.inl rfl) (x2v x04))
  (x06 (x2c PassesOwn.never rfl (x0v B.m_range (x00 (x1p (x02 (qv 0)) x0d) x04 x1h)) (x0k (i:=4) (show 0<=4 by decide) x26.nd rfl (Or.inl rfl)) (x0a (x3n (x3p (qv 3) (x00 (z0v (y1x (x81 (z9l hr x0d (x3r (x00 (x02 (qv 2)) (x00 (x02 (qv 4)) x04 x03) x03))) (x5t (x9a hr (x02 (qv 2)) (x02 (qv 4)))))) (z5k rfl B.m_max PyProof.Rows.boot_max (x00 (x02 (qv 2)) (x00 (x02 (qv 4)) x04 x03) x03)) (x1p (x02 (qv 0)) x0d)) x04 z6y)))))
  (x0a (x3n (x3p (qv 1) (x00 (x02 (qv 3)) x04 x03)))))))
  (x0a (x0i (x02 (qv 1)))))
def y2d:x1a:=x14 (x25 2 (x0m x0h 3 (x01 (x05 0) (x01 (x05 1) (x01 (eC (.int 9)) x0g)))))
 (x14 (sIf (x3c (e2 dLt (x05 2) (eC (.int 3)))) (x21 (x0m x1f 1 (x01 (e2 x3f (eC (.int 1)) (x0m x0h 3 (x01 (x05 0) (x01 (e2 x3f (x05 1) (eC (.int 1))) (x01 (eC (.int 5)) x0g))))) x0g))) x53)
 (x14 (sIf (x3c (e2 dLt (x05 2) (eC (.int 5)))) (x21 (x0m x13 2 (x01 (x0m x1f 1 (x01 (eC (.int 2)) x0g)) (x01 (x0m x1f 1 (x01 (eIx (x6q (x01 (eC (.int 2)) (x01 (eC (.int 3)) (x01 (eC (.int 4)) x0g)))) (x0m x0h 3 (x01 (x05 0) (x01 (e2 x3f (x05 1) (eC (.int 1))) (x01 (eC (.int 3)) x0g))))) x0g)) x0g)))) x53)
 (x14 (sIf (x3c (e2 dLt (x05 2) (eC (.int 7)))) (x21 (x0m x16 1 (x01 (x0m x0h 3 (x01 (x05 0) (x01 (e2 x3f (x05 1) (eC (.int 1))) (x01 (eC (.int 5)) x0g)))) x0g))) x53)
 (x14 (sIf (x3c (e2 dEq (x05 2) (eC (.int 7)))) (x21 (x0m x13 2 (x01 (x0m x1f 1 (x01 (eC (.int 2)) x0g)) (x01 (x0m x13 2 (x01 (x0m x1f 1 (x01 (eC (.int 2)) x0g)) (x01 (x0m x1f 1 (x01 (eC (.int 2)) x0g)) x0g))) x0g)))) x53)
 (x14 (x25 3 (x6q (x01 (x6q (x01 (eC (.int 0)) (x01 (eC (.int 1)) (x01 (eC (.int 2)) (x01 (eC (.int 3)) (x01 (eC (.int 4)) x0g)))))) (x01 (x6q (x01 (eC (.int 1)) (x01 (eC (.int 1)) (x01 (eC (.int 2)) (x01 (eC (.int 4)) (x01 (eC (.int 4)) x0g)))))) (x01 (x6q (x01 (eC (.int 2)) (x01 (eC (.int 2)) (x01 (eC (.int 2)) (x01 (eC (.int 4)) (x01 (eC (.int 4)) x0g)))))) (x01 (x6q (x01 (eC (.int 3)) (x01 (eC (.int 4)) (x01 (eC (.int 4)) (x01 (eC (.int 3)) (x01 (eC (.int 4)) x0g)))))) (x01 (x6q (x01 (eC (.int 4)) (x01 (eC (.int 4)) (x01 (eC (.int 4)) (x01 (eC (.int 4)) (x01 (eC (.int 4)) x0g)))))) x0g)))))))
 (x21 (x05 3)))))))
def x5d:List D->OD:=fnD 4 (y2d)
theorem x7f:FnScope ["_law_script","_law_at","_law_kind","_law_rows"] ["_law_script","_law_at"] (x0b (top 62)):=fsq
theorem y8x (B:Bt mg)(c23:Cal P w K mg base 2 "_law_pick" 3 x0h)(c13:Cal P w K mg base 1 "_law_chain" 1 x1f)(c15:Cal P w K mg base 1 "_law_couples" 2 x13)(c26:Cal P w K mg base 1 "_law_side_by_side" 1 x16)(a:At K mg "_law_base" (top 62) ["_law_script","_law_at"]):Cal P w K mg base 3 "_law_base" 2 (x5d):=
 Cal.mkQ (k:=2) a x7f fun f cdv A outer s H E hr=>
  x06 (x0o (i:=2) x7f.nd rfl (Or.inl rfl) (x07 c23 hr (by decide) (x00 (x02 (qv 0)) (x00 (x02 (qv 1)) (x00 x0d x04 x08) x03) x03)))
  (x06 (x1w (y8f (x02 (qv 2)) x0d) (x0a (x0i (x07 c13 hr (by decide) (x00 (x1p x0d (x07 c23 hr (by decide) (x00 (x02 (qv 0)) (x00 (x1p (x02 (qv 1)) x0d) (x00 x0d x04 x08) x1h) x03))) x04 x1h)))) x1e)
  (x06 (x1w (y8f (x02 (qv 2)) x0d) (x0a (x0i (x07 c15 hr (by decide) (x00 (x07 c13 hr (by decide) (x00 x0d x04 x08)) (x00 (x07 c13 hr (by decide) (x00 (x4u (x2v (x00 x0d (x00 x0d (x00 x0d x04 x08) x08) x08)) (x07 c23 hr (by decide) (x00 (x02 (qv 0)) (x00 (x1p (x02 (qv 1)) x0d) (x00 x0d x04 x08) x1h) x03))) x04 x0t)) x04 x0l) x0l)))) x1e)
  (x06 (x1w (y8f (x02 (qv 2)) x0d) (x0a (x0i (x07 c26 hr (by decide) (x00 (x07 c23 hr (by decide) (x00 (x02 (qv 0)) (x00 (x1p (x02 (qv 1)) x0d) (x00 x0d x04 x08) x1h) x03)) x04 x0l)))) x1e)
  (x06 (x1w (x9a hr (x02 (qv 2)) x0d) (x0a (x0i (x07 c15 hr (by decide) (x00 (x07 c13 hr (by decide) (x00 x0d x04 x08)) (x00 (x07 c15 hr (by decide) (x00 (x07 c13 hr (by decide) (x00 x0d x04 x08)) (x00 (x07 c13 hr (by decide) (x00 x0d x04 x08)) x04 x0l) x0l)) x04 x0l) x0l)))) x1e)
  (x06 (x0o (i:=3) x7f.nd rfl (Or.inl rfl) (x2v (x00 (x2v (x00 x0d (x00 x0d (x00 x0d (x00 x0d (x00 x0d x04 x08) x08) x08) x08) x08)) (x00 (x2v (x00 x0d (x00 x0d (x00 x0d (x00 x0d (x00 x0d x04 x08) x08) x08) x08) x08)) (x00 (x2v (x00 x0d (x00 x0d (x00 x0d (x00 x0d (x00 x0d x04 x08) x08) x08) x08) x08)) (x00 (x2v (x00 x0d (x00 x0d (x00 x0d (x00 x0d (x00 x0d x04 x08) x08) x08) x08) x08)) (x00 (x2v (x00 x0d (x00 x0d (x00 x0d (x00 x0d (x00 x0d x04 x08) x08) x08) x08) x08)) x04 y39) y39) y39) y39) y39)))
  (x0a (x0i (x02 (qv 3)))))))))
def y02:x1a:=x14 (x25 2 (x0m x5d 2 (x01 (x05 0) (x01 (x05 1) x0g))))
 (x14 (x25 3 (x7j (x01 (x10 2) x0g)))
 (x14 (x25 4 (x22 1 (x15 (x01 (x10 2) x0g)) (x0n 8) x1i (z5x 3 (x01 (x0m x0h 3 (x01 (x05 0) (x01 (e2 x3f (e2 x3f (x05 1) (eC (.int 2))) (x05 8)) (x01 (x10 3) x0g)))) x0g)) false))
 (x14 (x25 5 (x22 1 (x4w (x05 2)) (x0n 8) x1i (y2v (x6q (x01 (eC (.int 0)) x0g)) (x10 2)) true))
 (x14 (x78 (x15 (x01 (x10 2) x0g)) (x0n 6) (x78 (x15 (x01 (x10 2) x0g)) (x0n 7) (y3r 5 (qIx 4 (y67 6)) (qIx 4 (y67 7)) (x19 4 (eIx (x19 2 (x05 6)) (x05 7))))))
 (x21 (x1k (x01 (x22 1 (x4w (x05 5)) (x0n 8) x1i (x1k (x01 (x05 8) x0g)) false) x0g)))))))
def x49:List D->OD:=fnD 8 (y02)
theorem x2k:FnScope ["_law_script","_law_at","_law_base_here","_law_left","_law_name","_law_made","_law_one","_law_other"] ["_law_script","_law_at"] (x0b (top 63)):=fsq
abbrev x8i:List Str:=["_law_script","_law_at","_law_base_here","_law_left","_law_name","_law_made","_law_one","_law_other","_law_k"]
theorem y2w:(x8i).Nodup:=by decide +kernel
abbrev x5w:List Str:=["_law_script","_law_at","_law_base_here","_law_left","_law_name","_law_made","_law_one","_law_other","_law_row"]
theorem x82:(x5w).Nodup:=by decide +kernel
theorem y57 (B:Bt mg)(c10:Cal P w K mg base 3 "_law_base" 2 x5d)(c23:Cal P w K mg base 2 "_law_pick" 3 x0h)(a:At K mg "_law_ladder" (top 63) ["_law_script","_law_at"]):Cal P w K mg base 4 "_law_ladder" 2 (x49):=
 Cal.mkQ (k:=3) a x2k fun f cdv A outer s H E hr=>
  x06 (x0o (i:=2) x2k.nd rfl (Or.inr rfl) (x07 c10 hr (by decide) (x00 (x02 (qv 0)) (x00 (x02 (qv 1)) x04 x03) x03)))
  (x06 (x0o (i:=3) x2k.nd rfl (Or.inr rfl) (y2a rfl B.m_list PyProof.Rows.boot_list B.m_range (x00 (x0w B.m_len (qv 2)) x04 x0l)))
  (x06 (x5k (i:=4) (k:=1) (N':=x8i) false x2k.nd rfl (Or.inl rfl) rfl rfl ⟨rfl,by decide +kernel,rfl,rfl,rfl⟩ (x0v B.m_range (x00 (x0w B.m_len (qv 2)) x04 x0l)) (fun _ _ _ _=>x0k (i:=8) (show 8<=8 by decide) y2w rfl (Or.inl rfl) (Or.inr rfl)) (fun _ _ _ _=>x1c) (fun _ _ _ _=>z9g (qv 3) (x00 (x07 c23 hr (by decide) (x00 (x02 (qv 0)) (x00 (x1p (x1p (x02 (qv 1)) x0d) (x02 (qv 8))) (x00 (x0w B.m_len (qv 3)) x04 x0l) x1h) x03)) x04 x0l)))
  (x06 (x5k (i:=5) (k:=1) (N':=x5w) true x2k.nd rfl (Or.inl rfl) rfl rfl ⟨rfl,by decide +kernel,rfl,rfl,rfl⟩ (x2h (x02 (qv 2))) (fun _ _ _ _=>x0k (i:=8) (show 8<=8 by decide) x82 rfl (Or.inl rfl) (Or.inr rfl)) (fun _ _ _ _=>x1c) (fun _ _ _ _=>z06 (x2v (x00 x0d x04 x08)) (x0w B.m_len (qv 2))))
  (x06 (x2c PassesOwn.never rfl (x0v B.m_range (x00 (x0w B.m_len (qv 2)) x04 x0l)) (x0k (i:=6) (show 0<=6 by decide) x2k.nd rfl (Or.inl rfl)) (x0a (x2c PassesOwn.never rfl (x0v B.m_range (x00 (x0w B.m_len (qv 2)) x04 x0l)) (x0k (i:=7) (show 0<=7 by decide) x2k.nd rfl (Or.inl rfl)) (x0a (z0i (qv 5) (z8i (qv 4) (y4i (qv 6))) (z8i (qv 4) (y4i (qv 7))) (x0r (qv 4) (x4u (x0r (qv 2) (x02 (qv 6))) (x02 (qv 7)))))))))
  (x0a (x0i (x1t B.m_tuple PyProof.Rows.boot_tuple (x00 (x24 (k:=1) (N':=x5w) false rfl ⟨rfl,by decide +kernel,rfl,rfl,rfl⟩ (x2h (x02 (qv 5))) (fun _ _ _ _=>x0k (i:=8) (show 8<=8 by decide) x82 rfl (Or.inl rfl) (Or.inr rfl)) (fun _ _ _ _=>x1c) (fun _ _ _ _=>x1t B.m_tuple PyProof.Rows.boot_tuple (x00 (x02 (qv 8)) x04 x03))) x04 x1d))))))))
def y15:x1a:=x21 (x22 1 (x15 (x01 (x10 0) x0g)) (x0n 2) (x3c (e2 dEq (eIx (x19 0 (x05 2)) (x05 1)) (x05 1))) (x05 2) false)
def x29:List D->OD:=fnD 2 (y15)
theorem y69:FnScope ["_law_ladder_here","_law_worth"] ["_law_ladder_here","_law_worth"] (x0b (top 66)):=fsq
abbrev x9m:List Str:=["_law_ladder_here","_law_worth","_law_one"]
theorem y46:(x9m).Nodup:=by decide +kernel
theorem y7w (B:Bt mg)(a:At K mg "_law_under" (top 66) ["_law_ladder_here","_law_worth"]):Cal P w K mg base 1 "_law_under" 2 (x29):=
 Cal.mkQ (k:=0) a y69 fun f cdv A outer s H E hr=>
  x0a (x0i (x24 (k:=1) (N':=x9m) false rfl ⟨rfl,by decide +kernel,rfl,rfl,rfl⟩ (x0v B.m_range (x00 (x0w B.m_len (qv 0)) x04 x0l)) (fun _ _ _ _=>x0k (i:=2) (show 2<=2 by decide) y46 rfl (Or.inl rfl) (Or.inr rfl)) (fun _ _ _ _=>x9r (x9a hr (x4u (x0r (qv 0) (x02 (qv 2))) (x02 (qv 1))) (x02 (qv 1)))) (fun _ _ _ _=>x02 (qv 2))))
def y38:x1a:=x14 (x25 2 (x0m x29 2 (x01 (x05 0) (x01 (x05 1) x0g))))
 (x21 (x1k (x01 (x22 1 (x15 (x01 (x10 0) x0g)) (x0n 3) x1i (eIf (x3c (e2 dIn (x05 3) (x05 2))) (eC (.int 0)) (eC (.int 1))) false) x0g)))
def x4l:List D->OD:=fnD 3 (y38)
theorem y1n:FnScope ["_law_ladder_here","_law_worth","_law_under_here"] ["_law_ladder_here","_law_worth"] (x0b (top 71)):=fsq
abbrev y1h:List Str:=["_law_ladder_here","_law_worth","_law_under_here","_law_one"]
theorem y59:(y1h).Nodup:=by decide +kernel
theorem y9j (B:Bt mg)(c30:Cal P w K mg base 1 "_law_under" 2 x29)(a:At K mg "_law_over" (top 71) ["_law_ladder_here","_law_worth"]):Cal P w K mg base 2 "_law_over" 2 (x4l):=
 Cal.mkQ (k:=1) a y1n fun f cdv A outer s H E hr=>
  x06 (x0o (i:=2) y1n.nd rfl (Or.inr rfl) (x07 c30 hr (by decide) (x00 (x02 (qv 0)) (x00 (x02 (qv 1)) x04 x03) x03)))
  (x0a (x0i (x1t B.m_tuple PyProof.Rows.boot_tuple (x00 (x24 (k:=1) (N':=y1h) false rfl ⟨rfl,by decide +kernel,rfl,rfl,rfl⟩ (x0v B.m_range (x00 (x0w B.m_len (qv 0)) x04 x0l)) (fun _ _ _ _=>x0k (i:=3) (show 3<=3 by decide) y59 rfl (Or.inl rfl) (Or.inr rfl)) (fun _ _ _ _=>x1c) (fun _ _ _ _=>z0v (z9l hr (x02 (qv 3)) (x02 (qv 2))) x0d x0d)) x04 x1d))))
abbrev x8z:x1a:=x78 (x15 (x01 (x10 2) x0g)) (x0n 11) (y3r 7 (qIx 9 (y67 10)) (qIx 9 (y67 11)) (x19 9 (eIx (x19 2 (x05 10)) (x05 11))))
abbrev x5c:x1a:=y3r 7 (qIx 9 (y67 10)) (qIx 9 (y67 11)) (x19 9 (eIx (x19 2 (x05 10)) (x05 11)))
def y4n:x1a:=x14 (x25 3 (x0m x0h 3 (x01 (x05 0) (x01 (x05 1) (x01 (eC (.int 4)) x0g)))))
 (x14 (x25 4 (x0m x4l 2 (x01 (x05 2) (x01 (x0m x0h 3 (x01 (x05 0) (x01 (e2 x3f (x05 1) (eC (.int 1))) (x01 (x10 2) x0g)))) x0g))))
 (x14 (x25 5 (x0m x4l 2 (x01 (x05 2) (x01 (x0m x0h 3 (x01 (x05 0) (x01 (e2 x3f (x05 1) (eC (.int 2))) (x01 (x10 2) x0g)))) x0g))))
 (x14 (x25 6 (x6z (x01 (x6z (x01 (eC (.int 0)) (x01 (eC (.int 1)) x0g))) (x01 (x6z (x01 (eC (.int 1)) (x01 (eC (.int 1)) x0g))) x0g))))
 (x14 (sIf (x3c (e2 dEq (x05 3) (eC (.int 0)))) (x21 (x6z (x01 (x05 6) (x01 (x05 4) x0g)))) x53)
 (x14 (sIf (x3c (e2 dLt (x05 3) (eC (.int 3)))) (x14 (x25 7 (x1k (x01 (x22 1 (x4w (x0m x13 2 (x01 (x05 6) (x01 (x05 6) x0g)))) (x0n 12) x1i (x1k (x01 (x05 12) x0g)) false) x0g)))
 (x21 (x6z (x01 (x05 7) (x01 (x1k (x01 (x22 2 (y6y (x01 (x05 4) (x01 (x05 5) x0g))) (y64 (x18 (x0n 12) (x18 (x0n 13) x5v))) x1i (e2 x3f (e2 y5f (eC (.int 2)) (x05 12)) (x05 13)) false) x0g)) x0g))))) x53)
 (x14 (x25 8 (x7j (x01 (x10 2) x0g)))
 (x14 (x25 9 (x22 1 (x15 (x01 (x10 2) x0g)) (x0n 12) x1i (z5x 8 (x01 (x0m x0h 3 (x01 (x05 0) (x01 (e2 x3f (e2 x3f (x05 1) (eC (.int 3))) (x05 12)) (x01 (x10 8) x0g)))) x0g)) false))
 (x14 (x25 7 (x22 1 (x4w (x05 2)) (x0n 12) x1i (y2v (x6q (x01 (eC (.int 0)) x0g)) (x10 2)) true))
 (x14 (x78 (x15 (x01 (x10 2) x0g)) (x0n 10) (x78 (x15 (x01 (x10 2) x0g)) (x0n 11) (y3r 7 (qIx 9 (y67 10)) (qIx 9 (y67 11)) (x19 9 (eIx (x19 2 (x05 10)) (x05 11))))))
 (x21 (x6z (x01 (x1k (x01 (x22 1 (x4w (x05 7)) (x0n 12) x1i (x1k (x01 (x05 12) x0g)) false) x0g)) (x01 (x1k (x01 (x05 9) x0g)) x0g)))))))))))))
def x54:List D->OD:=fnD 12 (y4n)
theorem x2d:FnScope ["_law_script","_law_at","_law_ladder_here","_law_way","_law_first","_law_second","_law_two","_law_rows","_law_left","_law_name","_law_one","_law_other"] ["_law_script","_law_at","_law_ladder_here"] (x0b (top 72)):=fsq
abbrev x6o:List Str:=["_law_script","_law_at","_law_ladder_here","_law_way","_law_first","_law_second","_law_two","_law_rows","_law_left","_law_name","_law_one","_law_other","_law_row"]
theorem x7t:(x6o).Nodup:=by decide +kernel
abbrev y2l:List Str:=["_law_script","_law_at","_law_ladder_here","_law_way","_law_first","_law_second","_law_two","_law_rows","_law_left","_law_name","_law_one","_law_other","_law_mine","_law_yours"]
theorem y16:(y2l).Nodup:=by decide +kernel
abbrev y33:List Str:=["_law_script","_law_at","_law_ladder_here","_law_way","_law_first","_law_second","_law_two","_law_rows","_law_left","_law_name","_law_one","_law_other","_law_k"]
theorem y75:(y33).Nodup:=by decide +kernel
theorem z1i (B:Bt mg)(c23:Cal P w K mg base 2 "_law_pick" 3 x0h)(c22:Cal P w K mg base 2 "_law_over" 2 x4l)(c15:Cal P w K mg base 1 "_law_couples" 2 x13)(a:At K mg "_law_map" (top 72) ["_law_script","_law_at","_law_ladder_here"]):Cal P w K mg base 3 "_law_map" 3 (x54):=
 Cal.mkQ (k:=2) a x2d fun f cdv A outer s H E hr=>
  x06 (x0o (i:=3) x2d.nd rfl (Or.inl rfl) (x07 c23 hr (by decide) (x00 (x02 (qv 0)) (x00 (x02 (qv 1)) (x00 x0d x04 x08) x03) x03)))
  (x06 (x0o (i:=4) x2d.nd rfl (Or.inl rfl) (x07 c22 hr (by decide) (x00 (x02 (qv 2)) (x00 (x07 c23 hr (by decide) (x00 (x02 (qv 0)) (x00 (x1p (x02 (qv 1)) x0d) (x00 (x0w B.m_len (qv 2)) x04 x0l) x1h) x03)) x04 x0l) x03)))
  (x06 (x0o (i:=5) x2d.nd rfl (Or.inl rfl) (x07 c22 hr (by decide) (x00 (x02 (qv 2)) (x00 (x07 c23 hr (by decide) (x00 (x02 (qv 0)) (x00 (x1p (x02 (qv 1)) x0d) (x00 (x0w B.m_len (qv 2)) x04 x0l) x1h) x03)) x04 x0l) x03)))
  (x06 (x0o (i:=6) x2d.nd rfl (Or.inl rfl) (x3r (x00 (x3r (x00 x0d (x00 x0d x04 x08) x08)) (x00 (x3r (x00 x0d (x00 x0d x04 x08) x08)) x04 y25) y25)))
  (x06 (x1w (x9a hr (x02 (qv 3)) x0d) (x0a (x0i (x3r (x00 (x02 (qv 6)) (x00 (x02 (qv 4)) x04 x03) x03)))) x1e)
  (x06 (x1w (y8f (x02 (qv 3)) x0d) (x06 (x0o (i:=7) x2d.nd rfl (Or.inl rfl) (x1t B.m_tuple PyProof.Rows.boot_tuple (x00 (x24 (k:=1) (N':=x6o) false rfl ⟨rfl,by decide +kernel,rfl,rfl,rfl⟩ (x2h (x07 c15 hr (by decide) (x00 (x02 (qv 6)) (x00 (x02 (qv 6)) x04 x03) x03))) (fun _ _ _ _=>x0k (i:=12) (show 12<=12 by decide) x7t rfl (Or.inl rfl) (Or.inr rfl)) (fun _ _ _ _=>x1c) (fun _ _ _ _=>x1t B.m_tuple PyProof.Rows.boot_tuple (x00 (x02 (qv 12)) x04 x03))) x04 x1d)))
  (x0a (x0i (x3r (x00 (x02 (qv 7)) (x00 (x1t B.m_tuple PyProof.Rows.boot_tuple (x00 (x24 (k:=2) (N':=y2l) false rfl ⟨rfl,by decide +kernel,rfl,rfl,rfl⟩ (z38 B.m_zip (x00 (x02 (qv 4)) (x00 (x02 (qv 5)) x04 x03) x03)) (fun _ _ _ _=>x7h (n:=2) rfl (x1n (x0k (i:=12) (show 12<=12 by decide) y16 rfl (Or.inl rfl) (Or.inr rfl)) (x1n (x0k (i:=13) (show 12<=13 by decide) y16 rfl (Or.inl rfl) (Or.inr rfl)) x5q)) y0i) (fun _ _ _ _=>x1c) (fun _ _ _ _=>x1p (x7a x0d (x02 (qv 12))) (x02 (qv 13)))) x04 x1d)) x04 x0l) x03))))) x1e)
  (x06 (x0o (i:=8) x2d.nd rfl (Or.inr rfl) (y2a rfl B.m_list PyProof.Rows.boot_list B.m_range (x00 (x0w B.m_len (qv 2)) x04 x0l)))
  (x06 (x5k (i:=9) (k:=1) (N':=y33) false x2d.nd rfl (Or.inl rfl) rfl rfl ⟨rfl,by decide +kernel,rfl,rfl,rfl⟩ (x0v B.m_range (x00 (x0w B.m_len (qv 2)) x04 x0l)) (fun _ _ _ _=>x0k (i:=12) (show 12<=12 by decide) y75 rfl (Or.inl rfl) (Or.inr rfl)) (fun _ _ _ _=>x1c) (fun _ _ _ _=>z9g (qv 8) (x00 (x07 c23 hr (by decide) (x00 (x02 (qv 0)) (x00 (x1p (x1p (x02 (qv 1)) x0d) (x02 (qv 12))) (x00 (x0w B.m_len (qv 8)) x04 x0l) x1h) x03)) x04 x0l)))
  (x06 (x5k (i:=7) (k:=1) (N':=x6o) true x2d.nd rfl (Or.inl rfl) rfl rfl ⟨rfl,by decide +kernel,rfl,rfl,rfl⟩ (x2h (x02 (qv 2))) (fun _ _ _ _=>x0k (i:=12) (show 12<=12 by decide) x7t rfl (Or.inl rfl) (Or.inr rfl)) (fun _ _ _ _=>x1c) (fun _ _ _ _=>z06 (x2v (x00 x0d x04 x08)) (x0w B.m_len (qv 2))))
  (x06 (x2c PassesOwn.never rfl (x0v B.m_range (x00 (x0w B.m_len (qv 2)) x04 x0l)) (x0k (i:=10) (show 0<=10 by decide) x2d.nd rfl (Or.inl rfl)) (x0a (x2c PassesOwn.never rfl (x0v B.m_range (x00 (x0w B.m_len (qv 2)) x04 x0l)) (x0k (i:=11) (show 0<=11 by decide) x2d.nd rfl (Or.inl rfl)) (x0a (z0i (qv 7) (z8i (qv 9) (y4i (qv 10))) (z8i (qv 9) (y4i (qv 11))) (x0r (qv 9) (x4u (x0r (qv 2) (x02 (qv 10))) (x02 (qv 11)))))))))
  (x0a (x0i (x3r (x00 (x1t B.m_tuple PyProof.Rows.boot_tuple (x00 (x24 (k:=1) (N':=x6o) false rfl ⟨rfl,by decide +kernel,rfl,rfl,rfl⟩ (x2h (x02 (qv 7))) (fun _ _ _ _=>x0k (i:=12) (show 12<=12 by decide) x7t rfl (Or.inl rfl) (Or.inr rfl)) (fun _ _ _ _=>x1c) (fun _ _ _ _=>x1t B.m_tuple PyProof.Rows.boot_tuple (x00 (x02 (qv 12)) x04 x03))) x04 x1d)) (x00 (x1t B.m_tuple PyProof.Rows.boot_tuple (x00 (x02 (qv 9)) x04 x03)) x04 x0l) x0l)))))))))))))
def y4x:x1a:=x21 (eIx (x22 1 (x15 (x01 (x10 0) x0g)) (x0n 1) (x3c (e2 dEq (y11 (x01 (x19 0 (x05 1)) x0g)) (x7j (x01 (x10 0) x0g)))) (x05 1) false) (eC (.int 0)))
def x2t:List D->OD:=fnD 1 (y4x)
theorem y8v:FnScope ["_law_ladder_here"] ["_law_ladder_here"] (x0b (top 64)):=fsq
abbrev y3j:List Str:=["_law_ladder_here","_law_worth"]
theorem y7k:(y3j).Nodup:=by decide +kernel
theorem z2t (B:Bt mg)(a:At K mg "_law_low" (top 64) ["_law_ladder_here"]):Cal P w K mg base 1 "_law_low" 1 (x2t):=
 Cal.mkQ (k:=0) a y8v fun f cdv A outer s H E hr=>
  x0a (x0i (x4u (x24 (k:=1) (N':=y3j) false rfl ⟨rfl,by decide +kernel,rfl,rfl,rfl⟩ (x0v B.m_range (x00 (x0w B.m_len (qv 0)) x04 x0l)) (fun _ _ _ _=>x0k (i:=1) (show 1<=1 by decide) y7k rfl (Or.inl rfl) (Or.inr rfl)) (fun _ _ _ _=>x9r (x9a hr (z35 B.m_list PyProof.Rows.boot_list (x00 (x0r (qv 0) (x02 (qv 1))) x04 x0t)) (y2a rfl B.m_list PyProof.Rows.boot_list B.m_range (x00 (x0w B.m_len (qv 0)) x04 x0l)))) (fun _ _ _ _=>x02 (qv 1))) x0d))
def y30:x1a:=x14 (x25 2 (x0m x2t 1 (x01 (x05 0) x0g)))
 (x14 (x78 (x4w (x05 1)) (x0n 3) (x25 2 (eIx (x19 0 (x05 2)) (x05 3))))
 (x21 (x05 2)))
def x3x:List D->OD:=fnD 4 (y30)
theorem x5p:FnScope ["_law_ladder_here","_law_worths_here","_law_here","_law_worth"] ["_law_ladder_here","_law_worths_here"] (x0b (top 65)):=fsq
theorem y8z (B:Bt mg)(c19:Cal P w K mg base 1 "_law_low" 1 x2t)(a:At K mg "_law_join" (top 65) ["_law_ladder_here","_law_worths_here"]):Cal P w K mg base 2 "_law_join" 2 (x3x):=
 Cal.mkQ (k:=1) a x5p fun f cdv A outer s H E hr=>
  x06 (x0o (i:=2) x5p.nd rfl (Or.inl rfl) (x07 c19 hr (by decide) (x00 (x02 (qv 0)) x04 x03)))
  (x06 (x2c PassesOwn.never rfl (x2h (x02 (qv 1))) (x0k (i:=3) (show 0<=3 by decide) x5p.nd rfl (Or.inl rfl)) (x0a (x0o (i:=2) x5p.nd rfl (Or.inl rfl) (x4u (x0r (qv 0) (x02 (qv 2))) (x02 (qv 3))))))
  (x0a (x0i (x02 (qv 2)))))
def y2h:x1a:=x14 (x25 3 (x0m x2t 1 (x01 (x05 2) x0g)))
 (x14 (x25 4 (x6q x0g))
 (x14 (x78 (x15 (x01 (x10 2) x0g)) (x0n 5) (x50 (y3n 4 (x01 (eIx (x6q (x01 (x05 3) (x01 (x05 5) (x01 (x0m x0h 3 (x01 (x05 0) (x01 (e2 x3f (x05 1) (x05 5)) (x01 (x10 2) x0g)))) x0g)))) (x0m x0h 3 (x01 (x05 0) (x01 (e2 x3f (e2 x3f (x05 1) (eC (.int 8))) (x05 5)) (x01 (eC (.int 3)) x0g))))) x0g))))
 (x14 (x25 6 (x6q x0g))
 (x14 (x78 (x15 (x01 (x10 2) x0g)) (x0n 5) (x50 (y3n 6 (x01 (x0m x3x 2 (x01 (x05 2) (x01 (x22 1 (x4w (x0m x29 2 (x01 (x05 2) (x01 (x05 5) x0g)))) (x0n 7) x1i (x19 4 (x05 7)) false) x0g))) x0g))))
 (x21 (x1k (x01 (x05 6) x0g)))))))
def x2g:List D->OD:=fnD 7 (y2h)
theorem x3y:FnScope ["_law_script","_law_at","_law_ladder_here","_law_low_here","_law_drawn","_law_worth","_law_made"] ["_law_script","_law_at","_law_ladder_here"] (x0b (top 67)):=fsq
abbrev y19:List Str:=["_law_script","_law_at","_law_ladder_here","_law_low_here","_law_drawn","_law_worth","_law_made","_law_one"]
theorem y5j:(y19).Nodup:=by decide +kernel
theorem y92 (B:Bt mg)(c19:Cal P w K mg base 1 "_law_low" 1 x2t)(c23:Cal P w K mg base 2 "_law_pick" 3 x0h)(c17:Cal P w K mg base 2 "_law_join" 2 x3x)(c30:Cal P w K mg base 1 "_law_under" 2 x29)(a:At K mg "_law_rule" (top 67) ["_law_script","_law_at","_law_ladder_here"]):Cal P w K mg base 3 "_law_rule" 3 (x2g):=
 Cal.mkQ (k:=2) a x3y fun f cdv A outer s H E hr=>
  x06 (x0o (i:=3) x3y.nd rfl (Or.inl rfl) (x07 c19 hr (by decide) (x00 (x02 (qv 2)) x04 x03)))
  (x06 (x0o (i:=4) x3y.nd rfl (Or.inr rfl) (x2v x04))
  (x06 (x2c PassesOwn.never rfl (x0v B.m_range (x00 (x0w B.m_len (qv 2)) x04 x0l)) (x0k (i:=5) (show 0<=5 by decide) x3y.nd rfl (Or.inl rfl)) (x0a (x3n (x3p (qv 4) (x00 (x4u (x2v (x00 (x02 (qv 3)) (x00 (x02 (qv 5)) (x00 (x07 c23 hr (by decide) (x00 (x02 (qv 0)) (x00 (x1p (x02 (qv 1)) (x02 (qv 5))) (x00 (x0w B.m_len (qv 2)) x04 x0l) x1h) x03)) x04 x0l) x03) x03)) (x07 c23 hr (by decide) (x00 (x02 (qv 0)) (x00 (x1p (x1p (x02 (qv 1)) x0d) (x02 (qv 5))) (x00 x0d x04 x08) x1h) x03))) x04 x0t)))))
  (x06 (x0o (i:=6) x3y.nd rfl (Or.inl rfl) (x2v x04))
  (x06 (x2c PassesOwn.never rfl (x0v B.m_range (x00 (x0w B.m_len (qv 2)) x04 x0l)) (x0k (i:=5) (show 0<=5 by decide) x3y.nd rfl (Or.inl rfl)) (x0a (x3n (x3p (qv 6) (x00 (x07 c17 hr (by decide) (x00 (x02 (qv 2)) (x00 (x24 (k:=1) (N':=y19) false rfl ⟨rfl,by decide +kernel,rfl,rfl,rfl⟩ (x2h (x07 c30 hr (by decide) (x00 (x02 (qv 2)) (x00 (x02 (qv 5)) x04 x03) x03))) (fun _ _ _ _=>x0k (i:=7) (show 7<=7 by decide) y5j rfl (Or.inl rfl) (Or.inr rfl)) (fun _ _ _ _=>x1c) (fun _ _ _ _=>x0r (qv 4) (x02 (qv 7)))) x04 x1d) x03)) x04 x0l)))))
  (x0a (x0i (x1t B.m_tuple PyProof.Rows.boot_tuple (x00 (x02 (qv 6)) x04 x03))))))))
def y41:x1a:=x14 (x78 (x15 (x01 (x10 0) x0g)) (x0n 2) (x78 (x15 (x01 (x05 2) x0g)) (x0n 3) (x14 (x25 4 (eIx (x19 0 (x19 1 (x05 2))) (x19 1 (x05 3))))
 (sIf (x3c (e2 dNe (x19 1 (eIx (x19 0 (x05 2)) (x05 3))) (x05 4))) (x21 (eC (.bl false))) x53))))
 (x21 (eC (.bl true)))
def x5r:List D->OD:=fnD 5 (y41)
theorem x46:FnScope ["_law_ladder_here","_law_rule_here","_law_one","_law_other","_law_due"] ["_law_ladder_here","_law_rule_here"] (x0b (top 68)):=fsq
theorem y3q (B:Bt mg)(a:At K mg "_law_spreads" (top 68) ["_law_ladder_here","_law_rule_here"]):Cal P w K mg base 1 "_law_spreads" 2 (x5r):=
 Cal.mkQ (k:=0) a x46 fun f cdv A outer s H E hr=>
  x06 (x2c PassesOwn.never rfl (x0v B.m_range (x00 (x0w B.m_len (qv 0)) x04 x0l)) (x0k (i:=2) (show 0<=2 by decide) x46.nd rfl (Or.inl rfl)) (x0a (x2c PassesOwn.never rfl (x0v B.m_range (x00 (x02 (qv 2)) x04 x03)) (x0k (i:=3) (show 0<=3 by decide) x46.nd rfl (Or.inl rfl)) (x06 (x0o (i:=4) x46.nd rfl (Or.inl rfl) (x4u (x0r (qv 0) (x0r (qv 1) (x02 (qv 2)))) (x0r (qv 1) (x02 (qv 3)))))
  (x0a (x1w (x5b hr (x0r (qv 1) (x4u (x0r (qv 0) (x02 (qv 2))) (x02 (qv 3)))) (x02 (qv 4))) (x0a (x0i x4r)) x1e))))))
  (x0a (x0i x4r))
def x9p:x1a:=x14 (x25 3 (x0m x2g 3 (x01 (x05 0) (x01 (x05 1) (x01 (x05 2) x0g)))))
 (x14 (sIf (x76 (x0m x5r 2 (x01 (x05 2) (x01 (x05 3) x0g)))) (x21 (x05 3)) x53)
 (x14 (x25 4 (x0m x0h 3 (x01 (x05 0) (x01 (e2 x3f (x05 1) (eC (.int 17))) (x01 (x10 2) x0g)))))
 (x14 (x25 5 (x6q (x01 (x1k (x01 (x7j (x01 (x10 2) x0g)) x0g)) (x01 (y9h (x6z (x01 (x05 4) x0g)) (x10 2)) x0g))))
 (x14 (x50 (y3n 5 (x01 (x1k (x01 (x22 1 (x15 (x01 (x10 2) x0g)) (x0n 6) x1i (eIx (x19 2 (x05 6)) (x05 4)) false) x0g)) x0g)))
 (x21 (x19 5 (x0m x0h 3 (x01 (x05 0) (x01 (e2 x3f (x05 1) (eC (.int 16))) (x01 (eC (.int 3)) x0g))))))))))
def x3b:List D->OD:=fnD 6 (x9p)
theorem x2x:FnScope ["_law_script","_law_at","_law_ladder_here","_law_rule_here","_law_worth","_law_some"] ["_law_script","_law_at","_law_ladder_here"] (x0b (top 69)):=fsq
abbrev x58:List Str:=["_law_script","_law_at","_law_ladder_here","_law_rule_here","_law_worth","_law_some","_law_one"]
theorem x8h:(x58).Nodup:=by decide +kernel
theorem x99 (B:Bt mg)(c25:Cal P w K mg base 3 "_law_rule" 3 x2g)(c28:Cal P w K mg base 1 "_law_spreads" 2 x5r)(c23:Cal P w K mg base 2 "_law_pick" 3 x0h)(a:At K mg "_law_spread_rule" (top 69) ["_law_script","_law_at","_law_ladder_here"]):Cal P w K mg base 4 "_law_spread_rule" 3 (x3b):=
 Cal.mkQ (k:=3) a x2x fun f cdv A outer s H E hr=>
  x06 (x0o (i:=3) x2x.nd rfl (Or.inl rfl) (x07 c25 hr (by decide) (x00 (x02 (qv 0)) (x00 (x02 (qv 1)) (x00 (x02 (qv 2)) x04 x03) x03) x03)))
  (x06 (x1w (x27 (x07 c28 hr (by decide) (x00 (x02 (qv 2)) (x00 (x02 (qv 3)) x04 x03) x03))) (x0a (x0i (x02 (qv 3)))) x1e)
  (x06 (x0o (i:=4) x2x.nd rfl (Or.inr rfl) (x07 c23 hr (by decide) (x00 (x02 (qv 0)) (x00 (x1p (x02 (qv 1)) x0d) (x00 (x0w B.m_len (qv 2)) x04 x0l) x1h) x03)))
  (x06 (x0o (i:=5) x2x.nd rfl (Or.inl rfl) (x2v (x00 (x1t B.m_tuple PyProof.Rows.boot_tuple (x00 (y2a rfl B.m_list PyProof.Rows.boot_list B.m_range (x00 (x0w B.m_len (qv 2)) x04 x0l)) x04 x0l)) (x00 (z4y (x3r (x00 (x02 (qv 4)) x04 x03)) (x0w B.m_len (qv 2))) x04 x1h) x0l)))
  (x06 (x3n (x3p (qv 5) (x00 (x1t B.m_tuple PyProof.Rows.boot_tuple (x00 (x24 (k:=1) (N':=x58) false rfl ⟨rfl,by decide +kernel,rfl,rfl,rfl⟩ (x0v B.m_range (x00 (x0w B.m_len (qv 2)) x04 x0l)) (fun _ _ _ _=>x0k (i:=6) (show 6<=6 by decide) x8h rfl (Or.inl rfl) (Or.inr rfl)) (fun _ _ _ _=>x1c) (fun _ _ _ _=>x4u (x0r (qv 2) (x02 (qv 6))) (x02 (qv 4)))) x04 x1d)) x04 x0l)))
  (x0a (x0i (x0r (qv 5) (x07 c23 hr (by decide) (x00 (x02 (qv 0)) (x00 (x1p (x02 (qv 1)) x0d) (x00 x0d x04 x08) x1h) x03)))))))))
abbrev x6i:x1a:=x14 (x25 7 (e2 x3f (e2 x3f (x05 1) (eC (.int 10))) (e2 y5f (eC (.int 22)) (x05 6))))
 (x14 (x25 8 (x0m x2g 3 (x01 (x05 0) (x01 (e2 x3f (x05 7) (eC (.int 2))) (x01 (x05 2) x0g)))))
 (x14 (sIf (x76 (x05 3)) (x25 8 (x0m x3b 3 (x01 (x05 0) (x01 (e2 x3f (x05 7) (eC (.int 2))) (x01 (x05 2) x0g))))) x53)
 (x50 (y3n 5 (x01 (x6z (x01 (x0m x0h 3 (x01 (x05 0) (x01 (x05 7) (x01 (x05 4) x0g)))) (x01 (x0m x0h 3 (x01 (x05 0) (x01 (e2 x3f (x05 7) (eC (.int 1))) (x01 (x05 4) x0g)))) (x01 (x05 8) x0g)))) x0g)))))
abbrev x6d:x1a:=x14 (x25 10 (x0m x0h 3 (x01 (x05 0) (x01 (e2 x3f (e2 x3f (x05 1) (eC (.int 3))) (e2 y5f (eC (.int 2)) (x05 6))) (x01 (x10 2) x0g)))))
 (x50 (y3n 9 (x01 (x6z (x01 (x0m x0h 3 (x01 (x05 0) (x01 (e2 x3f (e2 x3f (x05 1) (eC (.int 4))) (e2 y5f (eC (.int 2)) (x05 6))) (x01 (x05 4) x0g)))) (x01 (x05 10) x0g))) x0g)))
def y1a:x1a:=x14 (x25 4 (e2 x3f (eC (.int 1)) (x0m x0h 3 (x01 (x05 0) (x01 (x05 1) (x01 (eC (.int 5)) x0g))))))
 (x14 (x25 5 (x6q x0g))
 (x14 (x78 (x15 (x01 (x0m x0h 3 (x01 (x05 0) (x01 (e2 x3f (x05 1) (eC (.int 1))) (x01 (eC (.int 8)) x0g)))) x0g)) (x0n 6) (x14 (x25 7 (e2 x3f (e2 x3f (x05 1) (eC (.int 10))) (e2 y5f (eC (.int 22)) (x05 6))))
 (x14 (x25 8 (x0m x2g 3 (x01 (x05 0) (x01 (e2 x3f (x05 7) (eC (.int 2))) (x01 (x05 2) x0g)))))
 (x14 (sIf (x76 (x05 3)) (x25 8 (x0m x3b 3 (x01 (x05 0) (x01 (e2 x3f (x05 7) (eC (.int 2))) (x01 (x05 2) x0g))))) x53)
 (x50 (y3n 5 (x01 (x6z (x01 (x0m x0h 3 (x01 (x05 0) (x01 (x05 7) (x01 (x05 4) x0g)))) (x01 (x0m x0h 3 (x01 (x05 0) (x01 (e2 x3f (x05 7) (eC (.int 1))) (x01 (x05 4) x0g)))) (x01 (x05 8) x0g)))) x0g)))))))
 (x14 (x25 9 (x6q x0g))
 (x14 (x78 (x15 (x01 (x0m x0h 3 (x01 (x05 0) (x01 (e2 x3f (x05 1) (eC (.int 2))) (x01 (eC (.int 4)) x0g)))) x0g)) (x0n 6) (x14 (x25 10 (x0m x0h 3 (x01 (x05 0) (x01 (e2 x3f (e2 x3f (x05 1) (eC (.int 3))) (e2 y5f (eC (.int 2)) (x05 6))) (x01 (x10 2) x0g)))))
 (x50 (y3n 9 (x01 (x6z (x01 (x0m x0h 3 (x01 (x05 0) (x01 (e2 x3f (e2 x3f (x05 1) (eC (.int 4))) (e2 y5f (eC (.int 2)) (x05 6))) (x01 (x05 4) x0g)))) (x01 (x05 10) x0g))) x0g)))))
 (x21 (x6z (x01 (x05 4) (x01 (x1k (x01 (x05 5) x0g)) (x01 (x1k (x01 (x05 9) x0g)) x0g)))))))))
def x4q:List D->OD:=fnD 11 (y1a)
theorem x1u:FnScope ["_law_script","_law_at","_law_ladder_here","_law_spread","_law_places","_law_ways","_law_k","_law_base_here","_law_rule_here","_law_begins","_law_worth"] ["_law_script","_law_at","_law_ladder_here","_law_spread"] (x0b (top 70)):=fsq
theorem y6o (B:Bt mg)(c23:Cal P w K mg base 2 "_law_pick" 3 x0h)(c25:Cal P w K mg base 3 "_law_rule" 3 x2g)(c27:Cal P w K mg base 4 "_law_spread_rule" 3 x3b)(a:At K mg "_law_chart" (top 70) ["_law_script","_law_at","_law_ladder_here","_law_spread"]):Cal P w K mg base 5 "_law_chart" 4 (x4q):=
 Cal.mkQ (k:=4) a x1u fun f cdv A outer s H E hr=>
  x06 (x0o (i:=4) x1u.nd rfl (Or.inl rfl) (x1p x0d (x07 c23 hr (by decide) (x00 (x02 (qv 0)) (x00 (x02 (qv 1)) (x00 x0d x04 x08) x03) x03))))
  (x06 (x0o (i:=5) x1u.nd rfl (Or.inl rfl) (x2v x04))
  (x06 (x2c PassesOwn.never rfl (x0v B.m_range (x00 (x07 c23 hr (by decide) (x00 (x02 (qv 0)) (x00 (x1p (x02 (qv 1)) x0d) (x00 x0d x04 x08) x1h) x03)) x04 x0l)) (x0k (i:=6) (show 0<=6 by decide) x1u.nd rfl (Or.inl rfl)) (x06 (x0o (i:=7) x1u.nd rfl (Or.inl rfl) (x1p (x1p (x02 (qv 1)) x0d) (x7a x0d (x02 (qv 6)))))
  (x06 (x0o (i:=8) x1u.nd rfl (Or.inl rfl) (x07 c25 hr (by decide) (x00 (x02 (qv 0)) (x00 (x1p (x02 (qv 7)) x0d) (x00 (x02 (qv 2)) x04 x03) x1h) x03)))
  (x06 (x1w (x27 (x02 (qv 3))) (x0a (x0o (i:=8) x1u.nd rfl (Or.inl rfl) (x07 c27 hr (by decide) (x00 (x02 (qv 0)) (x00 (x1p (x02 (qv 7)) x0d) (x00 (x02 (qv 2)) x04 x03) x1h) x03)))) x1e)
  (x0a (x3n (x3p (qv 5) (x00 (x3r (x00 (x07 c23 hr (by decide) (x00 (x02 (qv 0)) (x00 (x02 (qv 7)) (x00 (x02 (qv 4)) x04 x03) x03) x03)) (x00 (x07 c23 hr (by decide) (x00 (x02 (qv 0)) (x00 (x1p (x02 (qv 7)) x0d) (x00 (x02 (qv 4)) x04 x03) x1h) x03)) (x00 (x02 (qv 8)) x04 x03) x0l) x0l)) x04 y25))))))))
  (x06 (x0o (i:=9) x1u.nd rfl (Or.inl rfl) (x2v x04))
  (x06 (x2c PassesOwn.never rfl (x0v B.m_range (x00 (x07 c23 hr (by decide) (x00 (x02 (qv 0)) (x00 (x1p (x02 (qv 1)) x0d) (x00 x0d x04 x08) x1h) x03)) x04 x0l)) (x0k (i:=6) (show 0<=6 by decide) x1u.nd rfl (Or.inl rfl)) (x06 (x0o (i:=10) x1u.nd rfl (Or.inl rfl) (x07 c23 hr (by decide) (x00 (x02 (qv 0)) (x00 (x1p (x1p (x02 (qv 1)) x0d) (x7a x0d (x02 (qv 6)))) (x00 (x0w B.m_len (qv 2)) x04 x0l) x1h) x03)))
  (x0a (x3n (x3p (qv 9) (x00 (x3r (x00 (x07 c23 hr (by decide) (x00 (x02 (qv 0)) (x00 (x1p (x1p (x02 (qv 1)) x0d) (x7a x0d (x02 (qv 6)))) (x00 (x02 (qv 4)) x04 x03) x1h) x03)) (x00 (x02 (qv 10)) x04 x03) x0l)) x04 y25))))))
  (x0a (x0i (x3r (x00 (x02 (qv 4)) (x00 (x1t B.m_tuple PyProof.Rows.boot_tuple (x00 (x02 (qv 5)) x04 x03)) (x00 (x1t B.m_tuple PyProof.Rows.boot_tuple (x00 (x02 (qv 9)) x04 x03)) x04 x0l) x0l) x03))))))))
def z48:x1a:=x21 (x1k (x01 (x22 1 (x4w (x05 0)) (x0n 2) x1i (x19 1 (x05 2)) false) x0g))
def x7i:List D->OD:=fnD 2 (z48)
theorem z7p:FnScope ["first","then"] ["first","then"] (x0b (top 25)):=fsq
abbrev z18:List Str:=["first","then","worth"]
theorem z41:(z18).Nodup:=by decide +kernel
theorem j0v (B:Bt mg)(a:At K mg "after" (top 25) ["first","then"]):Cal P w K mg base 1 "after" 2 (x7i):=
 Cal.mkQ (k:=0) a z7p fun f cdv A outer s H E hr=>
  x0a (x0i (x1t B.m_tuple PyProof.Rows.boot_tuple (x00 (x24 (k:=1) (N':=z18) false rfl ⟨rfl,by decide +kernel,rfl,rfl,rfl⟩ (x2h (x02 (qv 0))) (fun _ _ _ _=>x0k (i:=2) (show 2<=2 by decide) z41 rfl (Or.inl rfl) (Or.inr rfl)) (fun _ _ _ _=>x1c) (fun _ _ _ _=>x0r (qv 1) (x02 (qv 2)))) x04 x1d)))
def x73:x1a:=x21 (x0m x7i 2 (x01 (x0m x7i 2 (x01 (x05 0) (x01 (x05 1) x0g))) (x01 (x05 2) x0g)))
def x1m:List D->OD:=fnD 3 (x73)
theorem y0y:FnScope ["back","rule","mapping"] ["back","rule","mapping"] (x0b (top 32)):=fsq
theorem y1w (B:Bt mg)(c32:Cal P w K mg base 1 "after" 2 x7i)(a:At K mg "back_and_forth" (top 32) ["back","rule","mapping"]):Cal P w K mg base 2 "back_and_forth" 3 (x1m):=
 Cal.mkQ (k:=1) a y0y fun f cdv A outer s H E hr=>
  x0a (x0i (x07 c32 hr (by decide) (x00 (x07 c32 hr (by decide) (x00 (x02 (qv 0)) (x00 (x02 (qv 1)) x04 x03) x03)) (x00 (x02 (qv 2)) x04 x03) x0l)))
def y4t:x1a:=x21 (y8k (z2q .int (x05 0)) (j7e (z2q .bool (x05 0))))
def x4i:List D->OD:=fnD 1 (y4t)
theorem y9g:FnScope ["thing"] ["thing"] (x0b (top 9)):=fsq
theorem z29 (B:Bt mg)(a:At K mg "is_whole" (top 9) ["thing"]):Cal P w K mg base 1 "is_whole" 1 (x4i):=
 Cal.mkQ (k:=0) a y9g fun f cdv A outer s H E hr=>
  x0a (x0i (x9v (x8t .int B.m_isinstance B.m_int PyProof.Rows.boot_int (x02 (qv 0))) (x9w (j3y (x8t .bool B.m_isinstance B.m_bool PyProof.Rows.boot_bool (x02 (qv 0)))))))
def x8j:x1a:=x21 (y8k (x0m x4i 1 (x01 (x05 0) x0g)) (eCh dLe dLt (eC (.int 0)) (x05 0) (x05 1)))
def x11:List D->OD:=fnD 2 (x8j)
theorem y3e:FnScope ["thing","many"] ["thing","many"] (x0b (top 10)):=fsq
theorem y40 (B:Bt mg)(c53:Cal P w K mg base 1 "is_whole" 1 x4i)(a:At K mg "is_number_of" (top 10) ["thing","many"]):Cal P w K mg base 2 "is_number_of" 2 (x11):=
 Cal.mkQ (k:=1) a y3e fun f cdv A outer s H E hr=>
  x0a (x0i (x9v (x07 c53 hr (by decide) (x00 (x02 (qv 0)) x04 x03)) (x9w (y9a x0d (x02 (qv 0)) (x02 (qv 1))))))
def x94:x1a:=x14 (sIf (y8i (x43 (x76 (z2q .tuple (x05 0)))) (x3c (e2 dNe (x10 0) (x05 1)))) (x21 (eC (.bl false))) x53)
 (x21 (eB z1n (x01 (x22 1 (x4w (x05 0)) (x0n 3) x1i (x0m x11 2 (x01 (x05 3) (x01 (x05 2) x0g))) false) x0g)))
def x2y:List D->OD:=fnD 3 (x94)
theorem y78:FnScope ["thing","length","many"] ["thing","length","many"] (x0b (top 11)):=fsq
abbrev y18:List Str:=["thing","length","many","part"]
theorem y5v:(y18).Nodup:=by decide +kernel
theorem z08 (B:Bt mg)(c47:Cal P w K mg base 2 "is_number_of" 2 x11)(a:At K mg "is_row_of" (top 11) ["thing","length","many"]):Cal P w K mg base 3 "is_row_of" 3 (x2y):=
 Cal.mkQ (k:=2) a y78 fun f cdv A outer s H E hr=>
  x06 (x1w (y1x (x81 (x2z (x27 (x8t .tuple B.m_isinstance B.m_tuple PyProof.Rows.boot_tuple (x02 (qv 0))))) (x5t (x5b hr (x0w B.m_len (qv 0)) (x02 (qv 1)))))) (x0a (x0i x4r)) x1e)
  (x0a (x0i (y7p rfl B.m_all (x00 (x24 (k:=1) (N':=y18) false rfl ⟨rfl,by decide +kernel,rfl,rfl,rfl⟩ (x2h (x02 (qv 0))) (fun _ _ _ _=>x0k (i:=3) (show 3<=3 by decide) y5v rfl (Or.inl rfl) (Or.inr rfl)) (fun _ _ _ _=>x1c) (fun _ _ _ _=>x07 c47 hr (by decide) (x00 (x02 (qv 3)) (x00 (x02 (qv 2)) x04 x03) x03))) x04 x1d))))
abbrev x6j:x1a:=x78 (x15 (x01 (x05 3) x0g)) (x0n 5) (sIf (x3c (e2 dNe (x19 2 (eIx (x19 0 (x05 4)) (x05 5))) (eIx (x19 1 (x19 2 (x05 4))) (x19 2 (x05 5))))) (x21 (eC (.bl false))) x53)
abbrev x6h:x1a:=sIf (x3c (e2 dNe (x19 2 (eIx (x19 0 (x05 4)) (x05 5))) (eIx (x19 1 (x19 2 (x05 4))) (x19 2 (x05 5))))) (x21 (eC (.bl false))) (x53)
def x4h:x1a:=x14 (x25 3 (x10 0))
 (x14 (x78 (x15 (x01 (x05 3) x0g)) (x0n 4) (x78 (x15 (x01 (x05 3) x0g)) (x0n 5) (sIf (x3c (e2 dNe (x19 2 (eIx (x19 0 (x05 4)) (x05 5))) (eIx (x19 1 (x19 2 (x05 4))) (x19 2 (x05 5))))) (x21 (eC (.bl false))) x53)))
 (x21 (eC (.bl true))))
def x1o:List D->OD:=fnD 6 (x4h)
theorem x28:FnScope ["ladder","other","table","many","x","y"] ["ladder","other","table"] (x0b (top 22)):=fsq
theorem x77 (B:Bt mg)(a:At K mg "leads_joins_to_joins" (top 22) ["ladder","other","table"]):Cal P w K mg base 1 "leads_joins_to_joins" 3 (x1o):=
 Cal.mkQ (k:=0) a x28 fun f cdv A outer s H E hr=>
  x06 (x0o (i:=3) x28.nd rfl (Or.inl rfl) (x0w B.m_len (qv 0)))
  (x06 (x2c PassesOwn.never rfl (x0v B.m_range (x00 (x02 (qv 3)) x04 x03)) (x0k (i:=4) (show 0<=4 by decide) x28.nd rfl (Or.inl rfl)) (x0a (x2c PassesOwn.never rfl (x0v B.m_range (x00 (x02 (qv 3)) x04 x03)) (x0k (i:=5) (show 0<=5 by decide) x28.nd rfl (Or.inl rfl)) (x0a (x1w (x5b hr (x0r (qv 2) (x4u (x0r (qv 0) (x02 (qv 4))) (x02 (qv 5)))) (x4u (x0r (qv 1) (x0r (qv 2) (x02 (qv 4)))) (x0r (qv 2) (x02 (qv 5))))) (x0a (x0i x4r)) x1e)))))
  (x0a (x0i x4r)))
def x8r:x1a:=x21 (j11 (x01 (x05 0) x0g))
def x3s:List D->OD:=fnD 1 (x8r)
theorem y2s:FnScope ["many"] ["many"] (x0b (top 14)):=fsq
theorem y3o (B:Bt mg)(a:At K mg "row_of_least" (top 14) ["many"]):Cal P w K mg base 1 "row_of_least" 1 (x3s):=
 Cal.mkQ (k:=0) a y2s fun f cdv A outer s H E hr=>
  x0a (x0i (j2v rfl B.m_tuple PyProof.Rows.boot_tuple B.m_range (x00 (x02 (qv 0)) x04 x03)))
def y51:x1a:=x21 (z1b (x05 0) (x01 (x0m x3s 1 (x01 (x10 0) x0g)) x0g))
def x38:List D->OD:=fnD 1 (y51)
theorem y8l:FnScope ["ladder"] ["ladder"] (x0b (top 15)):=fsq
theorem z27 (B:Bt mg)(c70:Cal P w K mg base 1 "row_of_least" 1 x3s)(a:At K mg "least_of" (top 15) ["ladder"]):Cal P w K mg base 2 "least_of" 1 (x38):=
 Cal.mkQ (k:=1) a y8l fun f cdv A outer s H E hr=>
  x0a (x0i (z96 hr (x02 (qv 0)) (x00 (x07 c70 hr (by decide) (x00 (x0w B.m_len (qv 0)) x04 x0l)) x04 x0l)))
def z0p:x1a:=x14 (sIf (x43 (x76 (x0m x2y 3 (x01 (x05 2) (x01 (x10 0) (x01 (x10 1) x0g)))))) (x21 (eC (.bl false))) x53)
 (x21 (y8k (x0m x1o 3 (x01 (x05 0) (x01 (x05 1) (x01 (x05 2) x0g)))) (e2 dEq (x19 2 (x0m x38 1 (x01 (x05 0) x0g))) (x0m x38 1 (x01 (x05 1) x0g)))))
def x6p:List D->OD:=fnD 3 (z0p)
theorem z5j:FnScope ["ladder","other","thing"] ["ladder","other","thing"] (x0b (top 28)):=fsq
theorem z94 (B:Bt mg)(c49:Cal P w K mg base 3 "is_row_of" 3 x2y)(c55:Cal P w K mg base 1 "leads_joins_to_joins" 3 x1o)(c58:Cal P w K mg base 2 "least_of" 1 x38)(a:At K mg "is_map" (top 28) ["ladder","other","thing"]):Cal P w K mg base 4 "is_map" 3 (x6p):=
 Cal.mkQ (k:=3) a z5j fun f cdv A outer s H E hr=>
  x06 (x1w (x2z (x27 (x07 c49 hr (by decide) (x00 (x02 (qv 2)) (x00 (x0w B.m_len (qv 0)) (x00 (x0w B.m_len (qv 1)) x04 x0l) x0l) x03)))) (x0a (x0i x4r)) x1e)
  (x0a (x0i (x9v (x07 c55 hr (by decide) (x00 (x02 (qv 0)) (x00 (x02 (qv 1)) (x00 (x02 (qv 2)) x04 x03) x03) x03)) (x9w (z60 hr (x0r (qv 2) (x07 c58 hr (by decide) (x00 (x02 (qv 0)) x04 x03))) (x07 c58 hr (by decide) (x00 (x02 (qv 1)) x04 x03)))))))
def x7m:x1a:=sIf (x43 (x76 (x0m x6p 3 (x01 (x05 0) (x01 (x05 1) (x01 (x05 2) x0g)))))) y7y (x53)
def x3e:List D->OD:=fnD 3 (x7m)
theorem x74:FnScope ["ladder","other","thing"] ["ladder","other","thing"] (x0b (top 29)):=fsq
theorem y2x (B:Bt mg)(c44:Cal P w K mg base 4 "is_map" 3 x6p)(a:At K mg "refuse_no_map" (top 29) ["ladder","other","thing"]):Cal P w K mg base 5 "refuse_no_map" 3 (x3e):=
 Cal.mkQ (k:=4) a x74 fun f cdv A outer s H E hr=>
  x0a (x1w (x2z (x27 (x07 c44 hr (by decide) (x00 (x02 (qv 0)) (x00 (x02 (qv 1)) (x00 (x02 (qv 2)) x04 x03) x03) x03)))) (x0a y7a) x1e)
def x7c:y1q:=j3o (x43 (x76 (x0m x6p 3 (x01 (x05 0) (x01 (x05 1) (x01 (x05 2) x0g)))))) (z5v "NoMap") (j36)
def x34:List D->Option Str:=fnX 3 x7c
theorem y1y (B:Bt mg)(T:Xt K mg)(c44:Cal P w K mg base 4 "is_map" 3 x6p)(a:At K mg "refuse_no_map" (top 29) ["ladder","other","thing"]):y6n P w K mg base 5 "refuse_no_map" 3 x34:=
 y6n.mkQ (k:=4) a x74 fun f cdv A outer s H E hr=>
  x9z (j30 (x2z (x27 (x07 c44 hr (by decide) (x00 (x02 (qv 0)) (x00 (x02 (qv 1)) (x00 (x02 (qv 2)) x04 x03) x03) x03)))) (x9z (z3f hr T.x_NoMap)) z6a)
def y1k:x1a:=x14 (x25 2 (x0m x38 1 (x01 (x05 0) x0g)))
 (x14 (x78 (x4w (x05 1)) (x0n 3) (x25 2 (eIx (x19 0 (x05 2)) (x05 3))))
 (x21 (x05 2)))
def x41:List D->OD:=fnD 4 (y1k)
theorem x4z:FnScope ["ladder","worths","joined","worth"] ["ladder","worths"] (x0b (top 18)):=fsq
theorem y88 (B:Bt mg)(c58:Cal P w K mg base 2 "least_of" 1 x38)(a:At K mg "joined_all" (top 18) ["ladder","worths"]):Cal P w K mg base 3 "joined_all" 2 (x41):=
 Cal.mkQ (k:=2) a x4z fun f cdv A outer s H E hr=>
  x06 (x0o (i:=2) x4z.nd rfl (Or.inl rfl) (x07 c58 hr (by decide) (x00 (x02 (qv 0)) x04 x03)))
  (x06 (x2c PassesOwn.never rfl (x2h (x02 (qv 1))) (x0k (i:=3) (show 0<=3 by decide) x4z.nd rfl (Or.inl rfl)) (x0a (x0o (i:=2) x4z.nd rfl (Or.inl rfl) (x4u (x0r (qv 0) (x02 (qv 2))) (x02 (qv 3))))))
  (x0a (x0i (x02 (qv 2)))))
def y50:x1a:=x21 (e2 dEq (eIx (x19 0 (x05 1)) (x05 2)) (x05 2))
def x1y:List D->OD:=fnD 3 (y50)
theorem y9s:FnScope ["ladder","one","other"] ["ladder","one","other"] (x0b (top 16)):=fsq
theorem z2c (B:Bt mg)(a:At K mg "is_below" (top 16) ["ladder","one","other"]):Cal P w K mg base 1 "is_below" 3 (x1y):=
 Cal.mkQ (k:=0) a y9s fun f cdv A outer s H E hr=>
  x0a (x0i (z60 hr (x4u (x0r (qv 0) (x02 (qv 1))) (x02 (qv 2))) (x02 (qv 2))))
def y34:x1a:=x21 (x22 2 (z5o (x01 (x05 1) x0g)) (y64 (x18 (x0n 3) (x18 (x0n 4) x5v))) (x76 (x0m x1y 3 (x01 (x05 0) (x01 (x05 4) (x01 (x05 2) x0g))))) (x05 3) false)
def x4k:List D->OD:=fnD 3 (y34)
theorem y7g:FnScope ["ladder","table","worth"] ["ladder","table","worth"] (x0b (top 23)):=fsq
abbrev y17:List Str:=["ladder","table","worth","x","led"]
theorem y0a:(y17).Nodup:=by decide +kernel
theorem y95 (B:Bt mg)(c41:Cal P w K mg base 1 "is_below" 3 x1y)(a:At K mg "led_below" (top 23) ["ladder","table","worth"]):Cal P w K mg base 2 "led_below" 3 (x4k):=
 Cal.mkQ (k:=1) a y7g fun f cdv A outer s H E hr=>
  x0a (x0i (x24 (k:=2) (N':=y17) false rfl ⟨rfl,by decide +kernel,rfl,rfl,rfl⟩ (z83 B.m_enumerate (x00 (x02 (qv 1)) x04 x03)) (fun _ _ _ _=>x7h (n:=2) rfl (x1n (x0k (i:=3) (show 3<=3 by decide) y0a rfl (Or.inl rfl) (Or.inr rfl)) (x1n (x0k (i:=4) (show 3<=4 by decide) y0a rfl (Or.inl rfl) (Or.inr rfl)) x5q)) y0i) (fun _ _ _ _=>x9r (x27 (x07 c41 hr (by decide) (x00 (x02 (qv 0)) (x00 (x02 (qv 4)) (x00 (x02 (qv 2)) x04 x03) x03) x03)))) (fun _ _ _ _=>x02 (qv 3))))
def y82:x1a:=x14 (x50 (x0m x3e 3 (x01 (x05 0) (x01 (x05 1) (x01 (x05 2) x0g)))))
 (x21 (x1k (x01 (x22 1 (x15 (x01 (x10 1) x0g)) (x0n 3) x1i (x0m x41 2 (x01 (x05 0) (x01 (x0m x4k 3 (x01 (x05 1) (x01 (x05 2) (x01 (x05 3) x0g)))) x0g))) false) x0g)))
def x5g:List D->OD:=fnD 3 (y82)
theorem y4f:FnScope ["ladder","other","mapping"] ["ladder","other","mapping"] (x0b (top 30)):=fsq
abbrev y4e:List Str:=["ladder","other","mapping","worth"]
theorem y94:(y4e).Nodup:=by decide +kernel
theorem z4v (B:Bt mg)(c66:Cal P w K mg base 5 "refuse_no_map" 3 x3e)(c54:Cal P w K mg base 3 "joined_all" 2 x41)(c59:Cal P w K mg base 2 "led_below" 3 x4k)(a:At K mg "back_of" (top 30) ["ladder","other","mapping"]):Cal P w K mg base 6 "back_of" 3 (x5g):=
 Cal.mkQ (k:=5) a y4f fun f cdv A outer s H E hr=>
  x06 (x3n (x07 c66 hr (by decide) (x00 (x02 (qv 0)) (x00 (x02 (qv 1)) (x00 (x02 (qv 2)) x04 x03) x03) x03)))
  (x0a (x0i (x1t B.m_tuple PyProof.Rows.boot_tuple (x00 (x24 (k:=1) (N':=y4e) false rfl ⟨rfl,by decide +kernel,rfl,rfl,rfl⟩ (x0v B.m_range (x00 (x0w B.m_len (qv 1)) x04 x0l)) (fun _ _ _ _=>x0k (i:=3) (show 3<=3 by decide) y94 rfl (Or.inl rfl) (Or.inr rfl)) (fun _ _ _ _=>x1c) (fun _ _ _ _=>x07 c54 hr (by decide) (x00 (x02 (qv 0)) (x00 (x07 c59 hr (by decide) (x00 (x02 (qv 1)) (x00 (x02 (qv 2)) (x00 (x02 (qv 3)) x04 x03) x03) x03)) x04 x0l) x03))) x04 x1d))))
def y8c:y1q:=y7j x34 3 (x01 (x05 0) (x01 (x05 1) (x01 (x05 2) x0g)))
def x63:List D->Option Str:=fnX 3 y8c
theorem z2i (B:Bt mg)(T:Xt K mg)(c74:y6n P w K mg base 5 "refuse_no_map" 3 x34)(a:At K mg "back_of" (top 30) ["ladder","other","mapping"]):y6n P w K mg base 6 "back_of" 3 x63:=
 y6n.mkQ (k:=5) a y4f fun f cdv A outer s H E hr=>
  x9z (z7e (z0k c74 hr (by decide) (x00 (x02 (qv 0)) (x00 (x02 (qv 1)) (x00 (x02 (qv 2)) x04 x03) x03) x03)))
def y0g:x1a:=x21 (x0m x1m 3 (x01 (x0m x5g 3 (x01 (x05 0) (x01 (x05 1) (x01 (x05 2) x0g)))) (x01 (x05 3) (x01 (x05 2) x0g))))
def x4b:List D->OD:=fnD 4 (y0g)
theorem y3x:FnScope ["ladder","other","mapping","rule"] ["ladder","other","mapping","rule"] (x0b (top 31)):=fsq
theorem y63 (B:Bt mg)(c36:Cal P w K mg base 2 "back_and_forth" 3 x1m)(c37:Cal P w K mg base 6 "back_of" 3 x5g)(a:At K mg "mapped_rule" (top 31) ["ladder","other","mapping","rule"]):Cal P w K mg base 7 "mapped_rule" 4 (x4b):=
 Cal.mkQ (k:=6) a y3x fun f cdv A outer s H E hr=>
  x0a (x0i (x07 c36 hr (by decide) (x00 (x07 c37 hr (by decide) (x00 (x02 (qv 0)) (x00 (x02 (qv 1)) (x00 (x02 (qv 2)) x04 x03) x03) x03)) (x00 (x02 (qv 3)) (x00 (x02 (qv 2)) x04 x03) x03) x0l)))
def x4j:x1a:=x21 (e2 dEq (x22 1 (x15 (x01 (x10 1) x0g)) (x0n 3) (x3c (e2 dNe (eIx (x19 0 (x19 1 (x05 3))) (x19 2 (x05 3))) (x19 2 (x05 3)))) (x05 3) false) (x6q x0g))
def x1g:List D->OD:=fnD 3 (x4j)
theorem y05:FnScope ["_law_ladder_here","_law_one","_law_other"] ["_law_ladder_here","_law_one","_law_other"] (x0b (top 77)):=fsq
abbrev x5m:List Str:=["_law_ladder_here","_law_one","_law_other","_law_k"]
theorem x8x:(x5m).Nodup:=by decide +kernel
theorem y0x (B:Bt mg)(a:At K mg "_law_is_no_more" (top 77) ["_law_ladder_here","_law_one","_law_other"]):Cal P w K mg base 1 "_law_is_no_more" 3 (x1g):=
 Cal.mkQ (k:=0) a y05 fun f cdv A outer s H E hr=>
  x0a (x0i (z60 hr (x24 (k:=1) (N':=x5m) false rfl ⟨rfl,by decide +kernel,rfl,rfl,rfl⟩ (x0v B.m_range (x00 (x0w B.m_len (qv 1)) x04 x0l)) (fun _ _ _ _=>x0k (i:=3) (show 3<=3 by decide) x8x rfl (Or.inl rfl) (Or.inr rfl)) (fun _ _ _ _=>x9r (x5b hr (x4u (x0r (qv 0) (x0r (qv 1) (x02 (qv 3)))) (x0r (qv 2) (x02 (qv 3)))) (x0r (qv 2) (x02 (qv 3))))) (fun _ _ _ _=>x02 (qv 3))) (x2v x04)))
def z01:x1a:=x14 (x25 1 (x6q (x01 (z7l ["NoMap"] "NoHouse" (x05 0)) (x01 (z7l ["NoMap"] "NoMap" (x05 0)) (x01 (z7l ["NoMap"] "NoPlace" (x05 0)) (x01 (z7l ["NoMap"] "NoRule" (x05 0)) x0g))))))
 (x14 (x50 (j7m 1 (x6q (x01 (z7l ["NoMap"] "NoStep" (x05 0)) (x01 (z7l ["NoMap"] "TooGreat" (x05 0)) x0g)))))
 (x14 (sIf (y8i (x3c (e2 dNe (j7o (x05 1) (x01 (eC (.bl true)) x0g)) (eC (.int 1)))) (x43 (x76 (j7j (x05 0))))) (x21 (eC (.str "wrong"))) x53)
 (x21 (eIx (x6q (x01 (eC (.str "no house")) (x01 (eC (.str "no map")) (x01 (eC (.str "no place")) (x01 (eC (.str "no rule")) (x01 (eC (.str "no step")) (x01 (eC (.str "too great")) x0g))))))) (y5y (x05 1) (x01 (eC (.bl true)) x0g))))))
def x6v:List D->OD:=fnD 2 (z01)
theorem y1f:FnScope ["_law_kept","_law_kinds"] ["_law_kept"] (x0b (top 78)):=fsq
theorem y9i (B:Bt mg)(T:Xt K mg)(a:At K mg "_law_word" (top 78) ["_law_kept"]):Cal P w K mg base 1 "_law_word" 1 (x6v):=
 Cal.mkQ (k:=0) a y1f fun f cdv A outer s H E hr=>
  x06 (x0o (i:=1) y1f.nd rfl (Or.inl rfl) (x2v (x00 (y4r T.i_NoHouse B.m_isinstance (x02 (qv 0))) (x00 (y4r T.i_NoMap B.m_isinstance (x02 (qv 0))) (x00 (y4r T.i_NoPlace B.m_isinstance (x02 (qv 0))) (x00 (y4r T.i_NoRule B.m_isinstance (x02 (qv 0))) x04 x0l) x0l) x0l) x0l)))
  (x06 (x3n (z42 (qv 1) (x2v (x00 (y4r T.i_NoStep B.m_isinstance (x02 (qv 0))) (x00 (y4r T.i_TooGreat B.m_isinstance (x02 (qv 0))) x04 x0l) x0l))))
  (x06 (x1w (y1x (x81 (x5b hr (j1f hr (x02 (qv 1)) (x00 x4r x04 x08)) x0d) (x5t (x2z (x27 (j6y B.m_isinstance B.m_ValueError (x02 (qv 0)))))))) (x0a (x0i x7u)) x1e)
  (x0a (x0i (x4u (x2v (x00 x7u (x00 x7u (x00 x7u (x00 x7u (x00 x7u (x00 x7u x04 x08) x08) x08) x08) x08) x08)) (z30 hr (x02 (qv 1)) (x00 x4r x04 x08)))))))
def x8s:x1a:=x14 (x25 4 (x0m x5g 3 (x01 (x05 0) (x01 (x05 1) (x01 (x05 2) x0g)))))
 (x14 (x25 5 (x22 3 (x4w (x19 3 (eC (.int 1)))) (y64 (x18 (x0n 7) (x18 (x0n 8) (x18 (x0n 9) x5v)))) x1i (x6z (x01 (x05 7) (x01 (x05 8) (x01 (x0m x1m 3 (x01 (x05 4) (x01 (x05 9) (x01 (x05 2) x0g)))) x0g)))) false))
 (x14 (x25 6 (x22 2 (x4w (x19 3 (eC (.int 2)))) (y64 (x18 (x0n 7) (x18 (x0n 8) x5v))) x1i (x6z (x01 (x05 7) (x01 (x19 2 (x05 8)) x0g))) false))
 (x21 (x6z (x01 (x19 3 (eC (.int 0))) (x01 (x1k (x01 (x05 5) x0g)) (x01 (x1k (x01 (x05 6) x0g)) x0g)))))))
def x3q:List D->OD:=fnD 7 (x8s)
theorem x3h:FnScope ["ladder","other","mapping","chart","back","ways","begins"] ["ladder","other","mapping","chart"] (x0b (top 33)):=fsq
abbrev x7z:List Str:=["ladder","other","mapping","chart","back","ways","begins","start","goal","rule"]
theorem x4v:(x7z).Nodup:=by decide +kernel
abbrev x7q:List Str:=["ladder","other","mapping","chart","back","ways","begins","place","worth"]
theorem x75:(x7q).Nodup:=by decide +kernel
theorem y3l (B:Bt mg)(c37:Cal P w K mg base 6 "back_of" 3 x5g)(c36:Cal P w K mg base 2 "back_and_forth" 3 x1m)(a:At K mg "mapped_chart" (top 33) ["ladder","other","mapping","chart"]):Cal P w K mg base 7 "mapped_chart" 4 (x3q):=
 Cal.mkQ (k:=6) a x3h fun f cdv A outer s H E hr=>
  x06 (x0o (i:=4) x3h.nd rfl (Or.inr rfl) (x07 c37 hr (by decide) (x00 (x02 (qv 0)) (x00 (x02 (qv 1)) (x00 (x02 (qv 2)) x04 x03) x03) x03)))
  (x06 (x5k (i:=5) (k:=3) (N':=x7z) false x3h.nd rfl (Or.inl rfl) rfl rfl ⟨rfl,by decide +kernel,rfl,rfl,rfl⟩ (x2h (x0r (qv 3) x0d)) (fun _ _ _ _=>x7h (n:=3) rfl (x1n (x0k (i:=7) (show 7<=7 by decide) x4v rfl (Or.inl rfl) (Or.inr rfl)) (x1n (x0k (i:=8) (show 7<=8 by decide) x4v rfl (Or.inl rfl) (Or.inr rfl)) (x1n (x0k (i:=9) (show 7<=9 by decide) x4v rfl (Or.inl rfl) (Or.inr rfl)) x5q))) z34) (fun _ _ _ _=>x1c) (fun _ _ _ _=>x3r (x00 (x02 (qv 7)) (x00 (x02 (qv 8)) (x00 (x07 c36 hr (by decide) (x00 (x02 (qv 4)) (x00 (x02 (qv 9)) (x00 (x02 (qv 2)) x04 x03) x03) x03)) x04 x0l) x03) x03)))
  (x06 (x5k (i:=6) (k:=2) (N':=x7q) false x3h.nd rfl (Or.inl rfl) rfl rfl ⟨rfl,by decide +kernel,rfl,rfl,rfl⟩ (x2h (x0r (qv 3) x0d)) (fun _ _ _ _=>x7h (n:=2) rfl (x1n (x0k (i:=7) (show 7<=7 by decide) x75 rfl (Or.inl rfl) (Or.inr rfl)) (x1n (x0k (i:=8) (show 7<=8 by decide) x75 rfl (Or.inl rfl) (Or.inr rfl)) x5q)) y0i) (fun _ _ _ _=>x1c) (fun _ _ _ _=>x3r (x00 (x02 (qv 7)) (x00 (x0r (qv 2) (x02 (qv 8))) x04 x0t) x03)))
  (x0a (x0i (x3r (x00 (x0r (qv 3) x0d) (x00 (x1t B.m_tuple PyProof.Rows.boot_tuple (x00 (x02 (qv 5)) x04 x03)) (x00 (x1t B.m_tuple PyProof.Rows.boot_tuple (x00 (x02 (qv 6)) x04 x03)) x04 x0l) x0l) x0t))))))
def x8m:y1q:=y7j x63 3 (x01 (x05 0) (x01 (x05 1) (x01 (x05 2) x0g)))
def x3d:List D->Option Str:=fnX 7 x8m
theorem y3f (B:Bt mg)(T:Xt K mg)(c72:y6n P w K mg base 6 "back_of" 3 x63)(a:At K mg "mapped_chart" (top 33) ["ladder","other","mapping","chart"]):y6n P w K mg base 7 "mapped_chart" 4 x3d:=
 y6n.mkQ (k:=6) a x3h fun f cdv A outer s H E hr=>
  x9z (j25 (z0k c72 hr (by decide) (x00 (x02 (qv 0)) (x00 (x02 (qv 1)) (x00 (x02 (qv 2)) x04 x03) x03) x03)))
def x7b:x1a:=x14 (x25 4 (eC .non))
 (x14 (x25 5 (eC .non))
 (x14 (y8b ["NoMap"] (x25 5 (x0m x3q 4 (x01 (x05 0) (x01 (x05 1) (x01 (x05 2) (x01 (x05 3) x0g)))))) (z2s x3d 4 (x01 (x05 0) (x01 (x05 1) (x01 (x05 2) (x01 (x05 3) x0g))))) 6 4)
 (x14 (sIf (x3c (e2 j4i (x05 4) (eC .non))) (x21 (x05 5)) x53)
 (x21 (x0m x6v 1 (x01 (x05 4) x0g))))))
def x2w:List D->OD:=fnD 7 (x7b)
theorem x48:FnScope ["_law_ladder_here","_law_other","_law_mapping","_law_chart_here","_law_kept","_law_answer","e"] ["_law_ladder_here","_law_other","_law_mapping","_law_chart_here"] (x0b (top 79)):=fsq
theorem y71 (B:Bt mg)(T:Xt K mg)(c62:Cal P w K mg base 7 "mapped_chart" 4 x3q)(c31:Cal P w K mg base 1 "_law_word" 1 x6v)(c73:y6n P w K mg base 7 "mapped_chart" 4 x3d)(a:At K mg "_law_tried" (top 79) ["_law_ladder_here","_law_other","_law_mapping","_law_chart_here"]):Cal P w K mg base 8 "_law_tried" 4 (x2w):=
 Cal.mkQ (k:=7) a x48 fun f cdv A outer s H E hr=>
  x06 (x0o (i:=4) x48.nd rfl (Or.inl rfl) z1d)
  (x06 (x0o (i:=5) x48.nd rfl (Or.inl rfl) z1d)
  (x06 (z66 (ie:=6) (ik:=4) T.u (x0a (x0o (i:=5) x48.nd rfl (Or.inl rfl) (x07 c62 hr (by decide) (x00 (x02 (qv 0)) (x00 (x02 (qv 1)) (x00 (x02 (qv 2)) (x00 (x02 (qv 3)) x04 x03) x03) x03) x03)))) (j17 (z70 c73 hr (by decide) (x00 (x02 (qv 0)) (x00 (x02 (qv 1)) (x00 (x02 (qv 2)) (x00 (x02 (qv 3)) x04 x03) x03) x03) x03))) x48.nd rfl rfl)
  (x06 (x1w (j2u (x02 (qv 4)) z1d) (x0a (x0i (x02 (qv 5)))) x1e)
  (x0a (x0i (x07 c31 hr (by decide) (x00 (x02 (qv 4)) x04 x03)))))))
def x79:x1a:=x21 (x0m x7i 2 (x01 (x05 1) (x01 (x05 0) x0g)))
def x3j:List D->OD:=fnD 2 (x79)
theorem y21:FnScope ["mapping","worths"] ["mapping","worths"] (x0b (top 34)):=fsq
theorem y2j (B:Bt mg)(c32:Cal P w K mg base 1 "after" 2 x7i)(a:At K mg "mapped_worths" (top 34) ["mapping","worths"]):Cal P w K mg base 2 "mapped_worths" 2 (x3j):=
 Cal.mkQ (k:=1) a y21 fun f cdv A outer s H E hr=>
  x0a (x0i (x07 c32 hr (by decide) (x00 (x02 (qv 1)) (x00 (x02 (qv 0)) x04 x03) x03)))
abbrev x8o:x1a:=z07 2 (y67 3) (eIx (x19 0 (x19 2 (x05 3))) (x05 4))
abbrev x8p:x1a:=x14 (x25 8 (x19 7 (x19 2 (x05 5))))
 (z07 2 (y67 6) (eIx (x19 0 (x19 2 (x05 6))) (x05 8)))
def y03:x1a:=x14 (x25 2 (z19 2))
 (x14 (x78 (x4w (x19 1 (eC (.int 2)))) (y64 (x18 (x0n 3) (x18 (x0n 4) x5v))) (z07 2 (y67 3) (eIx (x19 0 (x19 2 (x05 3))) (x05 4))))
 (x14 (x78 (x4w (x19 1 (eC (.int 1)))) (y64 (x18 (x0n 5) (x18 (x0n 6) (x18 (x0n 7) x5v)))) (x14 (x25 8 (x19 7 (x19 2 (x05 5))))
 (z07 2 (y67 6) (eIx (x19 0 (x19 2 (x05 6))) (x05 8)))))
 (x21 (x1k (x01 (x05 2) x0g)))))
def x30:List D->OD:=fnD 9 (y03)
theorem x2a:FnScope ["_law_ladder_here","_law_chart_here","_law_worths_here","_law_place","_law_worth","_law_start","_law_goal","_law_rule_here","_law_comes"] ["_law_ladder_here","_law_chart_here","_law_worths_here"] (x0b (top 73)):=fsq
theorem y5k (B:Bt mg)(a:At K mg "_law_raised" (top 73) ["_law_ladder_here","_law_chart_here","_law_worths_here"]):Cal P w K mg base 1 "_law_raised" 3 (x30):=
 Cal.mkQ (k:=0) a x2a fun f cdv A outer s H E hr=>
  x06 (x0o (i:=2) x2a.nd rfl (Or.inl rfl) (z6e B.m_list PyProof.Rows.boot_list (qv 2)))
  (x06 (x2c PassesOwn.never rfl (x2h (x0r (qv 1) x0d)) (x7h (n:=2) rfl (x1n (x0k (i:=3) (show 0<=3 by decide) x2a.nd rfl (Or.inl rfl)) (x1n (x0k (i:=4) (show 0<=4 by decide) x2a.nd rfl (Or.inl rfl)) x5q)) y0i) (x0a (z0n (qv 2) (y4i (qv 3)) (x4u (x0r (qv 0) (x0r (qv 2) (x02 (qv 3)))) (x02 (qv 4))))))
  (x06 (x2c PassesOwn.never rfl (x2h (x0r (qv 1) x0d)) (x7h (n:=3) rfl (x1n (x0k (i:=5) (show 0<=5 by decide) x2a.nd rfl (Or.inl rfl)) (x1n (x0k (i:=6) (show 0<=6 by decide) x2a.nd rfl (Or.inl rfl)) (x1n (x0k (i:=7) (show 0<=7 by decide) x2a.nd rfl (Or.inl rfl)) x5q))) z34) (x06 (x0o (i:=8) x2a.nd rfl (Or.inl rfl) (x0r (qv 7) (x0r (qv 2) (x02 (qv 5)))))
  (x0a (z0n (qv 2) (y4i (qv 6)) (x4u (x0r (qv 0) (x0r (qv 2) (x02 (qv 6)))) (x02 (qv 8)))))))
  (x0a (x0i (x1t B.m_tuple PyProof.Rows.boot_tuple (x00 (x02 (qv 2)) x04 x03))))))
abbrev x8l:x1a:=x14 (x25 2 (x05 3))
 (x25 3 (x0m x30 3 (x01 (x05 0) (x01 (x05 1) (x01 (x05 2) x0g)))))
def x9u:x1a:=x14 (x25 3 (x0m x30 3 (x01 (x05 0) (x01 (x05 1) (x01 (x05 2) x0g)))))
 (x14 (y7v (x3c (e2 dNe (x05 3) (x05 2))) (x14 (x25 2 (x05 3))
 (x25 3 (x0m x30 3 (x01 (x05 0) (x01 (x05 1) (x01 (x05 2) x0g)))))))
 (x21 (x05 2)))
def x4f:List D->OD:=fnD 4 (x9u)
theorem x4p:FnScope ["_law_ladder_here","_law_chart_here","_law_worths_here","_law_more"] ["_law_ladder_here","_law_chart_here","_law_worths_here"] (x0b (top 74)):=fsq
theorem y58 (B:Bt mg)(c24:Cal P w K mg base 1 "_law_raised" 3 x30)(a:At K mg "_law_lowest" (top 74) ["_law_ladder_here","_law_chart_here","_law_worths_here"]):Cal P w K mg base 2 "_law_lowest" 3 (x4f):=
 Cal.mkQ (k:=1) a x4p fun f cdv A outer s H E hr=>
  x06 (x0o (i:=3) x4p.nd rfl (Or.inl rfl) (x07 c24 hr (by decide) (x00 (x02 (qv 0)) (x00 (x02 (qv 1)) (x00 (x02 (qv 2)) x04 x03) x03) x03)))
  (x06 (y6u PassesOwn.never (x5b hr (x02 (qv 3)) (x02 (qv 2))) (x06 (x0o (i:=2) x4p.nd rfl (Or.inl rfl) (x02 (qv 3)))
  (x0a (x0o (i:=3) x4p.nd rfl (Or.inl rfl) (x07 c24 hr (by decide) (x00 (x02 (qv 0)) (x00 (x02 (qv 1)) (x00 (x02 (qv 2)) x04 x03) x03) x03))))))
  (x0a (x0i (x02 (qv 2)))))
def z3i:x1a:=x21 (x22 1 (x15 (x01 (x10 0) x0g)) (x0n 2) (x76 (x0m x1y 3 (x01 (x05 0) (x01 (x05 2) (x01 (x05 1) x0g))))) (x05 2) false)
def x7v:List D->OD:=fnD 2 (z3i)
theorem z8k:FnScope ["ladder","worth"] ["ladder","worth"] (x0b (top 17)):=fsq
abbrev z0z:List Str:=["ladder","worth","x"]
theorem z5p:(z0z).Nodup:=by decide +kernel
theorem j0r (B:Bt mg)(c41:Cal P w K mg base 1 "is_below" 3 x1y)(a:At K mg "below" (top 17) ["ladder","worth"]):Cal P w K mg base 2 "below" 2 (x7v):=
 Cal.mkQ (k:=1) a z8k fun f cdv A outer s H E hr=>
  x0a (x0i (x24 (k:=1) (N':=z0z) false rfl ⟨rfl,by decide +kernel,rfl,rfl,rfl⟩ (x0v B.m_range (x00 (x0w B.m_len (qv 0)) x04 x0l)) (fun _ _ _ _=>x0k (i:=2) (show 2<=2 by decide) z5p rfl (Or.inl rfl) (Or.inr rfl)) (fun _ _ _ _=>x9r (x27 (x07 c41 hr (by decide) (x00 (x02 (qv 0)) (x00 (x02 (qv 2)) (x00 (x02 (qv 1)) x04 x03) x03) x03)))) (fun _ _ _ _=>x02 (qv 2))))
def z55:x1a:=x14 (x78 (x15 (x01 (x10 0) x0g)) (x0n 2) (x78 (x4w (x0m x7v 2 (x01 (x05 0) (x01 (x05 2) x0g)))) (x0n 3) (sIf (x43 (x76 (x0m x1y 3 (x01 (x05 0) (x01 (x19 1 (x05 3)) (x01 (x19 1 (x05 2)) x0g)))))) (x21 (eC (.bl false))) x53)))
 (x21 (eC (.bl true)))
def x91:List D->OD:=fnD 4 (z55)
theorem y5n:FnScope ["ladder","rule","y","x"] ["ladder","rule"] (x0b (top 21)):=fsq
theorem j1p (B:Bt mg)(c38:Cal P w K mg base 2 "below" 2 x7v)(c41:Cal P w K mg base 1 "is_below" 3 x1y)(a:At K mg "rises" (top 21) ["ladder","rule"]):Cal P w K mg base 3 "rises" 2 (x91):=
 Cal.mkQ (k:=2) a y5n fun f cdv A outer s H E hr=>
  x06 (x2c PassesOwn.never rfl (x0v B.m_range (x00 (x0w B.m_len (qv 0)) x04 x0l)) (x0k (i:=2) (show 0<=2 by decide) y5n.nd rfl (Or.inl rfl)) (x0a (x2c PassesOwn.never rfl (x2h (x07 c38 hr (by decide) (x00 (x02 (qv 0)) (x00 (x02 (qv 2)) x04 x03) x03))) (x0k (i:=3) (show 0<=3 by decide) y5n.nd rfl (Or.inl rfl)) (x0a (x1w (x2z (x27 (x07 c41 hr (by decide) (x00 (x02 (qv 0)) (x00 (x0r (qv 1) (x02 (qv 3))) (x00 (x0r (qv 1) (x02 (qv 2))) x04 x0t) x0t) x03)))) (x0a (x0i x4r)) x1e)))))
  (x0a (x0i x4r))
def x6y:x1a:=x21 (y8k (x0m x4i 1 (x01 (x05 0) x0g)) (eCh dLe dLe (eC (.int 1)) (x05 0) (eC (.int 8))))
def x36:List D->OD:=fnD 1 (x6y)
theorem y0p:FnScope ["thing"] ["thing"] (x0b (top 40)):=fsq
theorem y20 (B:Bt mg)(c53:Cal P w K mg base 1 "is_whole" 1 x4i)(a:At K mg "is_many_places" (top 40) ["thing"]):Cal P w K mg base 2 "is_many_places" 1 (x36):=
 Cal.mkQ (k:=1) a y0p fun f cdv A outer s H E hr=>
  x0a (x0i (x9v (x07 c53 hr (by decide) (x00 (x02 (qv 0)) x04 x03)) (x9w (y8u x0d (x02 (qv 0)) (y8q B.k_MOST_PLACES)))))
def x8q:x1a:=x14 (sIf (y8i (x43 (x76 (z2q .tuple (x05 1)))) (x3c (e2 dNe (x10 1) (eC (.int 3))))) (x21 (eC (.bl false))) x53)
 (x21 (y8k (x0m x11 2 (x01 (x19 1 (eC (.int 0))) (x01 (x05 0) x0g))) (x0m x11 2 (x01 (x19 1 (eC (.int 1))) (x01 (x05 0) x0g)))))
def x39:List D->OD:=fnD 2 (x8q)
theorem y3a:FnScope ["places","thing"] ["places","thing"] (x0b (top 43)):=fsq
theorem y48 (B:Bt mg)(c47:Cal P w K mg base 2 "is_number_of" 2 x11)(a:At K mg "goes_between" (top 43) ["places","thing"]):Cal P w K mg base 3 "goes_between" 2 (x39):=
 Cal.mkQ (k:=2) a y3a fun f cdv A outer s H E hr=>
  x06 (x1w (y1x (x81 (x2z (x27 (x8t .tuple B.m_isinstance B.m_tuple PyProof.Rows.boot_tuple (x02 (qv 1))))) (x5t (x5b hr (x0w B.m_len (qv 1)) x0d)))) (x0a (x0i x4r)) x1e)
  (x0a (x0i (x9v (x07 c47 hr (by decide) (x00 (x0r (qv 1) x0d) (x00 (x02 (qv 0)) x04 x03) x0t)) (x9w (x07 c47 hr (by decide) (x00 (x0r (qv 1) x0d) (x00 (x02 (qv 0)) x04 x03) x0t))))))
def y8e:x1a:=x21 (x0m x2y 3 (x01 (x05 1) (x01 (x10 0) (x01 (x10 0) x0g))))
def x7e:List D->OD:=fnD 2 (y8e)
theorem z2d:FnScope ["ladder","thing"] ["ladder","thing"] (x0b (top 20)):=fsq
theorem z3g (B:Bt mg)(c49:Cal P w K mg base 3 "is_row_of" 3 x2y)(a:At K mg "is_rule" (top 20) ["ladder","thing"]):Cal P w K mg base 4 "is_rule" 2 (x7e):=
 Cal.mkQ (k:=3) a z2d fun f cdv A outer s H E hr=>
  x0a (x0i (x07 c49 hr (by decide) (x00 (x02 (qv 1)) (x00 (x0w B.m_len (qv 0)) (x00 (x0w B.m_len (qv 0)) x04 x0l) x0l) x03)))
def x72:x1a:=x21 (y8k (x0m x7e 2 (x01 (x05 0) (x01 (x05 1) x0g))) (x0m x91 2 (x01 (x05 0) (x01 (x05 1) x0g))))
def x35:List D->OD:=fnD 2 (x72)
theorem y0r:FnScope ["ladder","thing"] ["ladder","thing"] (x0b (top 26)):=fsq
theorem y1r (B:Bt mg)(c50:Cal P w K mg base 4 "is_rule" 2 x7e)(c69:Cal P w K mg base 3 "rises" 2 x91)(a:At K mg "is_rising_rule" (top 26) ["ladder","thing"]):Cal P w K mg base 5 "is_rising_rule" 2 (x35):=
 Cal.mkQ (k:=4) a y0r fun f cdv A outer s H E hr=>
  x0a (x0i (x9v (x07 c50 hr (by decide) (x00 (x02 (qv 0)) (x00 (x02 (qv 1)) x04 x03) x03)) (x9w (x07 c69 hr (by decide) (x00 (x02 (qv 0)) (x00 (x02 (qv 1)) x04 x03) x03)))))
def z0d:x1a:=x21 (y8k (x0m x39 2 (x01 (x05 1) (x01 (x05 2) x0g))) (x0m x35 2 (x01 (x05 0) (x01 (x19 2 (eC (.int 2))) x0g))))
def x9i:List D->OD:=fnD 3 (z0d)
theorem z3k:FnScope ["ladder","places","thing"] ["ladder","places","thing"] (x0b (top 42)):=fsq
theorem z8g (B:Bt mg)(c39:Cal P w K mg base 3 "goes_between" 2 x39)(c48:Cal P w K mg base 5 "is_rising_rule" 2 x35)(a:At K mg "is_way" (top 42) ["ladder","places","thing"]):Cal P w K mg base 6 "is_way" 3 (x9i):=
 Cal.mkQ (k:=5) a z3k fun f cdv A outer s H E hr=>
  x0a (x0i (x9v (x07 c39 hr (by decide) (x00 (x02 (qv 1)) (x00 (x02 (qv 2)) x04 x03) x03)) (x9w (x07 c48 hr (by decide) (x00 (x02 (qv 0)) (x00 (x0r (qv 2) x0d) x04 x0t) x03)))))
def y4y:x1a:=x14 (sIf (y8i (x43 (x76 (z2q .tuple (x05 2)))) (x3c (e2 dGt (x10 2) (eC (.int 60))))) (x21 (eC (.bl false))) x53)
 (x21 (eB z1n (x01 (x22 1 (x4w (x05 2)) (x0n 3) x1i (x0m x9i 3 (x01 (x05 0) (x01 (x05 1) (x01 (x05 3) x0g)))) false) x0g)))
def x65:List D->OD:=fnD 3 (y4y)
theorem y8s:FnScope ["ladder","places","thing"] ["ladder","places","thing"] (x0b (top 41)):=fsq
abbrev y37:List Str:=["ladder","places","thing","way"]
theorem y7t:(y37).Nodup:=by decide +kernel
theorem z2a (B:Bt mg)(c52:Cal P w K mg base 6 "is_way" 3 x9i)(a:At K mg "are_ways" (top 41) ["ladder","places","thing"]):Cal P w K mg base 7 "are_ways" 3 (x65):=
 Cal.mkQ (k:=6) a y8s fun f cdv A outer s H E hr=>
  x06 (x1w (y1x (x81 (x2z (x27 (x8t .tuple B.m_isinstance B.m_tuple PyProof.Rows.boot_tuple (x02 (qv 2))))) (x5t (j02 (x0w B.m_len (qv 2)) (y8q B.k_MOST_WAYS))))) (x0a (x0i x4r)) x1e)
  (x0a (x0i (y7p rfl B.m_all (x00 (x24 (k:=1) (N':=y37) false rfl ⟨rfl,by decide +kernel,rfl,rfl,rfl⟩ (x2h (x02 (qv 2))) (fun _ _ _ _=>x0k (i:=3) (show 3<=3 by decide) y7t rfl (Or.inl rfl) (Or.inr rfl)) (fun _ _ _ _=>x1c) (fun _ _ _ _=>x07 c52 hr (by decide) (x00 (x02 (qv 0)) (x00 (x02 (qv 1)) (x00 (x02 (qv 3)) x04 x03) x03) x03))) x04 x1d))))
def y4k:x1a:=x14 (sIf (y8i (x43 (x76 (z2q .tuple (x05 2)))) (x3c (e2 dNe (x10 2) (eC (.int 2))))) (x21 (eC (.bl false))) x53)
 (x21 (y8k (x0m x11 2 (x01 (x19 2 (eC (.int 0))) (x01 (x05 1) x0g))) (x0m x11 2 (x01 (x19 2 (eC (.int 1))) (x01 (x10 0) x0g)))))
def x66:List D->OD:=fnD 3 (y4k)
theorem y9c:FnScope ["ladder","places","thing"] ["ladder","places","thing"] (x0b (top 45)):=fsq
theorem z2l (B:Bt mg)(c47:Cal P w K mg base 2 "is_number_of" 2 x11)(a:At K mg "is_begin" (top 45) ["ladder","places","thing"]):Cal P w K mg base 3 "is_begin" 3 (x66):=
 Cal.mkQ (k:=2) a y9c fun f cdv A outer s H E hr=>
  x06 (x1w (y1x (x81 (x2z (x27 (x8t .tuple B.m_isinstance B.m_tuple PyProof.Rows.boot_tuple (x02 (qv 2))))) (x5t (x5b hr (x0w B.m_len (qv 2)) x0d)))) (x0a (x0i x4r)) x1e)
  (x0a (x0i (x9v (x07 c47 hr (by decide) (x00 (x0r (qv 2) x0d) (x00 (x02 (qv 1)) x04 x03) x0t)) (x9w (x07 c47 hr (by decide) (x00 (x0r (qv 2) x0d) (x00 (x0w B.m_len (qv 0)) x04 x0l) x0t))))))
def y1b:x1a:=x14 (sIf (y8i (x43 (x76 (z2q .tuple (x05 2)))) (x3c (e2 dGt (x10 2) (eC (.int 60))))) (x21 (eC (.bl false))) x53)
 (x21 (eB z1n (x01 (x22 1 (x4w (x05 2)) (x0n 3) x1i (x0m x66 3 (x01 (x05 0) (x01 (x05 1) (x01 (x05 3) x0g)))) false) x0g)))
def x4s:List D->OD:=fnD 3 (y1b)
theorem y5u:FnScope ["ladder","places","thing"] ["ladder","places","thing"] (x0b (top 44)):=fsq
abbrev y06:List Str:=["ladder","places","thing","begin"]
theorem y45:(y06).Nodup:=by decide +kernel
theorem y7s (B:Bt mg)(c40:Cal P w K mg base 3 "is_begin" 3 x66)(a:At K mg "are_begins" (top 44) ["ladder","places","thing"]):Cal P w K mg base 4 "are_begins" 3 (x4s):=
 Cal.mkQ (k:=3) a y5u fun f cdv A outer s H E hr=>
  x06 (x1w (y1x (x81 (x2z (x27 (x8t .tuple B.m_isinstance B.m_tuple PyProof.Rows.boot_tuple (x02 (qv 2))))) (x5t (j02 (x0w B.m_len (qv 2)) (y8q B.k_MOST_BEGINS))))) (x0a (x0i x4r)) x1e)
  (x0a (x0i (y7p rfl B.m_all (x00 (x24 (k:=1) (N':=y06) false rfl ⟨rfl,by decide +kernel,rfl,rfl,rfl⟩ (x2h (x02 (qv 2))) (fun _ _ _ _=>x0k (i:=3) (show 3<=3 by decide) y45 rfl (Or.inl rfl) (Or.inr rfl)) (fun _ _ _ _=>x1c) (fun _ _ _ _=>x07 c40 hr (by decide) (x00 (x02 (qv 0)) (x00 (x02 (qv 1)) (x00 (x02 (qv 3)) x04 x03) x03) x03))) x04 x1d))))
def y4l:x1a:=x14 (sIf (y8i (x43 (x76 (z2q .tuple (x05 1)))) (x3c (e2 dNe (x10 1) (eC (.int 3))))) (x21 (eC (.bl false))) x53)
 (x14 (sIf (x43 (x76 (x0m x36 1 (x01 (x19 1 (eC (.int 0))) x0g)))) (x21 (eC (.bl false))) x53)
 (x21 (y8k (x0m x65 3 (x01 (x05 0) (x01 (x19 1 (eC (.int 0))) (x01 (x19 1 (eC (.int 1))) x0g)))) (x0m x4s 3 (x01 (x05 0) (x01 (x19 1 (eC (.int 0))) (x01 (x19 1 (eC (.int 2))) x0g)))))))
def x52:List D->OD:=fnD 2 (y4l)
theorem z05:FnScope ["ladder","thing"] ["ladder","thing"] (x0b (top 39)):=fsq
theorem z23 (B:Bt mg)(c43:Cal P w K mg base 2 "is_many_places" 1 x36)(c35:Cal P w K mg base 7 "are_ways" 3 x65)(c34:Cal P w K mg base 4 "are_begins" 3 x4s)(a:At K mg "is_chart" (top 39) ["ladder","thing"]):Cal P w K mg base 8 "is_chart" 2 (x52):=
 Cal.mkQ (k:=7) a z05 fun f cdv A outer s H E hr=>
  x06 (x1w (y1x (x81 (x2z (x27 (x8t .tuple B.m_isinstance B.m_tuple PyProof.Rows.boot_tuple (x02 (qv 1))))) (x5t (x5b hr (x0w B.m_len (qv 1)) x0d)))) (x0a (x0i x4r)) x1e)
  (x06 (x1w (x2z (x27 (x07 c43 hr (by decide) (x00 (x0r (qv 1) x0d) x04 x0t)))) (x0a (x0i x4r)) x1e)
  (x0a (x0i (x9v (x07 c35 hr (by decide) (x00 (x02 (qv 0)) (x00 (x0r (qv 1) x0d) (x00 (x0r (qv 1) x0d) x04 x0t) x0t) x03)) (x9w (x07 c34 hr (by decide) (x00 (x02 (qv 0)) (x00 (x0r (qv 1) x0d) (x00 (x0r (qv 1) x0d) x04 x0t) x0t) x03)))))))
def x62:x1a:=x14 (sIf (y8i (x43 (x76 (z2q .tuple (x05 0)))) (y8i (x3c (e2 dNe (x10 0) (eC (.int 2)))) (x43 (x76 (z2q .str (x19 0 (eC (.int 0)))))))) (x21 (eC (.bl false))) x53)
 (x21 (x0m x11 2 (x01 (x19 0 (eC (.int 1))) (x01 (z6d (x05 1) (x19 0 (eC (.int 0))) (eC (.int 0))) x0g))))
def x2o:List D->OD:=fnD 2 (x62)
theorem y07:FnScope ["thing","many_by_name"] ["thing","many_by_name"] (x0b (top 12)):=fsq
theorem y0s (B:Bt mg)(c47:Cal P w K mg base 2 "is_number_of" 2 x11)(a:At K mg "is_named_number" (top 12) ["thing","many_by_name"]):Cal P w K mg base 3 "is_named_number" 2 (x2o):=
 Cal.mkQ (k:=2) a y07 fun f cdv A outer s H E hr=>
  x06 (x1w (y1x (x81 (x2z (x27 (x8t .tuple B.m_isinstance B.m_tuple PyProof.Rows.boot_tuple (x02 (qv 0))))) (x81 (x5b hr (x0w B.m_len (qv 0)) x0d) (x5t (x2z (x27 (x8t .str B.m_isinstance B.m_str PyProof.Rows.boot_str (x0r (qv 0) x0d)))))))) (x0a (x0i x4r)) x1e)
  (x0a (x0i (x07 c47 hr (by decide) (x00 (x0r (qv 0) x0d) (x00 (j1o hr (x02 (qv 1)) (x0r (qv 0) x0d) x0d) x04 x0l) x0t))))
def y8a:x1a:=x21 (x0m x2o 2 (x01 (x05 1) (x01 (z28 "begin" "way" (x9d 0 2) (x9d 0 1)) x0g)))
def x57:List D->OD:=fnD 2 (y8a)
theorem z21:FnScope ["chart","thing"] ["chart","thing"] (x0b (top 50)):=fsq
theorem z4b (B:Bt mg)(c45:Cal P w K mg base 3 "is_named_number" 2 x2o)(a:At K mg "is_step" (top 50) ["chart","thing"]):Cal P w K mg base 4 "is_step" 2 (x57):=
 Cal.mkQ (k:=3) a z21 fun f cdv A outer s H E hr=>
  x0a (x0i (x07 c45 hr (by decide) (x00 (x02 (qv 1)) (x00 (j13 (by decide) (z0f B.m_len (qv 0)) (z0f B.m_len (qv 0))) x04 j27) x03)))
def x70:x1a:=sIf (x43 (x76 (eB z1n (x01 (x22 1 (x4w (x05 1)) (x0n 2) x1i (x0m x57 2 (x01 (x05 0) (x01 (x05 2) x0g))) false) x0g)))) y7y (x53)
def x33:List D->OD:=fnD 2 (x70)
theorem y0l:FnScope ["chart","steps"] ["chart","steps"] (x0b (top 51)):=fsq
abbrev x68:List Str:=["chart","steps","step"]
theorem x9h:(x68).Nodup:=by decide +kernel
theorem y1v (B:Bt mg)(c51:Cal P w K mg base 4 "is_step" 2 x57)(a:At K mg "refuse_no_step" (top 51) ["chart","steps"]):Cal P w K mg base 5 "refuse_no_step" 2 (x33):=
 Cal.mkQ (k:=4) a y0l fun f cdv A outer s H E hr=>
  x0a (x1w (x2z (x27 (y7p rfl B.m_all (x00 (x24 (k:=1) (N':=x68) false rfl ⟨rfl,by decide +kernel,rfl,rfl,rfl⟩ (x2h (x02 (qv 1))) (fun _ _ _ _=>x0k (i:=2) (show 2<=2 by decide) x9h rfl (Or.inl rfl) (Or.inr rfl)) (fun _ _ _ _=>x1c) (fun _ _ _ _=>x07 c51 hr (by decide) (x00 (x02 (qv 0)) (x00 (x02 (qv 2)) x04 x03) x03))) x04 x1d)))) (x0a y7a) x1e)
def x5y:x1a:=x14 (sIf (x3c (e2 dEq (x19 2 (eC (.int 0))) (eC (.str "begin")))) (x21 (eIx (x19 0 (eC (.int 2))) (x19 2 (eC (.int 1))))) x53)
 (x14 (x25 3 (eIx (x19 0 (eC (.int 1))) (x19 2 (eC (.int 1)))))
 (x21 (x6z (x01 (x19 3 (eC (.int 1))) (x01 (eIx (x19 3 (eC (.int 2))) (x19 1 (x19 3 (eC (.int 0))))) x0g)))))
def x2s:List D->OD:=fnD 4 (x5y)
theorem x5l:FnScope ["chart","worths","step","way"] ["chart","worths","step"] (x0b (top 52)):=fsq
theorem y0v (B:Bt mg)(a:At K mg "place_and_worth" (top 52) ["chart","worths","step"]):Cal P w K mg base 1 "place_and_worth" 3 (x2s):=
 Cal.mkQ (k:=0) a x5l fun f cdv A outer s H E hr=>
  x06 (x1w (x9a hr (x0r (qv 2) x0d) x7u) (x0a (x0i (x4u (x0r (qv 0) x0d) (x0r (qv 2) x0d)))) x1e)
  (x06 (x0o (i:=3) x5l.nd rfl (Or.inl rfl) (x4u (x0r (qv 0) x0d) (x0r (qv 2) x0d)))
  (x0a (x0i (x3r (x00 (x0r (qv 3) x0d) (x00 (x4u (x0r (qv 3) x0d) (x0r (qv 1) (x0r (qv 3) x0d))) x04 x0t) x0t)))))
def x7g:x1a:=x14 (x25 4 (x0m x2s 3 (x01 (x05 1) (x01 (x05 2) (x01 (x05 3) x0g)))))
 (x14 (x25 5 (x19 4 (eC (.int 0))))
 (x14 (x25 6 (eIx (x19 0 (x19 2 (x05 5))) (x19 4 (eC (.int 1)))))
 (x21 (j46 (j46 (eSl (x05 2) z1k (y8t (x05 5))) (x6z (x01 (x05 6) x0g))) (eSl (x05 2) (y8t (e2 x3f (x05 5) (eC (.int 1)))) z1k)))))
def x2e:List D->OD:=fnD 7 (x7g)
theorem x3t:FnScope ["ladder","chart","worths","step","coming","place","joined"] ["ladder","chart","worths","step"] (x0b (top 53)):=fsq
theorem y2g (B:Bt mg)(c65:Cal P w K mg base 1 "place_and_worth" 3 x2s)(a:At K mg "worths_behind" (top 53) ["ladder","chart","worths","step"]):Cal P w K mg base 2 "worths_behind" 4 (x2e):=
 Cal.mkQ (k:=1) a x3t fun f cdv A outer s H E hr=>
  x06 (x0o (i:=4) x3t.nd rfl (Or.inl rfl) (x07 c65 hr (by decide) (x00 (x02 (qv 1)) (x00 (x02 (qv 2)) (x00 (x02 (qv 3)) x04 x03) x03) x03)))
  (x06 (x0o (i:=5) x3t.nd rfl (Or.inl rfl) (x0r (qv 4) x0d))
  (x06 (x0o (i:=6) x3t.nd rfl (Or.inl rfl) (x4u (x0r (qv 0) (x0r (qv 2) (x02 (qv 5)))) (x0r (qv 4) x0d)))
  (x0a (x0i (z9p (z9p (j03 (x02 (qv 2)) y5o (y5p (x02 (qv 5)))) (x3r (x00 (x02 (qv 6)) x04 x03))) (j03 (x02 (qv 2)) (y5p (x1p (x02 (qv 5)) x0d)) y5o))))))
abbrev y5m:x1a:=x14 (x25 5 (x05 3))
 (x78 (x4w (x05 2)) (x0n 6) (x14 (x25 7 (x0m x2e 4 (x01 (x05 0) (x01 (x05 1) (x01 (x05 3) (x01 (x05 6) x0g))))))
 (x14 (sIf (x3c (e2 dNe (x05 7) (x05 3))) (x50 (y3n 4 (x01 (x05 6) x0g))) x53)
 (x25 3 (x05 7)))))
abbrev y29:x1a:=x14 (x25 7 (x0m x2e 4 (x01 (x05 0) (x01 (x05 1) (x01 (x05 3) (x01 (x05 6) x0g))))))
 (x14 (sIf (x3c (e2 dNe (x05 7) (x05 3))) (x50 (y3n 4 (x01 (x05 6) x0g))) x53)
 (x25 3 (x05 7)))
def z5m:x1a:=x14 (x25 4 (x6q x0g))
 (x14 (x25 5 (eC .non))
 (x14 (y7v (x3c (e2 dNe (x05 3) (x05 5))) (x14 (x25 5 (x05 3))
 (x78 (x4w (x05 2)) (x0n 6) (x14 (x25 7 (x0m x2e 4 (x01 (x05 0) (x01 (x05 1) (x01 (x05 3) (x01 (x05 6) x0g))))))
 (x14 (sIf (x3c (e2 dNe (x05 7) (x05 3))) (x50 (y3n 4 (x01 (x05 6) x0g))) x53)
 (x25 3 (x05 7)))))))
 (x21 (x6z (x01 (x05 3) (x01 (x05 4) x0g))))))
def y2r:List D->OD:=fnD 8 (z5m)
theorem x6m:FnScope ["ladder","chart","order","worths","raising","ahead","step","behind"] ["ladder","chart","order","worths"] (x0b (top 54)):=fsq
theorem j0f (B:Bt mg)(c71:Cal P w K mg base 2 "worths_behind" 4 x2e)(a:At K mg "risen" (top 54) ["ladder","chart","order","worths"]):Cal P w K mg base 3 "risen" 4 (y2r):=
 Cal.mkQ (k:=2) a x6m fun f cdv A outer s H E hr=>
  x06 (x0o (i:=4) x6m.nd rfl (Or.inl rfl) (x2v x04))
  (x06 (x0o (i:=5) x6m.nd rfl (Or.inl rfl) z1d)
  (x06 (y6u PassesOwn.never (x5b hr (x02 (qv 3)) (x02 (qv 5))) (x06 (x0o (i:=5) x6m.nd rfl (Or.inl rfl) (x02 (qv 3)))
  (x0a (x2c PassesOwn.never rfl (x2h (x02 (qv 2))) (x0k (i:=6) (show 0<=6 by decide) x6m.nd rfl (Or.inl rfl)) (x06 (x0o (i:=7) x6m.nd rfl (Or.inl rfl) (x07 c71 hr (by decide) (x00 (x02 (qv 0)) (x00 (x02 (qv 1)) (x00 (x02 (qv 3)) (x00 (x02 (qv 6)) x04 x03) x03) x03) x03)))
  (x06 (x1w (x5b hr (x02 (qv 7)) (x02 (qv 3))) (x0a (x3n (x3p (qv 4) (x00 (x02 (qv 6)) x04 x03)))) x1e)
  (x0a (x0o (i:=3) x6m.nd rfl (Or.inl rfl) (x02 (qv 7))))))))))
  (x0a (x0i (x3r (x00 (x02 (qv 3)) (x00 (x02 (qv 4)) x04 x03) x03))))))
def z0c:x1a:=x21 (x1k (x01 (y2v (x6q (x01 (x0m x38 1 (x01 (x05 0) x0g)) x0g)) (x19 1 (eC (.int 0)))) x0g))
def x9b:List D->OD:=fnD 2 (z0c)
theorem z4u:FnScope ["ladder","chart"] ["ladder","chart"] (x0b (top 47)):=fsq
theorem z7z (B:Bt mg)(c58:Cal P w K mg base 2 "least_of" 1 x38)(a:At K mg "lowest" (top 47) ["ladder","chart"]):Cal P w K mg base 3 "lowest" 2 (x9b):=
 Cal.mkQ (k:=2) a z4u fun f cdv A outer s H E hr=>
  x0a (x0i (x1t B.m_tuple PyProof.Rows.boot_tuple (x00 (z06 (x2v (x00 (x07 c58 hr (by decide) (x00 (x02 (qv 0)) x04 x03)) x04 x0l)) (x0r (qv 1) x0d)) x04 x1h)))
def y4z:x1a:=x14 (x50 (x0m x33 2 (x01 (x05 1) (x01 (x05 2) x0g))))
 (x14 (x25 3 (x0m y2r 4 (x01 (x05 0) (x01 (x05 1) (x01 (x05 2) (x01 (x0m x9b 2 (x01 (x05 0) (x01 (x05 1) x0g))) x0g))))))
 (x21 (x6z (x01 (x19 3 (eC (.int 0))) (x01 (eB z7x (x01 (x19 3 (eC (.int 1))) x0g)) x0g)))))
def x64:List D->OD:=fnD 4 (y4z)
theorem y3b:FnScope ["ladder","chart","order","ended"] ["ladder","chart","order"] (x0b (top 55)):=fsq
theorem z2o (B:Bt mg)(c67:Cal P w K mg base 5 "refuse_no_step" 2 x33)(c68:Cal P w K mg base 3 "risen" 4 y2r)(c60:Cal P w K mg base 3 "lowest" 2 x9b)(a:At K mg "least_by" (top 55) ["ladder","chart","order"]):Cal P w K mg base 6 "least_by" 3 (x64):=
 Cal.mkQ (k:=5) a y3b fun f cdv A outer s H E hr=>
  x06 (x3n (x07 c67 hr (by decide) (x00 (x02 (qv 1)) (x00 (x02 (qv 2)) x04 x03) x03)))
  (x06 (x0o (i:=3) y3b.nd rfl (Or.inl rfl) (x07 c68 hr (by decide) (x00 (x02 (qv 0)) (x00 (x02 (qv 1)) (x00 (x02 (qv 2)) (x00 (x07 c60 hr (by decide) (x00 (x02 (qv 0)) (x00 (x02 (qv 1)) x04 x03) x03)) x04 x0l) x03) x03) x03)))
  (x0a (x0i (x3r (x00 (x0r (qv 3) x0d) (x00 (z54 B.m_len (x00 (x0r (qv 3) x0d) x04 x0t)) x04 x0l) x0t)))))
def y35:x1a:=x14 (x25 1 (x22 1 (x15 (x01 (eB z7x (x01 (x19 0 (eC (.int 2))) x0g)) x0g)) (x0n 2) x1i (x6z (x01 (eC (.str "begin")) (x01 (x05 2) x0g))) false))
 (x21 (z2x (x05 1) (x22 1 (x15 (x01 (eB z7x (x01 (x19 0 (eC (.int 1))) x0g)) x0g)) (x0n 2) x1i (x6z (x01 (eC (.str "way")) (x01 (x05 2) x0g))) false)))
def x5h:List D->OD:=fnD 2 (y35)
theorem y1e:FnScope ["chart","begins"] ["chart"] (x0b (top 49)):=fsq
abbrev x83:List Str:=["chart","begins","number"]
theorem y0d:(x83).Nodup:=by decide +kernel
theorem z0a (B:Bt mg)(a:At K mg "all_steps" (top 49) ["chart"]):Cal P w K mg base 1 "all_steps" 1 (x5h):=
 Cal.mkQ (k:=0) a y1e fun f cdv A outer s H E hr=>
  x06 (x5k (i:=1) (k:=1) (N':=x83) false y1e.nd rfl (Or.inl rfl) rfl rfl ⟨rfl,by decide +kernel,rfl,rfl,rfl⟩ (x0v B.m_range (x00 (z54 B.m_len (x00 (x0r (qv 0) x0d) x04 x0t)) x04 x0l)) (fun _ _ _ _=>x0k (i:=2) (show 2<=2 by decide) y0d rfl (Or.inl rfl) (Or.inr rfl)) (fun _ _ _ _=>x1c) (fun _ _ _ _=>x3r (x00 x7u (x00 (x02 (qv 2)) x04 x03) x08)))
  (x0a (x0i (j19 (x02 (qv 1)) (x24 (k:=1) (N':=x83) false rfl ⟨rfl,by decide +kernel,rfl,rfl,rfl⟩ (x0v B.m_range (x00 (z54 B.m_len (x00 (x0r (qv 0) x0d) x04 x0t)) x04 x0l)) (fun _ _ _ _=>x0k (i:=2) (show 2<=2 by decide) y0d rfl (Or.inl rfl) (Or.inr rfl)) (fun _ _ _ _=>x1c) (fun _ _ _ _=>x3r (x00 x7u (x00 (x02 (qv 2)) x04 x03) x08))))))
def z3z:x1a:=x21 (eIx (x0m x64 3 (x01 (x05 0) (x01 (x05 1) (x01 (x0m x5h 1 (x01 (x05 1) x0g)) x0g)))) (eC (.int 0)))
def x7k:List D->OD:=fnD 2 (z3z)
theorem z6b:FnScope ["ladder","chart"] ["ladder","chart"] (x0b (top 48)):=fsq
theorem j2t (B:Bt mg)(c57:Cal P w K mg base 6 "least_by" 3 x64)(c33:Cal P w K mg base 1 "all_steps" 1 x5h)(a:At K mg "least" (top 48) ["ladder","chart"]):Cal P w K mg base 7 "least" 2 (x7k):=
 Cal.mkQ (k:=6) a z6b fun f cdv A outer s H E hr=>
  x0a (x0i (x4u (x07 c57 hr (by decide) (x00 (x02 (qv 0)) (x00 (x02 (qv 1)) (x00 (x07 c33 hr (by decide) (x00 (x02 (qv 1)) x04 x03)) x04 x0l) x03) x03)) x0d))
def y1o:x1a:=x21 (eB z1n (x01 (x22 2 (y6y (x01 (x05 1) (x01 (x05 2) x0g))) (y64 (x18 (x0n 3) (x18 (x0n 4) x5v))) x1i (x0m x1y 3 (x01 (x05 0) (x01 (x05 3) (x01 (x05 4) x0g)))) false) x0g))
def x40:List D->OD:=fnD 3 (y1o)
theorem y6e:FnScope ["ladder","one","other"] ["ladder","one","other"] (x0b (top 24)):=fsq
abbrev y01:List Str:=["ladder","one","other","x","y"]
theorem x8k:(y01).Nodup:=by decide +kernel
theorem y7z (B:Bt mg)(c41:Cal P w K mg base 1 "is_below" 3 x1y)(a:At K mg "is_no_more" (top 24) ["ladder","one","other"]):Cal P w K mg base 2 "is_no_more" 3 (x40):=
 Cal.mkQ (k:=1) a y6e fun f cdv A outer s H E hr=>
  x0a (x0i (y7p rfl B.m_all (x00 (x24 (k:=2) (N':=y01) false rfl ⟨rfl,by decide +kernel,rfl,rfl,rfl⟩ (z38 B.m_zip (x00 (x02 (qv 1)) (x00 (x02 (qv 2)) x04 x03) x03)) (fun _ _ _ _=>x7h (n:=2) rfl (x1n (x0k (i:=3) (show 3<=3 by decide) x8k rfl (Or.inl rfl) (Or.inr rfl)) (x1n (x0k (i:=4) (show 3<=4 by decide) x8k rfl (Or.inl rfl) (Or.inr rfl)) x5q)) y0i) (fun _ _ _ _=>x1c) (fun _ _ _ _=>x07 c41 hr (by decide) (x00 (x02 (qv 0)) (x00 (x02 (qv 3)) (x00 (x02 (qv 4)) x04 x03) x03) x03))) x04 x1d)))
def j5i:x1a:=x14 (x25 1 (x0m x49 2 (x01 (x05 0) (x01 (eC (.int 0)) x0g))))
 (x14 (j3l (x0m x54 3 (x01 (x05 0) (x01 (eC (.int 200)) (x01 (x05 1) x0g)))) (y64 (x18 (x0n 2) (x18 (x0n 3) x5v))))
 (x14 (x25 4 (x0m x4q 4 (x01 (x05 0) (x01 (eC (.int 20)) (x01 (x05 1) (x01 (eC (.bl false)) x0g))))))
 (x14 (x25 5 (x0m x2g 3 (x01 (x05 0) (x01 (eC (.int 230)) (x01 (x05 1) x0g)))))
 (x14 (x25 6 (x0m x4b 4 (x01 (x05 1) (x01 (x05 2) (x01 (x05 3) (x01 (x05 5) x0g))))))
 (x14 (sIf (x43 (x76 (x0m x91 2 (x01 (x05 2) (x01 (x05 6) x0g))))) (x21 (eC (.bl false))) x53)
 (x14 (x25 7 (x22 1 (x15 (x01 (x10 1) x0g)) (x0n 13) x1i (x19 3 (x19 5 (x05 13))) false))
 (x14 (sIf (x43 (x76 (x0m x1g 3 (x01 (x05 2) (x01 (x05 7) (x01 (x22 1 (x4w (x05 3)) (x0n 13) x1i (x19 6 (x05 13)) false) x0g)))))) (x21 (eC (.bl false))) x53)
 (x14 (x25 8 (x0m x2g 3 (x01 (x05 0) (x01 (eC (.int 260)) (x01 (x05 2) x0g)))))
 (x14 (x25 9 (x0m x1g 3 (x01 (x05 2) (x01 (x05 7) (x01 (x22 1 (x4w (x05 3)) (x0n 13) x1i (x19 8 (x05 13)) false) x0g)))))
 (x14 (sIf (y2q (x76 (x05 9)) (x43 (x76 (x0m x40 3 (x01 (x05 2) (x01 (x05 6) (x01 (x05 8) x0g))))))) (x21 (eC (.bl false))) x53)
 (x14 (x25 10 (x0m x2w 4 (x01 (x05 1) (x01 (x05 2) (x01 (x05 3) (x01 (x05 4) x0g))))))
 (x14 (sIf (x3c (e2 y76 (x0m x52 2 (x01 (x05 2) (x01 (x05 10) x0g))) (eC (.bl true)))) (x21 (eC (.bl false))) x53)
 (x14 (x25 11 (x0m x3j 2 (x01 (x05 3) (x01 (x0m x7k 2 (x01 (x05 1) (x01 (x05 4) x0g))) x0g))))
 (x14 (sIf (x3c (e2 dNe (x05 11) (x1k (x01 (x22 1 (x4w (x0m x7k 2 (x01 (x05 1) (x01 (x05 4) x0g)))) (x0n 13) x1i (x19 3 (x05 13)) false) x0g)))) (x21 (eC (.bl false))) x53)
 (x14 (x25 12 (x0m x4f 3 (x01 (x05 2) (x01 (x05 10) (x01 (y9h (x6z (x01 (x0m x2t 1 (x01 (x05 2) x0g)) x0g)) (x19 4 (eC (.int 0)))) x0g)))))
 (x14 (sIf (y8i (x3c (e2 dNe (x0m x7k 2 (x01 (x05 2) (x01 (x05 10) x0g))) (x05 12))) (x43 (x76 (x0m x1g 3 (x01 (x05 2) (x01 (x05 11) (x01 (x05 12) x0g))))))) (x21 (eC (.bl false))) x53)
 (x14 (sIf (y2q (x3c (e2 dEq (x10 2) (x10 1))) (y2q (x3c (e2 dEq (x8w (x05 3)) (x10 3))) (x3c (e2 dNe (x05 11) (x05 12))))) (x21 (eC (.bl false))) x53)
 (x21 (e2 dEq (x0m x2w 4 (x01 (x05 1) (x01 (x05 2) (x01 (eSl (x05 3) z1k (y8t (j6k (eC (.int 1))))) (x01 (x05 4) x0g))))) (eC (.str "no map")))))))))))))))))))))
def z20:List D->OD:=fnD 13 (j5i)
theorem x5x:FnScope ["_law_script","_law_ladder_here","_law_other","_law_mapping","_law_chart_here","_law_rule_here","_law_over_here","_law_goals","_law_drawn","_law_fits","_law_there","_law_led","_law_answer"] ["_law_script"] (x0b (top 80)):=fsq
abbrev y74:List Str:=["_law_script","_law_ladder_here","_law_other","_law_mapping","_law_chart_here","_law_rule_here","_law_over_here","_law_goals","_law_drawn","_law_fits","_law_there","_law_led","_law_answer","_law_worth"]
theorem y5w:(y74).Nodup:=by decide +kernel
theorem j0g (B:Bt mg)(c18:Cal P w K mg base 4 "_law_ladder" 2 x49)(c21:Cal P w K mg base 3 "_law_map" 3 x54)(c14:Cal P w K mg base 5 "_law_chart" 4 x4q)(c25:Cal P w K mg base 3 "_law_rule" 3 x2g)(c63:Cal P w K mg base 7 "mapped_rule" 4 x4b)(c69:Cal P w K mg base 3 "rises" 2 x91)(c16:Cal P w K mg base 1 "_law_is_no_more" 3 x1g)(c46:Cal P w K mg base 2 "is_no_more" 3 x40)(c29:Cal P w K mg base 8 "_law_tried" 4 x2w)(c42:Cal P w K mg base 8 "is_chart" 2 x52)(c64:Cal P w K mg base 2 "mapped_worths" 2 x3j)(c56:Cal P w K mg base 7 "least" 2 x7k)(c20:Cal P w K mg base 2 "_law_lowest" 3 x4f)(c19:Cal P w K mg base 1 "_law_low" 1 x2t){f:Addr}{fd:FuncData}(F:Fun K "law" "law" (top 80) f fd):FnOk P w K mg base CX0 9 f fd ["_law_script"] (spD K 1 z20):=
 j0h (k:=8) F x5x fun f cdv A outer s H E hr=>
  x06 (x0o (i:=1) x5x.nd rfl (Or.inl rfl) (x07 c18 hr (by decide) (x00 (x02 (qv 0)) (x00 x0d x04 x08) x03)))
  (x06 (j3a (x07 c21 hr (by decide) (x00 (x02 (qv 0)) (x00 x0d (x00 (x02 (qv 1)) x04 x03) x08) x03)) (x7h (n:=2) rfl (x1n (x0k (i:=2) (show 0<=2 by decide) x5x.nd rfl (Or.inl rfl)) (x1n (x0k (i:=3) (show 0<=3 by decide) x5x.nd rfl (Or.inr rfl)) x5q)) y0i))
  (x06 (x0o (i:=4) x5x.nd rfl (Or.inl rfl) (x07 c14 hr (by decide) (x00 (x02 (qv 0)) (x00 x0d (x00 (x02 (qv 1)) (x00 x4r x04 x08) x03) x08) x03)))
  (x06 (x0o (i:=5) x5x.nd rfl (Or.inr rfl) (x07 c25 hr (by decide) (x00 (x02 (qv 0)) (x00 x0d (x00 (x02 (qv 1)) x04 x03) x08) x03)))
  (x06 (x0o (i:=6) x5x.nd rfl (Or.inr rfl) (x07 c63 hr (by decide) (x00 (x02 (qv 1)) (x00 (x02 (qv 2)) (x00 (x02 (qv 3)) (x00 (x02 (qv 5)) x04 x03) x03) x03) x03)))
  (x06 (x1w (x2z (x27 (x07 c69 hr (by decide) (x00 (x02 (qv 2)) (x00 (x02 (qv 6)) x04 x03) x03)))) (x0a (x0i x4r)) x1e)
  (x06 (x5k (i:=7) (k:=1) (N':=y74) false x5x.nd rfl (Or.inl rfl) rfl rfl ⟨rfl,by decide +kernel,rfl,rfl,rfl⟩ (x0v B.m_range (x00 (x0w B.m_len (qv 1)) x04 x0l)) (fun _ _ _ _=>x0k (i:=13) (show 13<=13 by decide) y5w rfl (Or.inl rfl) (Or.inr rfl)) (fun _ _ _ _=>x1c) (fun _ _ _ _=>x0r (qv 3) (x0r (qv 5) (x02 (qv 13)))))
  (x06 (x1w (x2z (x27 (x07 c16 hr (by decide) (x00 (x02 (qv 2)) (x00 (x02 (qv 7)) (x00 (x24 (k:=1) (N':=y74) false rfl ⟨rfl,by decide +kernel,rfl,rfl,rfl⟩ (x2h (x02 (qv 3))) (fun _ _ _ _=>x0k (i:=13) (show 13<=13 by decide) y5w rfl (Or.inl rfl) (Or.inr rfl)) (fun _ _ _ _=>x1c) (fun _ _ _ _=>x0r (qv 6) (x02 (qv 13)))) x04 x1d) x03) x03)))) (x0a (x0i x4r)) x1e)
  (x06 (x0o (i:=8) x5x.nd rfl (Or.inr rfl) (x07 c25 hr (by decide) (x00 (x02 (qv 0)) (x00 x0d (x00 (x02 (qv 2)) x04 x03) x08) x03)))
  (x06 (x0o (i:=9) x5x.nd rfl (Or.inl rfl) (x07 c16 hr (by decide) (x00 (x02 (qv 2)) (x00 (x02 (qv 7)) (x00 (x24 (k:=1) (N':=y74) false rfl ⟨rfl,by decide +kernel,rfl,rfl,rfl⟩ (x2h (x02 (qv 3))) (fun _ _ _ _=>x0k (i:=13) (show 13<=13 by decide) y5w rfl (Or.inl rfl) (Or.inr rfl)) (fun _ _ _ _=>x1c) (fun _ _ _ _=>x0r (qv 8) (x02 (qv 13)))) x04 x1d) x03) x03)))
  (x06 (x1w (y1x (y9d (x27 (x02 (qv 9))) (z0u (x2z (x27 (x07 c46 hr (by decide) (x00 (x02 (qv 2)) (x00 (x02 (qv 6)) (x00 (x02 (qv 8)) x04 x03) x03) x03))))))) (x0a (x0i x4r)) x1e)
  (x06 (x0o (i:=10) x5x.nd rfl (Or.inl rfl) (x07 c29 hr (by decide) (x00 (x02 (qv 1)) (x00 (x02 (qv 2)) (x00 (x02 (qv 3)) (x00 (x02 (qv 4)) x04 x03) x03) x03) x03)))
  (x06 (x1w (z4m (x07 c42 hr (by decide) (x00 (x02 (qv 2)) (x00 (x02 (qv 10)) x04 x03) x03)) x4r) (x0a (x0i x4r)) x1e)
  (x06 (x0o (i:=11) x5x.nd rfl (Or.inl rfl) (x07 c64 hr (by decide) (x00 (x02 (qv 3)) (x00 (x07 c56 hr (by decide) (x00 (x02 (qv 1)) (x00 (x02 (qv 4)) x04 x03) x03)) x04 x0l) x03)))
  (x06 (x1w (x5b hr (x02 (qv 11)) (x1t B.m_tuple PyProof.Rows.boot_tuple (x00 (x24 (k:=1) (N':=y74) false rfl ⟨rfl,by decide +kernel,rfl,rfl,rfl⟩ (x2h (x07 c56 hr (by decide) (x00 (x02 (qv 1)) (x00 (x02 (qv 4)) x04 x03) x03))) (fun _ _ _ _=>x0k (i:=13) (show 13<=13 by decide) y5w rfl (Or.inl rfl) (Or.inr rfl)) (fun _ _ _ _=>x1c) (fun _ _ _ _=>x0r (qv 3) (x02 (qv 13)))) x04 x1d))) (x0a (x0i x4r)) x1e)
  (x06 (x0o (i:=12) x5x.nd rfl (Or.inl rfl) (x07 c20 hr (by decide) (x00 (x02 (qv 2)) (x00 (x02 (qv 10)) (x00 (z4y (x3r (x00 (x07 c19 hr (by decide) (x00 (x02 (qv 2)) x04 x03)) x04 x0l)) (x0r (qv 4) x0d)) x04 x1h) x03) x03)))
  (x06 (x1w (y1x (x81 (x5b hr (x07 c56 hr (by decide) (x00 (x02 (qv 2)) (x00 (x02 (qv 10)) x04 x03) x03)) (x02 (qv 12))) (x5t (x2z (x27 (x07 c16 hr (by decide) (x00 (x02 (qv 2)) (x00 (x02 (qv 11)) (x00 (x02 (qv 12)) x04 x03) x03) x03))))))) (x0a (x0i x4r)) x1e)
  (x06 (x1w (y1x (y9d (x9a hr (x0w B.m_len (qv 2)) (x0w B.m_len (qv 1))) (y9d (x9a hr (z51 rfl B.m_len B.m_set (x02 (qv 3))) (x0w B.m_len (qv 3))) (z0u (x5b hr (x02 (qv 11)) (x02 (qv 12))))))) (x0a (x0i x4r)) x1e)
  (x0a (x0i (z60 hr (x07 c29 hr (by decide) (x00 (x02 (qv 1)) (x00 (x02 (qv 2)) (x00 (j03 (x02 (qv 3)) y5o (y5p (j5v x0d))) (x00 (x02 (qv 4)) x04 x03) x0t) x03) x03)) x7u))))))))))))))))))))
end
abbrev scr (ns:List Int):D:=.lst (ns.map D.int)
def z6o (ns:List Int)(k:Int):Int:=if k<ns.length then ns.getD k.toNat 0 else if ns=[]then 0 else ns.getD (k % ns.length).toNat 0*31+k
theorem z9m {ns:List Int}{k:Int}(h0:0<=k)(h:k<ns.length):L2.atI (ns.map D.int) k=some (.int (ns.getD k.toNat 0)):=by
 obtain⟨m,rfl⟩:∃ m:Nat,k=Int.ofNat m:=⟨k.toNat,by show k=(k.toNat:Int);omega⟩
 have hk:m<ns.length:=by have:(m:Int)<ns.length:=h;omega
 apply y7r
 rw[List.getElem?_map,List.getElem?_eq_getElem hk]
 simp[hk]
theorem j3u (ns:List Int):Sh 1 (scr ns):=.lst fun d m=>by
 obtain⟨x,_,rfl⟩:=List.mem_map.mp m
 exact .int _
theorem z9v (ns:List Int):dEq (scr ns) (.lst [])=some (.bl (decide (ns=[]))):=by
 unfold dEq
 rw[if_pos ⟨(j3u ns).ok,(j7l []).ok⟩]
 cases ns<;>rfl
theorem j3j (ns:List Int)(k:Int)(h0:0<=k):x5a [scr ns,.int k]=some (.int (z6o ns k),9):=by
 unfold x5a y2p z6o
 by_cases h:k<ns.length
 ·simp[h,z9m h0 h,x5o,atD]
 ·by_cases hn:ns=[]
  ·subst hn
   have h':¬ k<0:=by omega
   simp[h',x5o,z9v]
  ·have hp:(0:Int)<ns.length:=by have:=List.length_pos_iff.mpr hn;omega
   have h1:=Int.emod_nonneg k (Int.ne_of_gt hp)
   have h2:=Int.emod_lt_of_pos k hp
   have h3:=z9m h1 h2
   have hp':=List.length_pos_iff.mpr hn
   simp[h,x5o,atD,z9v,hn,hp',h3]
def y1p (ns:List Int)(k:Int):Int:=(z6o ns k+6151*(k+1))*40692 % 2147483399
def x8f (ns:List Int)(k m:Int):Int:=(y1p ns k*y1p ns k+y1p ns k / 31) % 2147483629 % m
theorem x6f (ns:List Int)(k m:Int)(h0:0<=k)(hm:0<m):x0h [scr ns,.int k,.int m]=some (.int (x8f ns k m),9):=by
 have d0:0<=y1p ns k:=Int.emod_nonneg _ (by decide)
 have d1:y1p ns k<2147483399:=Int.emod_lt_of_pos _ (by decide)
 have g1:-18446744073709551616<y1p ns k:=by omega
 have g2:y1p ns k<18446744073709551616:=by omega
 have hd:(z6o ns k+6151*(k+1))*40692 % 2147483399=y1p ns k:=rfl
 unfold x0h y2z x8f
 simp[j3j ns k h0,hm,hd,g1,g2]
theorem x6e (ns:List Int)(k:Int){m:Int}(hm:0<m):0<=x8f ns k m:=Int.emod_nonneg _ (Int.ne_of_gt hm)
theorem x7s (ns:List Int)(k:Int){m:Int}(hm:0<m):x8f ns k m<m:=Int.emod_lt_of_pos _ hm
def tf (rows:List (List Nat))(i j:Nat):Nat:=(rows.getD i []).getD j 0
def x44 (rows:List (List Nat)):D:=x2n rows.length (tf rows)
def ch (n:Nat):List (List Nat):=(List.range n).map fun i=>(List.range n).map fun j=>max i j
def cp (a b:List (List Nat)):List (List Nat):=(List.range (a.length*b.length)).map fun i=>(List.range (a.length*b.length)).map fun j=>tf a (i / b.length) (j / b.length)*b.length+tf b (i % b.length) (j % b.length)
def sb (n:Nat):List (List Nat):=(List.range (n+2)).map fun i=>(List.range (n+2)).map fun j=>if i=0\/j=0\/i=j then max i j else n+1
def n5:List (List Nat):=[[0,1,2,3,4],[1,1,2,4,4],[2,2,2,4,4],[3,4,4,3,4],[4,4,4,4,4]]
def y7b:List (List (List Nat)):=[ch 1,ch 2,ch 3,ch 4,ch 5,cp (ch 2) (ch 2),cp (ch 2) (ch 3),cp (ch 2) (ch 4),sb 0,sb 1,sb 2,sb 3,sb 4,cp (ch 2) (cp (ch 2) (ch 2)),n5]
theorem ch1:x1f [.int 1]=some (x44 (ch 1),1):=by rfl
theorem ch2:x1f [.int 2]=some (x44 (ch 2),1):=by rfl
theorem ch3:x1f [.int 3]=some (x44 (ch 3),1):=by rfl
theorem ch4:x1f [.int 4]=some (x44 (ch 4),1):=by rfl
theorem ch5:x1f [.int 5]=some (x44 (ch 5),1):=by rfl
theorem sb0:x16 [.int 0]=some (x44 (sb 0),0):=by rfl
theorem sb1:x16 [.int 1]=some (x44 (sb 1),0):=by rfl
theorem sb2:x16 [.int 2]=some (x44 (sb 2),0):=by rfl
theorem sb3:x16 [.int 3]=some (x44 (sb 3),0):=by rfl
theorem sb4:x16 [.int 4]=some (x44 (sb 4),0):=by rfl
theorem j92:x13 [x44 (ch 2),x44 (ch 2)]=some (x44 (cp (ch 2) (ch 2)),0):=by rfl
theorem j9w:x13 [x44 (ch 2),x44 (ch 3)]=some (x44 (cp (ch 2) (ch 3)),0):=by rfl
theorem j9n:x13 [x44 (ch 2),x44 (ch 4)]=some (x44 (cp (ch 2) (ch 4)),0):=by rfl
theorem j8u:x13 [x44 (ch 2),x44 (cp (ch 2) (ch 2))]=some (x44 (cp (ch 2) (cp (ch 2) (ch 2))),0):=by rfl
theorem j3c (ns:List Int)(t:Int)(h0:0<=t):∃ rows∈y7b,∃ q,x5d [scr ns,.int t]=some (x44 rows,q):=by
 have k0:=x6e ns t (m:=9) (by decide)
 have k1:=x7s ns t (m:=9) (by decide)
 have p0:=x6e ns (t+1) (m:=5) (by decide)
 have p1:=x7s ns (t+1) (m:=5) (by decide)
 have r0:=x6e ns (t+1) (m:=3) (by decide)
 have r1:=x7s ns (t+1) (m:=3) (by decide)
 have e9:=x6f ns t 9 h0 (by decide)
 have e5:=x6f ns (t+1) 5 (by omega) (by decide)
 have e3:=x6f ns (t+1) 3 (by omega) (by decide)
 have mem:∀ i:Nat,i<15->y7b.getD i []∈y7b:=fun i hi=>by
  rw[List.getD_eq_getElem?_getD,List.getElem?_eq_getElem (show i<y7b.length from hi)]
  exact List.getElem_mem _
 have hc:∀ p:Int,0<=p->p<5->∃ rows∈y7b,x1f [.int (1+p)]=some (x44 rows,1):=fun p a b=>by
  have:p=0\/p=1\/p=2\/p=3\/p=4:=by omega
  rcases this with rfl|rfl|rfl|rfl|rfl
  ·exact⟨_,mem 0 (by decide),ch1⟩
  ·exact⟨_,mem 1 (by decide),ch2⟩
  ·exact⟨_,mem 2 (by decide),ch3⟩
  ·exact⟨_,mem 3 (by decide),ch4⟩
  ·exact⟨_,mem 4 (by decide),ch5⟩
 have hs:∀ p:Int,0<=p->p<5->∃ rows∈y7b,x16 [.int p]=some (x44 rows,0):=fun p a b=>by
  have:p=0\/p=1\/p=2\/p=3\/p=4:=by omega
  rcases this with rfl|rfl|rfl|rfl|rfl
  ·exact⟨_,mem 8 (by decide),sb0⟩
  ·exact⟨_,mem 9 (by decide),sb1⟩
  ·exact⟨_,mem 10 (by decide),sb2⟩
  ·exact⟨_,mem 11 (by decide),sb3⟩
  ·exact⟨_,mem 12 (by decide),sb4⟩
 have hp:∀ r:Int,0<=r->r<3->∃ x rows1 rows,atD (.lst [.int 2,.int 3,.int 4]) r=some (.int x)/\x1f [.int x]=some (x44 rows1,1)/\rows∈y7b/\x13 [x44 (ch 2),x44 rows1]=some (x44 rows,0):=fun r a b=>by
  have:r=0\/r=1\/r=2:=by omega
  rcases this with rfl|rfl|rfl
  ·exact⟨2,_,_,rfl,ch2,mem 5 (by decide),j92⟩
  ·exact⟨3,_,_,rfl,ch3,mem 6 (by decide),j9w⟩
  ·exact⟨4,_,_,rfl,ch4,mem 7 (by decide),j9n⟩
 unfold x5d y2d
 generalize x8f ns t 9=k at *
 generalize x8f ns (t+1) 5=p at *
 generalize x8f ns (t+1) 3=r at *
 by_cases h3:k<3
 ·obtain⟨rows,hm,e⟩:=hc p p0 p1
  exact⟨rows,hm,1,by simp[e9,e5,h3,e]⟩
 by_cases h5:k<5
 ·obtain⟨x,rows1,rows,ea,e1,hm,e2'⟩:=hp r r0 r1
  exact⟨rows,hm,0,by simp[e9,e3,h3,h5,ch2,ea,e1,e2']⟩
 by_cases h7:k<7
 ·obtain⟨rows,hm,e⟩:=hs p p0 p1
  exact⟨rows,hm,0,by simp[e9,e5,h3,h5,h7,e]⟩
 have:k=7\/k=8:=by omega
 rcases this with rfl|rfl
 ·exact⟨_,mem 13 (by decide),0,by simp[e9,z3l,ch2,j92];exact j8u⟩
 ·refine⟨_,mem 14 (by decide),0,?_⟩
  simp[e9,z3l]
  rfl
theorem z7r:∀ rows∈y7b,j87 rows.length (tf rows)=true:=by decide +kernel
def pk (ns:List Int)(t:Int)(k m:Nat):Nat:=(x8f ns (t+2+Int.ofNat k) (Int.ofNat m)).toNat
theorem z25 (ns:List Int)(t:Int)(k m:Nat)(h:0<m):pk ns t k m<m:=by
 have h1:=x6e ns (t+2+Int.ofNat k) (m:=Int.ofNat m) (by show(0:Int)<m;omega)
 have h2:=x7s ns (t+2+Int.ofNat k) (m:=Int.ofNat m) (by show(0:Int)<m;omega)
 have h3:(Int.ofNat m)=(m:Int):=rfl
 unfold pk
 omega
theorem j5p (ns:List Int)(t:Int)(k m:Nat)(h:0<m):x8f ns (t+2+Int.ofNat k) (Int.ofNat m)=Int.ofNat (pk ns t k m):=by
 have h1:=x6e ns (t+2+Int.ofNat k) (m:=Int.ofNat m) (by show(0:Int)<m;omega)
 unfold pk
 show _=((x8f ns (t+2+Int.ofNat k) (Int.ofNat m)).toNat:Int)
 omega
section
variable (ns:List Int)(t:Int)(n:Nat)(B:Nat->Nat->Nat)(q:Nat)
theorem z7b (h0:0<=t)(hn:n<=16):x6x 1 (x0n 8) x1i (z5x 3 (x01 (x0m x0h 3 (x01 (x05 0) (x01 (e2 x3f (e2 x3f (x05 1) (eC (.int 2))) (x05 8)) (x01 (x10 3) x0g)))) x0g)) false (x12 n)
  [some (scr ns,0),some (.int t,9),some (x2n n B,q),some (.lst (x12 n),1),none,none,none,none] =
  some (x0f ((List.range n).map (drawn (pk ns t) n)),[some (scr ns,0),some (.int t,9),some (x2n n B,q),some (.lst [],1),none,none,none,none]):=by
 have hp:=z25 ns t
 have h:=x3k (k:=1) (pt:=x0n 8) (tt:=x1i) (te:=z5x 3 (x01 (x0m x0h 3 (x01 (x05 0) (x01 (e2 x3f (e2 x3f (x05 1) (eC (.int 2))) (x05 8)) (x01 (x10 3) x0g)))) x0g)) (deep:=false) (x12 n)
  (fun k=>[some (scr ns,0),some (.int t,9),some (x2n n B,q),some (.lst (x0f (x45 (pk ns t) n k)),1),none,none,none,none]) (fun _=>true) (fun k=>.int (Int.ofNat (drawn (pk ns t) n k))) (fun k hk=>?_)
 ·rw[x0q]at h
  have hl:x45 (pk ns t) n n=[]:=List.length_eq_zero_iff.mp (by rw[x6a hp n (Nat.le_refl n)];omega)
  rw[hl]at h
  have e1:(List.range n).filter (fun _=>true)=List.range n:=by simp
  rw[e1]at h
  simp only[x0f,List.map_map,Function.comp_def]
  exact h
 ·rw[x0q]at hk
  have hl:=x6a hp k (Nat.le_of_lt hk)
  have hlp:0<(x45 (pk ns t) n k).length:=by rw[hl];omega
  have e:=j5p ns t k _ hlp
  have hj:=z25 ns t k _ hlp
  have hpk:=x6f ns (t+2+Int.ofNat k) (Int.ofNat (x45 (pk ns t) n k).length) (by show 0<=t+2+(k:Int);omega) (by show(0:Int)<((x45 (pk ns t) n k).length:Int);omega)
  have hs:seqIndex? (Int.ofNat (pk ns t k (x45 (pk ns t) n k).length)) (x0f (x45 (pk ns t) n k)).length=some (pk ns t k (x45 (pk ns t) n k).length):=(y6i (x6w (by rw[x0x];exact hj))).1
  have hg:(x0f (x45 (pk ns t) n k))[pk ns t k (x45 (pk ns t) n k).length]? = some (.int (Int.ofNat (drawn (pk ns t) n k))):=by
   rw[x8e]
   unfold drawn
   rw[List.getD_eq_getElem?_getD,List.getElem?_eq_getElem hj]
   rfl
  have hb:pk ns t k (x45 (pk ns t) n k).length<=16:=by omega
  have he:(x0f (x45 (pk ns t) n k)).eraseIdx (pk ns t k (x45 (pk ns t) n k).length)=x0f (x45 (pk ns t) n (k+1)):=by rw[x45,y0j]
  refine⟨[some (scr ns,0),some (.int t,9),some (x2n n B,q),some (.lst (x0f (x45 (pk ns t) n k)),1),none,none,none,none,some (.int (Int.ofNat k),9)],_,by simp[x12],rfl,?_⟩
  rw[if_pos rfl]
  refine⟨9,[some (scr ns,0),some (.int t,9),some (x2n n B,q),some (.lst (x0f (x45 (pk ns t) n (k+1))),1),none,none,none,none,some (.int (Int.ofNat k),9)],?_,by simp,by simp⟩
  have b1:(-1000:Int)<=Int.ofNat (pk ns t k (x45 (pk ns t) n k).length):=by show(-1000:Int)<=(pk ns t k (x45 (pk ns t) n k).length:Int);omega
  have b2:Int.ofNat (pk ns t k (x45 (pk ns t) n k).length)<=1000:=by show(pk ns t k (x45 (pk ns t) n k).length:Int)<=1000;omega
  have hl':x5o (.lst (x0f (x45 (pk ns t) n k)))=some (x45 (pk ns t) n k).length:=by simp[x5o,x0x]
  rw[e]at hpk
  simp[-Int.ofNat_eq_natCast,hl',hpk,hs,hg,he,b1,b2]
theorem j0b (hn:n<=16)(x:OD):x6x 1 (x0n 8) x1i (y2v (x6q (x01 (eC (.int 0)) x0g)) (x10 2)) true ((List.range n).map fun i=>x61 n B i)
  [some (scr ns,0),some (.int t,9),some (x2n n B,0),some (.lst [],1),x,none,none,none] =
  some ((List.range n).map fun i=>x61 n (fun _ _=>0) i,[some (scr ns,0),some (.int t,9),some (x2n n B,0),some (.lst [],1),x,none,none,none]):=by
 have h:=x3k (k:=1) (pt:=x0n 8) (tt:=x1i) (te:=y2v (x6q (x01 (eC (.int 0)) x0g)) (x10 2)) (deep:=true) ((List.range n).map fun i=>x61 n B i)
  (fun _=>[some (scr ns,0),some (.int t,9),some (x2n n B,0),some (.lst [],1),x,none,none,none]) (fun _=>true) (fun i=>x61 n (fun _ _=>0) i) (fun k hk=>?_)
 ·rw[List.length_map,List.length_range,show(List.range n).filter (fun _=>true)=List.range n by simp]at h
  exact h
 ·refine⟨[some (scr ns,0),some (.int t,9),some (x2n n B,0),some (.lst [],1),x,none,none,none,some (x61 n B k,0)],_,by simp[x61],rfl,?_⟩
  rw[if_pos rfl]
  refine⟨1,[some (scr ns,0),some (.int t,9),some (x2n n B,0),some (.lst [],1),x,none,none,none,some (x61 n B k,0)],?_,by simp,by simp⟩
  have z:x61 n (fun _ _=>0) k=D.lst (List.replicate n [D.int 0]).flatten:=(j5g n).symm
  have b1:(-1000:Int)<=n:=by omega
  have b2:(n:Int)<=1000:=by omega
  have b3:n<=1000:=by omega
  rw[z]
  simp[y0b,b1,b2,b3]
def gst (π ι:Nat->Nat)(i j a b:Nat):Nat:=if ι a<i\/(ι a=i/\ι b<j)then π (B (ι a) (ι b))else 0
abbrev y8r:x1a:=y3r 5 (qIx 4 (y67 6)) (qIx 4 (y67 7)) (x19 4 (eIx (x19 2 (x05 6)) (x05 7)))
section
variable {n B}{π ι:Nat->Nat}(cl:∀ i j,i<n->j<n->B i j<n)(h1:∀ i,i<n->π i<n)(h2:∀ i,i<n->ι i<n)(h3:∀ i,i<n->ι (π i)=i)(h4:∀ i,i<n->π (ι i)=i)
include cl h1 h2 h3 h4
theorem z4w {f:Nat->Nat->Nat}{i j:Nat}(hi:i<n)(hj:j<n){y:OD} :
  y8r [some (scr ns,0),some (.int t,9),some (x2n n B,0),some (.lst [],1),some (.lst (x0f ((List.range n).map π)),1),some (x2n n f,2),some (.int (Int.ofNat i),9),some (.int (Int.ofNat j),9)] =
  some (.nx [some (scr ns,0),some (.int t,9),some (x2n n B,0),some (.lst [],1),some (.lst (x0f ((List.range n).map π)),1),some (x2n n (fun a b=>if a=π i/\b=π j then π (B i j)else f a b),2),some (.int (Int.ofNat i),9),some (.int (Int.ofNat j),9)]):=by
 have a1:=j2f (f:=B) hi
 have a2:=j09 (f:=B) (i:=i) hj
 have a3:atD (.lst (x0f ((List.range n).map π))) (Int.ofNat (B i j))=some (.int (Int.ofNat (π (B i j)))):=x1s (cl i j hi hj)
 have a4:atD (.lst (x0f ((List.range n).map π))) (Int.ofNat i)=some (.int (Int.ofNat (π i))):=x1s hi
 have a5:atD (.lst (x0f ((List.range n).map π))) (Int.ofNat j)=some (.int (Int.ofNat (π j))):=x1s hj
 have a6:ixN ((List.range n).map fun a=>x61 n f a).length (Int.ofNat (π i))=some (π i):=x6w (by simpa using h1 i hi)
 have a7:((List.range n).map fun a=>x61 n f a)[π i]? = some (.lst (x0f ((List.range n).map fun b=>f (π i) b))):=by rw[List.getElem?_map,List.getElem?_range (h1 i hi)];rfl
 have a8:ixN (x0f ((List.range n).map fun b=>f (π i) b)).length (Int.ofNat (π j))=some (π j):=x6w (by simpa [x0x]using h1 j hj)
 have a9:=z15 (n:=n) (f:=f) (a:=π i) (b:=π j) (v:=π (B i j))
 rw[<- a9]
 show y8r [some (scr ns,0),some (.int t,9),some (x2n n B,0),some (.lst [],1),some (.lst (x0f ((List.range n).map π)),1),some (.lst ((List.range n).map fun a=>x61 n f a),2),some (.int (Int.ofNat i),9),some (.int (Int.ofNat j),9)]=_
 unfold y8r
 simp only[y3r,x19,eIx,x05,qIx,y67,List.getElem?_cons_succ,List.getElem?_cons_zero,D.isL,if_true,a1,a2,a3,a4,a5,a6,a7,a8,ne_eq,not_true_eq_false,false_and,and_false,if_false,Bool.false_eq_true,reduceCtorEq,Nat.not_lt_zero,Nat.lt_irrefl,x20,List.set_cons_succ,List.set_cons_zero]
abbrev z0q (f:Nat->Nat->Nat)(x y:OD):Rho:=[some (scr ns,0),some (.int t,9),some (x2n n B,0),some (.lst [],1),some (.lst (x0f ((List.range n).map π)),1),some (x2n n f,2),x,y]
omit cl h1 h2 h3 h4
theorem x3z {i:Nat}(h:i<(x12 n).length):(x12 n)[i]=.int (Int.ofNat i):=by simp[x12]
include cl h1 h2 h3 h4
theorem z0e {i j:Nat}(hi:i<n)(hj:j<n):x2n n (fun a b=>if a=π i/\b=π j then π (B i j)else gst B π ι i j a b)=x2n n (gst B π ι i (j+1)):=by
 refine x55 fun a b ha hb=>?_
 unfold gst
 by_cases h:a=π i/\b=π j
 ·obtain⟨rfl,rfl⟩:=h
  rw[if_pos ⟨rfl,rfl⟩,h3 i hi,h3 j hj,if_pos (.inr ⟨rfl,Nat.lt_succ_self _⟩)]
 ·rw[if_neg h]
  have:¬ (ι a=i/\ι b=j):=fun⟨e1,e2⟩=>h ⟨by rw[<- e1,h4 a ha],by rw[<- e2,h4 b hb]⟩
  by_cases c:ι a<i\/ι a=i/\ι b<j
  ·rw[if_pos c,if_pos (by omega)]
  ·rw[if_neg c,if_neg (by omega)]
theorem z2w {i:Nat}:x2n n (gst B π ι i n)=x2n n (gst B π ι (i+1) 0):=by
 refine x55 fun a b ha hb=>?_
 have:=h2 b hb
 unfold gst
 by_cases c:ι a<i\/ι a=i/\ι b<n
 ·rw[if_pos c,if_pos (by omega)]
 ·rw[if_neg c,if_neg (by omega)]
theorem z91 (hn:n<=16){i:Nat}(hi:i<n)(y:OD):∃ y',y0n (x0n 7) y8r (x12 n) (z0q ns t (n:=n) (B:=B) (π:=π) (gst B π ι i 0) (some (.int (Int.ofNat i),9)) y) =
  some (.nx (z0q ns t (n:=n) (B:=B) (π:=π) (gst B π ι (i+1) 0) (some (.int (Int.ofNat i),9)) y')):=by
 obtain⟨ρ',e,y',rfl⟩:=x4c (pt:=x0n 7) (body:=y8r) (x12 n) (fun j ρ=>∃ y,ρ=z0q ns t (n:=n) (B:=B) (π:=π) (gst B π ι i j) (some (.int (Int.ofNat i),9)) y) (z0q ns t (n:=n) (B:=B) (π:=π) (gst B π ι i 0) (some (.int (Int.ofNat i),9)) y) (fun j hj ρ hh0=>by
  obtain⟨y,hy⟩:=hh0
  subst hy
  rw[x0q]at hj
  refine⟨z0q ns t (n:=n) (B:=B) (π:=π) (gst B π ι i j) (some (.int (Int.ofNat i),9)) (some (.int (Int.ofNat j),9)),_,by rw[x3z];simp,.inl (z4w ns t cl h1 h2 h3 h4 hi hj (y:=none)),?_⟩
  rw[z0e cl h1 h2 h3 h4 hi hj]
  exact⟨_,rfl⟩) ⟨y,rfl⟩
 refine⟨y',?_⟩
 rw[e,x0q]
 show some (Out.nx [_,_,_,_,_,some (x2n n (gst B π ι i n),2),_,_])=_
 rw[z2w cl h1 h2 h3 h4]
theorem z79 (hn:n<=16)(x y:OD):∃ x' y',y0n (x0n 6) (x78 (x15 (x01 (x10 2) x0g)) (x0n 7) y8r) (x12 n) (z0q ns t (n:=n) (B:=B) (π:=π) (fun _ _=>0) x y) =
  some (.nx (z0q ns t (n:=n) (B:=B) (π:=π) (fun a b=>π (B (ι a) (ι b))) x' y')):=by
 have z:x2n n (fun _ _=>0)=x2n n (gst B π ι 0 0):=x55 fun a b _ _=>by unfold gst;rw[if_neg (by omega)]
 have z':x2n n (gst B π ι n 0)=x2n n (fun a b=>π (B (ι a) (ι b))):=x55 fun a b ha _=>by unfold gst;rw[if_pos (.inl (h2 a ha))]
 obtain⟨ρ',e,x',y',rfl⟩:=x4c (pt:=x0n 6) (body:=x78 (x15 (x01 (x10 2) x0g)) (x0n 7) y8r) (x12 n) (fun i ρ=>∃ x y,ρ=z0q ns t (n:=n) (B:=B) (π:=π) (gst B π ι i 0) x y) (z0q ns t (n:=n) (B:=B) (π:=π) (gst B π ι 0 0) x y) (fun i hi ρ hh0=>by
  obtain⟨x,y,hy⟩:=hh0
  subst hy
  rw[x0q]at hi
  obtain⟨y',hy'⟩:=z91 ns t cl h1 h2 h3 h4 hn hi y
  refine⟨z0q ns t (n:=n) (B:=B) (π:=π) (gst B π ι i 0) (some (.int (Int.ofNat i),9)) y,_,by rw[x3z];simp,.inl (show _=some (Out.nx (z0q ns t (n:=n) (B:=B) (π:=π) (gst B π ι (i+1) 0) (some (.int (Int.ofNat i),9)) y'))from ?_),⟨_,_,rfl⟩⟩
  have b1:(-1000:Int)<=Int.ofNat n:=by show(-1000:Int)<=n;omega
  have b2:Int.ofNat n<=1000:=by show(n:Int)<=1000;omega
  have e:x15 (x01 (x10 2) x0g) (z0q ns t (n:=n) (B:=B) (π:=π) (gst B π ι i 0) (some (.int (Int.ofNat i),9)) y)=some (x12 n,z0q ns t (n:=n) (B:=B) (π:=π) (gst B π ι i 0) (some (.int (Int.ofNat i),9)) y):=by
   simp[-Int.ofNat_eq_natCast,y0b,b1,b2]
   rfl
  unfold x78
  rw[e]
  exact hy') ⟨x,y,rfl⟩
 refine⟨x',y',?_⟩
 show y0n _ _ _ [_,_,_,_,_,some (x2n n (fun _ _=>0),2),_,_]=some (.nx [_,_,_,_,_,some (x2n n (fun a b=>π (B (ι a) (ι b))),2),_,_])
 rw[z,<- z']
 rw[x0q]at e
 exact e
end
end
theorem z6w {n:Nat}{f:Nat->Nat->Nat}{a b c d e:OD}{x y:OD}:x6x 1 (x0n 8) x1i (x1k (x01 (x05 8) x0g)) false ((List.range n).map fun i=>x61 n f i) [a,b,c,d,e,some (x2n n f,0),x,y] =
  some ((List.range n).map fun i=>y3w n f i,[a,b,c,d,e,some (x2n n f,0),x,y]):=by
 have h:=x3k (k:=1) (pt:=x0n 8) (tt:=x1i) (te:=x1k (x01 (x05 8) x0g)) (deep:=false) ((List.range n).map fun i=>x61 n f i)
  (fun _=>[a,b,c,d,e,some (x2n n f,0),x,y]) (fun _=>true) (fun i=>y3w n f i) (fun k hk=>?_)
 ·rw[List.length_map,List.length_range,show(List.range n).filter (fun _=>true)=List.range n by simp]at h
  exact h
 ·refine⟨[a,b,c,d,e,some (x2n n f,0),x,y,some (x61 n f k,0)],_,by simp[x61],rfl,?_⟩
  rw[if_pos rfl]
  exact⟨9,[a,b,c,d,e,some (x2n n f,0),x,y,some (x61 n f k,0)],by simp[x61,y3w],by simp,by simp⟩
theorem x2u {n:Nat}(hn:n<=1000){i:Nat}{ρ:Rho}{d:D}{q:Nat}(h:ρ[i]? = some (some (d,q)))(hl:x5o d=some n):x15 (x01 (x10 i) x0g) ρ=some (x12 n,ρ):=by
 have b1:(-1000:Int)<=Int.ofNat n:=by show(-1000:Int)<=n;omega
 have b2:Int.ofNat n<=1000:=by show(n:Int)<=1000;omega
 simp only[x15,x01,x10,x0g,h,hl]
 rw[if_pos ⟨b1,b2⟩]
 rfl
theorem j5h (ns:List Int)(t:Int)(h0:0<=t):∃ n f,Lad n f/\x49 [scr ns,.int t]=some (x09 n f,9):=by
 obtain⟨rows,hm,q,hb⟩:=j3c ns t h0
 have L:=y9u (z7r rows hm)
 unfold x44 at hb
 revert hb L
 generalize rows.length=n
 generalize tf rows=B
 intro hb L
 have hp:=z25 ns t
 have hn:n<=1000:=Nat.le_trans L.hi (by decide)
 refine⟨n,fun a b=>drawn (pk ns t) n (B (x3w (pk ns t) n a) (x3w (pk ns t) n b)),L.ren (fun i hi=>y5s hp hi) (fun i hi=>y0w hp hi) (fun i hi=>x6s hp hi) (fun i hi=>x6r hp hi),?_⟩
 unfold x49 y02
 refine x1l ?_
 have s0:x4x 8 [scr ns,.int t]=[some (scr ns,0),some (.int t,9),none,none,none,none,none,none]:=rfl
 rw[s0]
 refine(x0j (ρ1:=[some (scr ns,0),some (.int t,9),some (x2n n B,q),none,none,none,none,none]) ?_).trans ?_
 ·simp[hb]
 refine(x0j (ρ1:=[some (scr ns,0),some (.int t,9),some (x2n n B,q),some (.lst (x12 n),1),none,none,none,none]) ?_).trans ?_
 ·exact x1q (y3g (x2u hn rfl y0b)) rfl
 refine(x0j (ρ1:=[some (scr ns,0),some (.int t,9),some (x2n n B,q),some (.lst [],1),some (.lst (x0f ((List.range n).map (drawn (pk ns t) n))),1),none,none,none]) ?_).trans ?_
 ·exact x1q (x1b (x2u hn rfl y0b) (z7b ns t n B q h0 L.hi)) rfl
 refine(x0j (ρ1:=[some (scr ns,0),some (.int t,9),some (x2n n B,0),some (.lst [],1),some (.lst (x0f ((List.range n).map (drawn (pk ns t) n))),1),some (x2n n (fun _ _=>0),2),none,none]) ?_).trans ?_
 ·have e:x4w (x05 2) [some (scr ns,0),some (.int t,9),some (x2n n B,q),some (.lst [],1),some (.lst (x0f ((List.range n).map (drawn (pk ns t) n))),1),none,none,none]=some ((List.range n).map fun i=>x61 n B i,[some (scr ns,0),some (.int t,9),some (x2n n B,0),some (.lst [],1),some (.lst (x0f ((List.range n).map (drawn (pk ns t) n))),1),none,none,none]):=by
   by_cases hq:q=0
   ·subst hq;simp[x2n,hn]
   ·simp[x2n,hn,hq]
  exact x1q (x1b e (j0b ns t n B L.hi _)) rfl
 obtain⟨x',y',hf⟩:=z79 ns t (n:=n) (B:=B) (π:=drawn (pk ns t) n) (ι:=x3w (pk ns t) n) L.cl (fun i hi=>y5s hp hi) (fun i hi=>y0w hp hi) (fun i hi=>x6s hp hi) (fun i hi=>x6r hp hi) L.hi none none
 refine(x0j ((x2p (x2u hn rfl y0b)).trans hf)).trans ?_
 refine x1j (ρ1:=[some (scr ns,0),some (.int t,9),some (x2n n B,0),some (.lst [],1),some (.lst (x0f ((List.range n).map (drawn (pk ns t) n))),1),some (x2n n (fun a b=>drawn (pk ns t) n (B (x3w (pk ns t) n a) (x3w (pk ns t) n b))),0),x',y']) ?_
 have e:x4w (x05 5) (z0q ns t (n:=n) (B:=B) (π:=drawn (pk ns t) n) (fun a b=>drawn (pk ns t) n (B (x3w (pk ns t) n a) (x3w (pk ns t) n b))) x' y')=some ((List.range n).map fun i=>x61 n (fun a b=>drawn (pk ns t) n (B (x3w (pk ns t) n a) (x3w (pk ns t) n b))) i,[some (scr ns,0),some (.int t,9),some (x2n n B,0),some (.lst [],1),some (.lst (x0f ((List.range n).map (drawn (pk ns t) n))),1),some (x2n n (fun a b=>drawn (pk ns t) n (B (x3w (pk ns t) n a) (x3w (pk ns t) n b))),0),x',y']):=by
  simp[x2n,hn]
 have e2:=x1b (k:=1) (pt:=x0n 8) (tt:=x1i) (te:=x1k (x01 (x05 8) x0g)) (deep:=false) e z6w
 exact x2q (x0z e2)
section
variable {n:Nat}{f:Nat->Nat->Nat}
theorem x59 {x w:Nat}(hx:x<n)(hw:w<n):x1y [x09 n f,.int (Int.ofNat x),.int (Int.ofNat w)]=some (.bl (decide (f x w=w)),9):=by
 unfold x1y y50
 simp[-Int.ofNat_eq_natCast,x3u hx,x47 hw,x96]
theorem z7o (hn:n<=1000){w:Nat}(hw:w<n):x7v [x09 n f,.int (Int.ofNat w)]=some (.lst (x0f ((List.range n).filter fun x=>decide (f x w=w))),1):=by
 unfold x7v z3i
 refine x1l (x1j (x1b (deep:=false) (ρ2:=[some (x09 n f,9),some (.int (Int.ofNat w),9)]) (x2u hn rfl x17) ?_))
 refine y5i (i:=2) (ρ:=[some (x09 n f,9),some (.int (Int.ofNat w),9)]) (deep:=false) rfl (fun x=>decide (f x w=w)) (fun x=>.int (Int.ofNat x)) (fun _=>9) (fun j hj=>?_) (fun j hj _=>?_)
 ·simp[-Int.ofNat_eq_natCast,x59 hj hw]
 ·simp[-Int.ofNat_eq_natCast]
theorem z16 (hn:n<=1000){w:Nat}(hw:w<n):x29 [x09 n f,.int (Int.ofNat w)]=some (.lst (x0f ((List.range n).filter fun x=>decide (f x w=w))),1):=by
 unfold x29 y15
 refine x1l (x1j (x1b (deep:=false) (ρ2:=[some (x09 n f,9),some (.int (Int.ofNat w),9)]) (x2u hn rfl x17) ?_))
 refine y5i (i:=2) (ρ:=[some (x09 n f,9),some (.int (Int.ofNat w),9)]) (deep:=false) rfl (fun x=>decide (f x w=w)) (fun x=>.int (Int.ofNat x)) (fun _=>9) (fun j hj=>?_) (fun j hj _=>?_)
 ·simp[-Int.ofNat_eq_natCast,x3u hj,x47 hw,x96]
 ·simp[-Int.ofNat_eq_natCast]
variable (L:Lad n f){z:Nat}(hz:z<n)(bz:∀ j,j<n->f z j=j)
include L hz bz
theorem j4t {w:Nat}(hw:w<n):decide ((List.range n).map (fun j=>f w j)=List.range n)=decide (w=z):=by
 rw[decide_eq_decide,y7m]
 exact⟨fun h=>L.bot_uniq hz bz hw h,fun h=>by subst h;exact bz⟩
theorem z4t (hn:n<=1000):x2t [x09 n f]=some (.int (Int.ofNat z),9):=by
 unfold x2t y4x
 refine x1l (x1j (ρ1:=[some (x09 n f,9)]) ?_)
 have hc:x22 1 (x15 (x01 (x10 0) x0g)) (x0n 1) (x3c (e2 dEq (y11 (x01 (x19 0 (x05 1)) x0g)) (x7j (x01 (x10 0) x0g)))) (x05 1) false (x4x 1 [x09 n f])=some (.lst (x0f [z]),1,[some (x09 n f,9)]):=by
  refine(x1b (deep:=false) (ρ2:=[some (x09 n f,9)]) (x2u hn rfl x17) (y5i rfl (fun x=>decide (x=z)) (fun x=>.int (Int.ofNat x)) (fun _=>9) (fun j hj=>?_) (fun j hj _=>?_))).trans ?_
  ·have e1:y11 (x01 (x19 0 (x05 1)) x0g) ([some (x09 n f,9)]++[some (.int (Int.ofNat j),9)])=some (.lst (x0f ((List.range n).map fun k=>f j k)),1,[some (x09 n f,9),some (.int (Int.ofNat j),9)]):=by
    simp[-Int.ofNat_eq_natCast,x3u hj,y3w]
   have e2':x7j (x01 (x10 0) x0g) [some (x09 n f,9),some (.int (Int.ofNat j),9)]=some (.lst (x0f (List.range n)),1,[some (x09 n f,9),some (.int (Int.ofNat j),9)]):=y3g (x2u hn rfl x17)
   unfold x3c e2
   rw[e1]
   simp only[e2',j1k,j4t L hz bz hj]
   rfl
  ·simp[-Int.ofNat_eq_natCast]
  ·rw[y54,if_pos hz]
   rfl
 unfold eIx
 rw[hc]
 simp[-Int.ofNat_eq_natCast,atD,x0f,L2.atI,ixN]
theorem j3e (hn:n<=1000){l:List Nat}(hl:l.length<=1000)(hm:∀ x∈l,x<n):x3x [x09 n f,.lst (x0f l)]=some (.int (Int.ofNat (l.foldl f z)),9):=by
 unfold x3x y30
 refine x1l ?_
 refine(x0j (ρ1:=[some (x09 n f,9),some (.lst (x0f l),0),some (.int (Int.ofNat z),9),none]) ?_).trans ?_
 ·simp[-Int.ofNat_eq_natCast,z4t L hz bz hn]
 obtain⟨ρ',e,y,rfl⟩:=x4c (pt:=x0n 3) (body:=x25 2 (eIx (x19 0 (x05 2)) (x05 3))) (x0f l) (fun i ρ=>∃ y,ρ=[some (x09 n f,9),some (.lst (x0f l),0),some (.int (Int.ofNat ((l.take i).foldl f z)),9),y]) [some (x09 n f,9),some (.lst (x0f l),0),some (.int (Int.ofNat z),9),none] (fun i hi ρ hh0=>by
  obtain⟨y,hy⟩:=hh0
  subst hy
  have hi':i<l.length:=by rw[x0x]at hi;exact hi
  have hg:(x0f l)[i]=.int (Int.ofNat l[i]):=by simp[x0f]
  have hx:l[i]<n:=hm _ (List.getElem_mem hi')
  have ha:(l.take i).foldl f z<n:=L.fold_lt hz fun x m=>hm x (List.mem_of_mem_take m)
  refine⟨[some (x09 n f,9),some (.lst (x0f l),0),some (.int (Int.ofNat ((l.take i).foldl f z)),9),some (.int (Int.ofNat l[i]),9)],[some (x09 n f,9),some (.lst (x0f l),0),some (.int (Int.ofNat ((l.take (i+1)).foldl f z)),9),some (.int (Int.ofNat l[i]),9)],?_,.inl ?_,⟨_,rfl⟩⟩
  ·rw[hg];simp
  ·rw[List.take_succ_eq_append_getElem hi',List.foldl_append]
   simp[-Int.ofNat_eq_natCast,x3u ha,x47 hx]) ⟨none,rfl⟩
 rw[x0x,List.take_length]at e
 refine(x0j ((x2p (ds:=x0f l) (ρ1:=[some (x09 n f,9),some (.lst (x0f l),0),some (.int (Int.ofNat z),9),none]) ?_).trans e)).trans ?_
 ·simp[x0x,hl]
 ·simp[-Int.ofNat_eq_natCast]
end
section
variable {n:Nat}{f:Nat->Nat->Nat}
variable (L:Lad n f){z:Nat}(hz:z<n)(bz:∀ j,j<n->f z j=j)
include L hz bz
theorem y28 (hn:n<=1000):x38 [x09 n f]=some (.int (Int.ofNat z),9):=by
 have b1:(-1000:Int)<=Int.ofNat n:=by show(-1000:Int)<=n;omega
 have b2:Int.ofNat n<=1000:=by show(n:Int)<=1000;omega
 have hr:x3s [.int (Int.ofNat n)]=some (.tup (x0f (List.range n)),9):=by
  unfold x3s x8r
  simp[-Int.ofNat_eq_natCast,b1,b2]
  rfl
 have hi:j3m (.tup (x0f (List.range n))) ((List.range n).map fun i=>y3w n f i)=some z:=by
  unfold j3m
  rw[z0o,List.map_map]
  have ev:∀ i,i<n->PyData.eqv (toP (y3w n f i)) (toP (.tup (x0f (List.range n))))=decide (i=z):=fun i hi=>(j4c _ _).trans (j4t L hz bz hi)
  refine x9j (x:=toP (y3w n f z)) ?_ ?_ ?_
  ·rw[List.getElem?_map,List.getElem?_range hz];rfl
  ·rw[ev z hz];simp
  ·intro i y hi hy
   have hi':i<n:=Nat.lt_trans hi hz
   rw[List.getElem?_map,List.getElem?_range hi']at hy
   cases hy
   refine(ev i hi').trans ?_
   simp;omega
 have h1:okD (.tup ((List.range n).map fun i=>y3w n f i))=true:=(j04 n f).ok
 have h2:okD (.tup (x0f (List.range n)))=true:=(j72 _).ok
 have hl:x5o (.tup ((List.range n).map fun i=>y3w n f i))=some n:=x17 (f:=f)
 unfold x38 y51 x09
 simp[-Int.ofNat_eq_natCast,hr,hl,h1,h2,hi]
theorem z37 (hn:n<=1000){l:List Nat}(hl:l.length<=1000)(hm:∀ x∈l,x<n):x41 [x09 n f,.lst (x0f l)]=some (.int (Int.ofNat (l.foldl f z)),9):=by
 unfold x41 y1k
 refine x1l ?_
 refine(x0j (ρ1:=[some (x09 n f,9),some (.lst (x0f l),0),some (.int (Int.ofNat z),9),none]) ?_).trans ?_
 ·simp[-Int.ofNat_eq_natCast,y28 L hz bz hn]
 obtain⟨ρ',e,y,rfl⟩:=x4c (pt:=x0n 3) (body:=x25 2 (eIx (x19 0 (x05 2)) (x05 3))) (x0f l) (fun i ρ=>∃ y,ρ=[some (x09 n f,9),some (.lst (x0f l),0),some (.int (Int.ofNat ((l.take i).foldl f z)),9),y]) [some (x09 n f,9),some (.lst (x0f l),0),some (.int (Int.ofNat z),9),none] (fun i hi ρ hh0=>by
  obtain⟨y,hy⟩:=hh0
  subst hy
  have hi':i<l.length:=by rw[x0x]at hi;exact hi
  have hg:(x0f l)[i]=.int (Int.ofNat l[i]):=by simp[x0f]
  have hx:l[i]<n:=hm _ (List.getElem_mem hi')
  have ha:(l.take i).foldl f z<n:=L.fold_lt hz fun x m=>hm x (List.mem_of_mem_take m)
  refine⟨[some (x09 n f,9),some (.lst (x0f l),0),some (.int (Int.ofNat ((l.take i).foldl f z)),9),some (.int (Int.ofNat l[i]),9)],[some (x09 n f,9),some (.lst (x0f l),0),some (.int (Int.ofNat ((l.take (i+1)).foldl f z)),9),some (.int (Int.ofNat l[i]),9)],?_,.inl ?_,⟨_,rfl⟩⟩
  ·rw[hg];simp
  ·rw[List.take_succ_eq_append_getElem hi',List.foldl_append]
   simp[-Int.ofNat_eq_natCast,x3u ha,x47 hx]) ⟨none,rfl⟩
 rw[x0x,List.take_length]at e
 refine(x0j ((x2p (ds:=x0f l) (ρ1:=[some (x09 n f,9),some (.lst (x0f l),0),some (.int (Int.ofNat z),9),none]) ?_).trans e)).trans ?_
 ·simp[x0x,hl]
 ·simp[-Int.ofNat_eq_natCast]
end
section
variable {n:Nat}{f:Nat->Nat->Nat}
def y04 (n:Nat)(f:Nat->Nat->Nat)(r:Nat->Nat):Bool:=(List.range n).all fun y=>(Lad.low n f y).all fun x=>decide (f (r x) (r y)=r y)
theorem x84 {r:Nat->Nat}:y04 n f r=true ↔ ∀ y x,y<n->x<n->f x y=y->f (r x) (r y)=r y:=by
 unfold y04
 rw[L3.range_all]
 simp only[List.all_eq_true,Lad.mem_low,decide_eq_true_eq]
 exact⟨fun h y x hy hx e=>h y hy x ⟨hx,e⟩,fun h y hy x e=>h y x hy e.1 e.2⟩
theorem z0j (hn:n<=1000){r:Nat->Nat}(hr:∀ i,i<n->r i<n):x91 [x09 n f,x0c n r]=some (.bl (y04 n f r),9):=by
 unfold x91 z55
 refine x1l ?_
 have hs:x4x 4 [x09 n f,x0c n r]=[some (x09 n f,9),some (x0c n r,9),none,none]:=rfl
 rw[hs]
 obtain⟨h1,h2⟩:=x9e (pt:=x0n 2) (body:=x78 (x4w (x0m x7v 2 (x01 (x05 0) (x01 (x05 2) x0g)))) (x0n 3) (sIf (x43 (x76 (x0m x1y 3 (x01 (x05 0) (x01 (x19 1 (x05 3)) (x01 (x19 1 (x05 2)) x0g)))))) (x21 (eC (.bl false))) x53)) (d:=.bl false) (q:=9) (x12 n) (fun ρ=>∃ x y,ρ=[some (x09 n f,9),some (x0c n r,9),x,y]) (fun y=>(Lad.low n f y).all fun x=>decide (f (r x) (r y)=r y)) [some (x09 n f,9),some (x0c n r,9),none,none] (fun y hy ρ ⟨a,b,e⟩=>by
  subst e
  have hy':y<n:=by rw[x0q]at hy;exact hy
  refine⟨[some (x09 n f,9),some (x0c n r,9),some (.int (Int.ofNat y),9),b],by rw[show(x12 n)[y]=.int (Int.ofNat y)by simp[x12]];simp,?_⟩
  have hl:(x0f (Lad.low n f y)).length<=1000:=by
   rw[x0x]
   have:=List.length_filter_le (fun x=>decide (f x y=y)) (List.range n)
   rw[List.length_range]at this
   exact Nat.le_trans this hn
  have hi:x4w (x0m x7v 2 (x01 (x05 0) (x01 (x05 2) x0g))) [some (x09 n f,9),some (x0c n r,9),some (.int (Int.ofNat y),9),b]=some (x0f (Lad.low n f y),[some (x09 n f,9),some (x0c n r,9),some (.int (Int.ofNat y),9),b]):=by
   have hb:x7v [x09 n f,.int (Int.ofNat y)]=some (.lst (x0f (Lad.low n f y)),1):=z7o hn hy'
   simp[-Int.ofNat_eq_natCast,hb,hl]
  obtain⟨i1,i2⟩:=x9e (pt:=x0n 3) (body:=sIf (x43 (x76 (x0m x1y 3 (x01 (x05 0) (x01 (x19 1 (x05 3)) (x01 (x19 1 (x05 2)) x0g)))))) (x21 (eC (.bl false))) x53) (d:=.bl false) (q:=9) (x0f (Lad.low n f y)) (fun ρ=>∃ b,ρ=[some (x09 n f,9),some (x0c n r,9),some (.int (Int.ofNat y),9),b]) (fun i=>decide (f (r ((Lad.low n f y).getD i 0)) (r y)=r y)) [some (x09 n f,9),some (x0c n r,9),some (.int (Int.ofNat y),9),b] (fun i hi' ρ ⟨b,e⟩=>by
   subst e
   have hm:=y6f (l:=Lad.low n f y) (i:=i) (by rw[x0x]at hi';exact hi')
   have hx:=(Lad.mem_low.mp hm).1
   rw[y6q hi']
   refine⟨[some (x09 n f,9),some (x0c n r,9),some (.int (Int.ofNat y),9),some (.int (Int.ofNat ((Lad.low n f y).getD i 0)),9)],by simp,fun ok=>⟨[some (x09 n f,9),some (x0c n r,9),some (.int (Int.ofNat y),9),some (.int (Int.ofNat ((Lad.low n f y).getD i 0)),9)],?_,⟨_,rfl⟩⟩,fun no=>?_⟩
   ·have ok':=of_decide_eq_true ok
    simp[-Int.ofNat_eq_natCast,-List.getD_eq_getElem?_getD,x1x hx,x1x hy',x59 (f:=f) (hr _ hx) (hr _ hy'),ok']
   ·have no':=of_decide_eq_false no
    simp[-Int.ofNat_eq_natCast,-List.getD_eq_getElem?_getD,x1x hx,x1x hy',x59 (f:=f) (hr _ hx) (hr _ hy'),no']) ⟨b,rfl⟩
  rw[x0x,z0h (fun x=>decide (f (r x) (r y)=r y))]at i1 i2
  refine⟨fun ok=>?_,fun no=>(x2p hi).trans (i2 no)⟩
  obtain⟨ρ2,e,b',rfl⟩:=i1 ok
  exact⟨_,(x2p hi).trans e,_,_,rfl⟩) ⟨none,none,rfl⟩
 rw[x0q]at h1 h2
 cases h:y04 n f r with
 | true=>
  obtain⟨ρ',e,x,y,rfl⟩:=h1 h
  exact(x0j ((x2p (x2u hn rfl x17)).trans e)).trans rfl
 | false=>exact x80 ((x2p (x2u hn rfl x17)).trans (h2 h))
theorem y6d (hn:n<=1000){r s:Nat->Nat}(hr:∀ i,i<n->r i<n)(hs:∀ i,i<n->s i<n):x40 [x09 n f,x0c n r,x0c n s]=some (.bl ((List.range n).all fun i=>decide (f (r i) (s i)=s i)),9):=by
 unfold x40 y1o
 refine x1l (x1j (ρ1:=[some (x09 n f,9),some (x0c n r,9),some (x0c n s,9)]) ?_)
 have hz:y6y (x01 (x05 1) (x01 (x05 2) x0g)) [some (x09 n f,9),some (x0c n r,9),some (x0c n s,9)]=some ((List.range n).map fun j=>.tup [.int (Int.ofNat (r j)),.int (Int.ofNat (s j))],[some (x09 n f,9),some (x0c n r,9),some (x0c n s,9)]):=by
  have:=y6w n r s
  simp[-Int.ofNat_eq_natCast,x0c,x0x,hn,this]
 have hc:=x1b (k:=2) (tt:=x1i) (te:=x0m x1y 3 (x01 (x05 0) (x01 (x05 3) (x01 (x05 4) x0g)))) (deep:=false) hz (j3d (i:=3) rfl r s (fun _=>true) (fun j=>.bl (decide (f (r j) (s j)=s j))) (fun _=>9) (fun j hj=>rfl) (fun j hj _=>by
  simp[-Int.ofNat_eq_natCast,x59 (f:=f) (hr j hj) (hs j hj)]))
 rw[show(List.range n).filter (fun _=>true)=List.range n by simp]at hc
 refine j29 (x0z hc) ?_
 simp only[z1n,y6a,Option.map_some]
 simp[List.all_map,Function.comp_def]
end
section
variable {n:Nat}{f:Nat->Nat->Nat}
variable (L:Lad n f){z:Nat}(hz:z<n)(bz:∀ j,j<n->f z j=j)
include L hz bz
theorem x97 (ns:List Int)(t:Int)(h0:0<=t):∃ d:Nat->Nat,(∀ i,i<n->d i<n)/\x2g [scr ns,.int t,x09 n f]=some (x0c n (Lad.lr n f z d),9):=by
 have hn:n<=1000:=Nat.le_trans L.hi (by decide)
 have hnp:(0:Int)<Int.ofNat n:=by show(0:Int)<(n:Int);omega
 -- what is drawn for a worth
 have dr:∀ i,∃ v,v<n/\(i<n->∀ ρ:Rho,ρ[0]? = some (some (scr ns,0))->ρ[1]? = some (some (.int t,9))->ρ[2]? = some (some (x09 n f,9))->ρ[3]? = some (some (.int (Int.ofNat z),9))->ρ[5]? = some (some (.int (Int.ofNat i),9))->
   eIx (x6q (x01 (x05 3) (x01 (x05 5) (x01 (x0m x0h 3 (x01 (x05 0) (x01 (e2 x3f (x05 1) (x05 5)) (x01 (x10 2) x0g)))) x0g)))) (x0m x0h 3 (x01 (x05 0) (x01 (e2 x3f (e2 x3f (x05 1) (eC (.int 8))) (x05 5)) (x01 (eC (.int 3)) x0g)))) ρ=some (.int (Int.ofNat v),9,ρ)):=fun i=>by
  have e1:=x6f ns (t+Int.ofNat i) (Int.ofNat n) (by show 0<=t+(i:Int);omega) hnp
  have e2':=x6f ns (t+8+Int.ofNat i) 3 (by show 0<=t+8+(i:Int);omega) (by decide)
  have l1:=x6e ns (t+Int.ofNat i) hnp
  have l2:=x7s ns (t+Int.ofNat i) hnp
  have k1:=x6e ns (t+8+Int.ofNat i) (m:=3) (by decide)
  have k2:=x7s ns (t+8+Int.ofNat i) (m:=3) (by decide)
  generalize x8f ns (t+Int.ofNat i) (Int.ofNat n)=a at *
  generalize x8f ns (t+8+Int.ofNat i) 3=b at *
  obtain⟨a',rfl⟩:∃ a':Nat,a=Int.ofNat a':=⟨a.toNat,by show a=(a.toNat:Int);omega⟩
  have ha':a'<n:=by have:(a':Int)<(n:Int):=l2;omega
  by_cases hi:i<n
  ·have hb:b=0\/b=1\/b=2:=by omega
   rcases hb with rfl|rfl|rfl
   ·refine⟨z,hz,fun _ ρ h0 h1 h2 h3 h5=>?_⟩
    simp[-Int.ofNat_eq_natCast,h0,h1,h2,h3,h5,x17,e1,e2',atD,L2.atI,ixN]
   ·refine⟨i,hi,fun _ ρ h0 h1 h2 h3 h5=>?_⟩
    simp[-Int.ofNat_eq_natCast,h0,h1,h2,h3,h5,x17,e1,e2',atD,L2.atI,ixN]
   ·refine⟨a',ha',fun _ ρ h0 h1 h2 h3 h5=>?_⟩
    simp[-Int.ofNat_eq_natCast,h0,h1,h2,h3,h5,x17,e1,e2',atD,L2.atI,ixN]
  ·exact⟨z,hz,fun h=>absurd h hi⟩
 obtain⟨d,hd⟩:∃ d:Nat->Nat,∀ i,d i<n/\(i<n->∀ ρ:Rho,ρ[0]? = some (some (scr ns,0))->ρ[1]? = some (some (.int t,9))->ρ[2]? = some (some (x09 n f,9))->ρ[3]? = some (some (.int (Int.ofNat z),9))->ρ[5]? = some (some (.int (Int.ofNat i),9))->
   eIx (x6q (x01 (x05 3) (x01 (x05 5) (x01 (x0m x0h 3 (x01 (x05 0) (x01 (e2 x3f (x05 1) (x05 5)) (x01 (x10 2) x0g)))) x0g)))) (x0m x0h 3 (x01 (x05 0) (x01 (e2 x3f (e2 x3f (x05 1) (eC (.int 8))) (x05 5)) (x01 (eC (.int 3)) x0g)))) ρ=some (.int (Int.ofNat (d i)),9,ρ)):=
  ⟨fun i=>(dr i).choose,fun i=>(dr i).choose_spec⟩
 refine⟨d,fun i _=>(hd i).1,?_⟩
 unfold x2g y2h
 refine x1l ?_
 have hs:x4x 7 [scr ns,.int t,x09 n f]=[some (scr ns,0),some (.int t,9),some (x09 n f,9),none,none,none,none]:=rfl
 rw[hs]
 refine(x0j (ρ1:=[some (scr ns,0),some (.int t,9),some (x09 n f,9),some (.int (Int.ofNat z),9),none,none,none]) ?_).trans ?_
 ·simp[-Int.ofNat_eq_natCast,z4t L hz bz hn]
 refine(x0j (ρ1:=[some (scr ns,0),some (.int t,9),some (x09 n f,9),some (.int (Int.ofNat z),9),some (.lst [],1),none,none]) ?_).trans ?_
 ·simp
 obtain⟨ρ',e,y,rfl⟩:=x4c (pt:=x0n 5) (body:=x50 (y3n 4 (x01 (eIx (x6q (x01 (x05 3) (x01 (x05 5) (x01 (x0m x0h 3 (x01 (x05 0) (x01 (e2 x3f (x05 1) (x05 5)) (x01 (x10 2) x0g)))) x0g)))) (x0m x0h 3 (x01 (x05 0) (x01 (e2 x3f (e2 x3f (x05 1) (eC (.int 8))) (x05 5)) (x01 (eC (.int 3)) x0g))))) x0g))) (x12 n)
  (fun i ρ=>∃ y,ρ=[some (scr ns,0),some (.int t,9),some (x09 n f,9),some (.int (Int.ofNat z),9),some (.lst (x0f ((List.range i).map d)),1),y,none])
  [some (scr ns,0),some (.int t,9),some (x09 n f,9),some (.int (Int.ofNat z),9),some (.lst [],1),none,none] (fun i hi ρ hh0=>by
   obtain⟨y,hy⟩:=hh0
   subst hy
   have hi':i<n:=by rw[x0q]at hi;exact hi
   have hdi:=(hd i).2 hi' [some (scr ns,0),some (.int t,9),some (x09 n f,9),some (.int (Int.ofNat z),9),some (.lst (x0f ((List.range i).map d)),1),some (.int (Int.ofNat i),9),none] rfl rfl rfl rfl rfl
   refine⟨[some (scr ns,0),some (.int t,9),some (x09 n f,9),some (.int (Int.ofNat z),9),some (.lst (x0f ((List.range i).map d)),1),some (.int (Int.ofNat i),9),none],[some (scr ns,0),some (.int t,9),some (x09 n f,9),some (.int (Int.ofNat z),9),some (.lst (x0f ((List.range (i+1)).map d)),1),some (.int (Int.ofNat i),9),none],?_,.inl ?_,⟨_,rfl⟩⟩
   ·rw[show(x12 n)[i]=.int (Int.ofNat i)by simp[x12]];simp
   ·have ex:x0f ((List.range (i+1)).map d)=x0f ((List.range i).map d)++[.int (Int.ofNat (d i))]:=by rw[List.range_succ];simp[x0f]
    have hl:(x0f ((List.range i).map d)).length<=1000:=by rw[x0x,List.length_map,List.length_range];omega
    exact z5t rfl (x0z hdi) rfl hl (by rw[ex];rfl)) ⟨none,rfl⟩
 rw[x0q]at e
 refine(x0j ((x2p (x2u hn rfl x17)).trans e)).trans ?_
 refine(x0j (ρ1:=[some (scr ns,0),some (.int t,9),some (x09 n f,9),some (.int (Int.ofNat z),9),some (.lst (x0f ((List.range n).map d)),1),y,some (.lst [],1)]) ?_).trans ?_
 ·simp
 have hdn:∀ i,i<n->d i<n:=fun i _=>(hd i).1
 obtain⟨ρ',e,y',rfl⟩:=x4c (pt:=x0n 5) (body:=x50 (y3n 6 (x01 (x0m x3x 2 (x01 (x05 2) (x01 (x22 1 (x4w (x0m x29 2 (x01 (x05 2) (x01 (x05 5) x0g)))) (x0n 7) x1i (x19 4 (x05 7)) false) x0g))) x0g))) (x12 n)
  (fun i ρ=>∃ y,ρ=[some (scr ns,0),some (.int t,9),some (x09 n f,9),some (.int (Int.ofNat z),9),some (.lst (x0f ((List.range n).map d)),1),y,some (.lst (x0f ((List.range i).map (Lad.lr n f z d))),1)])
  [some (scr ns,0),some (.int t,9),some (x09 n f,9),some (.int (Int.ofNat z),9),some (.lst (x0f ((List.range n).map d)),1),y,some (.lst [],1)] (fun i hi ρ hh0=>by
   obtain⟨y,hy⟩:=hh0
   subst hy
   have hi':i<n:=by rw[x0q]at hi;exact hi
   refine⟨[some (scr ns,0),some (.int t,9),some (x09 n f,9),some (.int (Int.ofNat z),9),some (.lst (x0f ((List.range n).map d)),1),some (.int (Int.ofNat i),9),some (.lst (x0f ((List.range i).map (Lad.lr n f z d))),1)],[some (scr ns,0),some (.int t,9),some (x09 n f,9),some (.int (Int.ofNat z),9),some (.lst (x0f ((List.range n).map d)),1),some (.int (Int.ofNat i),9),some (.lst (x0f ((List.range (i+1)).map (Lad.lr n f z d))),1)],?_,.inl ?_,⟨_,rfl⟩⟩
   ·rw[show(x12 n)[i]=.int (Int.ofNat i)by simp[x12]];simp
   ·have ex:x0f ((List.range (i+1)).map (Lad.lr n f z d))=x0f ((List.range i).map (Lad.lr n f z d))++[.int (Int.ofNat (Lad.lr n f z d i))]:=by rw[List.range_succ];simp[x0f]
    have hl:(x0f ((List.range i).map (Lad.lr n f z d))).length<=1000:=by rw[x0x,List.length_map,List.length_range];omega
    have hlow:(Lad.low n f i).length<=1000:=by
     have:=List.length_filter_le (fun y=>decide (f y i=i)) (List.range n)
     rw[List.length_range]at this
     exact Nat.le_trans this hn
    have hit:x4w (x0m x29 2 (x01 (x05 2) (x01 (x05 5) x0g))) [some (scr ns,0),some (.int t,9),some (x09 n f,9),some (.int (Int.ofNat z),9),some (.lst (x0f ((List.range n).map d)),1),some (.int (Int.ofNat i),9),some (.lst (x0f ((List.range i).map (Lad.lr n f z d))),1)]=some (x0f (Lad.low n f i),[some (scr ns,0),some (.int t,9),some (x09 n f,9),some (.int (Int.ofNat z),9),some (.lst (x0f ((List.range n).map d)),1),some (.int (Int.ofNat i),9),some (.lst (x0f ((List.range i).map (Lad.lr n f z d))),1)]):=by
     have hb:x29 [x09 n f,.int (Int.ofNat i)]=some (.lst (x0f (Lad.low n f i)),1):=z16 hn hi'
     simp[-Int.ofNat_eq_natCast,hb,x0x,hlow]
    have hc:=x1b (k:=1) (te:=x19 4 (x05 7)) (deep:=false) hit (z5i (i:=7) (Lad.low n f i) rfl (fun y=>.int (Int.ofNat (d y))) (fun _=>9) (fun y hy=>by
     have hyn:=(Lad.mem_low.mp hy).1
     have hat:atD (.lst (x0f ((List.range n).map d))) (Int.ofNat y)=some (.int (Int.ofNat (d y))):=x1s hyn
     simp[-Int.ofNat_eq_natCast,hat]))
    have hm:∀ y∈(Lad.low n f i).map d,y<n:=Lad.lr_mem L hz bz hdn
    have e':((Lad.low n f i).map fun y=>D.int (Int.ofNat (d y)))=x0f ((Lad.low n f i).map d):=by simp[x0f]
    rw[e']at hc
    have hj:x3x [x09 n f,.lst (x0f ((Lad.low n f i).map d))]=some (.int (Int.ofNat (Lad.lr n f z d i)),9):=j3e L hz bz hn (by rw[List.length_map];exact hlow) hm
    have ha:=x0z (x0p (n:=2) (x0u (f:=x05 2) (q:=9) (d:=x09 n f) (ρ:=[some (scr ns,0),some (.int t,9),some (x09 n f,9),some (.int (Int.ofNat z),9),some (.lst (x0f ((List.range n).map d)),1),some (.int (Int.ofNat i),9),some (.lst (x0f ((List.range i).map (Lad.lr n f z d))),1)]) (ρ1:=[some (scr ns,0),some (.int t,9),some (x09 n f,9),some (.int (Int.ofNat z),9),some (.lst (x0f ((List.range n).map d)),1),some (.int (Int.ofNat i),9),some (.lst (x0f ((List.range i).map (Lad.lr n f z d))),1)]) rfl (x0z hc)) rfl hj)
    exact z5t rfl ha rfl hl (by rw[ex];rfl)) ⟨y,rfl⟩
 rw[x0q]at e
 refine(x0j ((x2p (x2u hn rfl x17)).trans e)).trans ?_
 exact x1j (x2q (x0z (q:=0) (ρ1:=[some (scr ns,0),some (.int t,9),some (x09 n f,9),some (.int (Int.ofNat z),9),some (.lst (x0f ((List.range n).map d)),1),y',some (.lst (x0f ((List.range n).map (Lad.lr n f z d))),0)]) rfl))
end
def x3a (n:Nat):D->Bool
 | .int i=>decide (0<=i)&&decide (i<(n:Int))
 | _=>false
def x3m (m n:Nat):D->Bool
 | .tup ds=>decide (ds.length=m)&&ds.all (x3a n)
 | _=>false
theorem x2l (d:D):x4i [d]=some (.bl (match d with|.int _=>true|_=>false),9):=by
 unfold x4i y4t
 cases d<;>simp[isD]
theorem x3g (n:Nat)(d:D):x11 [d,.int (Int.ofNat n)]=some (.bl (x3a n d),9):=by
 unfold x11 x8j
 cases d with
 | int i=>
  have h:=x2l (.int i)
  by_cases h0:0<=i
  ·by_cases h1:i<(n:Int)
   ·simp[h,x3a,h0,h1]
   ·simp[h,x3a,h0,h1]
  ·simp[h,x3a,h0]
 | non=>simp[x2l,x3a]
 | bl b=>simp[x2l,x3a]
 | str x=>simp[x2l,x3a]
 | tup ds=>simp[x2l,x3a]
 | lst ds=>simp[x2l,x3a]
 | dic ks ds=>simp[x2l,x3a]
 | exc nm=>simp[x2l,x3a]
 | ob f fo vs ds=>simp[x2l,x3a]
theorem z3b (m n:Nat)(d:D)(hl:∀ ds,d=.tup ds->ds.length<=1000):x2y [d,.int (Int.ofNat m),.int (Int.ofNat n)]=some (.bl (x3m m n d),9):=by
 unfold x2y x94
 cases d with
 | tup ds=>
  have hl:=hl ds rfl
  refine x1l ?_
  have hs:x4x 3 [.tup ds,.int (Int.ofNat m),.int (Int.ofNat n)]=[some (.tup ds,9),some (.int (Int.ofNat m),9),some (.int (Int.ofNat n),9)]:=rfl
  rw[hs]
  by_cases hm:ds.length=m
  ·refine(x0j (ρ1:=[some (.tup ds,9),some (.int (Int.ofNat m),9),some (.int (Int.ofNat n),9)]) ?_).trans ?_
   ·simp[-Int.ofNat_eq_natCast,isD,x5o,hm,x7r]
   ·have hi:x4w (x05 0) [some (.tup ds,9),some (.int (Int.ofNat m),9),some (.int (Int.ofNat n),9)]=some (ds,[some (.tup ds,9),some (.int (Int.ofNat m),9),some (.int (Int.ofNat n),9)]):=by simp[hl]
    have hc:=x3k (k:=1) (pt:=x0n 3) (tt:=x1i) (te:=x0m x11 2 (x01 (x05 3) (x01 (x05 2) x0g))) (deep:=false) ds (fun _=>[some (.tup ds,9),some (.int (Int.ofNat m),9),some (.int (Int.ofNat n),9)]) (fun _=>true) (fun i=>.bl (x3a n (ds.getD i .non))) (fun i hi=>by
     have hg:ds.getD i .non=ds[i]:=by simp[hi]
     refine⟨[some (.tup ds,9),some (.int (Int.ofNat m),9),some (.int (Int.ofNat n),9),some (ds[i],x20 ds[i])],[some (.tup ds,9),some (.int (Int.ofNat m),9),some (.int (Int.ofNat n),9),some (ds[i],x20 ds[i])],by simp[-x20],rfl,?_⟩
     rw[if_pos rfl]
     refine⟨9,[some (.tup ds,9),some (.int (Int.ofNat m),9),some (.int (Int.ofNat n),9),some (ds[i],x20 ds[i])],?_,by simp,by simp⟩
     have hv:∃ q,x05 3 [some (.tup ds,9),some (.int (Int.ofNat m),9),some (.int (Int.ofNat n),9),some (ds[i],x20 ds[i])]=some (ds[i],q,[some (.tup ds,9),some (.int (Int.ofNat m),9),some (.int (Int.ofNat n),9),some (ds[i],x20 ds[i])]):=by
      cases hL:(ds[i]).isL with
      | false=>exact⟨9,by simp[-x20,hL]⟩
      | true=>exact⟨0,by simp[hL]⟩
     obtain⟨q,hv⟩:=hv
     rw[hg]
     exact x0p (x0u hv (x0z (q:=9) rfl)) rfl (x3g n _))
    rw[show(List.range ds.length).filter (fun _=>true)=List.range ds.length by simp]at hc
    have e:(List.range ds.length).map (fun i=>D.bl (x3a n (ds.getD i .non)))=ds.map fun d=>.bl (x3a n d):=by
     apply List.ext_getElem?
     intro k
     by_cases hk:k<ds.length
     ·simp[hk]
     ·rw[List.getElem?_eq_none (by simp;omega),List.getElem?_eq_none (by simp;omega)]
    rw[e]at hc
    refine x1j (j29 (x0z (x1b (deep:=false) hi hc)) ?_)
    simp only[z1n,y6a,Option.map_some,x3m,hm]
    simp[List.all_map,Function.comp_def]
  ·have e:x3m m n (.tup ds)=false:=by simp[x3m,hm]
   rw[e]
   refine x80 ?_
   simp[-Int.ofNat_eq_natCast,isD,x5o,x7r,hm]
 | non=>simp[isD,x3m]
 | bl b=>simp[isD,x3m]
 | int i=>simp[isD,x3m]
 | str x=>simp[isD,x3m]
 | lst ds=>simp[isD,x3m]
 | dic ks ds=>simp[isD,x3m]
 | exc nm=>simp[isD,x3m]
 | ob f fo vs ds=>simp[isD,x3m]
theorem y52 (m n:Nat)(hm:m<=1000)(d:D):x2y [d,.int (Int.ofNat m),.int (Int.ofNat n)]=some (.bl (x3m m n d),9):=by
 by_cases h:∀ ds,d=.tup ds->ds.length<=1000
 ·exact z3b m n d h
 ·cases d with
  | tup ds=>
   have hne:ds.length≠m:=fun e=>h fun ds' e'=>by cases e';omega
   have e:x3m m n (.tup ds)=false:=by simp[x3m,hne]
   unfold x2y x94
   refine x1l ?_
   rw[e]
   refine x80 ?_
   simp[-Int.ofNat_eq_natCast,isD,x5o,x7r,hne]
  | _=>exact absurd (fun ds e=>nomatch e) h
theorem z2m {n:Nat}{r:Nat->Nat}(hr:∀ i,i<n->r i<n):x3m n n (x0c n r)=true:=by
 unfold x3m x0c
 simp only[x0x,List.length_map,List.length_range,decide_true,Bool.true_and]
 rw[List.all_eq_true]
 intro d m
 obtain⟨x,hx,rfl⟩:=List.mem_map.mp m
 obtain⟨i,hi,rfl⟩:=List.mem_map.mp hx
 have:=hr i (List.mem_range.mp hi)
 show(decide ((0:Int)<=(r i:Int))&&decide ((r i:Int)<(n:Int)))=true
 simp;omega
theorem y8y {n:Nat}{f:Nat->Nat->Nat}(hn:n<=1000)(d:D):x7e [x09 n f,d]=some (.bl (x3m n n d),9):=by
 unfold x7e y8e
 have hv:∃ q ρ',x05 1 [some (x09 n f,9),some (d,x20 d)]=some (d,q,ρ')/\ρ'[0]? = some (some (x09 n f,9)):=by
  cases hL:d.isL with
  | false=>exact⟨9,[some (x09 n f,9),some (d,x20 d)],by simp[-x20,hL],rfl⟩
  | true=>exact⟨0,[some (x09 n f,9),some (d,0)],by simp[hL],rfl⟩
 obtain⟨q,ρ',hv,h0⟩:=hv
 have hln:x10 0 ρ'=some (.int (Int.ofNat n),9,ρ'):=by unfold x10;simp only[h0,x17]
 exact x1l (x1j (x0p (x0u (ρ:=[some (x09 n f,9),some (d,x20 d)]) hv (x0u hln (x0z hln))) rfl (y52 n n hn d)))
theorem y24 {n:Nat}(hn:n<=1000){i q:Nat}{ρ:Rho}(h:ρ[i]? = some (some (.int (Int.ofNat n),q))):x15 (x01 (x05 i) x0g) ρ=some (x12 n,ρ):=by
 have b1:(-1000:Int)<=Int.ofNat n:=by show(-1000:Int)<=n;omega
 have b2:Int.ofNat n<=1000:=by show(n:Int)<=1000;omega
 simp only[x15,x01,x05,x0g,h,D.isL_int,if_true]
 rw[if_pos ⟨b1,b2⟩]
 rfl
section
variable {n:Nat}{f:Nat->Nat->Nat}
def ljB (n:Nat)(f g:Nat->Nat->Nat)(r:Nat->Nat):Bool:=(List.range n).all fun x=>(List.range n).all fun y=>decide (r (f x y)=g (r x) (r y))
theorem y8p {g:Nat->Nat->Nat}{r:Nat->Nat}:ljB n f g r=true ↔ ∀ x y,x<n->y<n->r (f x y)=g (r x) (r y):=by
 unfold ljB
 rw[L3.range_all]
 exact⟨fun h x y hx hy=>of_decide_eq_true (L3.range_all.mp (h x hx) y hy),fun h x hx=>L3.range_all.mpr fun y hy=>decide_eq_true (h x y hx hy)⟩
variable (L:Lad n f)
include L
theorem z71 {m:Nat}{g:Nat->Nat->Nat}{r:Nat->Nat}(hr:∀ i,i<n->r i<m):x1o [x09 n f,x09 m g,x0c n r]=some (.bl (ljB n f g r),9):=by
 have hn:n<=1000:=Nat.le_trans L.hi (by decide)
 unfold x1o x4h
 refine x1l ?_
 refine(x0j (ρ1:=[some (x09 n f,9),some (x09 m g,9),some (x0c n r,9),some (.int (Int.ofNat n),9),none,none]) ?_).trans ?_
 ·simp[x17]
 obtain⟨h1,h2⟩:=x9e (pt:=x0n 4) (body:=x6j) (d:=.bl false) (q:=9) (x12 n) (fun ρ=>∃ x y,ρ=[some (x09 n f,9),some (x09 m g,9),some (x0c n r,9),some (.int (Int.ofNat n),9),x,y]) (fun x=>(List.range n).all fun y=>decide (r (f x y)=g (r x) (r y))) [some (x09 n f,9),some (x09 m g,9),some (x0c n r,9),some (.int (Int.ofNat n),9),none,none] (fun x hx ρ ⟨a,b,e⟩=>by
  subst e
  have hx':x<n:=by rw[x0q]at hx;exact hx
  refine⟨[some (x09 n f,9),some (x09 m g,9),some (x0c n r,9),some (.int (Int.ofNat n),9),some (.int (Int.ofNat x),9),b],by rw[show(x12 n)[x]=.int (Int.ofNat x)by simp[x12]];simp,?_⟩
  obtain⟨i1,i2⟩:=x9e (pt:=x0n 5) (body:=x6h) (d:=.bl false) (q:=9) (x12 n) (fun ρ=>∃ y,ρ=[some (x09 n f,9),some (x09 m g,9),some (x0c n r,9),some (.int (Int.ofNat n),9),some (.int (Int.ofNat x),9),y]) (fun y=>decide (r (f x y)=g (r x) (r y))) [some (x09 n f,9),some (x09 m g,9),some (x0c n r,9),some (.int (Int.ofNat n),9),some (.int (Int.ofNat x),9),b] (fun y hy ρ ⟨b,e⟩=>by
   subst e
   have hy':y<n:=by rw[x0q]at hy;exact hy
   refine⟨[some (x09 n f,9),some (x09 m g,9),some (x0c n r,9),some (.int (Int.ofNat n),9),some (.int (Int.ofNat x),9),some (.int (Int.ofNat y),9)],by rw[show(x12 n)[y]=.int (Int.ofNat y)by simp[x12]];simp,fun ok=>⟨[some (x09 n f,9),some (x09 m g,9),some (x0c n r,9),some (.int (Int.ofNat n),9),some (.int (Int.ofNat x),9),some (.int (Int.ofNat y),9)],?_,⟨_,rfl⟩⟩,fun no=>?_⟩
   ·have ok':=of_decide_eq_true ok
    simp[-Int.ofNat_eq_natCast,x3u hx',x47 hy',x1x (L.cl x y hx' hy'),x1x hx',x1x hy',x3u (hr x hx'),x47 (hr y hy'),x7r,ok']
   ·have no':=of_decide_eq_false no
    simp[-Int.ofNat_eq_natCast,x3u hx',x47 hy',x1x (L.cl x y hx' hy'),x1x hx',x1x hy',x3u (hr x hx'),x47 (hr y hy'),x7r,no']) ⟨b,rfl⟩
  rw[x0q]at i1 i2
  refine⟨fun ok=>?_,fun no=>(x2p (y24 hn (i:=3) (q:=9) rfl)).trans (i2 no)⟩
  obtain⟨ρ2,e,b',rfl⟩:=i1 ok
  exact⟨_,(x2p (y24 hn (i:=3) (q:=9) rfl)).trans e,_,_,rfl⟩) ⟨none,none,rfl⟩
 rw[x0q]at h1 h2
 cases h:ljB n f g r with
 | true=>
  obtain⟨ρ',e,x,y,rfl⟩:=h1 h
  exact(x0j ((x2p (y24 hn (i:=3) (q:=9) rfl)).trans e)).trans rfl
 | false=>exact x80 ((x2p (y24 hn (i:=3) (q:=9) rfl)).trans (h2 h))
end
theorem x5j {i:Nat}{ρ:Rho}{d:D}(h:ρ[i]? = some (some (d,x20 d))):x05 i ρ=some (d,x20 d,ρ):=by
 unfold x05
 rw[h]
 cases hL:d.isL with
 | false=>simp[hL]
 | true=>simp[hL]
theorem j8y {i:Nat}{te:Den}{ρ:Rho}(ds:List D)(hi:ρ.length=i)(v:D->D)(q:D->Nat)
  (he:∀ d,d∈ds->te (ρ++[some (d,x20 d)])=some (v d,q d,ρ++[some (d,x20 d)])) :
  x6x 1 (x0n i) x1i te false ds ρ=some (ds.map v,ρ):=by
 have h:=x3k (k:=1) (pt:=x0n i) (tt:=x1i) (te:=te) (deep:=false) ds (fun _=>ρ) (fun _=>true) (fun j=>v (ds.getD j .non)) (fun j hj=>?_)
 ·rw[show(List.range ds.length).filter (fun _=>true)=List.range ds.length by simp]at h
  rw[h]
  have e:(List.range ds.length).map (fun j=>v (ds.getD j .non))=ds.map v:=by
   apply List.ext_getElem?
   intro k
   by_cases hk:k<ds.length
   ·simp[hk]
   ·rw[List.getElem?_eq_none (by simp;omega),List.getElem?_eq_none (by simp;omega)]
  rw[e]
 ·have hg:ds.getD j .non=ds[j]:=by simp[hj]
  refine⟨ρ++[some (ds[j],x20 ds[j])],_,?_,rfl,?_⟩
  ·unfold x0n
   rw[if_pos (by simp[hi])]
   subst hi
   simp[-x20,List.set_append]
  ·rw[if_pos rfl,hg]
   exact⟨q _,_,he _ (List.getElem_mem hj),by simp,by simp⟩
theorem y5r {i:Nat}{te:Den}{it:y4b}{ρ:Rho}{ds:List D}(hi:ρ.length=i)(hit:it ρ=some (ds,ρ))(b:D->Bool)(q:D->Nat)
  (he:∀ d,d∈ds->te (ρ++[some (d,x20 d)])=some (.bl (b d),q d,ρ++[some (d,x20 d)])) :
  eB z1n (x01 (x22 1 it (x0n i) x1i te false) x0g) ρ=some (.bl (ds.all b),9,ρ):=by
 refine j29 (x0z (x1b (deep:=false) hit (j8y ds hi (fun d=>.bl (b d)) q he))) ?_
 simp only[z1n,y6a,Option.map_some]
 simp[List.all_map,Function.comp_def]
def x6t (ds:List D)(i:Nat):Nat:=match ds[i]? with
 | some (.int k)=>k.toNat
 | _=>0
theorem z3r {m n:Nat}{ds:List D}(h:x3m m n (.tup ds)=true):ds.length=m/\∀ i,i<m->ds[i]? = some (.int (Int.ofNat (x6t ds i)))/\x6t ds i<n:=by
 unfold x3m at h
 simp only[Bool.and_eq_true,decide_eq_true_eq,List.all_eq_true]at h
 obtain⟨hl,ha⟩:=h
 refine⟨hl,fun i hi=>?_⟩
 have hi':i<ds.length:=by omega
 have hm:=ha ds[i] (List.getElem_mem hi')
 have hg:ds[i]? = some ds[i]:=List.getElem?_eq_getElem hi'
 unfold x6t
 rw[hg]
 cases e:ds[i]with
 | int k=>
  rw[e]at hm
  unfold x3a at hm
  simp only[Bool.and_eq_true,decide_eq_true_eq]at hm
  refine⟨?_,?_⟩
  ·show some (D.int k)=some (D.int ((k.toNat:Nat):Int))
   rw[Int.toNat_of_nonneg hm.1]
  ·show k.toNat<n
   omega
 | _=>rw[e]at hm;cases hm
theorem z9w {m n:Nat}{ds:List D}(h:x3m m n (.tup ds)=true):D.tup ds=x0c m (x6t ds):=by
 obtain⟨hl,key⟩:=z3r h
 unfold x0c
 congr 1
 apply List.ext_getElem?
 intro i
 by_cases hi:i<m
 ·rw[(key i hi).1,x8e,List.getElem?_map,List.getElem?_range hi]
  rfl
 ·rw[List.getElem?_eq_none (by omega),List.getElem?_eq_none (by simp[x0x];omega)]
theorem z6j {n:Nat}{ds:List D}(h:x3m n n (.tup ds)=true):D.tup ds=x0c n (x6t ds)/\∀ i,i<n->x6t ds i<n:=⟨z9w h,fun i hi=>((z3r h).2 i hi).2⟩
theorem x42 {n i:Nat}{r:Nat->Nat}(hi:i<n):x6t (x0f ((List.range n).map r)) i=r i:=by
 unfold x6t
 rw[x8e,List.getElem?_map,List.getElem?_range hi]
 rfl
def rr (n:Nat)(f:Nat->Nat->Nat)(d:D):Bool:=match d with
 | .tup ds=>x3m n n (.tup ds)&&y04 n f (x6t ds)
 | _=>false
theorem y7q {n:Nat}{f:Nat->Nat->Nat}{r s:Nat->Nat}(h:∀ i,i<n->r i=s i):y04 n f r=y04 n f s:=by
 rw[Bool.eq_iff_iff,x84,x84]
 constructor
 ·intro k y x hy hx e
  rw[<- h x hx,<- h y hy];exact k y x hy hx e
 ·intro k y x hy hx e
  rw[h x hx,h y hy];exact k y x hy hx e
theorem j07 {n:Nat}{f:Nat->Nat->Nat}{r:Nat->Nat}(hr:∀ i,i<n->r i<n):rr n f (x0c n r)=y04 n f r:=by
 have h:=z2m hr
 show(x3m n n (x0c n r)&&y04 n f (x6t (x0f ((List.range n).map r))))=_
 rw[h,Bool.true_and]
 exact y7q fun i hi=>x42 hi
theorem y70 {n:Nat}{f:Nat->Nat->Nat}(hn:n<=1000)(d:D):x35 [x09 n f,d]=some (.bl (rr n f d),9):=by
 have h1:=y8y (n:=n) (f:=f) hn d
 have v1:x05 1 [some (x09 n f,9),some (d,x20 d)]=some (d,x20 d,[some (x09 n f,9),some (d,x20 d)]):=x5j rfl
 have v0:x05 0 [some (x09 n f,9),some (d,x20 d)]=some (x09 n f,9,[some (x09 n f,9),some (d,x20 d)]):=rfl
 have c1:=x0p (n:=2) (x0u v0 (x0z v1)) rfl h1
 unfold x35 x72
 refine x1l (x1j (ρ1:=[some (x09 n f,9),some (d,x20 d)]) ?_)
 show y8k _ _ [some (x09 n f,9),some (d,x20 d)]=_
 unfold y8k
 rw[c1]
 cases hR:x3m n n d with
 | false=>
  have:rr n f d=false:=by cases d<;>simp_all [rr]
  simp[this]
 | true=>
  cases d with
  | tup ds=>
   obtain⟨e,hb⟩:=z6j hR
   have r:=z0j (f:=f) hn hb
   rw[<- e]at r
   have c2:=x0p (n:=2) (x0u v0 (x0z v1)) rfl r
   simp only[if_true,c2]
   simp[rr,hR]
  | _=>cases hR
section
variable {n:Nat}{f:Nat->Nat->Nat}{p:Nat}
def z9i (n:Nat)(f:Nat->Nat->Nat)(p:Nat):D->Bool
 | .tup [a,b,c]=>x3a p a&&x3a p b&&rr n f c
 | _=>false
def z9q (n:Nat)(p:Nat):D->Bool
 | .tup [a,b]=>x3a p a&&x3a n b
 | _=>false
theorem z5r {m k:Nat}(h:m≠k):dNe (.int (Int.ofNat m)) (.int (Int.ofNat k))=some (.bl true):=by rw[x7r];simp[h]
def z6r (p:Nat):D->Bool
 | .tup [a,b,_]=>x3a p a&&x3a p b
 | _=>false
theorem k09 {p:Nat}{d:D}(h:z6r p d=true):∃ a b c,d=.tup [a,b,c]:=by
 unfold z6r at h
 split at h
 ·exact⟨_,_,_,rfl⟩
 ·cases h
theorem j2g (d:D):x39 [.int (Int.ofNat p),d]=some (.bl (z6r p d),9):=by
 unfold x39 x8q
 cases d with
 | tup ds=>
  by_cases h3:ds.length=3
  ·match ds,h3 with
   | [a,b,c],_=>
    have na:=x3g p a
    have nb:=x3g p b
    have l3:dNe (.int 3) (.int 3)=some (.bl false):=(y5x _ _).trans (by simp)
    have a0:atD (.tup [a,b,c]) 0=some a:=rfl
    have a1:atD (.tup [a,b,c]) 1=some b:=rfl
    have ll:x5o (.tup [a,b,c])=some 3:=rfl
    cases ha:x3a p a<;>simp[-Int.ofNat_eq_natCast,isD,ll,l3,a0,a1,na,nb,ha,z6r]
  ·have e:z6r p (.tup ds)=false:=by
    match ds,h3 with
    | [],_=>rfl
    | [_],_=>rfl
    | [_,_],_=>rfl
    | [_,_,_],h=>exact absurd rfl h
    | _::_::_::_::_,_=>rfl
   have l3:dNe (.int (Int.ofNat ds.length)) (.int 3)=some (.bl true):=z5r (k:=3) h3
   have ll:x5o (.tup ds)=some ds.length:=rfl
   rw[e]
   simp[-Int.ofNat_eq_natCast,isD,ll,l3]
 | _=>simp[isD,z6r]
theorem j2w {d:D}(h:z6r p d=false):z9i n f p d=false:=by
 unfold z6r at h
 unfold z9i
 split at h
 ·simp only[h,Bool.false_and]
 ·rfl
theorem z45 (hn:n<=1000)(d:D):x9i [x09 n f,.int (Int.ofNat p),d]=some (.bl (z9i n f p d),9):=by
 have g:=j2g (p:=p) d
 unfold x9i z0d
 cases hb:z6r p d with
 | false=>
  rw[j2w hb]
  rw[hb]at g
  refine x1l (x1j (ρ1:=x4x 3 [x09 n f,.int (Int.ofNat p),d]) ?_)
  have hc:x0m x39 2 (x01 (x05 1) (x01 (x05 2) x0g)) (x4x 3 [x09 n f,.int (Int.ofNat p),d])=some (.bl false,9,x4x 3 [x09 n f,.int (Int.ofNat p),d]):=x0p (x0u (q:=9) (d:=.int (Int.ofNat p)) rfl (x0z (x5j rfl))) rfl g
  simp only[y8k,hc]
  rfl
 | true=>
  obtain⟨a,b,c,rfl⟩:=k09 hb
  have e:z9i n f p (.tup [a,b,c])=rr n f c:=by
   have hb':(x3a p a&&x3a p b)=true:=hb
   show(x3a p a&&x3a p b&&rr n f c)=_
   rw[hb'];rfl
  have rc:=y70 (f:=f) hn c
  have a2:atD (.tup [a,b,c]) 2=some c:=rfl
  rw[e]
  rw[hb]at g
  simp[-Int.ofNat_eq_natCast,a2,rc,g]
theorem y9w (d:D):x66 [x09 n f,.int (Int.ofNat p),d]=some (.bl (z9q n p d),9):=by
 unfold x66 y4k
 cases d with
 | tup ds=>
  by_cases h3:ds.length=2
  ·match ds,h3 with
   | [a,b],_=>
    have na:=x3g p a
    have nb:=x3g n b
    have l3:dNe (.int 2) (.int 2)=some (.bl false):=(y5x _ _).trans (by simp)
    have a0:atD (.tup [a,b]) 0=some a:=rfl
    have a1:atD (.tup [a,b]) 1=some b:=rfl
    have ll:x5o (.tup [a,b])=some 2:=rfl
    cases ha:x3a p a<;>simp[-Int.ofNat_eq_natCast,isD,ll,l3,a0,a1,na,nb,ha,z9q,x17]
  ·have e:z9q n p (.tup ds)=false:=by
    match ds,h3 with
    | [],_=>rfl
    | [_],_=>rfl
    | [_,_],h=>exact absurd rfl h
    | _::_::_::_,_=>rfl
   have l3:dNe (.int (Int.ofNat ds.length)) (.int 2)=some (.bl true):=z5r (k:=2) h3
   have ll:x5o (.tup ds)=some ds.length:=rfl
   rw[e]
   simp[-Int.ofNat_eq_natCast,isD,ll,l3]
 | _=>simp[isD,z9q]
def y0f (n:Nat)(f:Nat->Nat->Nat)(p:Nat):D->Bool
 | .tup ds=>decide (ds.length<=60)&&ds.all (z9i n f p)
 | _=>false
def y0o (n:Nat)(p:Nat):D->Bool
 | .tup ds=>decide (ds.length<=60)&&ds.all (z9q n p)
 | _=>false
theorem y8w (hn:n<=1000)(d:D):x65 [x09 n f,.int (Int.ofNat p),d]=some (.bl (y0f n f p d),9):=by
 unfold x65 y4y
 cases d with
 | tup ds=>
  have ll:x5o (.tup ds)=some ds.length:=rfl
  by_cases h6:ds.length<=60
  ·refine x1l ?_
   show x14 _ _ [some (x09 n f,9),some (.int (Int.ofNat p),9),some (.tup ds,x20 (.tup ds))]=_
   refine(x0j (ρ1:=[some (x09 n f,9),some (.int (Int.ofNat p),9),some (.tup ds,x20 (.tup ds))]) ?_).trans ?_
   ·have:¬ ((60:Int)<Int.ofNat ds.length):=by show ¬ ((60:Int)<(ds.length:Int));omega
    simp[-Int.ofNat_eq_natCast,isD,ll,this]
   ·refine x1j (ρ1:=[some (x09 n f,9),some (.int (Int.ofNat p),9),some (.tup ds,x20 (.tup ds))]) ?_
    have e:y0f n f p (.tup ds)=ds.all (z9i n f p):=by simp[y0f,h6]
    rw[e]
    refine y5r (i:=3) rfl (by simp;omega) (z9i n f p) (fun _=>9) fun x hx=>?_
    have hw:=z45 (f:=f) (p:=p) hn x
    have vx:x05 3 ([some (x09 n f,9),some (.int (Int.ofNat p),9),some (.tup ds,x20 (.tup ds))]++[some (x,x20 x)])=some (x,x20 x,[some (x09 n f,9),some (.int (Int.ofNat p),9),some (.tup ds,x20 (.tup ds))]++[some (x,x20 x)]):=x5j rfl
    exact x0p (x0u (q:=9) (d:=x09 n f) (ρ1:=[some (x09 n f,9),some (.int (Int.ofNat p),9),some (.tup ds,x20 (.tup ds))]++[some (x,x20 x)]) rfl (x0u (q:=9) (d:=.int (Int.ofNat p)) (ρ1:=[some (x09 n f,9),some (.int (Int.ofNat p),9),some (.tup ds,x20 (.tup ds))]++[some (x,x20 x)]) rfl (x0z vx))) rfl hw
  ·have e:y0f n f p (.tup ds)=false:=by simp[y0f,h6]
   have:(60:Int)<Int.ofNat ds.length:=by show(60:Int)<(ds.length:Int);omega
   rw[e]
   simp[-Int.ofNat_eq_natCast,isD,ll,this]
 | _=>simp[isD,y0f]
theorem y5d (d:D):x4s [x09 n f,.int (Int.ofNat p),d]=some (.bl (y0o n p d),9):=by
 unfold x4s y1b
 cases d with
 | tup ds=>
  have ll:x5o (.tup ds)=some ds.length:=rfl
  by_cases h6:ds.length<=60
  ·refine x1l ?_
   show x14 _ _ [some (x09 n f,9),some (.int (Int.ofNat p),9),some (.tup ds,x20 (.tup ds))]=_
   refine(x0j (ρ1:=[some (x09 n f,9),some (.int (Int.ofNat p),9),some (.tup ds,x20 (.tup ds))]) ?_).trans ?_
   ·have:¬ ((60:Int)<Int.ofNat ds.length):=by show ¬ ((60:Int)<(ds.length:Int));omega
    simp[-Int.ofNat_eq_natCast,isD,ll,this]
   ·refine x1j (ρ1:=[some (x09 n f,9),some (.int (Int.ofNat p),9),some (.tup ds,x20 (.tup ds))]) ?_
    have e:y0o n p (.tup ds)=ds.all (z9q n p):=by simp[y0o,h6]
    rw[e]
    refine y5r (i:=3) rfl (by simp;omega) (z9q n p) (fun _=>9) fun x hx=>?_
    have hw:=y9w (n:=n) (f:=f) (p:=p) x
    have vx:x05 3 ([some (x09 n f,9),some (.int (Int.ofNat p),9),some (.tup ds,x20 (.tup ds))]++[some (x,x20 x)])=some (x,x20 x,[some (x09 n f,9),some (.int (Int.ofNat p),9),some (.tup ds,x20 (.tup ds))]++[some (x,x20 x)]):=x5j rfl
    exact x0p (x0u (q:=9) (d:=x09 n f) (ρ1:=[some (x09 n f,9),some (.int (Int.ofNat p),9),some (.tup ds,x20 (.tup ds))]++[some (x,x20 x)]) rfl (x0u (q:=9) (d:=.int (Int.ofNat p)) (ρ1:=[some (x09 n f,9),some (.int (Int.ofNat p),9),some (.tup ds,x20 (.tup ds))]++[some (x,x20 x)]) rfl (x0z vx))) rfl hw
  ·have e:y0o n p (.tup ds)=false:=by simp[y0o,h6]
   have:(60:Int)<Int.ofNat ds.length:=by show(60:Int)<(ds.length:Int);omega
   rw[e]
   simp[-Int.ofNat_eq_natCast,isD,ll,this]
 | _=>simp[isD,y0o]
def x8n (n:Nat)(f:Nat->Nat->Nat):D->Bool
 | .tup [.int k,b,c]=>decide (1<=k)&&decide (k<=8)&&(y0f n f k.toNat b&&y0o n k.toNat c)
 | _=>false
theorem z1o (d:D):x36 [d]=some (.bl (match d with|.int k=>decide (1<=k)&&decide (k<=8)|_=>false),9):=by
 have hw:=x2l d
 unfold x36 x6y
 cases d with
 | int k=>by_cases k1:1<=k<;>by_cases k2:k<=8<;>simp[hw,k1,k2]
 | _=>simp[hw]
theorem y9t (hn:n<=1000)(d:D):x52 [x09 n f,d]=some (.bl (x8n n f d),9):=by
 unfold x52 y4l
 cases d with
 | tup ds=>
  by_cases h3:ds.length=3
  ·match ds,h3 with
   | [a,b,c],_=>
    have l3:dNe (.int 3) (.int 3)=some (.bl false):=(y5x _ _).trans (by simp)
    have a0:atD (.tup [a,b,c]) 0=some a:=rfl
    have a1:atD (.tup [a,b,c]) 1=some b:=rfl
    have a2:atD (.tup [a,b,c]) 2=some c:=rfl
    have ll:x5o (.tup [a,b,c])=some 3:=rfl
    have hw:=z1o a
    cases a with
    | int k=>
     by_cases k1:1<=k
     ·by_cases k2:k<=8
      ·obtain⟨m,rfl⟩:∃ m:Nat,k=Int.ofNat m:=⟨k.toNat,by show k=(k.toNat:Int);omega⟩
       have w:=y8w (f:=f) (p:=m) hn b
       have g:=y5d (n:=n) (f:=f) (p:=m) c
       have e:x8n n f (.tup [.int (Int.ofNat m),b,c])=(y0f n f m b&&y0o n m c):=by
        show(decide (1<=(m:Int))&&decide ((m:Int)<=8)&&(y0f n f (m:Int).toNat b&&y0o n (m:Int).toNat c))=_
        have k1':1<=(m:Int):=k1
        have k2':(m:Int)<=8:=k2
        rw[decide_eq_true k1',decide_eq_true k2',Int.toNat_natCast]
        rfl
       rw[e]
       rw[show(match D.int (Int.ofNat m)with|.int k=>decide (1<=k)&&decide (k<=8)|_=>false)=true by show(decide (1<=Int.ofNat m)&&decide (Int.ofNat m<=8))=true;rw[decide_eq_true k1,decide_eq_true k2];rfl]at hw
       cases hb:y0f n f m b<;>simp[-Int.ofNat_eq_natCast,isD,ll,l3,a0,a1,a2,hw,w,g,hb]
      ·simp[-x20,isD,ll,l3,a0,a1,a2,hw,k1,k2,x8n]
     ·simp[-x20,isD,ll,l3,a0,a1,a2,hw,k1,x8n]
    | lst es=>simp[isD,ll,l3,a0,hw,x8n]
    | _=>simp[isD,ll,l3,a0,hw,x8n]
  ·have e:x8n n f (.tup ds)=false:=by
    match ds,h3 with
    | [],_=>rfl
    | [x],_=>cases x<;>rfl
    | [x,_],_=>cases x<;>rfl
    | [_,_,_],h=>exact absurd rfl h
    | x::_::_::_::_,_=>cases x<;>rfl
   have l3:dNe (.int (Int.ofNat ds.length)) (.int 3)=some (.bl true):=z5r (k:=3) h3
   have ll:x5o (.tup ds)=some ds.length:=rfl
   rw[e]
   simp[-Int.ofNat_eq_natCast,isD,ll,l3]
 | _=>simp[isD,x8n]
end
structure Cht where
 p:Nat
 W:List (Nat×Nat×(Nat->Nat))
 B:List (Nat×Nat)
def x5u (n:Nat)(w:Nat×Nat×(Nat->Nat)):D:=.tup [.int (Int.ofNat w.1),.int (Int.ofNat w.2.1),x0c n w.2.2]
def x98 (b:Nat×Nat):D:=.tup [.int (Int.ofNat b.1),.int (Int.ofNat b.2)]
def x0e (n:Nat)(C:Cht):D:=.tup [.int (Int.ofNat C.p),.tup (C.W.map (x5u n)),.tup (C.B.map x98)]
def okW (n:Nat)(f:Nat->Nat->Nat)(p:Nat)(w:Nat×Nat×(Nat->Nat)):Prop:=w.1<p/\w.2.1<p/\(∀ i,i<n->w.2.2 i<n)/\∀ x y,x<n->y<n->f x y=y->f (w.2.2 x) (w.2.2 y)=w.2.2 y
def okB (n:Nat)(p:Nat)(b:Nat×Nat):Prop:=b.1<p/\b.2<n
structure Cht.Ok (n:Nat) (f:Nat->Nat->Nat) (C:Cht):Prop where
 p1:1<=C.p
 p8:C.p<=8
 w60:C.W.length<=60
 b60:C.B.length<=60
 ws:∀ w∈C.W,okW n f C.p w
 bs:∀ b∈C.B,okB n C.p b
@[simp] theorem j3p {n:Nat}{C:Cht}:(x0e n C).isL=false:=rfl
@[simp] theorem j7i {n:Nat}{w:Nat×Nat×(Nat->Nat)}:(x5u n w).isL=false:=rfl
@[simp] theorem j7h {b:Nat×Nat}:(x98 b).isL=false:=rfl
theorem x6k (ns:List Int){k:Int}(hk:0<=k){m:Int}(hm:0<m):∃ v:Nat,(v:Int)<m/\x0h [scr ns,.int k,.int m]=some (.int (Int.ofNat v),9):=by
 have h1:=x6e ns k hm
 have h2:=x7s ns k hm
 refine⟨(x8f ns k m).toNat,by omega,?_⟩
 rw[x6f ns k m hk hm]
 have:x8f ns k m=Int.ofNat (x8f ns k m).toNat:=by show _=(((x8f ns k m).toNat:Nat):Int);omega
 rw[<- this]
theorem y27 {m:Nat}(hm:m<=1000){fe:Den}{ρ ρ':Rho}{q:Nat}(h:fe ρ=some (.int (Int.ofNat m),q,ρ')):x15 (x01 fe x0g) ρ=some (x12 m,ρ'):=by
 have b1:(-1000:Int)<=Int.ofNat m:=by show(-1000:Int)<=m;omega
 have b2:Int.ofNat m<=1000:=by show(m:Int)<=1000;omega
 simp only[x15,x01,x0g,h]
 rw[if_pos ⟨b1,b2⟩]
 rfl
section
variable {n:Nat}{f:Nat->Nat->Nat}(L:Lad n f){z:Nat}(hz:z<n)(bz:∀ j,j<n->f z j=j)
include L hz bz
theorem z2h (ns:List Int)(t:Int)(h0:0<=t){p:Nat}(hp:1<=p)(m:Nat)(hm:m<=7) :
  ∃ W:List (Nat×Nat×(Nat->Nat)),W.length=m/\(∀ w∈W,okW n f p w)/\∃ a b c,y0n (x0n 6) x6i (x12 m) [some (scr ns,0),some (.int t,9),some (x09 n f,9),some (.bl false,9),some (.int (Int.ofNat p),9),some (.lst [],1),none,none,none,none,none]=some (.nx [some (scr ns,0),some (.int t,9),some (x09 n f,9),some (.bl false,9),some (.int (Int.ofNat p),9),some (.lst (W.map (x5u n)),1),a,b,c,none,none]):=by
 have hpp:(0:Int)<Int.ofNat p:=by show(0:Int)<(p:Int);omega
 obtain⟨ρ',e,W,hl,hok,a,b,c,rfl⟩:=x4c (pt:=x0n 6) (body:=x6i) (x12 m) (fun i ρ=>∃ W:List (Nat×Nat×(Nat->Nat)),W.length=i/\(∀ w∈W,okW n f p w)/\∃ a b c,ρ=[some (scr ns,0),some (.int t,9),some (x09 n f,9),some (.bl false,9),some (.int (Int.ofNat p),9),some (.lst (W.map (x5u n)),1),a,b,c,none,none]) [some (scr ns,0),some (.int t,9),some (x09 n f,9),some (.bl false,9),some (.int (Int.ofNat p),9),some (.lst [],1),none,none,none,none,none] (fun i hi ρ hh0=>by
  obtain⟨W,hl,hok,a,b,c,hr⟩:=hh0
  subst hr
  have hi':i<m:=by rw[x0q]at hi;exact hi
  obtain⟨x,hx⟩:∃ x:Int,x=t+10+22*Int.ofNat i:=⟨_,rfl⟩
  have hx0:0<=x:=by have:Int.ofNat i=(i:Int):=rfl;omega
  obtain⟨d,hd,hR⟩:=x97 L hz bz ns (x+2) (by omega)
  obtain⟨s,hs,es⟩:=x6k ns hx0 hpp
  obtain⟨g,hg,eg⟩:=x6k ns (show 0<=x+1 by omega) hpp
  have hs':s<p:=by have:(s:Int)<(p:Int):=hs;omega
  have hg':g<p:=by have:(g:Int)<(p:Int):=hg;omega
  have hok':okW n f p (s,g,Lad.lr n f z d):=⟨hs',hg',fun i _=>L.lr_lt hz bz hd i,fun x y hx hy e=>L.lr_rises hz bz hd hx hy e⟩
  generalize Lad.lr n f z d=r at *
  have hW:W.length<=1000:=by omega
  refine⟨[some (scr ns,0),some (.int t,9),some (x09 n f,9),some (.bl false,9),some (.int (Int.ofNat p),9),some (.lst (W.map (x5u n)),1),some (.int (Int.ofNat i),9),b,c,none,none],[some (scr ns,0),some (.int t,9),some (x09 n f,9),some (.bl false,9),some (.int (Int.ofNat p),9),some (.lst ((W++[(s,g,r)]).map (x5u n)),1),some (.int (Int.ofNat i),9),some (.int x,9),some (x0c n r,9),none,none],by rw[x3z];simp,.inl ?_,W++[(s,g,r)],by simp[hl],fun w hw=>?_,_,_,_,rfl⟩
  ·unfold x6i
   refine(x0j (ρ1:=[some (scr ns,0),some (.int t,9),some (x09 n f,9),some (.bl false,9),some (.int (Int.ofNat p),9),some (.lst (W.map (x5u n)),1),some (.int (Int.ofNat i),9),some (.int x,9),c,none,none]) (by rw[hx];simp[-Int.ofNat_eq_natCast])).trans ?_
   refine(x0j (ρ1:=[some (scr ns,0),some (.int t,9),some (x09 n f,9),some (.bl false,9),some (.int (Int.ofNat p),9),some (.lst (W.map (x5u n)),1),some (.int (Int.ofNat i),9),some (.int x,9),some (x0c n r,9),none,none]) (by simp[-Int.ofNat_eq_natCast,hR])).trans ?_
   refine(x0j (ρ1:=[some (scr ns,0),some (.int t,9),some (x09 n f,9),some (.bl false,9),some (.int (Int.ofNat p),9),some (.lst (W.map (x5u n)),1),some (.int (Int.ofNat i),9),some (.int x,9),some (x0c n r,9),none,none]) (by simp[-Int.ofNat_eq_natCast])).trans ?_
   simp[-Int.ofNat_eq_natCast,es,eg,hW,x5u]
  ·rcases List.mem_append.mp hw with h|h
   ·exact hok w h
   ·rw[List.mem_singleton.mp h];exact hok') ⟨[],rfl,(fun _ z=>nomatch z),none,none,none,rfl⟩
 rw[x0q]at hl
 exact⟨W,hl,hok,a,b,c,e⟩
theorem z1j (ns:List Int)(t:Int)(h0:0<=t){p:Nat}(hp:1<=p)(m:Nat)(hm:m<=3)(W:OD)(a b c:OD) :
  ∃ B:List (Nat×Nat),B.length=m/\(∀ w∈B,okB n p w)/\∃ a' h,y0n (x0n 6) x6d (x12 m) [some (scr ns,0),some (.int t,9),some (x09 n f,9),some (.bl false,9),some (.int (Int.ofNat p),9),W,a,b,c,some (.lst [],1),none]=some (.nx [some (scr ns,0),some (.int t,9),some (x09 n f,9),some (.bl false,9),some (.int (Int.ofNat p),9),W,a',b,c,some (.lst (B.map x98),1),h]):=by
 have hpp:(0:Int)<Int.ofNat p:=by show(0:Int)<(p:Int);omega
 have hnp:(0:Int)<Int.ofNat n:=by have:=L.lo;show(0:Int)<(n:Int);omega
 obtain⟨ρ',e,B,hl,hok,a',h,rfl⟩:=x4c (pt:=x0n 6) (body:=x6d) (x12 m) (fun i ρ=>∃ B:List (Nat×Nat),B.length=i/\(∀ w∈B,okB n p w)/\∃ a h,ρ=[some (scr ns,0),some (.int t,9),some (x09 n f,9),some (.bl false,9),some (.int (Int.ofNat p),9),W,a,b,c,some (.lst (B.map x98),1),h]) [some (scr ns,0),some (.int t,9),some (x09 n f,9),some (.bl false,9),some (.int (Int.ofNat p),9),W,a,b,c,some (.lst [],1),none] (fun i hi ρ hh0=>by
  obtain⟨B,hl,hok,a,h,hr⟩:=hh0
  subst hr
  have hi':i<m:=by rw[x0q]at hi;exact hi
  have hii:Int.ofNat i=(i:Int):=rfl
  obtain⟨v,hv,ev⟩:=x6k ns (show 0<=t+3+2*Int.ofNat i by omega) hnp
  obtain⟨g,hg,eg⟩:=x6k ns (show 0<=t+4+2*Int.ofNat i by omega) hpp
  have hv':v<n:=by have:(v:Int)<(n:Int):=hv;omega
  have hg':g<p:=by have:(g:Int)<(p:Int):=hg;omega
  have hB:B.length<=1000:=by omega
  refine⟨[some (scr ns,0),some (.int t,9),some (x09 n f,9),some (.bl false,9),some (.int (Int.ofNat p),9),W,some (.int (Int.ofNat i),9),b,c,some (.lst (B.map x98),1),h],[some (scr ns,0),some (.int t,9),some (x09 n f,9),some (.bl false,9),some (.int (Int.ofNat p),9),W,some (.int (Int.ofNat i),9),b,c,some (.lst ((B++[(g,v)]).map x98),1),some (.int (Int.ofNat v),9)],by rw[x3z];simp,.inl ?_,B++[(g,v)],by simp[hl],fun w hw=>?_,_,_,rfl⟩
  ·unfold x6d
   refine(x0j (ρ1:=[some (scr ns,0),some (.int t,9),some (x09 n f,9),some (.bl false,9),some (.int (Int.ofNat p),9),W,some (.int (Int.ofNat i),9),b,c,some (.lst (B.map x98),1),some (.int (Int.ofNat v),9)]) (by simp[-Int.ofNat_eq_natCast,x17,ev])).trans ?_
   simp[-Int.ofNat_eq_natCast,eg,hB,x98]
  ·rcases List.mem_append.mp hw with h|h
   ·exact hok w h
   ·rw[List.mem_singleton.mp h];exact⟨hg',hv'⟩) ⟨[],rfl,(fun _ z=>nomatch z),a,none,rfl⟩
 rw[x0q]at hl
 exact⟨B,hl,hok,a',h,e⟩
theorem y72 (ns:List Int)(t:Int)(h0:0<=t):∃ C:Cht,C.Ok n f/\C.p<=5/\C.W.length<=7/\C.B.length<=3/\x4q [scr ns,.int t,x09 n f,.bl false]=some (x0e n C,9):=by
 obtain⟨p0,hp0,ep⟩:=x6k ns h0 (m:=5) (by decide)
 obtain⟨mw,hmw,ew⟩:=x6k ns (show 0<=t+1 by omega) (m:=8) (by decide)
 obtain⟨mb,hmb,eb⟩:=x6k ns (show 0<=t+2 by omega) (m:=4) (by decide)
 obtain⟨p,hp⟩:∃ p:Nat,p=p0+1:=⟨_,rfl⟩
 have hp':(1:Int)+Int.ofNat p0=Int.ofNat p:=by show(1:Int)+(p0:Int)=(p:Int);omega
 obtain⟨W,hWl,hWok,a,b,c,eW⟩:=z2h L hz bz ns t h0 (p:=p) (by omega) mw (by omega)
 obtain⟨B,hBl,hBok,a',h,eB⟩:=z1j L hz bz ns t h0 (p:=p) (by omega) mb (by omega) (some (.lst (W.map (x5u n)),1)) a b c
 refine⟨⟨p,W,B⟩,⟨by show 1<=p;omega,by show p<=8;omega,by show W.length<=60;omega,by show B.length<=60;omega,hWok,hBok⟩,by show p<=5;omega,by show W.length<=7;omega,by show B.length<=3;omega,?_⟩
 unfold x4q y1a
 refine x1l ?_
 show x14 _ _ [some (scr ns,0),some (.int t,9),some (x09 n f,9),some (.bl false,9),none,none,none,none,none,none,none]=_
 refine(x0j (ρ1:=[some (scr ns,0),some (.int t,9),some (x09 n f,9),some (.bl false,9),some (.int (Int.ofNat p),9),none,none,none,none,none,none]) (by simp[-Int.ofNat_eq_natCast,ep,hp'])).trans ?_
 refine(x0j (ρ1:=[some (scr ns,0),some (.int t,9),some (x09 n f,9),some (.bl false,9),some (.int (Int.ofNat p),9),some (.lst [],1),none,none,none,none,none]) (by simp)).trans ?_
 refine(x0j ((x2p (ρ1:=[some (scr ns,0),some (.int t,9),some (x09 n f,9),some (.bl false,9),some (.int (Int.ofNat p),9),some (.lst [],1),none,none,none,none,none]) (y27 (m:=mw) (by omega) (q:=9) (by simp[-Int.ofNat_eq_natCast,ew]))).trans eW)).trans ?_
 refine(x0j (ρ1:=[some (scr ns,0),some (.int t,9),some (x09 n f,9),some (.bl false,9),some (.int (Int.ofNat p),9),some (.lst (W.map (x5u n)),1),a,b,c,some (.lst [],1),none]) (by simp)).trans ?_
 refine(x0j ((x2p (ρ1:=[some (scr ns,0),some (.int t,9),some (x09 n f,9),some (.bl false,9),some (.int (Int.ofNat p),9),some (.lst (W.map (x5u n)),1),a,b,c,some (.lst [],1),none]) (y27 (m:=mb) (by omega) (q:=9) (by simp[-Int.ofNat_eq_natCast,eb]))).trans eB)).trans ?_
 simp[-Int.ofNat_eq_natCast,x0e]
end
section
variable {n:Nat}{f:Nat->Nat->Nat}
theorem x9k (p s:Nat):x3a p (.int (Int.ofNat s))=decide (s<p):=by
 show(decide ((0:Int)<=(s:Int))&&decide ((s:Int)<(p:Int)))=_
 simp
theorem j1h {p:Nat}{w:Nat×Nat×(Nat->Nat)}(h:okW n f p w):z9i n f p (x5u n w)=true:=by
 show(x3a p (.int (Int.ofNat w.1))&&x3a p (.int (Int.ofNat w.2.1))&&rr n f (x0c n w.2.2))=true
 rw[x9k,x9k,j07 h.2.2.1,x84.mpr fun y x hy hx e=>h.2.2.2 x y hx hy e,decide_eq_true h.1,decide_eq_true h.2.1]
 rfl
theorem j35 {p:Nat}{b:Nat×Nat}(h:okB n p b):z9q n p (x98 b)=true:=by
 show(x3a p (.int (Int.ofNat b.1))&&x3a n (.int (Int.ofNat b.2)))=true
 rw[x9k,x9k,decide_eq_true h.1,decide_eq_true h.2]
 rfl
theorem z89 {p:Nat}{W:List (Nat×Nat×(Nat->Nat))}(hl:W.length<=60)(h:∀ w∈W,okW n f p w):y0f n f p (.tup (W.map (x5u n)))=true:=by
 simp only[y0f,List.length_map,Bool.and_eq_true,decide_eq_true_eq,List.all_eq_true]
 refine⟨hl,fun x hx=>?_⟩
 obtain⟨w,hw,rfl⟩:=List.mem_map.mp hx
 exact j1h (h w hw)
theorem z63 {p:Nat}{B:List (Nat×Nat)}(hl:B.length<=60)(h:∀ w∈B,okB n p w):y0o n p (.tup (B.map x98))=true:=by
 simp only[y0o,List.length_map,Bool.and_eq_true,decide_eq_true_eq,List.all_eq_true]
 refine⟨hl,fun x hx=>?_⟩
 obtain⟨w,hw,rfl⟩:=List.mem_map.mp hx
 exact j35 (h w hw)
theorem z3j (p:Nat)(b c:D):x8n n f (.tup [.int (Int.ofNat p),b,c])=(decide (1<=p)&&decide (p<=8)&&(y0f n f p b&&y0o n p c)):=by
 show(decide (1<=(p:Int))&&decide ((p:Int)<=8)&&(y0f n f (p:Int).toNat b&&y0o n (p:Int).toNat c))=_
 have e1:decide (1<=(p:Int))=decide (1<=p):=decide_eq_decide.mpr (by omega)
 have e2:decide ((p:Int)<=8)=decide (p<=8):=decide_eq_decide.mpr (by omega)
 rw[e1,e2,Int.toNat_natCast]
theorem z4a {C:Cht}(h:C.Ok n f):x8n n f (x0e n C)=true:=by
 unfold x0e
 rw[z3j,decide_eq_true h.p1,decide_eq_true h.p8,z89 h.w60 h.ws,z63 h.b60 h.bs]
 rfl
end
def y14 (b:Nat×Nat):ChS:=(b.1,fun _=>b.2)
def y5b (w:Nat×Nat×(Nat->Nat)):ChS:=(w.2.1,fun v=>w.2.2 (gv v w.1))
def x2m (C:Cht):List ChS:=C.B.map y14++C.W.map y5b
section
variable {n:Nat}{f:Nat->Nat->Nat}(L:Lad n f){C:Cht}(hC:C.Ok n f)
include L hC
theorem x87:∀ s∈x2m C,OkS n C.p f s:=fun s hs=>by
 unfold x2m at hs
 rcases List.mem_append.mp hs with h|h
 ·obtain⟨b,hb,rfl⟩:=List.mem_map.mp h
  have k:=hC.bs b hb
  exact⟨k.1,fun _ _=>k.2,fun _ _ _ _ _=>L.idem _ k.2⟩
 ·obtain⟨w,hw,rfl⟩:=List.mem_map.mp h
  have k:=hC.ws w hw
  exact⟨k.2.1,fun v hv=>k.2.2.1 _ (hv.gv k.1),fun u v hu hv e=>k.2.2.2 _ _ (hu.gv k.1) (hv.gv k.1) (e _ k.1)⟩
theorem x9n {v:List Nat}(hv:Vn n C.p v):x30 [x09 n f,x0e n C,.tup (x0f v)]=some (.tup (x0f ((x2m C).foldl (doS f) v)),9):=by
 have hW:=hC.w60
 have hB:=hC.b60
 obtain⟨j1,e1,hv1⟩:=y09 (J:=(OD×OD×OD×OD×OD×OD)) (pt:=y64 (x18 (x0n 3) (x18 (x0n 4) x5v))) (body:=x8o) x98 (fun v a=>[some (x09 n f,9),some (x0e n C,9),some (.lst (x0f v),1),(a).1,(a).2.1,(a).2.2.1,(a).2.2.2.1,(a).2.2.2.2.1,(a).2.2.2.2.2]) (fun v b=>doS f v (y14 b)) (Vn n C.p) C.B v (none,none,none,none,none,none) hv (fun b hb v a hv=>by
  have k:=hC.bs b hb
  have ok:=x87 L hC (y14 b) (List.mem_append_left _ (List.mem_map.mpr ⟨b,hb,rfl⟩))
  refine⟨L.doS_V ok hv,[some (x09 n f,9),some (x0e n C,9),some (.lst (x0f v),1),((some (D.int (Int.ofNat b.1),9),some (D.int (Int.ofNat b.2),9),a.2.2)).1,((some (D.int (Int.ofNat b.1),9),some (D.int (Int.ofNat b.2),9),a.2.2)).2.1,((some (D.int (Int.ofNat b.1),9),some (D.int (Int.ofNat b.2),9),a.2.2)).2.2.1,((some (D.int (Int.ofNat b.1),9),some (D.int (Int.ofNat b.2),9),a.2.2)).2.2.2.1,((some (D.int (Int.ofNat b.1),9),some (D.int (Int.ofNat b.2),9),a.2.2)).2.2.2.2.1,((some (D.int (Int.ofNat b.1),9),some (D.int (Int.ofNat b.2),9),a.2.2)).2.2.2.2.2],(some (D.int (Int.ofNat b.1),9),some (D.int (Int.ofNat b.2),9),a.2.2),by simp[-Int.ofNat_eq_natCast,x98],?_⟩
  have hl:b.1<v.length:=by rw[hv.len];exact k.1
  have a1:=j4v hl
  have a2:=x3u (f:=f) (hv.gv k.1)
  have a3:=x47 (f:=f) (i:=gv v b.1) k.2
  have a4:ixN (x0f v).length (Int.ofNat b.1)=some b.1:=x6w (by rw[x0x];exact hl)
  have a5:=z0l v b.1 (f (gv v b.1) b.2)
  unfold x8o doS y14
  simp[-Int.ofNat_eq_natCast,a1,a2,a3,a4,a5])
 obtain⟨j2,e2',hv2⟩:=y09 (J:=(OD×OD×OD×OD×OD×OD)) (pt:=y64 (x18 (x0n 5) (x18 (x0n 6) (x18 (x0n 7) x5v)))) (body:=x8p) (x5u n) (fun v a=>[some (x09 n f,9),some (x0e n C,9),some (.lst (x0f v),1),(a).1,(a).2.1,(a).2.2.1,(a).2.2.2.1,(a).2.2.2.2.1,(a).2.2.2.2.2]) (fun v w=>doS f v (y5b w)) (Vn n C.p) C.W (C.B.foldl (fun v b=>doS f v (y14 b)) v) j1 hv1 (fun w hw v a hv=>by
  have k:=hC.ws w hw
  have ok:=x87 L hC (y5b w) (List.mem_append_right _ (List.mem_map.mpr ⟨w,hw,rfl⟩))
  refine⟨L.doS_V ok hv,[some (x09 n f,9),some (x0e n C,9),some (.lst (x0f v),1),((a.1,a.2.1,some (D.int (Int.ofNat w.1),9),some (D.int (Int.ofNat w.2.1),9),some (x0c n w.2.2,9),a.2.2.2.2.2)).1,((a.1,a.2.1,some (D.int (Int.ofNat w.1),9),some (D.int (Int.ofNat w.2.1),9),some (x0c n w.2.2,9),a.2.2.2.2.2)).2.1,((a.1,a.2.1,some (D.int (Int.ofNat w.1),9),some (D.int (Int.ofNat w.2.1),9),some (x0c n w.2.2,9),a.2.2.2.2.2)).2.2.1,((a.1,a.2.1,some (D.int (Int.ofNat w.1),9),some (D.int (Int.ofNat w.2.1),9),some (x0c n w.2.2,9),a.2.2.2.2.2)).2.2.2.1,((a.1,a.2.1,some (D.int (Int.ofNat w.1),9),some (D.int (Int.ofNat w.2.1),9),some (x0c n w.2.2,9),a.2.2.2.2.2)).2.2.2.2.1,((a.1,a.2.1,some (D.int (Int.ofNat w.1),9),some (D.int (Int.ofNat w.2.1),9),some (x0c n w.2.2,9),a.2.2.2.2.2)).2.2.2.2.2],(a.1,a.2.1,some (D.int (Int.ofNat w.1),9),some (D.int (Int.ofNat w.2.1),9),some (x0c n w.2.2,9),some (D.int (Int.ofNat (w.2.2 (gv v w.1))),9)),by simp[-Int.ofNat_eq_natCast,x5u],?_⟩
  have hl:w.2.1<v.length:=by rw[hv.len];exact k.2.1
  have hl0:w.1<v.length:=by rw[hv.len];exact k.1
  have a0:=j4v hl0
  have a1:=j4v hl
  have b0:=x1x (r:=w.2.2) (hv.gv k.1)
  have a2:=x3u (f:=f) (hv.gv k.2.1)
  have a3:=x47 (f:=f) (i:=gv v w.2.1) (k.2.2.1 _ (hv.gv k.1))
  have a4:ixN (x0f v).length (Int.ofNat w.2.1)=some w.2.1:=x6w (by rw[x0x];exact hl)
  have a5:=z0l v w.2.1 (f (gv v w.2.1) (w.2.2 (gv v w.1)))
  unfold x8p doS y5b
  simp[-Int.ofNat_eq_natCast,a0,b0,a1,a2,a3,a4,a5])
 have ef:(x2m C).foldl (doS f) v=C.W.foldl (fun v w=>doS f v (y5b w)) (C.B.foldl (fun v b=>doS f v (y14 b)) v):=by
  unfold x2m
  rw[List.foldl_append,List.foldl_map,List.foldl_map]
 rw[ef]
 unfold x30 y03
 refine x1l ?_
 show x14 _ _ [some (x09 n f,9),some (x0e n C,9),some (.tup (x0f v),9),none,none,none,none,none,none]=_
 refine(x0j (ρ1:=[some (x09 n f,9),some (x0e n C,9),some (.lst (x0f v),1),(((none,none,none,none,none,none):(OD×OD×OD×OD×OD×OD))).1,(((none,none,none,none,none,none):(OD×OD×OD×OD×OD×OD))).2.1,(((none,none,none,none,none,none):(OD×OD×OD×OD×OD×OD))).2.2.1,(((none,none,none,none,none,none):(OD×OD×OD×OD×OD×OD))).2.2.2.1,(((none,none,none,none,none,none):(OD×OD×OD×OD×OD×OD))).2.2.2.2.1,(((none,none,none,none,none,none):(OD×OD×OD×OD×OD×OD))).2.2.2.2.2]) (by simp)).trans ?_
 refine(x0j ((x2p (ds:=C.B.map x98) (ρ1:=[some (x09 n f,9),some (x0e n C,9),some (.lst (x0f v),1),(((none,none,none,none,none,none):(OD×OD×OD×OD×OD×OD))).1,(((none,none,none,none,none,none):(OD×OD×OD×OD×OD×OD))).2.1,(((none,none,none,none,none,none):(OD×OD×OD×OD×OD×OD))).2.2.1,(((none,none,none,none,none,none):(OD×OD×OD×OD×OD×OD))).2.2.2.1,(((none,none,none,none,none,none):(OD×OD×OD×OD×OD×OD))).2.2.2.2.1,(((none,none,none,none,none,none):(OD×OD×OD×OD×OD×OD))).2.2.2.2.2]) (by
  have h:atD (x0e n C) 2=some (.tup (C.B.map x98)):=rfl
  have hB':C.B.length<=1000:=by omega
  simp[h,hB'])).trans e1)).trans ?_
 refine(x0j ((x2p (ds:=C.W.map (x5u n)) (ρ1:=[some (x09 n f,9),some (x0e n C,9),some (.lst (x0f (C.B.foldl (fun v b=>doS f v (y14 b)) v)),1),(j1).1,(j1).2.1,(j1).2.2.1,(j1).2.2.2.1,(j1).2.2.2.2.1,(j1).2.2.2.2.2]) (by
  have h:atD (x0e n C) 1=some (.tup (C.W.map (x5u n))):=rfl
  have hW':C.W.length<=1000:=by omega
  simp[h,hW'])).trans e2')).trans ?_
 simp
include L hC
structure Low (n:Nat) (f:Nat->Nat->Nat) (C:Cht) (v u:List Nat):Prop where
 V:Vn n C.p u
 cl:ClS f (x2m C) u
 up:leV f C.p v u
 le:∀ a,Vn n C.p a->ClS f (x2m C) a->leV f C.p v a->leV f C.p u a
theorem y68 {v:List Nat}(hv:Vn n C.p v):∃ u,Low n f C v u/\x4f [x09 n f,x0e n C,.tup (x0f v)]=some (.tup (x0f u),9):=by
 have hS:=x87 L hC
 have hp8:=hC.p8
 have hn8:=L.hi
 have hmu:=Lad.mu_le (f:=f) hv
 have hmu':C.p*n<=8*16:=Nat.mul_le_mul hp8 hn8
 obtain⟨ρ',e,u,hu,rfl⟩:=y4q (c:=x3c (e2 dNe (x05 3) (x05 2))) (b:=x8l) (Q:=fun ρ=>∃ u,Low n f C v u/\ρ=[some (x09 n f,9),some (x0e n C,9),some (.tup (x0f u),9),some (.tup (x0f u),9)])
  (fun k ρ=>∃ w,Vn n C.p w/\leV f C.p v w/\(∀ a,Vn n C.p a->ClS f (x2m C) a->leV f C.p v a->leV f C.p w a)/\Lad.mu n f w=k/\ρ=[some (x09 n f,9),some (x0e n C,9),some (.tup (x0f w),9),some (.tup (x0f ((x2m C).foldl (doS f) w)),9)])
  (k:=Lad.mu n f v) (ρ:=[some (x09 n f,9),some (x0e n C,9),some (.tup (x0f v),9),some (.tup (x0f ((x2m C).foldl (doS f) v)),9)]) (by omega) ⟨v,hv,L.leV_refl hv,fun a ha _ h=>h,rfl,rfl⟩ (fun k ρ hh0=>by
   obtain⟨w,hw,h1,h2,h3,hr⟩:=hh0
   subst hr
   have hw':=L.foldS_V hS hw
   by_cases e:(x2m C).foldl (doS f) w=w
   ·refine .inl ⟨[some (x09 n f,9),some (x0e n C,9),some (.tup (x0f w),9),some (.tup (x0f w),9)],?_,w,⟨hw,(L.foldS_fix hS hw).mp e,h1,h2⟩,rfl⟩
    rw[e]
    simp[y5a]
   ·refine .inr ⟨[some (x09 n f,9),some (x0e n C,9),some (.tup (x0f w),9),some (.tup (x0f ((x2m C).foldl (doS f) w)),9)],[some (x09 n f,9),some (x0e n C,9),some (.tup (x0f ((x2m C).foldl (doS f) w)),9),some (.tup (x0f ((x2m C).foldl (doS f) ((x2m C).foldl (doS f) w))),9)],Lad.mu n f ((x2m C).foldl (doS f) w),?_,?_,?_,_,hw',L.leV_trans hv hw hw' h1 (L.foldS_up hS hw),fun a ha ca hva=>L.foldS_below ha hS hw ca (h2 a ha ca hva),rfl,rfl⟩
    ·simp[y5a,e]
    ·have r:=x9n L hC hw'
     generalize (x2m C).foldl (doS f) w=w' at *
     unfold x8l
     simp[r]
    ·rw[<- h3]
     exact L.mu_lt hw hw' (L.foldS_up hS hw) (fun z=>e z.symm))
 refine⟨u,hu,?_⟩
 unfold x4f x9u
 refine x1l ?_
 show x14 _ _ [some (x09 n f,9),some (x0e n C,9),some (.tup (x0f v),9),none]=_
 refine(x0j (ρ1:=[some (x09 n f,9),some (x0e n C,9),some (.tup (x0f v),9),some (.tup (x0f ((x2m C).foldl (doS f) v)),9)]) (by simp[x9n L hC hv])).trans ?_
 refine(x0j e).trans ?_
 simp
end
abbrev Sn:=Bool×Nat
def x0s (s:Sn):D:=.tup [.str (if s.1 then "begin" else "way"),.int (Int.ofNat s.2)]
@[simp] theorem j65 {s:Sn}:(x0s s).isL=false:=rfl
def okN (C:Cht)(s:Sn):Prop:=s.2<(if s.1 then C.B.length else C.W.length)
def x4o (C:Cht)(s:Sn):ChS:=if s.1 then y14 (C.B.getD s.2 (0,0))else y5b (C.W.getD s.2 (0,0,id))
def z69 (C:Cht):List Sn:=(List.range C.B.length).map (fun k=>(true,k))++(List.range C.W.length).map (fun k=>(false,k))
theorem j0e (C:Cht):∀ s∈z69 C,okN C s:=fun s hs=>by
 unfold z69 at hs
 rcases List.mem_append.mp hs with h|h
 ·obtain⟨k,hk,rfl⟩:=List.mem_map.mp h
  exact List.mem_range.mp hk
 ·obtain⟨k,hk,rfl⟩:=List.mem_map.mp h
  exact List.mem_range.mp hk
theorem z0t {α β:Type}(l:List α)(d:α)(g:α->β):(List.range l.length).map (fun k=>g (l.getD k d))=l.map g:=by
 apply List.ext_getElem?
 intro k
 by_cases hk:k<l.length
 ·simp[hk]
 ·rw[List.getElem?_eq_none (by simp;omega),List.getElem?_eq_none (by simp;omega)]
theorem z7m (C:Cht):(z69 C).map (x4o C)=x2m C:=by
 unfold z69 x2m
 rw[List.map_append,List.map_map,List.map_map,<- z0t C.B (0,0) y14,<- z0t C.W (0,0,id) y5b]
 rfl
theorem y65 {C:Cht}{s:Sn}(h:okN C s):x4o C s∈x2m C:=by
 unfold okN at h
 unfold x4o x2m
 cases hb:s.1 with
 | true=>
  rw[hb]at h
  have h':s.2<C.B.length:=h
  refine List.mem_append_left _ (List.mem_map.mpr ⟨C.B.getD s.2 (0,0),?_,rfl⟩)
  rw[List.getD_eq_getElem?_getD,List.getElem?_eq_getElem h']
  exact List.getElem_mem h'
 | false=>
  rw[hb]at h
  have h':s.2<C.W.length:=h
  refine List.mem_append_right _ (List.mem_map.mpr ⟨C.W.getD s.2 (0,0,id),?_,rfl⟩)
  rw[List.getD_eq_getElem?_getD,List.getElem?_eq_getElem h']
  exact List.getElem_mem h'
theorem z7g:dEq (.str "begin") (.str "begin")=some (.bl true):=by
 have h:okD (.str "begin")=true:=by decide +kernel
 unfold dEq
 rw[if_pos ⟨h,h⟩]
 rfl
theorem j4e:dEq (.str "way") (.str "begin")=some (.bl false):=by
 have h:okD (.str "begin")=true:=by decide +kernel
 have h':okD (.str "way")=true:=by decide +kernel
 have e:eqD (.str "way") (.str "begin")=false:=by decide +kernel
 unfold dEq
 rw[if_pos ⟨h',h⟩,e]
theorem j56 {v:List Nat}{p:Nat}(hp:p<v.length):L3.j5m (x0f v) none (some (Int.ofNat p))=x0f (v.take p):=by
 unfold L3.j5m
 have e1:HT.sIx (x0f v).length 0 none=0:=rfl
 have e2:HT.sIx (x0f v).length (x0f v).length (some (Int.ofNat p))=p:=by
  rw[x0x]
  have:¬ ((p:Int)<0):=by omega
  simp[HT.sIx,this]
  omega
 rw[e1,e2,List.drop_zero,Nat.sub_zero]
 simp only[x0f,List.map_take]
theorem z8a {v:List Nat}{p:Nat}(hp:p<v.length):L3.j5m (x0f v) (some (Int.ofNat p+1)) none=x0f (v.drop (p+1)):=by
 unfold L3.j5m
 have e1:HT.sIx (x0f v).length 0 (some (Int.ofNat p+1))=p+1:=by
  rw[x0x]
  have:¬ ((p:Int)+1<0):=by omega
  simp[HT.sIx,this]
  omega
 have e2:HT.sIx (x0f v).length (x0f v).length none=(x0f v).length:=rfl
 rw[e1,e2,List.take_of_length_le (by rw[List.length_drop];exact Nat.le_refl _)]
 simp only[x0f,List.map_drop]
theorem j2e {v:List Nat}{p x:Nat}(hp:p<v.length):x0f (v.take p)++[.int (Int.ofNat x)]++x0f (v.drop (p+1))=x0f (v.set p x):=by
 rw[List.set_eq_take_append_cons_drop,if_pos hp]
 simp[x0f]
section
variable {n:Nat}{f:Nat->Nat->Nat}(L:Lad n f){C:Cht}(hC:C.Ok n f)
include L hC
theorem z8c {v:List Nat}(hv:Vn n C.p v){s:Sn}(hs:okN C s):x2s [x0e n C,.tup (x0f v),x0s s]=some (.tup [.int (Int.ofNat (x4o C s).1),.int (Int.ofNat ((x4o C s).2 v))],9):=by
 obtain⟨b,k⟩:=s
 unfold okN at hs
 unfold x2s x5y
 have c1:atD (x0e n C) 1=some (.tup (C.W.map (x5u n))):=rfl
 have c2:atD (x0e n C) 2=some (.tup (C.B.map x98)):=rfl
 cases b with
 | true=>
  have hk:k<C.B.length:=hs
  have s0:atD (x0s (true,k)) 0=some (.str "begin"):=rfl
  have s1:atD (x0s (true,k)) 1=some (.int (Int.ofNat k)):=rfl
  have e:atD (.tup (C.B.map x98)) (Int.ofNat k)=some (x98 (C.B.getD k (0,0))):=y7r (by rw[List.getElem?_map,List.getElem?_eq_getElem hk];simp[hk])
  have hst:x4o C (true,k)=y14 (C.B.getD k (0,0)):=rfl
  rw[hst]
  generalize C.B.getD k (0,0)=b at *
  generalize x0s (true,k)=sd at *
  have hb:x98 b=.tup [.int (Int.ofNat (y14 b).1),.int (Int.ofNat ((y14 b).2 v))]:=rfl
  rw[<- hb]
  simp[-Int.ofNat_eq_natCast,s0,s1,c2,e,z7g]
 | false=>
  have hk:k<C.W.length:=hs
  have s0:atD (x0s (false,k)) 0=some (.str "way"):=rfl
  have s1:atD (x0s (false,k)) 1=some (.int (Int.ofNat k)):=rfl
  have e:atD (.tup (C.W.map (x5u n))) (Int.ofNat k)=some (x5u n (C.W.getD k (0,0,id))):=y7r (by rw[List.getElem?_map,List.getElem?_eq_getElem hk];simp[hk])
  have hst:x4o C (false,k)=y5b (C.W.getD k (0,0,id)):=rfl
  have hw:C.W.getD k (0,0,id)∈C.W:=by
   rw[List.getD_eq_getElem?_getD,List.getElem?_eq_getElem hk]
   exact List.getElem_mem hk
  have ok:=hC.ws _ hw
  rw[hst]
  generalize C.W.getD k (0,0,id)=w at *
  have w0:atD (x5u n w) 0=some (.int (Int.ofNat w.1)):=rfl
  have w1:atD (x5u n w) 1=some (.int (Int.ofNat w.2.1)):=rfl
  have w2:atD (x5u n w) 2=some (x0c n w.2.2):=rfl
  have a0:=j7k (v:=v) (i:=w.1) (by rw[hv.len];exact ok.1)
  have a1:=x1x (r:=w.2.2) (hv.gv ok.1)
  have hst':x0s (false,k)=x0s (false,k):=rfl
  generalize hsd:x0s (false,k)=sd at *
  have hL:sd.isL=false:=by rw[<- hsd];rfl
  show _=some (D.tup [.int (Int.ofNat w.2.1),.int (Int.ofNat (w.2.2 (gv v w.1)))],9)
  generalize hwt:x5u n w=wt at *
  have hL2:wt.isL=false:=by rw[<- hwt];rfl
  simp[-Int.ofNat_eq_natCast,s0,s1,c1,e,j4e,w0,w1,w2,a0,a1,hL,hL2]
theorem z4i {v:List Nat}(hv:Vn n C.p v){s:Sn}(hs:okN C s):x2e [x09 n f,x0e n C,.tup (x0f v),x0s s]=some (.tup (x0f (doS f v (x4o C s))),9):=by
 have ok:=x87 L hC _ (y65 hs)
 have hp:=z8c L hC hv hs
 have hx:=ok.lt v hv
 have hg:=hv.gv ok.pl
 have hpl:(x4o C s).1<v.length:=by rw[hv.len];exact ok.pl
 have hp8:=hC.p8
 have hl:=hv.len
 unfold doS
 generalize (x4o C s).1=g at *
 generalize (x4o C s).2 v=x at *
 have a0:=j7k hpl
 have a1:=x3u (f:=f) hg
 have a2:=x47 (f:=f) (i:=gv v g) hx
 have s1:=j56 hpl
 have s2:=z8a hpl
 have s3:=j2e (x:=f (gv v g) x) hpl
 have l1:(x0f (v.take g)).length=g:=by rw[x0x,List.length_take];omega
 have l2:(x0f (v.drop (g+1))).length=v.length-(g+1):=by rw[x0x,List.length_drop]
 unfold x2e x7g
 refine x1l ?_
 show x14 _ _ [some (x09 n f,9),some (x0e n C,9),some (.tup (x0f v),9),some (x0s s,9),none,none,none]=_
 refine(x0j (ρ1:=[some (x09 n f,9),some (x0e n C,9),some (.tup (x0f v),9),some (x0s s,9),some (.tup [.int (Int.ofNat g),.int (Int.ofNat x)],9),none,none]) (by simp[-Int.ofNat_eq_natCast,hp])).trans ?_
 have t0:atD (.tup [.int (Int.ofNat g),.int (Int.ofNat x)]) 0=some (.int (Int.ofNat g)):=rfl
 have t1:atD (.tup [.int (Int.ofNat g),.int (Int.ofNat x)]) 1=some (.int (Int.ofNat x)):=rfl
 refine(x0j (ρ1:=[some (x09 n f,9),some (x0e n C,9),some (.tup (x0f v),9),some (x0s s,9),some (.tup [.int (Int.ofNat g),.int (Int.ofNat x)],9),some (.int (Int.ofNat g),9),none]) (by simp[-Int.ofNat_eq_natCast,t0])).trans ?_
 refine(x0j (ρ1:=[some (x09 n f,9),some (x0e n C,9),some (.tup (x0f v),9),some (x0s s,9),some (.tup [.int (Int.ofNat g),.int (Int.ofNat x)],9),some (.int (Int.ofNat g),9),some (.int (Int.ofNat (f (gv v g) x)),9)]) (by simp[-Int.ofNat_eq_natCast,a0,a1,a2,t1])).trans ?_
 rw[<- s3]
 have m1:(x0f (v.take g)).length+1<=1000:=by omega
 have m2:(x0f (v.take g)).length+1+(x0f (v.drop (g+1))).length<=1000:=by omega
 generalize x0f (v.take g)=u1 at *
 generalize x0f (v.drop (g+1))=u2 at *
 have m1':u1.length<=999:=by omega
 simp[-Int.ofNat_eq_natCast,s1,s2,m1,m1',m2]
structure LowS (n:Nat) (f:Nat->Nat->Nat) (p:Nat) (l:List ChS) (v u:List Nat):Prop where
 V:Vn n p u
 cl:ClS f l u
 up:leV f p v u
 le:∀ a,Vn n p a->ClS f l a->leV f p v a->leV f p u a
theorem z8u {v:List Nat}(hv:Vn n C.p v){l:List Sn}(hl:∀ s∈l,okN C s)(hlen:l.length<=1000) :
  ∃ (u:List Nat) (R:List Sn),LowS n f C.p (l.map (x4o C)) v u/\(∀ s∈R,s∈l)/\(R.map (x4o C)).foldl (doS f) v=u/\Lad.mu n f u+R.length<=Lad.mu n f v/\y2r [x09 n f,x0e n C,.lst (l.map x0s),.tup (x0f v)]=some (.tup [.tup (x0f u),.lst (R.map x0s)],9):=by
 have hp8:=hC.p8
 have hn8:=L.hi
 have hmu:=Lad.mu_le (f:=f) hv
 have hmu':C.p*n<=8*16:=Nat.mul_le_mul hp8 hn8
 have hS:∀ t∈l.map (x4o C),OkS n C.p f t:=fun t ht=>by
  obtain⟨s,hs,rfl⟩:=List.mem_map.mp ht
  exact x87 L hC _ (y65 (hl s hs))
 -- one round
 have round:∀ (w:List Nat) (R:List Sn) (a:OD) (j:(OD×OD)),Vn n C.p w->(∀ s∈R,s∈l)->(R.map (x4o C)).foldl (doS f) v=w->Lad.mu n f w+R.length<=Lad.mu n f v->
   ∃ (R':List Sn) (j':(OD×OD)),(∀ s∈R',s∈l)/\(R'.map (x4o C)).foldl (doS f) v=(l.map (x4o C)).foldl (doS f) w/\Lad.mu n f ((l.map (x4o C)).foldl (doS f) w)+R'.length<=Lad.mu n f v /\
    y0n (x0n 6) y29 (l.map x0s) [some (x09 n f,9),some (x0e n C,9),some (.lst (l.map x0s),0),some (.tup (x0f w),9),some (.lst ((R).map x0s),1),a,(j).1,(j).2]=some (.nx [some (x09 n f,9),some (x0e n C,9),some (.lst (l.map x0s),0),some (.tup (x0f ((l.map (x4o C)).foldl (doS f) w)),9),some (.lst ((R').map x0s),1),a,(j').1,(j').2]):=fun w R a j hw h1 h2 h3=>by
  obtain⟨j',e,i1,i2,i3,i4⟩:=y09 (J:=(OD×OD)) (pt:=x0n 6) (body:=y29) x0s (fun(σ:List Nat×List Sn) j=>[some (x09 n f,9),some (x0e n C,9),some (.lst (l.map x0s),0),some (.tup (x0f σ.1),9),some (.lst ((σ.2).map x0s),1),a,(j).1,(j).2]) (fun σ s=>(doS f σ.1 (x4o C s),if doS f σ.1 (x4o C s)=σ.1 then σ.2 else σ.2++[s]))
   (fun σ=>Vn n C.p σ.1/\(∀ s∈σ.2,s∈l)/\(σ.2.map (x4o C)).foldl (doS f) v=σ.1/\Lad.mu n f σ.1+σ.2.length<=Lad.mu n f v) l (w,R) j ⟨hw,h1,h2,h3⟩ (fun s hs σ j hh0=>by
    obtain⟨k1,k2,k3,k4⟩:=hh0
    obtain⟨x,Q⟩:=σ
    dsimp only at k1 k2 k3 k4 ⊢
    have ok:=x87 L hC _ (y65 (hl s hs))
    have hb:=z4i L hC k1 (hl s hs)
    have hx':=L.doS_V ok k1
    by_cases he:doS f x (x4o C s)=x
    ·rw[if_pos he]
     refine⟨⟨hx',k2,by rw[he];exact k3,by rw[he];exact k4⟩,[some (x09 n f,9),some (x0e n C,9),some (.lst (l.map x0s),0),some (.tup (x0f x),9),some (.lst ((Q).map x0s),1),a,(((some (x0s s,9),j.2):(OD×OD))).1,(((some (x0s s,9),j.2):(OD×OD))).2],(some (x0s s,9),some (.tup (x0f (doS f x (x4o C s))),9)),by simp,?_⟩
     unfold y29
     refine(x0j (ρ1:=[some (x09 n f,9),some (x0e n C,9),some (.lst (l.map x0s),0),some (.tup (x0f x),9),some (.lst ((Q).map x0s),1),a,(((some (x0s s,9),some (.tup (x0f (doS f x (x4o C s))),9)):(OD×OD))).1,(((some (x0s s,9),some (.tup (x0f (doS f x (x4o C s))),9)):(OD×OD))).2]) (by simp[hb])).trans ?_
     refine(x0j (ρ1:=[some (x09 n f,9),some (x0e n C,9),some (.lst (l.map x0s),0),some (.tup (x0f x),9),some (.lst ((Q).map x0s),1),a,(((some (x0s s,9),some (.tup (x0f (doS f x (x4o C s))),9)):(OD×OD))).1,(((some (x0s s,9),some (.tup (x0f (doS f x (x4o C s))),9)):(OD×OD))).2]) (by rw[he];simp[y5a])).trans ?_
     simp
    ·rw[if_neg he]
     have hlt:=L.mu_lt k1 hx' (L.doS_up ok k1) (fun z=>he z.symm)
     refine⟨⟨hx',fun t ht=>?_,?_,by rw[List.length_append];show _+(Q.length+1)<=_;omega⟩,[some (x09 n f,9),some (x0e n C,9),some (.lst (l.map x0s),0),some (.tup (x0f x),9),some (.lst ((Q).map x0s),1),a,(((some (x0s s,9),j.2):(OD×OD))).1,(((some (x0s s,9),j.2):(OD×OD))).2],(some (x0s s,9),some (.tup (x0f (doS f x (x4o C s))),9)),by simp,?_⟩
     ·rcases List.mem_append.mp ht with h|h
      ·exact k2 t h
      ·rw[List.mem_singleton.mp h];exact hs
     ·rw[List.map_append,List.foldl_append,k3];rfl
     ·unfold y29
      have hQ:Q.length<=1000:=by omega
      refine(x0j (ρ1:=[some (x09 n f,9),some (x0e n C,9),some (.lst (l.map x0s),0),some (.tup (x0f x),9),some (.lst ((Q).map x0s),1),a,(((some (x0s s,9),some (.tup (x0f (doS f x (x4o C s))),9)):(OD×OD))).1,(((some (x0s s,9),some (.tup (x0f (doS f x (x4o C s))),9)):(OD×OD))).2]) (by simp[hb])).trans ?_
      refine(x0j (ρ1:=[some (x09 n f,9),some (x0e n C,9),some (.lst (l.map x0s),0),some (.tup (x0f x),9),some (.lst (((Q++[s])).map x0s),1),a,(((some (x0s s,9),some (.tup (x0f (doS f x (x4o C s))),9)):(OD×OD))).1,(((some (x0s s,9),some (.tup (x0f (doS f x (x4o C s))),9)):(OD×OD))).2]) (by
       generalize doS f x (x4o C s)=y at *
       simp[y5a,he,hQ])).trans ?_
      simp)
  have ef:∀ (l:List Sn) (σ:List Nat×List Sn),(l.foldl (fun(σ:List Nat×List Sn) s=>(doS f σ.1 (x4o C s),if doS f σ.1 (x4o C s)=σ.1 then σ.2 else σ.2++[s])) σ).1=(l.map (x4o C)).foldl (doS f) σ.1:=by
   intro l
   induction l with
   | nil=>intro σ;rfl
   | cons s l ih=>intro σ;exact ih _
  have ef':=ef l (w,R)
  generalize l.foldl (fun(σ:List Nat×List Sn) s=>(doS f σ.1 (x4o C s),if doS f σ.1 (x4o C s)=σ.1 then σ.2 else σ.2++[s])) (w,R)=σ at *
  obtain⟨x,Q⟩:=σ
  dsimp only at ef' i1 i2 i3 i4 e
  have ef2:x=(l.map (x4o C)).foldl (doS f) w:=ef'
  subst ef2
  exact⟨Q,j',i2,i3,i4,e⟩
 -- all rounds
 obtain⟨ρ',e,u,R,j,hu,hR1,hR2,hR3,rfl⟩:=y4q (c:=x3c (e2 dNe (x05 3) (x05 5))) (b:=y5m)
  (Q:=fun ρ=>∃ (u:List Nat) (R:List Sn),∃ j:(OD×OD),LowS n f C.p (l.map (x4o C)) v u/\(∀ s∈R,s∈l)/\(R.map (x4o C)).foldl (doS f) v=u/\Lad.mu n f u+R.length<=Lad.mu n f v/\ρ=[some (x09 n f,9),some (x0e n C,9),some (.lst (l.map x0s),0),some (.tup (x0f u),9),some (.lst ((R).map x0s),1),some (.tup (x0f u),9),(j).1,(j).2])
  (fun k ρ=>∃ (w:List Nat) (R:List Sn),∃ j:(OD×OD),∃ a:D,Vn n C.p w/\leV f C.p v w/\(∀ x,Vn n C.p x->ClS f (l.map (x4o C)) x->leV f C.p v x->leV f C.p w x)/\(∀ s∈R,s∈l)/\(R.map (x4o C)).foldl (doS f) v=w/\Lad.mu n f w+R.length<=Lad.mu n f v /\
    ((a=.non/\k=Lad.mu n f w+1)\/∃ y,a=.tup (x0f y)/\Vn n C.p y/\w=(l.map (x4o C)).foldl (doS f) y/\k=Lad.mu n f w+(if y=w then 0 else 1))/\ρ=[some (x09 n f,9),some (x0e n C,9),some (.lst (l.map x0s),0),some (.tup (x0f w),9),some (.lst ((R).map x0s),1),some (a,9),(j).1,(j).2])
  (k:=Lad.mu n f v+1) (ρ:=[some (x09 n f,9),some (x0e n C,9),some (.lst (l.map x0s),0),some (.tup (x0f v),9),some (.lst ((([]:List Sn)).map x0s),1),some (.non,9),(((none,none):(OD×OD))).1,(((none,none):(OD×OD))).2]) (by omega) ⟨v,[],(none,none),.non,hv,L.leV_refl hv,fun x _ _ h=>h,(fun _ z=>nomatch z),rfl,Nat.le_refl _,.inl ⟨rfl,rfl⟩,rfl⟩ (fun k ρ hh0=>by
   obtain⟨w,R,j,a,hw,h1,h2,h3,h4,h5,h6,hr⟩:=hh0
   subst hr
   have next:(x3c (e2 dNe (x05 3) (x05 5)) [some (x09 n f,9),some (x0e n C,9),some (.lst (l.map x0s),0),some (.tup (x0f w),9),some (.lst ((R).map x0s),1),some (a,9),(j).1,(j).2]=some (true,[some (x09 n f,9),some (x0e n C,9),some (.lst (l.map x0s),0),some (.tup (x0f w),9),some (.lst ((R).map x0s),1),some (a,9),(j).1,(j).2]))->Lad.mu n f w+1<=k->∃ ρ1 ρ2 k',x3c (e2 dNe (x05 3) (x05 5)) [some (x09 n f,9),some (x0e n C,9),some (.lst (l.map x0s),0),some (.tup (x0f w),9),some (.lst ((R).map x0s),1),some (a,9),(j).1,(j).2]=some (true,ρ1)/\y5m ρ1=some (.nx ρ2)/\k'<k/\∃ (w:List Nat) (R:List Sn),∃ j:(OD×OD),∃ a:D,Vn n C.p w/\leV f C.p v w/\(∀ x,Vn n C.p x->ClS f (l.map (x4o C)) x->leV f C.p v x->leV f C.p w x)/\(∀ s∈R,s∈l)/\(R.map (x4o C)).foldl (doS f) v=w/\Lad.mu n f w+R.length<=Lad.mu n f v /\
   ((a=.non/\k'=Lad.mu n f w+1)\/∃ y,a=.tup (x0f y)/\Vn n C.p y/\w=(l.map (x4o C)).foldl (doS f) y/\k'=Lad.mu n f w+(if y=w then 0 else 1))/\ρ2=[some (x09 n f,9),some (x0e n C,9),some (.lst (l.map x0s),0),some (.tup (x0f w),9),some (.lst ((R).map x0s),1),some (a,9),(j).1,(j).2]:=fun ht hk=>by
    obtain⟨R',j',r1,r2,r3,r4⟩:=round w R (some (.tup (x0f w),9)) j hw h3 h4 h5
    have hw':=L.foldS_V hS hw
    have up:=L.foldS_up hS hw
    refine⟨_,[some (x09 n f,9),some (x0e n C,9),some (.lst (l.map x0s),0),some (.tup (x0f ((l.map (x4o C)).foldl (doS f) w)),9),some (.lst ((R').map x0s),1),some (.tup (x0f w),9),(j').1,(j').2],Lad.mu n f ((l.map (x4o C)).foldl (doS f) w)+(if w=(l.map (x4o C)).foldl (doS f) w then 0 else 1),ht,?_,?_,_,R',j',.tup (x0f w),hw',L.leV_trans hv hw hw' h1 up,fun x hx cx hvx=>L.foldS_below hx hS hw cx (h2 x hx cx hvx),r1,r2,r3,.inr ⟨w,rfl,hw,rfl,rfl⟩,rfl⟩
    ·unfold y5m
     refine(x0j (ρ1:=[some (x09 n f,9),some (x0e n C,9),some (.lst (l.map x0s),0),some (.tup (x0f w),9),some (.lst ((R).map x0s),1),some (.tup (x0f w),9),(j).1,(j).2]) (by simp)).trans ?_
     exact(x2p (ds:=l.map x0s) (ρ1:=[some (x09 n f,9),some (x0e n C,9),some (.lst (l.map x0s),0),some (.tup (x0f w),9),some (.lst ((R).map x0s),1),some (.tup (x0f w),9),(j).1,(j).2]) (by simp[hlen])).trans r4
    ·by_cases he:w=(l.map (x4o C)).foldl (doS f) w
     ·rw[if_pos he,<- he];omega
     ·rw[if_neg he]
      have:=L.mu_lt hw hw' up he
      omega
   rcases h6 with⟨rfl,hk⟩|⟨y,rfl,hy,hwy,hk⟩
   ·refine .inr (next ?_ (by omega))
    have hne:dNe (.tup (x0f w)) .non=some (.bl true):=by
     unfold dNe
     rw[if_pos ⟨(j72 w).ok,(Sh.non (k:=0)).ok⟩]
     rfl
    simp[hne]
   ·by_cases hyw:y=w
    ·subst hyw
     refine .inl ⟨[some (x09 n f,9),some (x0e n C,9),some (.lst (l.map x0s),0),some (.tup (x0f y),9),some (.lst ((R).map x0s),1),some (.tup (x0f y),9),(j).1,(j).2],by simp[y5a],y,R,j,⟨hw,(L.foldS_fix hS hw).mp hwy.symm,h1,h2⟩,h3,h4,h5,rfl⟩
    ·rw[if_neg hyw]at hk
     refine .inr (next ?_ (by omega))
     have:¬ (w=y):=fun z=>hyw z.symm
     simp[y5a,this])
 refine⟨u,R,hu,hR1,hR2,hR3,?_⟩
 unfold y2r z5m
 refine x1l ?_
 show x14 _ _ [some (x09 n f,9),some (x0e n C,9),some (.lst (l.map x0s),0),some (.tup (x0f v),9),none,none,none,none]=_
 refine(x0j (ρ1:=[some (x09 n f,9),some (x0e n C,9),some (.lst (l.map x0s),0),some (.tup (x0f v),9),some (.lst [],1),none,none,none]) (by simp)).trans ?_
 refine(x0j (ρ1:=[some (x09 n f,9),some (x0e n C,9),some (.lst (l.map x0s),0),some (.tup (x0f v),9),some (.lst ((([]:List Sn)).map x0s),1),some (.non,9),(((none,none):(OD×OD))).1,(((none,none):(OD×OD))).2]) (by simp)).trans ?_
 refine(x0j e).trans ?_
 simp
end
theorem dg1 (a b:D):y8h ["begin","way"] [a,b] "begin" = some a:=by unfold y8h;rw[if_pos rfl]
theorem dg2 (a b:D):y8h ["begin","way"] [a,b] "way" = some b:=by
 unfold y8h
 rw[if_neg (by decide)]
 unfold y8h
 rw[if_pos rfl]
section
variable {n:Nat}{f:Nat->Nat->Nat}{C:Cht}
theorem z6v {s:Sn}(hs:okN C s):x2o [x0s s,.dic ["begin","way"] [.int (Int.ofNat C.B.length),.int (Int.ofNat C.W.length)]]=some (.bl true,9):=by
 obtain⟨b,k⟩:=s
 unfold okN at hs
 have l2:dNe (.int 2) (.int 2)=some (.bl false):=(y5x _ _).trans (by simp)
 unfold x2o x62
 cases b with
 | true=>
  have hk:k<C.B.length:=hs
  have n1:x11 [.int (Int.ofNat k),.int (Int.ofNat C.B.length)]=some (.bl true,9):=by
   rw[x3g]
   have:x3a C.B.length (.int (Int.ofNat k))=true:=by
    show(decide ((0:Int)<=(k:Int))&&decide ((k:Int)<(C.B.length:Int)))=true
    simp;exact hk
   rw[this]
  have s0:atD (.tup [.str "begin",.int (Int.ofNat k)]) 0=some (.str "begin"):=rfl
  have s1:atD (.tup [.str "begin",.int (Int.ofNat k)]) 1=some (.int (Int.ofNat k)):=rfl
  have ll:x5o (.tup [.str "begin",.int (Int.ofNat k)])=some 2:=rfl
  have g1:=dg1 (.int (Int.ofNat C.B.length)) (.int (Int.ofNat C.W.length))
  show fnD _ _ [.tup [.str "begin",.int (Int.ofNat k)],_]=_
  simp[-Int.ofNat_eq_natCast,isD,ll,l2,s0,s1,g1,n1]
 | false=>
  have hk:k<C.W.length:=hs
  have n1:x11 [.int (Int.ofNat k),.int (Int.ofNat C.W.length)]=some (.bl true,9):=by
   rw[x3g]
   have:x3a C.W.length (.int (Int.ofNat k))=true:=by
    show(decide ((0:Int)<=(k:Int))&&decide ((k:Int)<(C.W.length:Int)))=true
    simp;exact hk
   rw[this]
  have s0:atD (.tup [.str "way",.int (Int.ofNat k)]) 0=some (.str "way"):=rfl
  have s1:atD (.tup [.str "way",.int (Int.ofNat k)]) 1=some (.int (Int.ofNat k)):=rfl
  have ll:x5o (.tup [.str "way",.int (Int.ofNat k)])=some 2:=rfl
  have g1:=dg2 (.int (Int.ofNat C.B.length)) (.int (Int.ofNat C.W.length))
  show fnD _ _ [.tup [.str "way",.int (Int.ofNat k)],_]=_
  simp[-Int.ofNat_eq_natCast,isD,ll,l2,s0,s1,g1,n1]
theorem z2b {s:Sn}(hs:okN C s):x57 [x0e n C,x0s s]=some (.bl true,9):=by
 have h:=z6v hs
 unfold x57 y8a
 have e1:x9d 0 2 [some (x0e n C,9),some (x0s s,9)]=some (Int.ofNat C.B.length):=by
  show some (Int.ofNat (C.B.map x98).length)=_
  rw[List.length_map]
 have e2':x9d 0 1 [some (x0e n C,9),some (x0s s,9)]=some (Int.ofNat C.W.length):=by
  show some (Int.ofNat (C.W.map (x5u n)).length)=_
  rw[List.length_map]
 have ed:z28 "begin" "way" (x9d 0 2) (x9d 0 1) [some (x0e n C,9),some (x0s s,9)]=some (.dic ["begin","way"] [.int (Int.ofNat C.B.length),.int (Int.ofNat C.W.length)],9,[some (x0e n C,9),some (x0s s,9)]):=by
  unfold z28
  rw[e1,e2']
 exact x1l (x1j (x0p (x0u (f:=x05 1) (d:=x0s s) (q:=9) (ρ:=[some (x0e n C,9),some (x0s s,9)]) (ρ1:=[some (x0e n C,9),some (x0s s,9)]) rfl (x0z ed)) rfl h))
theorem y0h {l:List Sn}(hl:∀ s∈l,okN C s)(hlen:l.length<=1000):x33 [x0e n C,.lst (l.map x0s)]=some (.non,9):=by
 have hit:x4w (x05 1) [some (x0e n C,9),some (.lst (l.map x0s),0)]=some (l.map x0s,[some (x0e n C,9),some (.lst (l.map x0s),0)]):=by simp[hlen]
 have e:=y5r (i:=2) (te:=x0m x57 2 (x01 (x05 0) (x01 (x05 2) x0g))) (ρ:=[some (x0e n C,9),some (.lst (l.map x0s),0)]) rfl hit (fun _=>true) (fun _=>9) (fun d hd=>by
  obtain⟨s,hs,rfl⟩:=List.mem_map.mp hd
  simp[z2b (n:=n) (hl s hs)])
 have ea:(l.map x0s).all (fun _=>true)=true:=by simp
 rw[ea]at e
 unfold x33 x70
 show(match sIf _ _ _ [some (x0e n C,9),some (.lst (l.map x0s),0)]with|some (.rt d q)=>some (d,q)|some (.nx _)=>some (D.non,9)|_=>none)=_
 have ei:sIf (x43 (x76 (eB z1n (x01 (x22 1 (x4w (x05 1)) (x0n 2) x1i (x0m x57 2 (x01 (x05 0) (x01 (x05 2) x0g))) false) x0g)))) y7y x53 [some (x0e n C,9),some (.lst (l.map x0s),0)]=some (.nx [some (x0e n C,9),some (.lst (l.map x0s),0)]):=by
  refine(y2f ?_).trans rfl
  unfold x43 x76
  rw[e]
  rfl
 rw[ei]
theorem z7q:(z69 C).length=C.B.length+C.W.length:=by simp[z69]
theorem y6v (hB:C.B.length<=60)(hW:C.W.length<=60):x5h [x0e n C]=some (.lst ((z69 C).map x0s),1):=by
 unfold x5h y35
 refine x1l ?_
 show x14 _ _ [some (x0e n C,9),none]=_
 have c1:atD (x0e n C) 1=some (.tup (C.W.map (x5u n))):=rfl
 have c2:atD (x0e n C) 2=some (.tup (C.B.map x98)):=rfl
 have lB:x5o (.tup (C.B.map x98))=some C.B.length:=by simp[x5o]
 have lW:x5o (.tup (C.W.map (x5u n)))=some C.W.length:=by simp[x5o]
 have h1:=x1b (k:=1) (tt:=x1i) (te:=x6z (x01 (eC (.str "begin")) (x01 (x05 2) x0g))) (deep:=false) (y27 (m:=C.B.length) (by omega) (fe:=eB z7x (x01 (x19 0 (eC (.int 2))) x0g)) (ρ:=[some (x0e n C,9),none]) (ρ':=[some (x0e n C,9),none]) (q:=9) (by simp[-Int.ofNat_eq_natCast,c2,lB])) (y5i (i:=2) rfl (fun _=>true) (fun k=>x0s (true,k)) (fun _=>9) (fun k hk=>rfl) (fun k hk _=>by simp[-Int.ofNat_eq_natCast,x0s]))
 rw[show(List.range C.B.length).filter (fun _=>true)=List.range C.B.length by simp]at h1
 refine(x0j (ρ1:=[some (x0e n C,9),some (.lst ((List.range C.B.length).map fun k=>x0s (true,k)),1)]) (x1q h1 rfl)).trans ?_
 have h2:=x1b (k:=1) (tt:=x1i) (te:=x6z (x01 (eC (.str "way")) (x01 (x05 2) x0g))) (deep:=false) (y27 (m:=C.W.length) (by omega) (fe:=eB z7x (x01 (x19 0 (eC (.int 1))) x0g)) (ρ:=[some (x0e n C,9),some (.lst ((List.range C.B.length).map fun k=>x0s (true,k)),0)]) (ρ':=[some (x0e n C,9),some (.lst ((List.range C.B.length).map fun k=>x0s (true,k)),0)]) (q:=9) (by simp[-Int.ofNat_eq_natCast,c1,lW])) (y5i (i:=2) rfl (fun _=>true) (fun k=>x0s (false,k)) (fun _=>9) (fun k hk=>rfl) (fun k hk _=>by simp[-Int.ofNat_eq_natCast,x0s]))
 rw[show(List.range C.W.length).filter (fun _=>true)=List.range C.W.length by simp]at h2
 have ea:(z69 C).map x0s=((List.range C.B.length).map fun k=>x0s (true,k))++((List.range C.W.length).map fun k=>x0s (false,k)):=by
  unfold z69
  rw[List.map_append,List.map_map,List.map_map]
  rfl
 rw[ea]
 refine x1j (ρ1:=[some (x0e n C,9),some (.lst ((List.range C.B.length).map fun k=>x0s (true,k)),0)]) ?_
 have v1:x05 1 [some (x0e n C,9),some (.lst ((List.range C.B.length).map fun k=>x0s (true,k)),1)]=some (.lst ((List.range C.B.length).map fun k=>x0s (true,k)),0,[some (x0e n C,9),some (.lst ((List.range C.B.length).map fun k=>x0s (true,k)),0)]):=rfl
 unfold z2x
 rw[v1]
 have hl:((List.range C.B.length).map fun k=>x0s (true,k)).length+((List.range C.W.length).map fun k=>x0s (false,k)).length<=1000:=by
  rw[List.length_map,List.length_map,List.length_range,List.length_range];omega
 generalize ((List.range C.B.length).map fun k=>x0s (true,k))=x at *
 generalize ((List.range C.W.length).map fun k=>x0s (false,k))=y at *
 rw[if_neg (by decide)]at h2
 simp only[h2,if_pos hl]
end
section
variable {n:Nat}{f:Nat->Nat->Nat}(L:Lad n f){z:Nat}(hz:z<n)(bz:∀ j,j<n->f z j=j){C:Cht}(hC:C.Ok n f)
def y8j (p z:Nat):List Nat:=List.replicate p z
theorem z9k {p:Nat}(hz:z<n):Vn n p (y8j p z):=⟨by simp[y8j],fun x hx=>by rw[(List.mem_replicate.mp hx).2];exact hz⟩
theorem j18 {p i:Nat}(hi:i<p):gv (y8j p z) i=z:=by unfold gv y8j;simp[hi]
theorem y61 {p:Nat}(bz:∀ j,j<n->f z j=j){v:List Nat}(hv:Vn n p v):leV f p (y8j p z) v:=fun i hi=>by rw[j18 hi];exact bz _ (hv.gv hi)
include L hz bz hC
theorem z4e:x9b [x09 n f,x0e n C]=some (.tup (x0f (y8j C.p z)),9):=by
 have hn:n<=1000:=Nat.le_trans L.hi (by decide)
 have hp8:=hC.p8
 have c0:atD (x0e n C) 0=some (.int (Int.ofNat C.p)):=rfl
 have hl:=y28 L hz bz hn
 unfold x9b z0c
 have e:(List.replicate C.p [D.int (Int.ofNat z)]).flatten=x0f (y8j C.p z):=by
  simp[x0f,y8j,List.flatten_replicate_singleton]
 have b1:(-1000:Int)<=Int.ofNat C.p:=by show(-1000:Int)<=(C.p:Int);omega
 have b2:Int.ofNat C.p<=1000:=by show(C.p:Int)<=1000;omega
 have b3:(Int.ofNat C.p).toNat=C.p:=rfl
 have b4:C.p<=1000:=by omega
 simp[-Int.ofNat_eq_natCast,-List.flatten_replicate_singleton,hl,c0,b1,b2,b3,b4,e]
theorem y96 {l:List Sn}(hl:∀ s∈l,okN C s)(hlen:l.length<=1000) :
  ∃ (u:List Nat) (R:List Sn),LowS n f C.p (l.map (x4o C)) (y8j C.p z) u/\(∀ s∈R,s∈l)/\(R.map (x4o C)).foldl (doS f) (y8j C.p z)=u/\Lad.mu n f u+R.length<=Lad.mu n f (y8j C.p z)/\x64 [x09 n f,x0e n C,.lst (l.map x0s)]=some (.tup [.tup (x0f u),.int (Int.ofNat R.length)],9):=by
 obtain⟨u,R,h1,h2,h3,h4,e⟩:=z8u L hC (z9k (p:=C.p) hz) hl hlen
 refine⟨u,R,h1,h2,h3,h4,?_⟩
 have r0:=y0h (n:=n) hl hlen
 have r1:=z4e L hz bz hC
 have a0:atD (.tup [.tup (x0f u),.lst (R.map x0s)]) 0=some (.tup (x0f u)):=rfl
 have a1:atD (.tup [.tup (x0f u),.lst (R.map x0s)]) 1=some (.lst (R.map x0s)):=rfl
 have a2:x5o (.lst (R.map x0s))=some R.length:=by simp[x5o]
 unfold x64 y4z
 simp[-Int.ofNat_eq_natCast,r0,r1,e,a0,a1,a2]
theorem y32:∃ u,LowS n f C.p (x2m C) (y8j C.p z) u/\x7k [x09 n f,x0e n C]=some (.tup (x0f u),9):=by
 have hB:=hC.b60
 have hW:=hC.w60
 obtain⟨u,R,h1,h2,h3,h4,e⟩:=y96 L hz bz hC (j0e C) (by rw[z7q];omega)
 rw[z7m]at h1
 refine⟨u,h1,?_⟩
 have r0:=y6v (n:=n) hB hW
 have a0:atD (.tup [.tup (x0f u),.int (Int.ofNat R.length)]) 0=some (.tup (x0f u)):=rfl
 unfold x7k z3z
 simp[-Int.ofNat_eq_natCast,r0,e,a0]
end
def leB (f:Nat->Nat->Nat)(p:Nat)(u v:List Nat):Bool:=(List.range p).all fun i=>decide (f (gv u i) (gv v i)=gv v i)
theorem y9n {f:Nat->Nat->Nat}{p:Nat}{u v:List Nat}:leB f p u v=true ↔ leV f p u v:=by
 unfold leB leV
 rw[L3.range_all]
 simp
section
variable {n:Nat}{f:Nat->Nat->Nat}{p:Nat}{u v:List Nat}(hp:p<=1000)(hu:Vn n p u)(hv:Vn n p v)
include hp hu hv
theorem y3v:x1g [x09 n f,.tup (x0f u),.tup (x0f v)]=some (.bl (leB f p u v),9):=by
 unfold x1g x4j
 have hl:x5o (.tup (x0f u))=some p:=by simp[x5o,x0x,hu.len]
 have hc:=x1b (k:=1) (tt:=x3c (e2 dNe (eIx (x19 0 (x19 1 (x05 3))) (x19 2 (x05 3))) (x19 2 (x05 3)))) (te:=x05 3) (deep:=false) (x2u hp (i:=1) (ρ:=[some (x09 n f,9),some (.tup (x0f u),9),some (.tup (x0f v),9)]) rfl hl) (y5i (i:=3) rfl (fun j=>!decide (f (gv u j) (gv v j)=gv v j)) (fun j=>.int (Int.ofNat j)) (fun _=>9) (fun j hj=>by
  have a1:=j7k (v:=u) (i:=j) (by rw[hu.len];exact hj)
  have a2:=j7k (v:=v) (i:=j) (by rw[hv.len];exact hj)
  simp[-Int.ofNat_eq_natCast,a1,a2,x3u (f:=f) (hu.gv hj),x47 (f:=f) (i:=gv u j) (hv.gv hj),x7r]) (fun j hj _=>by simp[-Int.ofNat_eq_natCast]))
 have e':(((List.range p).filter fun j=>!decide (f (gv u j) (gv v j)=gv v j)).map fun j=>D.int (Int.ofNat j))=x0f ((List.range p).filter fun j=>!decide (f (gv u j) (gv v j)=gv v j)):=rfl
 rw[e']at hc
 have hq:dEq (.lst (x0f ((List.range p).filter fun j=>!decide (f (gv u j) (gv v j)=gv v j)))) (.lst [])=some (.bl (leB f p u v)):=by
  unfold leB
  rw[<- y4m]
  exact j1k _ []
 exact x1l (x1j (x90 hc (rfl:x6q x0g _=some (.lst [],1,_)) hq))
end
theorem y0t {α:Type}{k:Nat}{pt:x7x}{tt:x23}{te:Den}{ρ:Rho}(enc:α->D)(ext:α->Rho)(b:α->Bool)(v:α->D)(q:α->Nat):∀ l:List α,
  (∀ x∈l,pt (enc x) (ρ++List.replicate k none)=some (ρ++ext x)/\tt (ρ++ext x)=some (b x,ρ++ext x)/\(b x=true->te (ρ++ext x)=some (v x,q x,ρ++ext x)))->x6x k pt tt te false (l.map enc) ρ=some ((l.filter b).map v,ρ)
 | [],_=>rfl
 | x::l,h=>by
  obtain⟨h1,h2,h3⟩:=h x List.mem_cons_self
  have ih:=y0t enc ext b v q l (fun y m=>h y (List.mem_cons_of_mem _ m))
  have ht:(ρ++ext x).take ρ.length=ρ:=by simp
  rw[List.map_cons]
  unfold x6x
  rw[h1]
  simp only[h2]
  cases hb:b x with
  | true=>
   simp only[if_true,h3 hb,ht,ih]
   rw[List.filter_cons_of_pos hb]
   simp
  | false=>
   simp only[ht,ih]
   rw[List.filter_cons_of_neg (by rw[hb];simp)]
   simp
theorem z81 (v:Nat)(l:List Nat):inD (.int (Int.ofNat v)) (.lst (x0f l))=some (decide (v∈l)):=by
 show some ((x86 (x0f l)).any fun y=>PyData.eqv y (toP (.int (Int.ofNat v))))=_
 congr 1
 induction l with
 | nil=>rfl
 | cons a l ih=>
  have h1:(x86 (x0f (a::l)))=toP (.int (Int.ofNat a))::x86 (x0f l):=rfl
  rw[h1,List.any_cons,ih]
  have h2:PyData.eqv (toP (.int (Int.ofNat a))) (toP (.int (Int.ofNat v)))=decide (a=v):=y99 a v
  rw[h2]
  by_cases h:a=v
  ·simp[h]
  ·have h':¬ v=a:=fun q=>h q.symm
   simp[h,h']
theorem z4j (v:Nat)(l:List Nat):dIn (.int (Int.ofNat v)) (.lst (x0f l))=some (.bl (decide (v∈l))):=by
 unfold dIn
 rw[if_pos ⟨(Sh.int (k:=0) _).ok,(j7l l).ok⟩,z81]
 rfl
theorem z6i {i:Nat}{ρ:Rho}{x:D×Nat}(h:ρ[i]? = some (some x)):ρ.set i (some x)=ρ:=by
 apply List.ext_getElem?
 intro k
 by_cases hk:i=k
 ·subst hk
  rw[h,List.getElem?_set_self (List.getElem?_eq_some_iff.mp h).1]
 ·rw[List.getElem?_set_ne hk]
theorem x8b {i q:Nat}{ρ:Rho}{ds:List D}(h:ρ[i]? = some (some (.lst ds,q))):x05 i ρ=some (.lst ds,0,ρ.set i (some (.lst ds,0))):=by
 unfold x05
 rw[h]
 by_cases hq:q=0
 ·subst hq
  rw[z6i h]
  rfl
 ·simp[hq]
theorem y13 {g:x23}{ρ ρ1:Rho}{b:Bool}(e:g ρ=some (b,ρ1)):x43 g ρ=some (!b,ρ1):=by unfold x43;rw[e]
theorem x8y {f:Den}{ρ ρ1:Rho}{b:Bool}{q:Nat}(h:f ρ=some (.bl b,q,ρ1)):x76 f ρ=some (b,ρ1):=by unfold x76;rw[h];cases b<;>rfl
theorem x9y {i q n:Nat}{ρ:Rho}{d:D}(h:ρ[i]? = some (some (d,q)))(hl:x5o d=some n):x10 i ρ=some (.int (Int.ofNat n),9,ρ):=by unfold x10;rw[h];simp only[hl]
theorem j79 {i q:Nat}{ρ:Rho}{d:D}(h:ρ[i]? = some (some (d,q)))(hd:d.isL=false):x05 i ρ=some (d,9,ρ):=by unfold x05;rw[h];simp[hd]
theorem x93 {i q:Nat}{ρ:Rho}{x d:D}{b:Den}{k:Int}{q':Nat}(hb:b ρ=some (.int k,q',ρ))(h:ρ[i]? = some (some (x,q)))(ha:atD x k=some d)(hd:d.isL=false):x19 i b ρ=some (d,9,ρ):=by
 unfold x19
 rw[h]
 simp only[hb,h,ha,hd,x20]
 simp
theorem j8m {f:Den}{i j:Nat}{ρ ρ1 ρ2:Rho}{x y:D}{q:Nat}(h:f ρ=some (.tup [x,y],q,ρ1))(e:(ρ1.set i (some (x,x20 x))).set j (some (y,x20 y))=ρ2)(hi:i<ρ1.length)(hj:j<ρ1.length):j3l f (y64 (x18 (x0n i) (x18 (x0n j) x5v))) ρ=some (.nx ρ2):=by
 subst e
 unfold j3l
 rw[h]
 simp[hi,hj]
theorem z04 (ns:List Int){c:Int}(hc:0<=c){n:Nat}(hn:0<n):∃ v,v<n/\x0h [scr ns,.int c,.int (Int.ofNat n)]=some (.int (Int.ofNat v),9):=by
 have hnp:(0:Int)<Int.ofNat n:=by show(0:Int)<(n:Int);omega
 have h1:=x6e ns c hnp
 have h2:=x7s ns c hnp
 have h3:Int.ofNat n=(n:Int):=rfl
 obtain⟨v,hv⟩:=Int.eq_ofNat_of_zero_le h1
 refine⟨v,by rw[hv,h3]at h2;omega,?_⟩
 rw[x6f ns c _ hc hnp,hv]
 rfl
def ov (f:Nat->Nat->Nat)(w i:Nat):Nat:=if f i w=w then 0 else 1
theorem y93 {f:Nat->Nat->Nat}{w i:Nat}:ov f w i<2:=by unfold ov;split<;>omega
theorem z2z {n:Nat}{f:Nat->Nat->Nat}(hn:n<=1000){w:Nat}(hw:w<n):x4l [x09 n f,.int (Int.ofNat w)]=some (x0c n (ov f w),9):=by
 unfold x4l y38
 refine x1l ?_
 show x14 _ _ [some (x09 n f,9),some (.int (Int.ofNat w),9),none]=_
 refine(x0j (ρ1:=[some (x09 n f,9),some (.int (Int.ofNat w),9),some (.lst (x0f ((List.range n).filter fun x=>decide (f x w=w))),1)]) (x1q (x0p (ds:=[x09 n f,.int (Int.ofNat w)]) rfl rfl (z16 (f:=f) hn hw)) rfl)).trans ?_
 have h:=x3k (k:=1) (pt:=x0n 3) (tt:=x1i) (te:=eIf (x3c (e2 dIn (x05 3) (x05 2))) (eC (.int 0)) (eC (.int 1))) (deep:=false) (x12 n) (fun k=>[some (x09 n f,9),some (.int (Int.ofNat w),9),some (.lst (x0f ((List.range n).filter fun x=>decide (f x w=w))),(if k=0 then 1 else 0))]) (fun _=>true) (fun k=>.int (Int.ofNat (ov f w k))) (fun k hk=>by
  have hk':k<n:=by rw[x0q]at hk;exact hk
  refine⟨[some (x09 n f,9),some (.int (Int.ofNat w),9),some (.lst (x0f ((List.range n).filter fun x=>decide (f x w=w))),(if k=0 then 1 else 0))]++[some (.int (Int.ofNat k),9)],[some (x09 n f,9),some (.int (Int.ofNat w),9),some (.lst (x0f ((List.range n).filter fun x=>decide (f x w=w))),(if k=0 then 1 else 0))]++[some (.int (Int.ofNat k),9)],by rw[x3z];rfl,rfl,?_⟩
  rw[if_pos rfl]
  refine⟨9,[some (x09 n f,9),some (.int (Int.ofNat w),9),some (.lst (x0f ((List.range n).filter fun x=>decide (f x w=w))),0)]++[some (.int (Int.ofNat k),9)],?_,by simp,by simp⟩
  have hv:x05 2 ([some (x09 n f,9),some (.int (Int.ofNat w),9),some (.lst (x0f ((List.range n).filter fun x=>decide (f x w=w))),(if k=0 then 1 else 0))]++[some (.int (Int.ofNat k),9)])=some (.lst (x0f ((List.range n).filter fun x=>decide (f x w=w))),0,[some (x09 n f,9),some (.int (Int.ofNat w),9),some (.lst (x0f ((List.range n).filter fun x=>decide (f x w=w))),0)]++[some (.int (Int.ofNat k),9)]):=x8b rfl
  have e1:=x56 (x90 (fa:=x05 3) (q:=9) (ρ:=[some (x09 n f,9),some (.int (Int.ofNat w),9),some (.lst (x0f ((List.range n).filter fun x=>decide (f x w=w))),(if k=0 then 1 else 0))]++[some (.int (Int.ofNat k),9)]) rfl hv (z4j k _))
  have e2:decide (k∈(List.range n).filter fun x=>decide (f x w=w))=decide (f k w=w):=by
   rw[Bool.eq_iff_iff,decide_eq_true_eq,decide_eq_true_eq,List.mem_filter,List.mem_range,decide_eq_true_eq]
   exact⟨fun h=>h.2,fun h=>⟨hk',h⟩⟩
  rw[e2]at e1
  unfold eIf ov
  rw[e1]
  by_cases h:f k w=w
  ·simp[h]
  ·simp[h])
 rw[x0q,show(List.range n).filter (fun _=>true)=List.range n by simp]at h
 exact x1j ((x2q (x0z (x1b (x2u hn rfl x17) h))).trans (congrArg (fun d=>some (d,9,_)) (y6k _)))
section
variable (ns:List Int)(t:Int)(n:Nat)(f:Nat->Nat->Nat)(a3 a4 a5 a6:OD)
theorem z3e (h0:0<=t)(hn:n<=16):x6x 1 (x0n 12) x1i (z5x 8 (x01 (x0m x0h 3 (x01 (x05 0) (x01 (e2 x3f (e2 x3f (x05 1) (eC (.int 3))) (x05 12)) (x01 (x10 8) x0g)))) x0g)) false (x12 n)
  [some (scr ns,0),some (.int t,9),some (x09 n f,9),a3,a4,a5,a6,none,some (.lst (x12 n),1),none,none,none]=some (x0f ((List.range n).map (drawn (pk ns (t+1)) n)),[some (scr ns,0),some (.int t,9),some (x09 n f,9),a3,a4,a5,a6,none,some (.lst [],1),none,none,none]):=by
 have hp:=z25 ns (t+1)
 have h:=x3k (k:=1) (pt:=x0n 12) (tt:=x1i) (te:=z5x 8 (x01 (x0m x0h 3 (x01 (x05 0) (x01 (e2 x3f (e2 x3f (x05 1) (eC (.int 3))) (x05 12)) (x01 (x10 8) x0g)))) x0g)) (deep:=false) (x12 n)
  (fun k=>[some (scr ns,0),some (.int t,9),some (x09 n f,9),a3,a4,a5,a6,none,some (.lst (x0f (x45 (pk ns (t+1)) n k)),1),none,none,none]) (fun _=>true) (fun k=>.int (Int.ofNat (drawn (pk ns (t+1)) n k))) (fun k hk=>?_)
 ·rw[x0q]at h
  have hl:x45 (pk ns (t+1)) n n=[]:=List.length_eq_zero_iff.mp (by rw[x6a hp n (Nat.le_refl n)];omega)
  rw[hl]at h
  have e1:(List.range n).filter (fun _=>true)=List.range n:=by simp
  rw[e1]at h
  simp only[x0f,List.map_map,Function.comp_def]
  exact h
 ·rw[x0q]at hk
  have hl:=x6a hp k (Nat.le_of_lt hk)
  have hlp:0<(x45 (pk ns (t+1)) n k).length:=by rw[hl];omega
  have e:=j5p ns (t+1) k _ hlp
  have hj:=z25 ns (t+1) k _ hlp
  have hpk:=x6f ns (t+3+Int.ofNat k) (Int.ofNat (x45 (pk ns (t+1)) n k).length) (by show 0<=t+3+(k:Int);omega) (by show(0:Int)<((x45 (pk ns (t+1)) n k).length:Int);omega)
  have et:t+1+2+Int.ofNat k=t+3+Int.ofNat k:=by omega
  rw[et]at e
  have hs:seqIndex? (Int.ofNat (pk ns (t+1) k (x45 (pk ns (t+1)) n k).length)) (x0f (x45 (pk ns (t+1)) n k)).length=some (pk ns (t+1) k (x45 (pk ns (t+1)) n k).length):=(y6i (x6w (by rw[x0x];exact hj))).1
  have hg:(x0f (x45 (pk ns (t+1)) n k))[pk ns (t+1) k (x45 (pk ns (t+1)) n k).length]? = some (.int (Int.ofNat (drawn (pk ns (t+1)) n k))):=by
   rw[x8e]
   unfold drawn
   rw[List.getD_eq_getElem?_getD,List.getElem?_eq_getElem hj]
   rfl
  have hb:pk ns (t+1) k (x45 (pk ns (t+1)) n k).length<=16:=by omega
  have he:(x0f (x45 (pk ns (t+1)) n k)).eraseIdx (pk ns (t+1) k (x45 (pk ns (t+1)) n k).length)=x0f (x45 (pk ns (t+1)) n (k+1)):=by rw[x45,y0j]
  refine⟨[some (scr ns,0),some (.int t,9),some (x09 n f,9),a3,a4,a5,a6,none,some (.lst (x0f (x45 (pk ns (t+1)) n k)),1),none,none,none]++[some (.int (Int.ofNat k),9)],_,by rw[x3z];rfl,rfl,?_⟩
  rw[if_pos rfl]
  refine⟨9,[some (scr ns,0),some (.int t,9),some (x09 n f,9),a3,a4,a5,a6,none,some (.lst (x0f (x45 (pk ns (t+1)) n (k+1))),1),none,none,none]++[some (.int (Int.ofNat k),9)],?_,by simp,by simp⟩
  have b1:(-1000:Int)<=Int.ofNat (pk ns (t+1) k (x45 (pk ns (t+1)) n k).length):=by show(-1000:Int)<=(pk ns (t+1) k (x45 (pk ns (t+1)) n k).length:Int);omega
  have b2:Int.ofNat (pk ns (t+1) k (x45 (pk ns (t+1)) n k).length)<=1000:=by show(pk ns (t+1) k (x45 (pk ns (t+1)) n k).length:Int)<=1000;omega
  have hl':x5o (.lst (x0f (x45 (pk ns (t+1)) n k)))=some (x45 (pk ns (t+1)) n k).length:=by simp[x5o,x0x]
  rw[e]at hpk
  simp[-Int.ofNat_eq_natCast,hl',hpk,hs,hg,he,b1,b2]
theorem z8v (hn:n<=16)(m:OD):x6x 1 (x0n 12) x1i (y2v (x6q (x01 (eC (.int 0)) x0g)) (x10 2)) true ((List.range n).map fun i=>y3w n f i)
  [some (scr ns,0),some (.int t,9),some (x09 n f,9),a3,a4,a5,a6,none,some (.lst [],1),m,none,none]=some ((List.range n).map fun i=>x61 n (fun _ _=>0) i,[some (scr ns,0),some (.int t,9),some (x09 n f,9),a3,a4,a5,a6,none,some (.lst [],1),m,none,none]):=by
 have h:=x3k (k:=1) (pt:=x0n 12) (tt:=x1i) (te:=y2v (x6q (x01 (eC (.int 0)) x0g)) (x10 2)) (deep:=true) ((List.range n).map fun i=>y3w n f i)
  (fun _=>[some (scr ns,0),some (.int t,9),some (x09 n f,9),a3,a4,a5,a6,none,some (.lst [],1),m,none,none]) (fun _=>true) (fun i=>x61 n (fun _ _=>0) i) (fun k hk=>?_)
 ·rw[List.length_map,List.length_range,show(List.range n).filter (fun _=>true)=List.range n by simp]at h
  exact h
 ·refine⟨[some (scr ns,0),some (.int t,9),some (x09 n f,9),a3,a4,a5,a6,none,some (.lst [],1),m,none,none]++[some (y3w n f k,9)],_,by simp[y3w],rfl,?_⟩
  rw[if_pos rfl]
  refine⟨1,[some (scr ns,0),some (.int t,9),some (x09 n f,9),a3,a4,a5,a6,none,some (.lst [],1),m,none,none]++[some (y3w n f k,9)],?_,by simp,by simp⟩
  have z:x61 n (fun _ _=>0) k=D.lst (List.replicate n [D.int 0]).flatten:=(j5g n).symm
  have b1:(-1000:Int)<=n:=by omega
  have b2:(n:Int)<=1000:=by omega
  have b3:n<=1000:=by omega
  rw[z]
  simp[x17,b1,b2,b3]
section
variable {n f}{π ι:Nat->Nat}(cl:∀ i j,i<n->j<n->f i j<n)(h1:∀ i,i<n->π i<n)(h2:∀ i,i<n->ι i<n)(h3:∀ i,i<n->ι (π i)=i)(h4:∀ i,i<n->π (ι i)=i)
include cl h1 h2 h3 h4
theorem z26 {g:Nat->Nat->Nat}{i j:Nat}(hi:i<n)(hj:j<n) :
  x5c [some (scr ns,0),some (.int t,9),some (x09 n f,9),a3,a4,a5,a6,some (x2n n g,2),some (.lst [],1),some (.lst (x0f ((List.range n).map π)),1),some (.int (Int.ofNat i),9),some (.int (Int.ofNat j),9)]=some (.nx [some (scr ns,0),some (.int t,9),some (x09 n f,9),a3,a4,a5,a6,some (x2n n (fun a b=>if a=π i/\b=π j then π (f i j)else g a b),2),some (.lst [],1),some (.lst (x0f ((List.range n).map π)),1),some (.int (Int.ofNat i),9),some (.int (Int.ofNat j),9)]):=by
 have a1:=x3u (f:=f) hi
 have a2:=x47 (f:=f) (i:=i) hj
 have a3':atD (.lst (x0f ((List.range n).map π))) (Int.ofNat (f i j))=some (.int (Int.ofNat (π (f i j)))):=x1s (cl i j hi hj)
 have a4':atD (.lst (x0f ((List.range n).map π))) (Int.ofNat i)=some (.int (Int.ofNat (π i))):=x1s hi
 have a5':atD (.lst (x0f ((List.range n).map π))) (Int.ofNat j)=some (.int (Int.ofNat (π j))):=x1s hj
 have a6':ixN ((List.range n).map fun a=>x61 n g a).length (Int.ofNat (π i))=some (π i):=x6w (by simpa using h1 i hi)
 have a7:((List.range n).map fun a=>x61 n g a)[π i]? = some (.lst (x0f ((List.range n).map fun b=>g (π i) b))):=by rw[List.getElem?_map,List.getElem?_range (h1 i hi)];rfl
 have a8:ixN (x0f ((List.range n).map fun b=>g (π i) b)).length (Int.ofNat (π j))=some (π j):=x6w (by simpa [x0x]using h1 j hj)
 have a9:=z15 (n:=n) (f:=g) (a:=π i) (b:=π j) (v:=π (f i j))
 rw[<- a9]
 show x5c [some (scr ns,0),some (.int t,9),some (x09 n f,9),a3,a4,a5,a6,some (.lst ((List.range n).map fun a=>x61 n g a),2),some (.lst [],1),some (.lst (x0f ((List.range n).map π)),1),some (.int (Int.ofNat i),9),some (.int (Int.ofNat j),9)]=_
 unfold x5c
 simp only[y3r,x19,eIx,x05,qIx,y67,List.getElem?_cons_succ,List.getElem?_cons_zero,D.isL_lst,D.isL_int,D.isL_tup,if_true,a1,a2,a3',a4',a5',a6',a7,a8,ne_eq,not_true_eq_false,false_and,and_false,if_false,Bool.false_eq_true,reduceCtorEq,Nat.not_lt_zero,Nat.lt_irrefl,x20,List.set_cons_succ,List.set_cons_zero,z6q,z8x]
theorem z31 (hn:n<=16){i:Nat}(hi:i<n)(y:OD):∃ y',y0n (x0n 11) x5c (x12 n) [some (scr ns,0),some (.int t,9),some (x09 n f,9),a3,a4,a5,a6,some (x2n n (gst f π ι i 0),2),some (.lst [],1),some (.lst (x0f ((List.range n).map π)),1),some (.int (Int.ofNat i),9),y] =
  some (.nx [some (scr ns,0),some (.int t,9),some (x09 n f,9),a3,a4,a5,a6,some (x2n n (gst f π ι (i+1) 0),2),some (.lst [],1),some (.lst (x0f ((List.range n).map π)),1),some (.int (Int.ofNat i),9),y']):=by
 obtain⟨ρ',e,y',rfl⟩:=x4c (pt:=x0n 11) (body:=x5c) (x12 n) (fun j ρ=>∃ y,ρ=[some (scr ns,0),some (.int t,9),some (x09 n f,9),a3,a4,a5,a6,some (x2n n (gst f π ι i j),2),some (.lst [],1),some (.lst (x0f ((List.range n).map π)),1),some (.int (Int.ofNat i),9),y]) [some (scr ns,0),some (.int t,9),some (x09 n f,9),a3,a4,a5,a6,some (x2n n (gst f π ι i 0),2),some (.lst [],1),some (.lst (x0f ((List.range n).map π)),1),some (.int (Int.ofNat i),9),y] (fun j hj ρ hh0=>by
  obtain⟨y,hy⟩:=hh0
  subst hy
  rw[x0q]at hj
  refine⟨[some (scr ns,0),some (.int t,9),some (x09 n f,9),a3,a4,a5,a6,some (x2n n (gst f π ι i j),2),some (.lst [],1),some (.lst (x0f ((List.range n).map π)),1),some (.int (Int.ofNat i),9),some (.int (Int.ofNat j),9)],_,by rw[x3z];rfl,.inl (z26 ns t a3 a4 a5 a6 cl h1 h2 h3 h4 hi hj),?_⟩
  rw[z0e cl h1 h2 h3 h4 hi hj]
  exact⟨_,rfl⟩) ⟨y,rfl⟩
 refine⟨y',?_⟩
 rw[e,x0q]
 show some (Out.nx [_,_,_,_,_,_,_,some (x2n n (gst f π ι i n),2),_,_,_,_])=_
 rw[z2w cl h1 h2 h3 h4]
theorem z58 (hn:n<=16)(x y:OD):∃ x' y',y0n (x0n 10) x8z (x12 n) [some (scr ns,0),some (.int t,9),some (x09 n f,9),a3,a4,a5,a6,some (x2n n (fun _ _=>0),2),some (.lst [],1),some (.lst (x0f ((List.range n).map π)),1),x,y] =
  some (.nx [some (scr ns,0),some (.int t,9),some (x09 n f,9),a3,a4,a5,a6,some (x2n n (fun a b=>π (f (ι a) (ι b))),2),some (.lst [],1),some (.lst (x0f ((List.range n).map π)),1),x',y']):=by
 have z:x2n n (fun _ _=>0)=x2n n (gst f π ι 0 0):=x55 fun a b _ _=>by unfold gst;rw[if_neg (by omega)]
 have z':x2n n (gst f π ι n 0)=x2n n (fun a b=>π (f (ι a) (ι b))):=x55 fun a b ha _=>by unfold gst;rw[if_pos (.inl (h2 a ha))]
 have hn':n<=1000:=by omega
 obtain⟨ρ',e,x',y',rfl⟩:=x4c (pt:=x0n 10) (body:=x8z) (x12 n) (fun i ρ=>∃ x y,ρ=[some (scr ns,0),some (.int t,9),some (x09 n f,9),a3,a4,a5,a6,some (x2n n (gst f π ι i 0),2),some (.lst [],1),some (.lst (x0f ((List.range n).map π)),1),x,y]) [some (scr ns,0),some (.int t,9),some (x09 n f,9),a3,a4,a5,a6,some (x2n n (gst f π ι 0 0),2),some (.lst [],1),some (.lst (x0f ((List.range n).map π)),1),x,y] (fun i hi ρ hh0=>by
  obtain⟨x,y,hy⟩:=hh0
  subst hy
  rw[x0q]at hi
  obtain⟨y',hy'⟩:=z31 ns t a3 a4 a5 a6 cl h1 h2 h3 h4 hn hi y
  refine⟨[some (scr ns,0),some (.int t,9),some (x09 n f,9),a3,a4,a5,a6,some (x2n n (gst f π ι i 0),2),some (.lst [],1),some (.lst (x0f ((List.range n).map π)),1),some (.int (Int.ofNat i),9),y],_,by rw[x3z];rfl,.inl (show _=some (Out.nx [some (scr ns,0),some (.int t,9),some (x09 n f,9),a3,a4,a5,a6,some (x2n n (gst f π ι (i+1) 0),2),some (.lst [],1),some (.lst (x0f ((List.range n).map π)),1),some (.int (Int.ofNat i),9),y'])from ?_),⟨_,_,rfl⟩⟩
  exact(x2p (x2u hn' rfl x17)).trans hy') ⟨x,y,rfl⟩
 refine⟨x',y',?_⟩
 show y0n _ _ _ [_,_,_,_,_,_,_,some (x2n n (fun _ _=>0),2),_,_,_,_]=some (.nx [_,_,_,_,_,_,_,some (x2n n (fun a b=>π (f (ι a) (ι b))),2),_,_,_,_])
 rw[z,<- z']
 rw[x0q]at e
 exact e
end
end
def two2 (a b:Nat):Nat:=max a b
def y3p (a b:Nat):Nat:=max (a / 2) (b / 2)*2+max (a % 2) (b % 2)
theorem k07:Lad 2 two2:=y9u (by decide +kernel)
theorem j9u:Lad 4 y3p:=y9u (by decide +kernel)
theorem j8c (ns:List Int)(t:Int)(n:Nat)(f:Nat->Nat->Nat)(a3 a4 a5:OD):x1k (x01 (x22 1 (x4w (x0m x13 2 (x01 (x05 6) (x01 (x05 6) x0g)))) (x0n 12) x1i (x1k (x01 (x05 12) x0g)) false) x0g) [some (scr ns,0),some (.int t,9),some (x09 n f,9),a3,a4,a5,some (x09 2 two2,9),none,none,none,none,none]=some (x09 4 y3p,9,[some (scr ns,0),some (.int t,9),some (x09 n f,9),a3,a4,a5,some (x09 2 two2,9),none,none,none,none,none]):=by rfl
theorem z02 {g:x1v}{ρ ρ1:Rho}{ds:List D}(h:g ρ=some (ds,ρ1))(hl:ds.length<=1000):x6z g ρ=some (.tup ds,9,ρ1):=by unfold x6z;rw[h];exact if_pos hl
structure IsMap (n:Nat) (f:Nat->Nat->Nat) (z m:Nat) (g:Nat->Nat->Nat) (h:Nat->Nat):Prop where
 lt:∀ i,i<n->h i<m
 jn:∀ x y,x<n->y<n->h (f x y)=g (h x) (h y)
 bt:∀ j,j<m->g (h z) j=j
section
variable {n:Nat}{f:Nat->Nat->Nat}(L:Lad n f){z:Nat}(hz:z<n)(bz:∀ j,j<n->f z j=j)
include L hz bz
theorem y98 {w x y:Nat}(hw:w<n)(hx:x<n)(hy:y<n):ov f w (f x y)=max (ov f w x) (ov f w y):=by
 have e:f (f x y) w=w ↔ f x w=w/\f y w=w:=⟨fun h=>⟨L.le_trans hx (L.cl x y hx hy) hw (L.le_l hx hy) h,L.le_trans hy (L.cl x y hx hy) hw (L.le_r hx hy) h⟩,fun h=>L.lub hx hy hw h.1 h.2⟩
 unfold ov
 by_cases h1:f x w=w
 ·by_cases h2:f y w=w
  ·rw[if_pos (e.mpr ⟨h1,h2⟩),if_pos h1,if_pos h2];rfl
  ·rw[if_neg (fun q=>h2 (e.mp q).2),if_pos h1,if_neg h2];rfl
 ·by_cases h2:f y w=w
  ·rw[if_neg (fun q=>h1 (e.mp q).1),if_neg h1,if_pos h2];rfl
  ·rw[if_neg (fun q=>h1 (e.mp q).1),if_neg h1,if_neg h2];rfl
theorem j83 {w:Nat}(hw:w<n):ov f w z=0:=if_pos (bz w hw)
theorem z1y (ns:List Int)(t:Int)(h0:0<=t):∃ m g h,Lad m g/\IsMap n f z m g h/\x54 [scr ns,.int t,x09 n f]=some (.tup [x09 m g,x0c n h],9):=by
 have hn:n<=1000:=Nat.le_trans L.hi (by decide)
 obtain⟨v,hv,ev⟩:=z04 ns h0 (n:=4) (by decide)
 obtain⟨a,ha,ea⟩:=z04 ns (c:=t+1) (by omega) L.lo
 obtain⟨b,hb,eb⟩:=z04 ns (c:=t+2) (by omega) L.lo
 have arg:∀ (c:Int) (ρ:Rho),ρ[0]? = some (some (scr ns,0))->ρ[1]? = some (some (.int t,9))->ρ[2]? = some (some (x09 n f,9))->x01 (x05 0) (x01 (e2 x3f (x05 1) (eC (.int c))) (x01 (x10 2) x0g)) ρ=some ([scr ns,.int (t+c),.int (Int.ofNat n)],ρ):=fun c ρ h0 h1 h2=>by simp[-Int.ofNat_eq_natCast,h0,h1,h2,x17]
 have go:∀ R:D,(x14 (sIf (x3c (e2 dEq (x05 3) (eC (.int 0)))) (x21 (x6z (x01 (x05 6) (x01 (x05 4) x0g)))) x53)
   (x14 (sIf (x3c (e2 dLt (x05 3) (eC (.int 3)))) (x14 (x25 7 (x1k (x01 (x22 1 (x4w (x0m x13 2 (x01 (x05 6) (x01 (x05 6) x0g)))) (x0n 12) x1i (x1k (x01 (x05 12) x0g)) false) x0g)))
   (x21 (x6z (x01 (x05 7) (x01 (x1k (x01 (x22 2 (y6y (x01 (x05 4) (x01 (x05 5) x0g))) (y64 (x18 (x0n 12) (x18 (x0n 13) x5v))) x1i (e2 x3f (e2 y5f (eC (.int 2)) (x05 12)) (x05 13)) false) x0g)) x0g))))) x53)
   (x14 (x25 8 (x7j (x01 (x10 2) x0g)))
   (x14 (x25 9 (x22 1 (x15 (x01 (x10 2) x0g)) (x0n 12) x1i (z5x 8 (x01 (x0m x0h 3 (x01 (x05 0) (x01 (e2 x3f (e2 x3f (x05 1) (eC (.int 3))) (x05 12)) (x01 (x10 8) x0g)))) x0g)) false))
   (x14 (x25 7 (x22 1 (x4w (x05 2)) (x0n 12) x1i (y2v (x6q (x01 (eC (.int 0)) x0g)) (x10 2)) true))
   (x14 (x78 (x15 (x01 (x10 2) x0g)) (x0n 10) x8z)
   (x21 (x6z (x01 (x1k (x01 (x22 1 (x4w (x05 7)) (x0n 12) x1i (x1k (x01 (x05 12) x0g)) false) x0g)) (x01 (x1k (x01 (x05 9) x0g)) x0g))))))))))
   [some (scr ns,0),some (.int t,9),some (x09 n f,9),some (.int (Int.ofNat v),9),some (x0c n (ov f a),9),some (x0c n (ov f b),9),some (x09 2 two2,9),none,none,none,none,none]=some (.rt R 9)->x54 [scr ns,.int t,x09 n f]=some (R,9):=fun R h=>by
  unfold x54 y4n
  refine x1l ?_
  show x14 _ _ [some (scr ns,0),some (.int t,9),some (x09 n f,9),none,none,none,none,none,none,none,none,none]=_
  refine(x0j (ρ1:=[some (scr ns,0),some (.int t,9),some (x09 n f,9),some (.int (Int.ofNat v),9),none,none,none,none,none,none,none,none]) (x1q (x0p (ds:=[scr ns,.int t,.int 4]) rfl rfl ev) rfl)).trans ?_
  refine(x0j (ρ1:=[some (scr ns,0),some (.int t,9),some (x09 n f,9),some (.int (Int.ofNat v),9),some (x0c n (ov f a),9),none,none,none,none,none,none,none]) (x1q (x0p (x0u (f:=x05 2) (q:=9) rfl (x0z (x0p (arg 1 _ rfl rfl rfl) rfl ea))) rfl (z2z hn ha)) rfl)).trans ?_
  refine(x0j (ρ1:=[some (scr ns,0),some (.int t,9),some (x09 n f,9),some (.int (Int.ofNat v),9),some (x0c n (ov f a),9),some (x0c n (ov f b),9),none,none,none,none,none,none]) (x1q (x0p (x0u (f:=x05 2) (q:=9) rfl (x0z (x0p (arg 2 _ rfl rfl rfl) rfl eb))) rfl (z2z hn hb)) rfl)).trans ?_
  exact(x0j (ρ1:=[some (scr ns,0),some (.int t,9),some (x09 n f,9),some (.int (Int.ofNat v),9),some (x0c n (ov f a),9),some (x0c n (ov f b),9),some (x09 2 two2,9),none,none,none,none,none]) (x1q (d:=x09 2 two2) (q:=9) rfl rfl)).trans h
 by_cases hv0:v=0
 ·subst hv0
  refine⟨2,two2,ov f a,k07,⟨fun _ _=>y93,fun x y hx hy=>y98 L hz bz ha hx hy,fun j _=>?_⟩,go _ ?_⟩
  ·rw[j83 L hz bz ha];exact Nat.zero_max j
  ·exact x80 ((z75 (ρ1:=[some (scr ns,0),some (.int t,9),some (x09 n f,9),some (.int (Int.ofNat 0),9),some (x0c n (ov f a),9),some (x0c n (ov f b),9),some (x09 2 two2,9),none,none,none,none,none]) (x56 (x90 (fa:=x05 3) (fb:=eC (.int 0)) (q:=9) (q':=9) rfl rfl ((x96 0 0).trans rfl)))).trans (x1j (z02 (ds:=[x09 2 two2,x0c n (ov f a)]) rfl (show 2<=1000 by decide))))
 have g1:sIf (x3c (e2 dEq (x05 3) (eC (.int 0)))) (x21 (x6z (x01 (x05 6) (x01 (x05 4) x0g)))) x53 [some (scr ns,0),some (.int t,9),some (x09 n f,9),some (.int (Int.ofNat v),9),some (x0c n (ov f a),9),some (x0c n (ov f b),9),some (x09 2 two2,9),none,none,none,none,none]=some (.nx [some (scr ns,0),some (.int t,9),some (x09 n f,9),some (.int (Int.ofNat v),9),some (x0c n (ov f a),9),some (x0c n (ov f b),9),some (x09 2 two2,9),none,none,none,none,none]):=
  (y2f (x56 (x90 (fa:=x05 3) (fb:=eC (.int 0)) (q:=9) (q':=9) rfl rfl ((x96 v 0).trans (by rw[decide_eq_false hv0]))))).trans rfl
 by_cases hv3:v<3
 ·refine⟨4,y3p,fun i=>2*ov f a i+ov f b i,j9u,⟨fun i _=>?_,fun x y hx hy=>?_,fun j hj=>?_⟩,go _ ((x0j g1).trans (x80 ?_))⟩
  ·have h1:=y93 (f:=f) (w:=a) (i:=i)
   have h2:=y93 (f:=f) (w:=b) (i:=i)
   show 2*ov f a i+ov f b i<4
   omega
  ·show 2*ov f a (f x y)+ov f b (f x y)=y3p (2*ov f a x+ov f b x) (2*ov f a y+ov f b y)
   rw[y98 L hz bz ha hx hy,y98 L hz bz hb hx hy]
   have h1:=y93 (f:=f) (w:=a) (i:=x)
   have h2:=y93 (f:=f) (w:=b) (i:=x)
   have h3:=y93 (f:=f) (w:=a) (i:=y)
   have h4:=y93 (f:=f) (w:=b) (i:=y)
   unfold y3p
   omega
  ·show y3p (2*ov f a z+ov f b z) j=j
   rw[j83 L hz bz ha,j83 L hz bz hb]
   unfold y3p
   omega
  ·have lt3:dLt (.int (Int.ofNat v)) (.int 3)=some (.bl true):=by
    have:(Int.ofNat v)<3:=by show(v:Int)<3;omega
    show some (D.bl (decide (Int.ofNat v<3)))=_
    rw[decide_eq_true this]
   refine(z75 (ρ1:=[some (scr ns,0),some (.int t,9),some (x09 n f,9),some (.int (Int.ofNat v),9),some (x0c n (ov f a),9),some (x0c n (ov f b),9),some (x09 2 two2,9),none,none,none,none,none]) (x56 (x90 (fa:=x05 3) (fb:=eC (.int 3)) (q:=9) (q':=9) rfl rfl lt3))).trans ?_
   refine(x0j (ρ1:=[some (scr ns,0),some (.int t,9),some (x09 n f,9),some (.int (Int.ofNat v),9),some (x0c n (ov f a),9),some (x0c n (ov f b),9),some (x09 2 two2,9),some (x09 4 y3p,9),none,none,none,none]) (x1q (j8c ns t n f _ _ _) rfl)).trans ?_
   have hzp:y6y (x01 (x05 4) (x01 (x05 5) x0g)) [some (scr ns,0),some (.int t,9),some (x09 n f,9),some (.int (Int.ofNat v),9),some (x0c n (ov f a),9),some (x0c n (ov f b),9),some (x09 2 two2,9),some (x09 4 y3p,9),none,none,none,none]=some ((List.range n).map fun j=>.tup [.int (Int.ofNat (ov f a j)),.int (Int.ofNat (ov f b j))],[some (scr ns,0),some (.int t,9),some (x09 n f,9),some (.int (Int.ofNat v),9),some (x0c n (ov f a),9),some (x0c n (ov f b),9),some (x09 2 two2,9),some (x09 4 y3p,9),none,none,none,none]):=by
    have:=y6w n (ov f a) (ov f b)
    simp[-Int.ofNat_eq_natCast,x0c,x0x,hn,this]
   have hc:=x1b (k:=2) (tt:=x1i) (te:=e2 x3f (e2 y5f (eC (.int 2)) (x05 12)) (x05 13)) (deep:=false) hzp (j3d (i:=12) rfl (ov f a) (ov f b) (fun _=>true) (fun j=>.int (Int.ofNat (2*ov f a j+ov f b j))) (fun _=>9) (fun j hj=>rfl) (fun j hj _=>by simp[x3f,y5f]))
   rw[show(List.range n).filter (fun _=>true)=List.range n by simp]at hc
   have h2:=(x2q (x0z hc)).trans (congrArg (fun d=>some (d,9,_)) (y6k fun j=>2*ov f a j+ov f b j))
   exact x1j (z02 (x0u (f:=x05 7) (q:=9) rfl (x0z h2)) (show 2<=1000 by decide))
 ·have lt3:dLt (.int (Int.ofNat v)) (.int 3)=some (.bl false):=by
   have:¬ (Int.ofNat v)<3:=by show ¬ (v:Int)<3;omega
   show some (D.bl (decide (Int.ofNat v<3)))=_
   rw[decide_eq_false this]
  have hp:=z25 ns (t+1)
  generalize hπ:drawn (pk ns (t+1)) n=π
  generalize hι:x3w (pk ns (t+1)) n=ι
  have p1:∀ i,i<n->π i<n:=fun i hi=>by rw[<- hπ];exact y5s hp hi
  have p2:∀ i,i<n->ι i<n:=fun i hi=>by rw[<- hι];exact y0w hp hi
  have p3:∀ i,i<n->ι (π i)=i:=fun i hi=>by rw[<- hι,<- hπ];exact x6s hp hi
  have p4:∀ i,i<n->π (ι i)=i:=fun i hi=>by rw[<- hι,<- hπ];exact x6r hp hi
  refine⟨n,fun a b=>π (f (ι a) (ι b)),π,L.ren p1 p2 p3 p4,⟨p1,fun x y hx hy=>?_,fun j hj=>?_⟩,go _ ((x0j g1).trans ?_)⟩
  ·show π (f x y)=π (f (ι (π x)) (ι (π y)))
   rw[p3 x hx,p3 y hy]
  ·show π (f (ι (π z)) (ι j))=j
   rw[p3 z hz,bz _ (p2 j hj),p4 j hj]
  ·generalize hA:(some (.int (Int.ofNat v),9):OD)=A at *
   refine(x0j (ρ1:=[some (scr ns,0),some (.int t,9),some (x09 n f,9),A,some (x0c n (ov f a),9),some (x0c n (ov f b),9),some (x09 2 two2,9),none,none,none,none,none]) ((y2f (x56 (x90 (fa:=x05 3) (fb:=eC (.int 3)) (q:=9) (q':=9) (by rw[<- hA];rfl) rfl lt3))).trans rfl)).trans ?_
   generalize (some (x0c n (ov f a),9):OD)=B
   generalize (some (x0c n (ov f b),9):OD)=C
   generalize (some (x09 2 two2,9):OD)=E
   refine(x0j (ρ1:=[some (scr ns,0),some (.int t,9),some (x09 n f,9),A,B,C,E,none,some (.lst (x12 n),1),none,none,none]) (x1q (y3g (x2u hn rfl x17)) rfl)).trans ?_
   have hnm:=z3e ns t n f A B C E h0 L.hi
   rw[hπ]at hnm
   refine(x0j (ρ1:=[some (scr ns,0),some (.int t,9),some (x09 n f,9),A,B,C,E,none,some (.lst [],1),some (.lst (x0f ((List.range n).map π)),1),none,none]) (x1q (x1b (x2u hn rfl x17) hnm) rfl)).trans ?_
   have hi2:x4w (x05 2) [some (scr ns,0),some (.int t,9),some (x09 n f,9),A,B,C,E,none,some (.lst [],1),some (.lst (x0f ((List.range n).map π)),1),none,none]=some ((List.range n).map fun i=>y3w n f i,[some (scr ns,0),some (.int t,9),some (x09 n f,9),A,B,C,E,none,some (.lst [],1),some (.lst (x0f ((List.range n).map π)),1),none,none]):=by simp[x09,hn]
   refine(x0j (ρ1:=[some (scr ns,0),some (.int t,9),some (x09 n f,9),A,B,C,E,some (x2n n (fun _ _=>0),2),some (.lst [],1),some (.lst (x0f ((List.range n).map π)),1),none,none]) (x1q (x1b hi2 (z8v ns t n f A B C E L.hi _)) rfl)).trans ?_
   obtain⟨x',y',hf⟩:=z58 ns t A B C E (f:=f) (π:=π) (ι:=ι) L.cl p1 p2 p3 p4 L.hi none none
   refine(x0j ((x2p (x2u hn rfl x17)).trans hf)).trans ?_
   have hi7:x4w (x05 7) [some (scr ns,0),some (.int t,9),some (x09 n f,9),A,B,C,E,some (x2n n (fun a b=>π (f (ι a) (ι b))),2),some (.lst [],1),some (.lst (x0f ((List.range n).map π)),1),x',y']=some ((List.range n).map fun i=>x61 n (fun a b=>π (f (ι a) (ι b))) i,[some (scr ns,0),some (.int t,9),some (x09 n f,9),A,B,C,E,some (x2n n (fun a b=>π (f (ι a) (ι b))),0),some (.lst [],1),some (.lst (x0f ((List.range n).map π)),1),x',y']):=by simp[x2n,hn]
   have hcr:=x3k (k:=1) (pt:=x0n 12) (tt:=x1i) (te:=x1k (x01 (x05 12) x0g)) (deep:=false) ((List.range n).map fun i=>x61 n (fun a b=>π (f (ι a) (ι b))) i)
    (fun _=>[some (scr ns,0),some (.int t,9),some (x09 n f,9),A,B,C,E,some (x2n n (fun a b=>π (f (ι a) (ι b))),0),some (.lst [],1),some (.lst (x0f ((List.range n).map π)),1),x',y']) (fun _=>true) (fun i=>y3w n (fun a b=>π (f (ι a) (ι b))) i) (fun k hk=>by
     refine⟨[some (scr ns,0),some (.int t,9),some (x09 n f,9),A,B,C,E,some (x2n n (fun a b=>π (f (ι a) (ι b))),0),some (.lst [],1),some (.lst (x0f ((List.range n).map π)),1),x',y']++[some (x61 n (fun a b=>π (f (ι a) (ι b))) k,0)],_,by simp[x61],rfl,?_⟩
     rw[if_pos rfl]
     exact⟨9,[some (scr ns,0),some (.int t,9),some (x09 n f,9),A,B,C,E,some (x2n n (fun a b=>π (f (ι a) (ι b))),0),some (.lst [],1),some (.lst (x0f ((List.range n).map π)),1),x',y']++[some (x61 n (fun a b=>π (f (ι a) (ι b))) k,0)],by simp[x61,y3w],by simp,by simp⟩)
   rw[List.length_map,List.length_range,show(List.range n).filter (fun _=>true)=List.range n by simp]at hcr
   have h7:=x2q (x0z (x1b (k:=1) hi7 hcr))
   have h9:x1k (x01 (x05 9) x0g) [some (scr ns,0),some (.int t,9),some (x09 n f,9),A,B,C,E,some (x2n n (fun a b=>π (f (ι a) (ι b))),0),some (.lst [],1),some (.lst (x0f ((List.range n).map π)),1),x',y']=some (x0c n π,9,[some (scr ns,0),some (.int t,9),some (x09 n f,9),A,B,C,E,some (x2n n (fun a b=>π (f (ι a) (ι b))),0),some (.lst [],1),some (.lst (x0f ((List.range n).map π)),0),x',y']):=x2q (x0z (x8b rfl))
   exact x1j (z02 (x0u h7 (x0z h9)) (show 2<=1000 by decide))
end
theorem z56 {n:Nat}(r:Nat->Nat):y3z (x0f ((List.range n).map r))=(List.range n).map fun j=>.tup [.int (Int.ofNat j),.int (Int.ofNat (r j))]:=by
 apply List.ext_getElem?
 intro i
 rw[y7f,x8e,List.getElem?_map,List.getElem?_map]
 by_cases h:i<n
 ·rw[List.getElem?_range h];rfl
 ·rw[List.getElem?_eq_none (by simp;omega)];rfl
theorem y7i {n m:Nat}{g:Nat->Nat->Nat}(hn:n<=1000){r:Nat->Nat}(hr:∀ i,i<n->r i<m){w:Nat}(hw:w<m):x4k [x09 m g,x0c n r,.int (Int.ofNat w)]=some (.lst (x0f ((List.range n).filter fun x=>decide (g (r x) w=w))),1):=by
 unfold x4k y34
 refine x1l (x1j (ρ1:=[some (x09 m g,9),some (x0c n r,9),some (.int (Int.ofNat w),9)]) ?_)
 have hz:z5o (x01 (x05 1) x0g) [some (x09 m g,9),some (x0c n r,9),some (.int (Int.ofNat w),9)]=some ((List.range n).map fun j=>.tup [.int (Int.ofNat j),.int (Int.ofNat (r j))],[some (x09 m g,9),some (x0c n r,9),some (.int (Int.ofNat w),9)]):=by
  have:=z56 (n:=n) r
  simp[-Int.ofNat_eq_natCast,x0c,x0x,hn,this]
 exact x1b (k:=2) (deep:=false) hz (j3d (i:=3) rfl (fun j=>j) r (fun x=>decide (g (r x) w=w)) (fun x=>.int (Int.ofNat x)) (fun _=>9) (fun j hj=>by
  simp[-Int.ofNat_eq_natCast,x59 (f:=g) (hr j hj) hw]) (fun j hj _=>rfl))
def z99 (n:Nat)(f:Nat->Nat->Nat)(z m:Nat)(g:Nat->Nat->Nat)(z':Nat)(d:D):Bool:=match d with
 | .tup ds=>x3m n m (.tup ds)&&(ljB n f g (x6t ds)&&decide (x6t ds z=z'))
 | _=>false
theorem y9f {n m:Nat}{r:Nat->Nat}(hr:∀ i,i<n->r i<m):x3m n m (x0c n r)=true:=by
 show(decide ((x0f ((List.range n).map r)).length=n)&&(x0f ((List.range n).map r)).all (x3a m))=true
 rw[x0x,List.length_map,List.length_range,decide_eq_true rfl,Bool.true_and,List.all_eq_true]
 intro d hd
 obtain⟨x,hx,rfl⟩:=List.mem_map.mp hd
 obtain⟨i,hi,rfl⟩:=List.mem_map.mp hx
 have:=hr i (List.mem_range.mp hi)
 show(decide ((0:Int)<=Int.ofNat (r i))&&decide (Int.ofNat (r i)<(m:Int)))=true
 have q1:(0:Int)<=Int.ofNat (r i):=Int.natCast_nonneg _
 have q2:Int.ofNat (r i)<(m:Int):=by show((r i:Nat):Int)<(m:Int);omega
 rw[decide_eq_true q1,decide_eq_true q2]
 rfl
section
variable {n m:Nat}{f g:Nat->Nat->Nat}{z z':Nat}
theorem z44 {d:D}(h:x3m n m d=false):z99 n f z m g z' d=false:=by
 cases d with
 | tup ds=>show(x3m n m (.tup ds)&&_)=false;rw[h];rfl
 | _=>rfl
theorem z52 (hz:z<n){r:Nat->Nat}(hr:∀ i,i<n->r i<m)(cl:∀ i j,i<n->j<n->f i j<n):z99 n f z m g z' (x0c n r)=(ljB n f g r&&decide (r z=z')):=by
 show(x3m n m (x0c n r)&&(ljB n f g (x6t (x0f ((List.range n).map r)))&&decide (x6t (x0f ((List.range n).map r)) z=z')))=_
 rw[y9f hr,Bool.true_and,x42 hz]
 congr 1
 rw[Bool.eq_iff_iff,y8p,y8p]
 constructor
 ·intro h x y hx hy
  have:=h x y hx hy
  rw[x42 hx,x42 hy,x42 (cl x y hx hy)]at this
  exact this
 ·intro h x y hx hy
  rw[x42 hx,x42 hy,x42 (cl x y hx hy)]
  exact h x y hx hy
variable (L:Lad n f)(hz:z<n)(bz:∀ j,j<n->f z j=j)(M:Lad m g)(hz':z'<m)(bz':∀ j,j<m->g z' j=j)
include L hz bz M hz' bz'
theorem IsMap.least {h:Nat->Nat}(p:IsMap n f z m g h):h z=z':=M.le_anti (p.lt z hz) hz' (p.bt z' hz') (bz' _ (p.lt z hz))
theorem z0g {r:Nat->Nat}(hr:∀ i,i<n->r i<m):z99 n f z m g z' (x0c n r)=true ↔ IsMap n f z m g r:=by
 rw[z52 hz hr L.cl,Bool.and_eq_true,y8p,decide_eq_true_eq]
 exact⟨fun⟨h1,h2⟩=>⟨hr,h1,fun j hj=>by rw[h2];exact bz' j hj⟩,fun p=>⟨p.jn,p.least L hz bz M hz' bz'⟩⟩
theorem y81 (d:D):x6p [x09 n f,x09 m g,d]=some (.bl (z99 n f z m g z' d),9):=by
 have hn:n<=1000:=Nat.le_trans L.hi (by decide)
 have hm:m<=1000:=Nat.le_trans M.hi (by decide)
 have v2:x05 2 [some (x09 n f,9),some (x09 m g,9),some (d,x20 d)]=some (d,x20 d,[some (x09 n f,9),some (x09 m g,9),some (d,x20 d)]):=x5j rfl
 have v0:x05 0 [some (x09 n f,9),some (x09 m g,9),some (d,x20 d)]=some (x09 n f,9,[some (x09 n f,9),some (x09 m g,9),some (d,x20 d)]):=rfl
 have v1:x05 1 [some (x09 n f,9),some (x09 m g,9),some (d,x20 d)]=some (x09 m g,9,[some (x09 n f,9),some (x09 m g,9),some (d,x20 d)]):=rfl
 have l0:x10 0 [some (x09 n f,9),some (x09 m g,9),some (d,x20 d)]=some (.int (Int.ofNat n),9,[some (x09 n f,9),some (x09 m g,9),some (d,x20 d)]):=x9y rfl x17
 have l1:x10 1 [some (x09 n f,9),some (x09 m g,9),some (d,x20 d)]=some (.int (Int.ofNat m),9,[some (x09 n f,9),some (x09 m g,9),some (d,x20 d)]):=x9y rfl x17
 have c1:=x0p (n:=3) (x0u v2 (x0u l0 (x0z l1))) rfl (y52 n m hn d)
 unfold x6p z0p
 refine x1l ?_
 show x14 _ _ [some (x09 n f,9),some (x09 m g,9),some (d,x20 d)]=_
 cases hR:x3m n m d with
 | false=>
  rw[hR]at c1
  rw[z44 hR]
  exact x80 ((z75 (y13 (x8y c1))).trans rfl)
 | true=>
  rw[hR]at c1
  refine(x0j ((y2f (y13 (x8y c1))).trans rfl)).trans ?_
  cases d with
  | tup ds=>
   have e:=z9w hR
   have hb:∀ i,i<n->x6t ds i<m:=fun i hi=>((z3r hR).2 i hi).2
   have r:=z71 L (g:=g) hb
   rw[<- e]at r
   have c2:=x0p (n:=3) (x0u v0 (x0u v1 (x0z v2))) rfl r
   have k1:=x0p (n:=1) (x0z v0) rfl (y28 L hz bz hn)
   have k2:=x0p (n:=1) (x0z v1) rfl (y28 M hz' bz' hm)
   have at1:atD (.tup ds) (Int.ofNat z)=some (.int (Int.ofNat (x6t ds z))):=by rw[e];exact x1x hz
   have k3:=x90 (x93 (i:=2) k1 rfl at1 rfl) k2 (x96 _ _)
   refine x1j (ρ1:=[some (x09 n f,9),some (x09 m g,9),some ((D.tup ds),x20 (D.tup ds))]) ?_
   show _=some (D.bl (x3m n m (.tup ds)&&(ljB n f g (x6t ds)&&decide (x6t ds z=z'))),9,_)
   rw[hR,Bool.true_and]
   unfold y8k
   rw[c2]
   cases hl:ljB n f g (x6t ds)with
   | false=>rfl
   | true=>exact k3
  | _=>cases hR
theorem y87 (d:D):x34 [x09 n f,x09 m g,d]=if z99 n f z m g z' d=true then(none:Option Str)else some ("NoMap":Str):=by
 have v2:x05 2 [some (x09 n f,9),some (x09 m g,9),some (d,x20 d)]=some (d,x20 d,[some (x09 n f,9),some (x09 m g,9),some (d,x20 d)]):=x5j rfl
 have v0:x05 0 [some (x09 n f,9),some (x09 m g,9),some (d,x20 d)]=some (x09 n f,9,[some (x09 n f,9),some (x09 m g,9),some (d,x20 d)]):=rfl
 have v1:x05 1 [some (x09 n f,9),some (x09 m g,9),some (d,x20 d)]=some (x09 m g,9,[some (x09 n f,9),some (x09 m g,9),some (d,x20 d)]):=rfl
 have c1:=x0p (n:=3) (x0u v0 (x0u v1 (x0z v2))) rfl (y81 L hz bz M hz' bz' d)
 unfold x34 fnX x7c
 show j3o _ _ _ [some (x09 n f,9),some (x09 m g,9),some (d,x20 d)]=_
 unfold j3o x43 x76
 simp only[c1]
 cases z99 n f z m g z' d<;>rfl
theorem z5q (d:D):x63 [x09 n f,x09 m g,d]=if z99 n f z m g z' d=true then(none:Option Str)else some ("NoMap":Str):=by
 have v2:x05 2 [some (x09 n f,9),some (x09 m g,9),some (d,x20 d)]=some (d,x20 d,[some (x09 n f,9),some (x09 m g,9),some (d,x20 d)]):=x5j rfl
 have v0:x05 0 [some (x09 n f,9),some (x09 m g,9),some (d,x20 d)]=some (x09 n f,9,[some (x09 n f,9),some (x09 m g,9),some (d,x20 d)]):=rfl
 have v1:x05 1 [some (x09 n f,9),some (x09 m g,9),some (d,x20 d)]=some (x09 m g,9,[some (x09 n f,9),some (x09 m g,9),some (d,x20 d)]):=rfl
 have c1:=x0u v0 (x0u v1 (x0z v2))
 unfold x63 fnX y8c
 show y7j _ 3 _ [some (x09 n f,9),some (x09 m g,9),some (d,x20 d)]=_
 unfold y7j
 rw[c1]
 exact y87 L hz bz M hz' bz' d
theorem y6b {h:Nat->Nat}(p:IsMap n f z m g h):x3e [x09 n f,x09 m g,x0c n h]=some (.non,9):=by
 have e:=y81 L hz bz M hz' bz' (x0c n h)
 rw[(z0g L hz bz M hz' bz' p.lt).mpr p]at e
 unfold x3e x7m
 simp[e]
omit M hz' bz'
def bk (n:Nat)(f:Nat->Nat->Nat)(z:Nat)(g:Nat->Nat->Nat)(h:Nat->Nat)(w:Nat):Nat:=((List.range n).filter fun x=>decide (g (h x) w=w)).foldl f z
theorem y44 {h:Nat->Nat}{w:Nat}:bk n f z g h w<n:=L.fold_lt hz fun x mm=>List.mem_range.mp (List.mem_filter.mp mm).1
include M
theorem y2o {h:Nat->Nat}(p:IsMap n f z m g h){x w:Nat}(hx:x<n)(hw:w<m):g (h x) w=w ↔ f x (bk n f z g h w)=bk n f z g h w:=by
 have lt:∀ y,y∈(List.range n).filter (fun x=>decide (g (h x) w=w))->y<n:=fun y mm=>List.mem_range.mp (List.mem_filter.mp mm).1
 constructor
 ·intro e
  exact L.fold_mem hz lt (List.mem_filter.mpr ⟨List.mem_range.mpr hx,decide_eq_true e⟩)
 ·intro e
  have up:∀ (l:List Nat) (a:Nat),a<n->(∀ y∈l,y<n/\g (h y) w=w)->g (h a) w=w->g (h (l.foldl f a)) w=w/\l.foldl f a<n:=by
   intro l
   induction l with
   | nil=>intro a ha _ e;exact⟨e,ha⟩
   | cons y l ih=>
    intro a ha hl e
    have hy:=hl y List.mem_cons_self
    refine ih (f a y) (L.cl a y ha hy.1) (fun u mu=>hl u (List.mem_cons_of_mem _ mu)) ?_
    rw[p.jn a y ha hy.1]
    exact M.lub (p.lt a ha) (p.lt y hy.1) hw e hy.2
  have hb:=up _ z hz (fun y mm=>⟨lt y mm,of_decide_eq_true (List.mem_filter.mp mm).2⟩) (p.bt w hw)
  have hbl:bk n f z g h w<n:=y44 L hz bz
  have mono:g (h x) (h (bk n f z g h w))=h (bk n f z g h w):=by rw[<- p.jn x _ hx hbl,e]
  exact M.le_trans (p.lt x hx) (p.lt _ hbl) hw mono hb.1
include hz' bz'
theorem y4v {h:Nat->Nat}(p:IsMap n f z m g h):x5g [x09 n f,x09 m g,x0c n h]=some (x0c m (bk n f z g h),9):=by
 have hn:n<=1000:=Nat.le_trans L.hi (by decide)
 have hm:m<=1000:=Nat.le_trans M.hi (by decide)
 unfold x5g y82
 refine x1l ?_
 show x14 _ _ [some (x09 n f,9),some (x09 m g,9),some (x0c n h,9)]=_
 refine(x0j (ρ1:=[some (x09 n f,9),some (x09 m g,9),some (x0c n h,9)]) (by simp[y6b L hz bz M hz' bz' p])).trans ?_
 have hc:=x1b (k:=1) (tt:=x1i) (te:=x0m x41 2 (x01 (x05 0) (x01 (x0m x4k 3 (x01 (x05 1) (x01 (x05 2) (x01 (x05 3) x0g)))) x0g))) (deep:=false) (x2u hm (i:=1) (ρ:=[some (x09 n f,9),some (x09 m g,9),some (x0c n h,9)]) rfl x17) (y5i (i:=3) rfl (fun _=>true) (fun w=>.int (Int.ofNat (bk n f z g h w))) (fun _=>9) (fun j hj=>rfl) (fun j hj _=>by
  have e1:=y7i (g:=g) hn p.lt hj
  have e2:=z37 L hz bz hn (l:=(List.range n).filter fun x=>decide (g (h x) j=j)) (Nat.le_trans (List.length_filter_le _ _) (by rw[List.length_range];exact hn)) (fun x mm=>List.mem_range.mp (List.mem_filter.mp mm).1)
  exact x0p (x0u (f:=x05 0) (q:=9) rfl (x0z (x0p (ds:=[x09 m g,x0c n h,.int (Int.ofNat j)]) rfl rfl e1))) rfl e2))
 rw[show(List.range m).filter (fun _=>true)=List.range m by simp]at hc
 exact x1j ((x2q (x0z hc)).trans (congrArg (fun d=>some (d,9,_)) (y6k _)))
end
theorem y3h {n m:Nat}(hn:n<=1000){r s:Nat->Nat}(hr:∀ i,i<n->r i<m):x7i [x0c n r,x0c m s]=some (x0c n fun i=>s (r i),9):=by
 unfold x7i z48
 refine x1l (x1j (ρ1:=[some (x0c n r,9),some (x0c m s,9)]) ?_)
 have hi:x4w (x05 0) [some (x0c n r,9),some (x0c m s,9)]=some (x0f ((List.range n).map r),[some (x0c n r,9),some (x0c m s,9)]):=by
  simp[x0c,x0x,hn]
 have hc:=x1b (k:=1) (te:=x19 1 (x05 2)) (deep:=false) hi (z5i (i:=2) ((List.range n).map r) rfl (fun y=>.int (Int.ofNat (s y))) (fun _=>9) (fun y hy=>by
  obtain⟨i,hi,rfl⟩:=List.mem_map.mp hy
  have:=hr i (List.mem_range.mp hi)
  simp[-Int.ofNat_eq_natCast,x1x this]))
 rw[List.map_map]at hc
 exact(x2q (x0z hc)).trans (congrArg (fun d=>some (d,9,_)) (y6k (fun i=>s (r i))))
def y22 (n:Nat)(f:Nat->Nat->Nat)(z:Nat)(g:Nat->Nat->Nat)(h:Nat->Nat)(C:Cht):Cht:=⟨C.p,C.W.map fun w=>(w.1,w.2.1,fun i=>h (w.2.2 (bk n f z g h i))),C.B.map fun b=>(b.1,h b.2)⟩
theorem y2t {f:Nat->Nat->Nat}{C:Cht}{v:List Nat}:ClS f (x2m C) v ↔ (∀ b∈C.B,f b.2 (gv v b.1)=gv v b.1)/\∀ w∈C.W,f (w.2.2 (gv v w.1)) (gv v w.2.1)=gv v w.2.1:=by
 constructor
 ·intro h
  exact⟨fun b hb=>h (y14 b) (List.mem_append_left _ (List.mem_map_of_mem hb)),fun w hw=>h (y5b w) (List.mem_append_right _ (List.mem_map_of_mem hw))⟩
 ·intro h s hs
  rcases List.mem_append.mp hs with m|m
  ·obtain⟨b,hb,rfl⟩:=List.mem_map.mp m
   exact h.1 b hb
  ·obtain⟨w,hw,rfl⟩:=List.mem_map.mp m
   exact h.2 w hw
theorem z9e {n m:Nat}(hm:m<=1000){b r h:Nat->Nat}(hb:∀ i,i<m->b i<n)(hr:∀ i,i<n->r i<n):x1m [x0c m b,x0c n r,x0c n h]=some (x0c m fun i=>h (r (b i)),9):=by
 unfold x1m x73
 have e1:=y3h (s:=r) hm hb
 have e2:=y3h (r:=fun i=>r (b i)) (s:=h) hm (fun i hi=>hr _ (hb i hi))
 exact x1l (x1j (x0p (x0u (x0p (ds:=[x0c m b,x0c n r]) rfl rfl e1) (x0z (f:=x05 2) (q:=9) rfl)) rfl e2))
section
variable {n m:Nat}{f g:Nat->Nat->Nat}{z z':Nat}(L:Lad n f)(hz:z<n)(bz:∀ j,j<n->f z j=j)(M:Lad m g)(hz':z'<m)(bz':∀ j,j<m->g z' j=j){h:Nat->Nat}(P:IsMap n f z m g h)
include L hz bz M P
theorem z3t {x y:Nat}(hx:x<m)(hy:y<m)(e:g x y=y):f (bk n f z g h x) (bk n f z g h y)=bk n f z g h y:=by
 have b1:bk n f z g h x<n:=y44 L hz bz
 refine(y2o L hz bz M P b1 hy).mp ?_
 exact M.le_trans (P.lt _ b1) hx hy ((y2o L hz bz M P b1 hx).mpr (L.idem _ b1)) e
theorem x9c {x y:Nat}(hx:x<n)(hy:y<n)(e:f x y=y):g (h x) (h y)=h y:=by rw[<- P.jn x y hx hy,e]
theorem j1a {C:Cht}(hC:C.Ok n f):(y22 n f z g h C).Ok m g where
 p1:=hC.p1
 p8:=hC.p8
 w60:=by show(C.W.map _).length<=60;rw[List.length_map];exact hC.w60
 b60:=by show(C.B.map _).length<=60;rw[List.length_map];exact hC.b60
 ws:=fun w hw=>by
  obtain⟨w0,h0,rfl⟩:=List.mem_map.mp hw
  obtain⟨a1,a2,a3,a4⟩:=hC.ws w0 h0
  have bl:∀ i,bk n f z g h i<n:=fun i=>y44 L hz bz
  exact⟨a1,a2,fun i hi=>P.lt _ (a3 _ (bl i)),fun x y hx hy e=>x9c L hz bz M P (a3 _ (bl x)) (a3 _ (bl y)) (a4 _ _ (bl x) (bl y) (z3t L hz bz M P hx hy e))⟩
 bs:=fun b hb=>by
  obtain⟨b0,h0,rfl⟩:=List.mem_map.mp hb
  obtain⟨a1,a2⟩:=hC.bs b0 h0
  exact⟨a1,P.lt _ a2⟩
include hz' bz'
theorem z4z {C:Cht}(hC:C.Ok n f):x3q [x09 n f,x09 m g,x0c n h,x0e n C]=some (x0e m (y22 n f z g h C),9):=by
 have hm:m<=1000:=Nat.le_trans M.hi (by decide)
 have bl:∀ i,i<m->bk n f z g h i<n:=fun i _=>y44 L hz bz
 unfold x3q x8s
 refine x1l ?_
 show x14 _ _ [some (x09 n f,9),some (x09 m g,9),some (x0c n h,9),some (x0e n C,9),none,none,none]=_
 refine(x0j (ρ1:=[some (x09 n f,9),some (x09 m g,9),some (x0c n h,9),some (x0e n C,9),some (x0c m (bk n f z g h),9),none,none]) (x1q (x0p (ds:=[x09 n f,x09 m g,x0c n h]) rfl rfl (y4v L hz bz M hz' bz' P)) rfl)).trans ?_
 have i1:x4w (x19 3 (eC (.int 1))) [some (x09 n f,9),some (x09 m g,9),some (x0c n h,9),some (x0e n C,9),some (x0c m (bk n f z g h),9),none,none]=some (C.W.map (x5u n),[some (x09 n f,9),some (x09 m g,9),some (x0c n h,9),some (x0e n C,9),some (x0c m (bk n f z g h),9),none,none]):=by
  have hw:=hC.w60
  have e:x19 3 (eC (.int 1)) [some (x09 n f,9),some (x09 m g,9),some (x0c n h,9),some (x0e n C,9),some (x0c m (bk n f z g h),9),none,none]=some (.tup (C.W.map (x5u n)),9,[some (x09 n f,9),some (x09 m g,9),some (x0c n h,9),some (x0e n C,9),some (x0c m (bk n f z g h),9),none,none]):=rfl
  unfold x4w
  rw[e]
  simp only[List.length_map]
  rw[if_pos (by omega)]
 have c1:=x1b (k:=3) (tt:=x1i) (te:=x6z (x01 (x05 7) (x01 (x05 8) (x01 (x0m x1m 3 (x01 (x05 4) (x01 (x05 9) (x01 (x05 2) x0g)))) x0g)))) (deep:=false) (pt:=y64 (x18 (x0n 7) (x18 (x0n 8) (x18 (x0n 9) x5v)))) i1 (y0t (x5u n) (fun w=>[some (.int (Int.ofNat w.1),9),some (.int (Int.ofNat w.2.1),9),some (x0c n w.2.2,9)]) (fun _=>true) (fun w=>x5u m (w.1,w.2.1,fun i=>h (w.2.2 (bk n f z g h i)))) (fun _=>9) C.W (fun w hw=>⟨rfl,rfl,fun _=>by
  obtain⟨_,_,a3,_⟩:=hC.ws w hw
  exact z02 (x0u (f:=x05 7) (q:=9) rfl (x0u (f:=x05 8) (q:=9) rfl (x0z (x0p (ds:=[x0c m (bk n f z g h),x0c n w.2.2,x0c n h]) rfl rfl (z9e hm bl a3))))) (show 3<=1000 by decide)⟩))
 have e1:(C.W.filter fun _=>true).map (fun w=>x5u m (w.1,w.2.1,fun i=>h (w.2.2 (bk n f z g h i))))=(y22 n f z g h C).W.map (x5u m):=by
  show _=(C.W.map _).map (x5u m)
  rw[List.map_map,List.filter_eq_self.mpr fun _ _=>rfl]
  rfl
 rw[e1]at c1
 refine(x0j (ρ1:=[some (x09 n f,9),some (x09 m g,9),some (x0c n h,9),some (x0e n C,9),some (x0c m (bk n f z g h),9),some (.lst ((y22 n f z g h C).W.map (x5u m)),1),none]) (x1q c1 rfl)).trans ?_
 have i2:x4w (x19 3 (eC (.int 2))) [some (x09 n f,9),some (x09 m g,9),some (x0c n h,9),some (x0e n C,9),some (x0c m (bk n f z g h),9),some (.lst ((y22 n f z g h C).W.map (x5u m)),1),none]=some (C.B.map x98,[some (x09 n f,9),some (x09 m g,9),some (x0c n h,9),some (x0e n C,9),some (x0c m (bk n f z g h),9),some (.lst ((y22 n f z g h C).W.map (x5u m)),1),none]):=by
  have hb:=hC.b60
  have e:x19 3 (eC (.int 2)) [some (x09 n f,9),some (x09 m g,9),some (x0c n h,9),some (x0e n C,9),some (x0c m (bk n f z g h),9),some (.lst ((y22 n f z g h C).W.map (x5u m)),1),none]=some (.tup (C.B.map x98),9,[some (x09 n f,9),some (x09 m g,9),some (x0c n h,9),some (x0e n C,9),some (x0c m (bk n f z g h),9),some (.lst ((y22 n f z g h C).W.map (x5u m)),1),none]):=rfl
  unfold x4w
  rw[e]
  simp only[List.length_map]
  rw[if_pos (by omega)]
 have c2:=x1b (k:=2) (tt:=x1i) (te:=x6z (x01 (x05 7) (x01 (x19 2 (x05 8)) x0g))) (deep:=false) (pt:=y64 (x18 (x0n 7) (x18 (x0n 8) x5v))) i2 (y0t x98 (fun b=>[some (.int (Int.ofNat b.1),9),some (.int (Int.ofNat b.2),9)]) (fun _=>true) (fun b=>x98 (b.1,h b.2)) (fun _=>9) C.B (fun b hb=>⟨rfl,rfl,fun _=>by
  obtain⟨_,a2⟩:=hC.bs b hb
  exact z02 (x0u (f:=x05 7) (q:=9) rfl (x0z (x93 (i:=2) (b:=x05 8) (q':=9) rfl rfl (x1x (r:=h) a2) rfl))) (show 2<=1000 by decide)⟩))
 have e2:(C.B.filter fun _=>true).map (fun b=>x98 (b.1,h b.2))=(y22 n f z g h C).B.map x98:=by
  show _=(C.B.map _).map x98
  rw[List.map_map,List.filter_eq_self.mpr fun _ _=>rfl]
  rfl
 rw[e2]at c2
 refine(x0j (ρ1:=[some (x09 n f,9),some (x09 m g,9),some (x0c n h,9),some (x0e n C,9),some (x0c m (bk n f z g h),9),some (.lst ((y22 n f z g h C).W.map (x5u m)),1),some (.lst ((y22 n f z g h C).B.map x98),1)]) (x1q c2 rfl)).trans ?_
 exact x1j (z02 (x0u (f:=x19 3 (eC (.int 0))) (q:=9) rfl (x0u (x2q (x0z (x8b (i:=5) (q:=1) (ds:=(y22 n f z g h C).W.map (x5u m)) rfl))) (x0z (x2q (x0z (x8b (i:=6) (q:=1) (ds:=(y22 n f z g h C).B.map x98) rfl)))))) (show 3<=1000 by decide))
omit hz' bz'
theorem y9z {C:Cht}(hC:C.Ok n f){v:List Nat}(hv:Vn m C.p v)(cl:ClS g (x2m (y22 n f z g h C)) v):Vn n C.p (v.map (bk n f z g h))/\ClS f (x2m C) (v.map (bk n f z g h)):=by
 have gm:∀ i,i<C.p->gv (v.map (bk n f z g h)) i=bk n f z g h (gv v i):=fun i hi=>by
  unfold gv
  rw[List.getD_eq_getElem?_getD,List.getElem?_map,List.getD_eq_getElem?_getD,List.getElem?_eq_getElem (by rw[hv.len];exact hi)]
  rfl
 have bl:∀ i,bk n f z g h i<n:=fun i=>y44 L hz bz
 refine⟨⟨by rw[List.length_map];exact hv.len,fun x hx=>?_⟩,y2t.mpr ⟨fun b hb=>?_,fun w hw=>?_⟩⟩
 ·obtain⟨y,_,rfl⟩:=List.mem_map.mp hx
  exact bl y
 ·obtain⟨a1,a2⟩:=hC.bs b hb
  rw[gm _ a1]
  exact(y2o L hz bz M P a2 (hv.gv a1)).mp ((y2t.mp cl).1 (b.1,h b.2) (List.mem_map_of_mem hb))
 ·obtain⟨a1,a2,a3,_⟩:=hC.ws w hw
  rw[gm _ a1,gm _ a2]
  exact(y2o L hz bz M P (a3 _ (bl _)) (hv.gv a2)).mp ((y2t.mp cl).2 (w.1,w.2.1,fun i=>h (w.2.2 (bk n f z g h i))) (List.mem_map_of_mem hw))
end
theorem j7x {α:Type}(l:List α):l.filter (fun _=>true)=l:=by simp
theorem z1t {n:Nat}{r:Nat->Nat}:x5o (x0c n r)=some n:=by simp[x0c,x5o,x0x]
theorem j88 {p n:Nat}{l:List D}(h:l.length≠p):x3m p n (.tup l)=false:=by
 unfold x3m
 simp[h]
theorem j6e:x6v [.exc "NoMap"]=some (.str "no map",9):=by rfl
theorem z8t {L:List Str}{f:x1a}{y:z2v}{ie ik:Nat}{ρ:Rho}(h:y ρ=none):y8b L f y ie ik ρ=f ρ:=by unfold y8b;rw[h]
theorem j2a {L:List Str}{f:x1a}{y:z2v}{ie ik:Nat}{ρ ρ1:Rho}{nm:Str}(h:y ρ=some (nm,ρ1))(hm:nm∈L):y8b L f y ie ik ρ=some (.nx (((ρ1.set ie (some (.exc nm,9))).set ik (some (.exc nm,9))).set ie none)):=by unfold y8b;rw[h];exact if_pos hm
theorem z1f {Fx:List D->Option Str}{n:Nat}{g:x1v}{ρ ρ1:Rho}{ds:List D}{o:Option Str}(h:g ρ=some (ds,ρ1))(hl:ds.length=n)(hF:Fx ds=o):z2s Fx n g ρ=o.map fun nm=>(nm,ρ1):=by unfold z2s;rw[h];simp only[hl,if_true,hF]
theorem j23 {a b:x23}{ρ:Rho}{x y:Bool}(h1:a ρ=some (x,ρ))(h2:b ρ=some (y,ρ)):y2q a b ρ=some (x&&y,ρ):=by
 unfold y2q
 rw[h1]
 cases x<;>simp[h2]
theorem k03 {a b:x23}{ρ:Rho}{x y:Bool}(h1:a ρ=some (x,ρ))(h2:b ρ=some (y,ρ)):y8i a b ρ=some (x||y,ρ):=by
 unfold y8i
 rw[h1]
 cases x<;>simp[h2]
theorem z5a (val:Nat->Int):∀ n,(firstMet val n).length=n->∀ i j,i<n->j<n->val i=val j->i=j
 | 0,_,i,_,hi,_,_=>absurd hi (Nat.not_lt_zero i)
 | n+1,h,i,j,hi,hj,e=>by
  rw[firstMet_succ]at h
  have le:=firstMet_length_le val n
  have any:=firstMet_any val n (val n)
  unfold step_dedup at h
  split at h
  ·omega
  ·rename_i hn
   rw[List.length_append,List.length_singleton]at h
   have no:∀ k,k<n->val k≠val n:=fun k hk ee=>by
    refine hn ?_
    rw[any,List.any_eq_true]
    exact⟨val k,List.mem_map.mpr ⟨k,List.mem_range.mpr hk,rfl⟩,by simp[ee]⟩
   have ih:=z5a val n (by omega)
   by_cases a:i=n
   ·by_cases b:j=n
    ·omega
    ·exact absurd (by rw[<- e,a]) (no j (by omega))
   ·by_cases b:j=n
    ·exact absurd (by rw[e,b]) (no i (by omega))
    ·exact ih i j (by omega) (by omega) e
section
variable {n m:Nat}{f g:Nat->Nat->Nat}{z z':Nat}(L:Lad n f)(hz:z<n)(bz:∀ j,j<n->f z j=j)(M:Lad m g)(hz':z'<m)(bz':∀ j,j<m->g z' j=j){h:Nat->Nat}(P:IsMap n f z m g h)
include L hz bz M P
theorem j5k {x:Nat}(hx:x<n):f x (bk n f z g h (h x))=bk n f z g h (h x):=(y2o L hz bz M P hx (P.lt x hx)).mp (M.idem _ (P.lt x hx))
theorem j58 {w:Nat}(hw:w<m):g (h (bk n f z g h w)) w=w:=(y2o L hz bz M P (y44 L hz bz) hw).mpr (L.idem _ (y44 L hz bz))
theorem j8e (inj:∀ i j,i<n->j<n->h i=h j->i=j){x:Nat}(hx:x<n):bk n f z g h (h x)=x:=by
 have b:bk n f z g h (h x)<n:=y44 L hz bz
 have e:=j58 L hz bz M P (P.lt x hx)
 rw[<- P.jn _ _ b hx]at e
 exact L.le_anti b hx (inj _ _ (L.cl _ _ b hx) hx e) (j5k L hz bz M P hx)
theorem j5c (inj:∀ i j,i<n->j<n->h i=h j->i=j){C:Cht}(hC:C.Ok n f){u:List Nat}(hu:Vn n C.p u)(cl:ClS f (x2m C) u):ClS g (x2m (y22 n f z g h C)) ((List.range C.p).map fun i=>h (gv u i)):=by
 obtain⟨c1,c2⟩:=y2t.mp cl
 refine y2t.mpr ⟨fun b hb=>?_,fun w hw=>?_⟩
 ·obtain⟨b0,h0,rfl⟩:=List.mem_map.mp hb
  obtain⟨a1,a2⟩:=hC.bs b0 h0
  show g (h b0.2) (gv ((List.range C.p).map fun i=>h (gv u i)) b0.1)=gv ((List.range C.p).map fun i=>h (gv u i)) b0.1
  rw[x4y _ a1]
  exact x9c L hz bz M P a2 (hu.gv a1) (c1 b0 h0)
 ·obtain⟨w0,h0,rfl⟩:=List.mem_map.mp hw
  obtain⟨a1,a2,a3,_⟩:=hC.ws w0 h0
  show g (h (w0.2.2 (bk n f z g h (gv ((List.range C.p).map fun i=>h (gv u i)) w0.1)))) (gv ((List.range C.p).map fun i=>h (gv u i)) w0.2.1)=gv ((List.range C.p).map fun i=>h (gv u i)) w0.2.1
  rw[x4y _ a1,x4y _ a2,j8e L hz bz M P inj (hu.gv a1)]
  exact x9c L hz bz M P (a3 _ (hu.gv a1)) (hu.gv a2) (c2 w0 h0)
include hz' bz'
theorem y49 {r:Nat->Nat}(hr:∀ i,i<n->r i<n):x4b [x09 n f,x09 m g,x0c n h,x0c n r]=some (x0c m fun i=>h (r (bk n f z g h i)),9):=by
 have hm:m<=1000:=Nat.le_trans M.hi (by decide)
 unfold x4b y0g
 exact x1l (x1j (ρ1:=[some (x09 n f,9),some (x09 m g,9),some (x0c n h,9),some (x0c n r,9)]) (x0p (ds:=[x0c m (bk n f z g h),x0c n r,x0c n h]) (x0u (x0p (ds:=[x09 n f,x09 m g,x0c n h]) rfl rfl (y4v L hz bz M hz' bz' P)) (x0u (q:=9) rfl (x0z (q:=9) rfl))) rfl (z9e hm (fun i _=>y44 L hz bz) hr)))
omit P
theorem z1g (d c:D)(hc:c.isL=false):x3d [x09 n f,x09 m g,d,c]=if z99 n f z m g z' d=true then(none:Option Str)else some ("NoMap":Str):=by
 have v2:x05 2 [some (x09 n f,9),some (x09 m g,9),some (d,x20 d),some (c,9),none,none,none]=some (d,x20 d,[some (x09 n f,9),some (x09 m g,9),some (d,x20 d),some (c,9),none,none,none]):=x5j rfl
 have c1:x01 (x05 0) (x01 (x05 1) (x01 (x05 2) x0g)) [some (x09 n f,9),some (x09 m g,9),some (d,x20 d),some (c,9),none,none,none]=some ([x09 n f,x09 m g,d],[some (x09 n f,9),some (x09 m g,9),some (d,x20 d),some (c,9),none,none,none]):=x0u (q:=9) rfl (x0u (q:=9) rfl (x0z v2))
 unfold x3d fnX x8m
 have s0:x4x 7 [x09 n f,x09 m g,d,c]=[some (x09 n f,9),some (x09 m g,9),some (d,x20 d),some (c,9),none,none,none]:=by
  show [some (x09 n f,9),some (x09 m g,9),some (d,x20 d),some (c,x20 c),none,none,none]=_
  unfold x20
  rw[hc]
  rfl
 rw[s0]
 unfold y7j
 rw[c1]
 exact z5q L hz bz M hz' bz' d
theorem z6m {C:Cht}{d:List D}(hx:z99 n f z m g z' (.tup d)=false):x2w [x09 n f,x09 m g,.tup d,x0e n C]=some (.str "no map",9):=by
 have x:=z1g L hz bz M hz' bz' (.tup d) (x0e n C) rfl
 rw[hx]at x
 unfold x2w x7b
 refine x1l ?_
 show x14 _ _ [some (x09 n f,9),some (x09 m g,9),some (.tup d,9),some (x0e n C,9),none,none,none]=_
 refine(x0j (ρ1:=[some (x09 n f,9),some (x09 m g,9),some (.tup d,9),some (x0e n C,9),some (.non,9),none,none]) rfl).trans ?_
 refine(x0j (ρ1:=[some (x09 n f,9),some (x09 m g,9),some (.tup d,9),some (x0e n C,9),some (.non,9),some (.non,9),none]) rfl).trans ?_
 refine(x0j (ρ1:=[some (x09 n f,9),some (x09 m g,9),some (.tup d,9),some (x0e n C,9),some (.exc "NoMap",9),some (.non,9),none]) ((j2a ((z1f (ds:=[x09 n f,x09 m g,.tup d,x0e n C]) rfl rfl x).trans rfl) (List.mem_singleton.mpr rfl)).trans rfl)).trans ?_
 refine(x0j (ρ1:=[some (x09 n f,9),some (x09 m g,9),some (.tup d,9),some (x0e n C,9),some (.exc "NoMap",9),some (.non,9),none]) rfl).trans ?_
 exact x1j (x0p (ds:=[.exc "NoMap"]) rfl rfl j6e)
include P
theorem z39 {C:Cht}(hC:C.Ok n f):x2w [x09 n f,x09 m g,x0c n h,x0e n C]=some (x0e m (y22 n f z g h C),9):=by
 have x:=z1g L hz bz M hz' bz' (x0c n h) (x0e n C) rfl
 rw[(z0g L hz bz M hz' bz' P.lt).mpr P]at x
 unfold x2w x7b
 refine x1l ?_
 show x14 _ _ [some (x09 n f,9),some (x09 m g,9),some (x0c n h,9),some (x0e n C,9),none,none,none]=_
 refine(x0j (ρ1:=[some (x09 n f,9),some (x09 m g,9),some (x0c n h,9),some (x0e n C,9),some (.non,9),none,none]) rfl).trans ?_
 refine(x0j (ρ1:=[some (x09 n f,9),some (x09 m g,9),some (x0c n h,9),some (x0e n C,9),some (.non,9),some (.non,9),none]) rfl).trans ?_
 refine(x0j (ρ1:=[some (x09 n f,9),some (x09 m g,9),some (x0c n h,9),some (x0e n C,9),some (.non,9),some (x0e m (y22 n f z g h C),9),none]) ((z8t ((z1f (ds:=[x09 n f,x09 m g,x0c n h,x0e n C]) rfl rfl x).trans rfl)).trans (x1q (x0p (ds:=[x09 n f,x09 m g,x0c n h,x0e n C]) rfl rfl (z4z L hz bz M hz' bz' P hC)) rfl))).trans ?_
 exact x80 ((z75 (ρ1:=[some (x09 n f,9),some (x09 m g,9),some (x0c n h,9),some (x0e n C,9),some (.non,9),some (x0e m (y22 n f z g h C),9),none]) rfl).trans (x1j (j79 rfl rfl)))
end
section
variable {n:Nat}{f:Nat->Nat->Nat}{p:Nat}{u v:List Nat}(hp:p<=1000)(hu:Vn n p u)(hv:Vn n p v)
include hp hu hv
theorem y1l:x1g [x09 n f,.lst (x0f u),.lst (x0f v)]=some (.bl (leB f p u v),9):=by
 unfold x1g x4j
 have hl:x5o (.lst (x0f u))=some p:=by simp[x5o,x0x,hu.len]
 have hc:=x1b (k:=1) (tt:=x3c (e2 dNe (eIx (x19 0 (x19 1 (x05 3))) (x19 2 (x05 3))) (x19 2 (x05 3)))) (te:=x05 3) (deep:=false) (x2u hp (i:=1) (ρ:=[some (x09 n f,9),some (.lst (x0f u),0),some (.lst (x0f v),0)]) rfl hl) (y5i (i:=3) rfl (fun j=>!decide (f (gv u j) (gv v j)=gv v j)) (fun j=>.int (Int.ofNat j)) (fun _=>9) (fun j hj=>by
  have a1:=j4v (v:=u) (i:=j) (by rw[hu.len];exact hj)
  have a2:=j4v (v:=v) (i:=j) (by rw[hv.len];exact hj)
  simp[-Int.ofNat_eq_natCast,a1,a2,x3u (f:=f) (hu.gv hj),x47 (f:=f) (i:=gv u j) (hv.gv hj),x7r]) (fun j hj _=>by simp[-Int.ofNat_eq_natCast]))
 have e':(((List.range p).filter fun j=>!decide (f (gv u j) (gv v j)=gv v j)).map fun j=>D.int (Int.ofNat j))=x0f ((List.range p).filter fun j=>!decide (f (gv u j) (gv v j)=gv v j)):=rfl
 rw[e']at hc
 have hq:dEq (.lst (x0f ((List.range p).filter fun j=>!decide (f (gv u j) (gv v j)=gv v j)))) (.lst [])=some (.bl (leB f p u v)):=by
  unfold leB
  rw[<- y4m]
  exact j1k _ []
 exact x1l (x1j (x90 hc (rfl:x6q x0g _=some (.lst [],1,_)) hq))
end
theorem z1p {n:Nat}{r:Nat->Nat}(hp:0<n):L3.j5m (x0f ((List.range n).map r)) none (some (-1))=x0f ((List.range (n-1)).map r):=by
 unfold L3.j5m
 have e1:HT.sIx (x0f ((List.range n).map r)).length 0 none=0:=rfl
 have e2:HT.sIx (x0f ((List.range n).map r)).length (x0f ((List.range n).map r)).length (some (-1))=n-1:=by
  rw[x0x,List.length_map,List.length_range]
  simp[HT.sIx]
  omega
 rw[e1,e2,List.drop_zero,Nat.sub_zero]
 simp only[x0f,<- List.map_take]
 rw[List.take_range,Nat.min_eq_left (Nat.sub_le n 1)]
section
variable (ns:List Int)(n m z:Nat)(f g:Nat->Nat->Nat)(h r s:Nat->Nat)(C:Cht)(fb:Bool)(u v:List Nat)
abbrev st6:List (OD):=[some (scr ns,0),some (x09 n f,9),some (x09 m g,9),some (x0c n h,9),some (x0e n C,9),some (x0c n r,9),some (x0c m (fun i=>h (r (bk n f z g h i))),9),none,none,none,none,none,none]
abbrev st7:List (OD):=[some (scr ns,0),some (x09 n f,9),some (x09 m g,9),some (x0c n h,9),some (x0e n C,9),some (x0c n r,9),some (x0c m (fun i=>h (r (bk n f z g h i))),9),some (.lst (x0f ((List.range n).map fun i=>h (r i))),1),none,none,none,none,none]
abbrev su7:List (OD):=[some (scr ns,0),some (x09 n f,9),some (x09 m g,9),some (x0c n h,9),some (x0e n C,9),some (x0c n r,9),some (x0c m (fun i=>h (r (bk n f z g h i))),9),some (.lst (x0f ((List.range n).map fun i=>h (r i))),0),none,none,none,none,none]
abbrev st8:List (OD):=[some (scr ns,0),some (x09 n f,9),some (x09 m g,9),some (x0c n h,9),some (x0e n C,9),some (x0c n r,9),some (x0c m (fun i=>h (r (bk n f z g h i))),9),some (.lst (x0f ((List.range n).map fun i=>h (r i))),0),some (x0c m s,9),none,none,none,none]
abbrev st9:List (OD):=[some (scr ns,0),some (x09 n f,9),some (x09 m g,9),some (x0c n h,9),some (x0e n C,9),some (x0c n r,9),some (x0c m (fun i=>h (r (bk n f z g h i))),9),some (.lst (x0f ((List.range n).map fun i=>h (r i))),0),some (x0c m s,9),some (.bl fb,9),none,none,none]
abbrev j7w:List (OD):=[some (scr ns,0),some (x09 n f,9),some (x09 m g,9),some (x0c n h,9),some (x0e n C,9),some (x0c n r,9),some (x0c m (fun i=>h (r (bk n f z g h i))),9),some (.lst (x0f ((List.range n).map fun i=>h (r i))),0),some (x0c m s,9),some (.bl fb,9),some (x0e m (y22 n f z g h C),9),none,none]
abbrev y8n:List (OD):=[some (scr ns,0),some (x09 n f,9),some (x09 m g,9),some (x0c n h,9),some (x0e n C,9),some (x0c n r,9),some (x0c m (fun i=>h (r (bk n f z g h i))),9),some (.lst (x0f ((List.range n).map fun i=>h (r i))),0),some (x0c m s,9),some (.bl fb,9),some (x0e m (y22 n f z g h C),9),some (.tup (x0f ((List.range C.p).map fun i=>h (gv u i))),9),none]
abbrev z2e:List (OD):=[some (scr ns,0),some (x09 n f,9),some (x09 m g,9),some (x0c n h,9),some (x0e n C,9),some (x0c n r,9),some (x0c m (fun i=>h (r (bk n f z g h i))),9),some (.lst (x0f ((List.range n).map fun i=>h (r i))),0),some (x0c m s,9),some (.bl fb,9),some (x0e m (y22 n f z g h C),9),some (.tup (x0f ((List.range C.p).map fun i=>h (gv u i))),9),some (.tup (x0f v),9)]
end
theorem law_true (ns:List Int)(h63:ns.length<=63):∃ q,z20 [.lst (ns.map D.int)]=some (.bl true,q):=by
 obtain⟨n,f,L,hL⟩:=j5h ns 0 (Int.le_refl 0)
 obtain⟨z,hz,bz⟩:=L.bot
 have hn:n<=1000:=Nat.le_trans L.hi (by decide)
 obtain⟨m,g,h,M,P,eM⟩:=z1y L hz bz ns 200 (by decide)
 obtain⟨z',hz',bz'⟩:=M.bot
 have hm:m<=1000:=Nat.le_trans M.hi (by decide)
 obtain⟨C,hC,_,_,_,eCt⟩:=y72 L hz bz ns 20 (by decide)
 obtain⟨d1,hd1,eR⟩:=x97 L hz bz ns 230 (by decide)
 obtain⟨d2,hd2,eS⟩:=x97 M hz' bz' ns 260 (by decide)
 have p8:=hC.p8
 have p1:=hC.p1
 have nl:=L.lo
 have hr:∀ i,i<n->Lad.lr n f z d1 i<n:=fun i _=>L.lr_lt hz bz hd1 i
 have mr:∀ x y,x<n->y<n->f x y=y->f (Lad.lr n f z d1 x) (Lad.lr n f z d1 y)=Lad.lr n f z d1 y:=fun x y hx hy e=>L.lr_rises hz bz hd1 hx hy e
 have hs:∀ i,i<m->Lad.lr m g z' d2 i<m:=fun i _=>M.lr_lt hz' bz' hd2 i
 have ms:∀ x y,x<m->y<m->g x y=y->g (Lad.lr m g z' d2 x) (Lad.lr m g z' d2 y)=Lad.lr m g z' d2 y:=fun x y hx hy e=>M.lr_rises hz' bz' hd2 hx hy e
 generalize Lad.lr n f z d1=r at *
 generalize Lad.lr m g z' d2=s at *
 have bl:∀ i,bk n f z g h i<n:=fun i=>y44 L hz bz
 have q1:=y49 L hz bz M hz' bz' P hr
 have ho:∀ i,i<m->h (r (bk n f z g h i))<m:=fun i _=>P.lt _ (hr _ (bl i))
 have q2:=z0j (f:=g) hm ho
 rw[x84.mpr (fun y x hy hx e=>x9c L hz bz M P (hr _ (bl x)) (hr _ (bl y)) (mr _ _ (bl x) (bl y) (z3t L hz bz M P hx hy e)))]at q2
 have vg:Vn m n ((List.range n).map fun i=>h (r i)):=Vn.map fun i hi=>P.lt _ (hr i hi)
 have vo:Vn m n ((List.range n).map fun i=>h (r (bk n f z g h (h i)))):=Vn.map fun i hi=>ho _ (P.lt i hi)
 have vs:Vn m n ((List.range n).map fun i=>s (h i)):=Vn.map fun i hi=>hs _ (P.lt i hi)
 have q3:=y1l (f:=g) hn vg vo
 rw[y9n.mpr (fun i hi=>by
  rw[x4y _ hi,x4y _ hi]
  exact x9c L hz bz M P (hr i hi) (hr _ (bl _)) (mr _ _ hi (bl _) (j5k L hz bz M P hi)))]at q3
 have q4:=y1l (f:=g) hn vg vs
 have q5:=y6d (f:=g) hm ho hs
 have fits:leB g n ((List.range n).map fun i=>h (r i)) ((List.range n).map fun i=>s (h i))=true->((List.range m).all fun i=>decide (g (h (r (bk n f z g h i))) (s i)=s i))=true:=fun e=>by
  have e':=y9n.mp e
  refine L3.range_all.mpr fun i hi=>decide_eq_true ?_
  have b:=bl i
  have k1:=e' _ b
  rw[x4y _ b,x4y _ b]at k1
  exact M.le_trans (ho i hi) (hs _ (P.lt _ b)) (hs i hi) k1 (ms _ _ (P.lt _ b) hi (j58 L hz bz M P hi))
 have hD:=j1a L hz bz M P hC
 have q6:=z39 L hz bz M hz' bz' P hC
 have q7:x52 [x09 m g,x0e m (y22 n f z g h C)]=some (.bl true,9):=by rw[y9t hm,z4a hD]
 obtain⟨u,hu,q8⟩:=y32 L hz bz hC
 obtain⟨v,hv,q9⟩:=y32 M hz' bz' hD
 obtain⟨v2,hv2,q10⟩:=y68 M hD (v:=y8j C.p z') (z9k hz')
 have ev:v2=v:=M.leV_anti hv2.V hv.V (hv2.le v hv.V hv.cl (y61 bz' hv.V)) (hv.le v2 hv2.V hv2.cl (y61 bz' hv2.V))
 rw[ev]at q10
 have eu:D.tup (x0f u)=x0c C.p (gv u):=by
  unfold x0c
  have:=j98 u
  rw[hu.V.len]at this
  rw[<- this]
 have vl:Vn m C.p ((List.range C.p).map fun i=>h (gv u i)):=Vn.map fun i hi=>P.lt _ (hu.V.gv hi)
 have q11:x3j [x0c n h,.tup (x0f u)]=some (.tup (x0f ((List.range C.p).map fun i=>h (gv u i))),9):=by
  have e:=y3h (n:=C.p) (m:=n) (r:=gv u) (s:=h) (by omega) (fun i hi=>hu.V.gv hi)
  rw[<- eu]at e
  unfold x3j x79
  exact x1l (x1j (x0p (ds:=[.tup (x0f u),x0c n h]) rfl rfl e))
 have le:leV g C.p ((List.range C.p).map fun i=>h (gv u i)) v:=fun i hi=>by
  obtain⟨b1,b2⟩:=y9z L hz bz M P hC hv.V hv.cl
  have k:=hu.le _ b1 b2 (y61 bz b1) i hi
  have gm:gv (v.map (bk n f z g h)) i=bk n f z g h (gv v i):=by
   unfold gv
   rw[List.getD_eq_getElem?_getD,List.getElem?_map,List.getD_eq_getElem?_getD,List.getElem?_eq_getElem (by rw[hv.V.len];exact hi)]
   rfl
  rw[gm]at k
  rw[x4y _ hi]
  exact(y2o L hz bz M P (hu.V.gv hi) (hv.V.gv hi)).mpr k
 have q12:=y3v (f:=g) (p:=C.p) (by omega) vl hv.V
 rw[y9n.mpr le]at q12
 obtain⟨ks,hks⟩:∃ ks:List Int,ks=(List.range n).map fun i=>Int.ofNat (h i):=⟨_,rfl⟩
 have ek:x0f ((List.range n).map h)=ks.map D.int:=by rw[hks,List.map_map,x4n];rfl
 have lk:ks.length=n:=by rw[hks,List.length_map,List.length_range]
 have inj:(met ks).length=n->(List.range C.p).map (fun i=>h (gv u i))=v:=fun e=>by
  have i0:=z5a (fun i=>ks.getD i 0) n (by have e':(firstMet (fun i=>ks.getD i 0) ks.length).length=n:=e;rw[lk]at e';exact e')
  have kv:∀ i,i<n->ks.getD i 0=Int.ofNat (h i):=fun i hi=>by rw[hks,List.getD_eq_getElem?_getD,List.getElem?_map,List.getElem?_range hi];rfl
  have i1:∀ i j,i<n->j<n->h i=h j->i=j:=fun i j hi hj e=>i0 i j hi hj (by rw[kv i hi,kv j hj,e])
  exact M.leV_anti vl hv.V le (hv.le _ vl (j5c L hz bz M P i1 hC hu.V hu.cl) (y61 bz' vl))
 have q13:=z6m L hz bz M hz' bz' (C:=C) (d:=x0f ((List.range (n-1)).map h)) (z44 (j88 (by rw[x0x,List.length_map,List.length_range];omega)))
 refine⟨9,?_⟩
 unfold z20 j5i
 refine x1l ?_
 have s0:x4x 13 [.lst (ns.map D.int)]=[some (scr ns,0),none,none,none,none,none,none,none,none,none,none,none,none]:=rfl
 rw[s0]
 obtain⟨fb,hfb⟩:∃ fb,fb=leB g n ((List.range n).map fun i=>h (r i)) ((List.range n).map fun i=>s (h i)):=⟨_,rfl⟩
 rw[<- hfb]at q4 fits
 refine(x0j (ρ1:=[some (scr ns,0),some (x09 n f,9),none,none,none,none,none,none,none,none,none,none,none]) (x1q (x0p (ds:=[scr ns,.int 0]) rfl rfl hL) rfl)).trans ?_
 refine(x0j (ρ1:=[some (scr ns,0),some (x09 n f,9),some (x09 m g,9),some (x0c n h,9),none,none,none,none,none,none,none,none,none]) (j8m (x0p (ds:=[scr ns,.int 200,x09 n f]) (ρ1:=[some (scr ns,0),some (x09 n f,9),none,none,none,none,none,none,none,none,none,none,none]) rfl rfl eM) rfl (show 2<13 by decide) (show 3<13 by decide))).trans ?_
 refine(x0j (ρ1:=[some (scr ns,0),some (x09 n f,9),some (x09 m g,9),some (x0c n h,9),some (x0e n C,9),none,none,none,none,none,none,none,none]) (x1q (x0p (ds:=[scr ns,.int 20,x09 n f,.bl false]) rfl rfl eCt) rfl)).trans ?_
 refine(x0j (ρ1:=[some (scr ns,0),some (x09 n f,9),some (x09 m g,9),some (x0c n h,9),some (x0e n C,9),some (x0c n r,9),none,none,none,none,none,none,none]) (x1q (x0p (ds:=[scr ns,.int 230,x09 n f]) rfl rfl eR) rfl)).trans ?_
 refine(x0j (ρ1:=(st6 ns n m z f g h r C)) (x1q (x0p (ds:=[x09 n f,x09 m g,x0c n h,x0c n r]) rfl rfl q1) rfl)).trans ?_
 refine(x0j (ρ1:=(st6 ns n m z f g h r C)) ((y2f (y13 (x8y (x0p (ds:=[x09 m g,x0c m (fun i=>h (r (bk n f z g h i)))]) rfl rfl q2)))).trans rfl)).trans ?_
 have c7:=x1b (k:=1) (deep:=false) (pt:=x0n 13) (tt:=x1i) (te:=x19 3 (x19 5 (x05 13))) (x2u hn (i:=1) (ρ:=(st6 ns n m z f g h r C)) rfl x17) (y5i (i:=13) (deep:=false) rfl (fun _=>true) (fun k=>.int (Int.ofNat (h (r k)))) (fun _=>9) (fun j hj=>rfl) (fun j hj _=>x93 (x:=x0c n h) (q:=9) (q':=9) (x93 (x:=x0c n r) (q:=9) (q':=9) rfl rfl (x1x hj) rfl) rfl (x1x (hr j hj)) rfl))
 rw[j7x,<- x4n]at c7
 refine(x0j (ρ1:=(st7 ns n m z f g h r C)) (x1q c7 rfl)).trans ?_
 have v7:x05 7 (st7 ns n m z f g h r C)=some (.lst (x0f ((List.range n).map fun i=>h (r i))),0,(su7 ns n m z f g h r C)):=x8b (i:=7) (q:=1) rfl
 have i8:x4w (x05 3) (su7 ns n m z f g h r C)=some (x0f ((List.range n).map h),(su7 ns n m z f g h r C)):=by
  show(if(x0f ((List.range n).map h)).length<=1000 then some (x0f ((List.range n).map h),_)else none)=_
  rw[if_pos (by rw[x0x,List.length_map,List.length_range];exact hn)]
 have c8:=x1b (k:=1) (deep:=false) (pt:=x0n 13) (tt:=x1i) (te:=x19 6 (x05 13)) i8 (z5i (i:=13) (deep:=false) ((List.range n).map h) rfl (fun x=>.int (Int.ofNat (h (r (bk n f z g h x))))) (fun _=>9) (fun x hx=>by
  obtain⟨i,hi,rfl⟩:=List.mem_map.mp hx
  exact x93 (x:=x0c m (fun i=>h (r (bk n f z g h i)))) (q:=9) (q':=9) rfl rfl (x1x (P.lt i (List.mem_range.mp hi))) rfl))
 have e8:((List.range n).map h).map (fun x=>D.int (Int.ofNat (h (r (bk n f z g h x)))))=x0f ((List.range n).map fun i=>h (r (bk n f z g h (h i)))):=by rw[List.map_map,x4n];rfl
 rw[e8]at c8
 refine(x0j (ρ1:=(su7 ns n m z f g h r C)) ((y2f (y13 (x8y (x0p (ds:=[x09 m g,.lst (x0f ((List.range n).map fun i=>h (r i))),.lst (x0f ((List.range n).map fun i=>h (r (bk n f z g h (h i)))))]) (x0u (q:=9) (ρ1:=(st7 ns n m z f g h r C)) rfl (x0u v7 (x0z c8))) rfl q3)))).trans rfl)).trans ?_
 refine(x0j (ρ1:=(st8 ns n m z f g h r s C)) (x1q (x0p (ds:=[scr ns,.int 260,x09 m g]) rfl rfl eS) rfl)).trans ?_
 have v7':x05 7 (st8 ns n m z f g h r s C)=some (.lst (x0f ((List.range n).map fun i=>h (r i))),0,(st8 ns n m z f g h r s C)):=x8b (i:=7) (q:=0) rfl
 have i9:x4w (x05 3) (st8 ns n m z f g h r s C)=some (x0f ((List.range n).map h),(st8 ns n m z f g h r s C)):=by
  show(if(x0f ((List.range n).map h)).length<=1000 then some (x0f ((List.range n).map h),_)else none)=_
  rw[if_pos (by rw[x0x,List.length_map,List.length_range];exact hn)]
 have c9:=x1b (k:=1) (deep:=false) (pt:=x0n 13) (tt:=x1i) (te:=x19 8 (x05 13)) i9 (z5i (i:=13) (deep:=false) ((List.range n).map h) rfl (fun x=>.int (Int.ofNat (s x))) (fun _=>9) (fun x hx=>by
  obtain⟨i,hi,rfl⟩:=List.mem_map.mp hx
  exact x93 (x:=x0c m s) (q:=9) (q':=9) rfl rfl (x1x (P.lt i (List.mem_range.mp hi))) rfl))
 have e9:((List.range n).map h).map (fun x=>D.int (Int.ofNat (s x)))=x0f ((List.range n).map fun i=>s (h i)):=by rw[List.map_map,x4n];rfl
 rw[e9]at c9
 refine(x0j (ρ1:=(st9 ns n m z f g h r s C fb)) (x1q (x0p (ds:=[x09 m g,.lst (x0f ((List.range n).map fun i=>h (r i))),.lst (x0f ((List.range n).map fun i=>s (h i)))]) (x0u (q:=9) (ρ1:=(st8 ns n m z f g h r s C)) rfl (x0u v7' (x0z c9))) rfl q4) rfl)).trans ?_
 have t10:y2q (x76 (x05 9)) (x43 (x76 (x0m x40 3 (x01 (x05 2) (x01 (x05 6) (x01 (x05 8) x0g)))))) (st9 ns n m z f g h r s C fb)=some (fb && !((List.range m).all fun i=>decide (g (h (r (bk n f z g h i))) (s i)=s i)),(st9 ns n m z f g h r s C fb)):=j23 (x8y (q:=9) rfl) (y13 (x8y (x0p (ds:=[x09 m g,x0c m (fun i=>h (r (bk n f z g h i))),x0c m s]) rfl rfl q5)))
 have b10:(fb && !((List.range m).all fun i=>decide (g (h (r (bk n f z g h i))) (s i)=s i)))=false:=by
  cases hb:fb with
  | false=>rfl
  | true=>rw[fits hb];rfl
 rw[b10]at t10
 refine(x0j (ρ1:=(st9 ns n m z f g h r s C fb)) ((y2f t10).trans rfl)).trans ?_
 refine(x0j (ρ1:=(j7w ns n m z f g h r s C fb)) (x1q (x0p (ds:=[x09 n f,x09 m g,x0c n h,x0e n C]) rfl rfl q6) rfl)).trans ?_
 refine(x0j (ρ1:=(j7w ns n m z f g h r s C fb)) ((y2f (x56 (x90 (q':=9) (x0p (ds:=[x09 m g,x0e m (y22 n f z g h C)]) rfl rfl q7) rfl rfl))).trans rfl)).trans ?_
 refine(x0j (ρ1:=(y8n ns n m z f g h r s C fb u)) (x1q (x0p (ds:=[x0c n h,.tup (x0f u)]) (x0u (q:=9) (ρ1:=(j7w ns n m z f g h r s C fb)) rfl (x0z (x0p (ds:=[x09 n f,x0e n C]) rfl rfl q8))) rfl q11) rfl)).trans ?_
 have i12:x4w (x0m x7k 2 (x01 (x05 1) (x01 (x05 4) x0g))) (y8n ns n m z f g h r s C fb u)=some (x0f u,(y8n ns n m z f g h r s C fb u)):=by
  unfold x4w
  rw[x0p (ds:=[x09 n f,x0e n C]) (ρ1:=(y8n ns n m z f g h r s C fb u)) (ρ:=(y8n ns n m z f g h r s C fb u)) (g:=x01 (x05 1) (x01 (x05 4) x0g)) (n:=2) rfl rfl q8]
  show(if(x0f u).length<=1000 then some (x0f u,_)else none)=_
  rw[if_pos (by rw[x0x,hu.V.len];omega)]
 have c12:=x1b (k:=1) (deep:=false) (pt:=x0n 13) (tt:=x1i) (te:=x19 3 (x05 13)) i12 (z5i (i:=13) (deep:=false) u rfl (fun x=>.int (Int.ofNat (h x))) (fun _=>9) (fun x hx=>x93 (x:=x0c n h) (q:=9) (q':=9) rfl rfl (x1x (hu.V.lt x hx)) rfl))
 have e12:u.map (fun x=>D.int (Int.ofNat (h x)))=x0f ((List.range C.p).map fun i=>h (gv u i)):=by
  have:=j98 u
  rw[hu.V.len]at this
  rw[x4n]
  conv=>lhs;rw[this]
  rw[List.map_map]
  rfl
 rw[e12]at c12
 refine(x0j (ρ1:=(y8n ns n m z f g h r s C fb u)) ((y2f (x56 (x90 (q:=9) (x:=.tup (x0f ((List.range C.p).map fun i=>h (gv u i)))) (ρ1:=(y8n ns n m z f g h r s C fb u)) rfl (x2q (x0z c12)) (by rw[y5a];simp)))).trans rfl)).trans ?_
 have rp:y9h (x6z (x01 (x0m x2t 1 (x01 (x05 2) x0g)) x0g)) (x19 4 (eC (.int 0))) (y8n ns n m z f g h r s C fb u)=some (.tup (x0f (y8j C.p z')),9,(y8n ns n m z f g h r s C fb u)):=by
  have e1:x6z (x01 (x0m x2t 1 (x01 (x05 2) x0g)) x0g) (y8n ns n m z f g h r s C fb u)=some (.tup [.int (Int.ofNat z')],9,(y8n ns n m z f g h r s C fb u)):=z02 (x0z (x0p (ds:=[x09 m g]) rfl rfl (z4t M hz' bz' hm))) (show 1<=1000 by decide)
  have e2:x19 4 (eC (.int 0)) (y8n ns n m z f g h r s C fb u)=some (.int (Int.ofNat C.p),9,(y8n ns n m z f g h r s C fb u)):=rfl
  unfold y9h
  rw[e1]
  simp only[e2]
  rw[if_pos ⟨rfl,by show(1:Int)<=(C.p:Int);omega,by show 1*C.p<=1000;omega⟩]
  show some (D.tup (List.replicate C.p [D.int (Int.ofNat z')]).flatten,9,_)=_
  rw[List.flatten_replicate_singleton]
  simp[x0f,y8j]
 refine(x0j (ρ1:=(z2e ns n m z f g h r s C fb u v)) (x1q (x0p (ds:=[x09 m g,x0e m (y22 n f z g h C),.tup (x0f (y8j C.p z'))]) (x0u (q:=9) (ρ1:=(y8n ns n m z f g h r s C fb u)) rfl (x0u (q:=9) (ρ1:=(y8n ns n m z f g h r s C fb u)) rfl (x0z rp))) rfl q10) rfl)).trans ?_
 refine(x0j (ρ1:=(z2e ns n m z f g h r s C fb u v)) ((y2f (k03 (x:=false) (y:=false) (x56 (x90 (q':=9) (y:=.tup (x0f v)) (x0p (ds:=[x09 m g,x0e m (y22 n f z g h C)]) rfl rfl q9) rfl (by rw[y5a];simp))) (y13 (x8y (b:=true) (x0p (ds:=[x09 m g,.tup (x0f ((List.range C.p).map fun i=>h (gv u i))),.tup (x0f v)]) rfl rfl q12))))).trans rfl)).trans ?_
 have ls:x8w (x05 3) (z2e ns n m z f g h r s C fb u v)=some (.int (Int.ofNat (met ks).length),9,(z2e ns n m z f g h r s C fb u v)):=by
  unfold x8w
  rw[show x05 3 (z2e ns n m z f g h r s C fb u v)=some (.tup (ks.map D.int),9,(z2e ns n m z f g h r s C fb u v))by rw[<- ek];rfl]
  show(match y9k (ks.map D.int)with|some ks=>if ks.length<=1000 then some (D.int (Int.ofNat (met ks).length),9,_)else none|none=>none)=_
  rw[y55]
  show(if ks.length<=1000 then some (D.int (Int.ofNat (met ks).length),9,_)else none)=_
  rw[if_pos (by rw[lk];exact hn)]
 have t13:y2q (x3c (e2 dEq (x10 2) (x10 1))) (y2q (x3c (e2 dEq (x8w (x05 3)) (x10 3))) (x3c (e2 dNe (x05 11) (x05 12)))) (z2e ns n m z f g h r s C fb u v)=some (decide (m=n)&&(decide ((met ks).length=n) && !decide ((List.range C.p).map (fun i=>h (gv u i))=v)),(z2e ns n m z f g h r s C fb u v)):=j23 (x56 (x90 (x9y (q:=9) rfl x17) (x9y (q:=9) rfl x17) (x96 m n))) (j23 (x56 (x90 ls (x9y (q:=9) rfl z1t) (x96 _ n))) (x56 (x90 (q:=9) (q':=9) rfl rfl (y5a _ _))))
 have b13:(decide (m=n)&&(decide ((met ks).length=n) && !decide ((List.range C.p).map (fun i=>h (gv u i))=v)))=false:=by
  by_cases e:(met ks).length=n
  ·rw[decide_eq_true (inj e)];simp
  ·rw[decide_eq_false e];simp
 rw[b13]at t13
 refine(x0j (ρ1:=(z2e ns n m z f g h r s C fb u v)) ((y2f t13).trans rfl)).trans ?_
 have sl:eSl (x05 3) z1k (y8t (j6k (eC (.int 1)))) (z2e ns n m z f g h r s C fb u v)=some (.tup (x0f ((List.range (n-1)).map h)),9,(z2e ns n m z f g h r s C fb u v)):=by
  rw[<- z1p L.lo]
  rfl
 exact x1j (x90 (q':=9) (x0p (ds:=[x09 n f,x09 m g,.tup (x0f ((List.range (n-1)).map h)),x0e n C]) (x0u (q:=9) (ρ1:=(z2e ns n m z f g h r s C fb u v)) rfl (x0u (q:=9) (ρ1:=(z2e ns n m z f g h r s C fb u v)) rfl (x0u sl (x0z (q:=9) rfl)))) rfl q13) rfl (by
  unfold dEq
  have hh:lay (.str "no map")=true:=by decide +kernel
  have sh:Sh 0 (.str "no map"):=⟨hh,Nat.zero_le _⟩
  rw[if_pos ⟨sh.ok,sh.ok⟩]
  simp[eqD,toP,PyData.eqv]))
def A0 (K:PySem.W.Frag)(mg:Str->Option Value)(x:Str)(st:Stmt):Prop:=∃ f fd,Fun K x x st f fd/\mg x=some (.ref f)
theorem A0.mk {K:PySem.W.Frag}{h:Heap}{mg:Str->Option Value}{x:Str}{st:Stmt}{f:Addr}{od an:Option Addr}{sl:Array (Option Value)}{oc kV dc pm cd ct:Value}(X:K.In h)(G:h.Ns mainGlobals mg)(a:PySem.W.nsIn K mainGlobals x=some (some (.ref f)))(l:K.lookup f=some ⟨oc,od,.func (PySem.W.fnOf x x (x7d st) (x3o st) (x0b st) .none kV dc pm an cd ct),sl⟩)(c:PySem.W.codeIn K cd x=true)(k:PySem.W.keepIn K (.ref f)=true):A0 K mg x st:=⟨_,_,j01 l c k,PySem.W.mg_of X G a⟩
theorem A0.at {K:PySem.W.Frag}{mg:Str->Option Value}{x:Str}{st:Stmt}{ps:List Str}(a:A0 K mg x st)(h:∀ (kV doc pm:Value) (an:Option Addr) (cdv ct:Value) (us:List Value),us.length=ps.length->bindArgs (PySem.W.fnOf x x (x7d st) (x3o st) (x0b st) .none kV doc pm an cdv ct) ⟨us,[]⟩=pure (ps.zip us)):At K mg x st ps:=by
 obtain⟨f,fd,F,m⟩:=a
 exact⟨f,fd,F,m,F.binds h⟩
theorem all_mk {l:PySem.W.OpenLaw}{w:World}{K:PySem.W.Frag}{h:Heap}{mg:Str->Option Value}{fa:Addr}{f61:Addr}{od61 an61:Option Addr}{sl61:Array (Option Value)}{oc61 kV61 dc61 pm61 cd61 ct61:Value}{xr xe0 y0 y1 y2 y3 y4:Addr}(X:K.In h)(G:h.Ns mainGlobals mg)(hfa:mg "law" = some (.ref fa))
  (A1:A0 K mg "_law_cell" (top 57))
  (A2:A0 K mg "_law_pick" (top 58))
  (A3:A0 K mg "_law_chain" (top 59))
  (A4:A0 K mg "_law_couples" (top 60))
  (A5:A0 K mg "_law_side_by_side" (top 61))
  (A6:A0 K mg "_law_base" (top 62))
  (A7:A0 K mg "_law_ladder" (top 63))
  (A8:A0 K mg "_law_under" (top 66))
  (A9:A0 K mg "_law_over" (top 71))
  (A10:A0 K mg "_law_map" (top 72))
  (A11:A0 K mg "_law_low" (top 64))
  (A12:A0 K mg "_law_join" (top 65))
  (A13:A0 K mg "_law_rule" (top 67))
  (A14:A0 K mg "_law_spreads" (top 68))
  (A15:A0 K mg "_law_spread_rule" (top 69))
  (A16:A0 K mg "_law_chart" (top 70))
  (A17:A0 K mg "after" (top 25))
  (A18:A0 K mg "back_and_forth" (top 32))
  (A19:A0 K mg "is_whole" (top 9))
  (A20:A0 K mg "is_number_of" (top 10))
  (A21:A0 K mg "is_row_of" (top 11))
  (A22:A0 K mg "leads_joins_to_joins" (top 22))
  (A23:A0 K mg "row_of_least" (top 14))
  (A24:A0 K mg "least_of" (top 15))
  (A25:A0 K mg "is_map" (top 28))
  (A26:A0 K mg "refuse_no_map" (top 29))
  (A27:A0 K mg "joined_all" (top 18))
  (A28:A0 K mg "is_below" (top 16))
  (A29:A0 K mg "led_below" (top 23))
  (A30:A0 K mg "back_of" (top 30))
  (A31:A0 K mg "mapped_rule" (top 31))
  (A32:A0 K mg "_law_is_no_more" (top 77))
  (A33:A0 K mg "_law_word" (top 78))
  (A34:A0 K mg "mapped_chart" (top 33))
  (A35:A0 K mg "_law_tried" (top 79))
  (A36:A0 K mg "mapped_worths" (top 34))
  (A37:A0 K mg "_law_raised" (top 73))
  (A38:A0 K mg "_law_lowest" (top 74))
  (A39:A0 K mg "below" (top 17))
  (A40:A0 K mg "rises" (top 21))
  (A41:A0 K mg "is_many_places" (top 40))
  (A42:A0 K mg "goes_between" (top 43))
  (A43:A0 K mg "is_rule" (top 20))
  (A44:A0 K mg "is_rising_rule" (top 26))
  (A45:A0 K mg "is_way" (top 42))
  (A46:A0 K mg "are_ways" (top 41))
  (A47:A0 K mg "is_begin" (top 45))
  (A48:A0 K mg "are_begins" (top 44))
  (A49:A0 K mg "is_chart" (top 39))
  (A50:A0 K mg "is_named_number" (top 12))
  (A51:A0 K mg "is_step" (top 50))
  (A52:A0 K mg "refuse_no_step" (top 51))
  (A53:A0 K mg "place_and_worth" (top 52))
  (A54:A0 K mg "worths_behind" (top 53))
  (A55:A0 K mg "risen" (top 54))
  (A56:A0 K mg "lowest" (top 47))
  (A57:A0 K mg "least_by" (top 55))
  (A58:A0 K mg "all_steps" (top 49))
  (A59:A0 K mg "least" (top 48))
  (A60:A0 K mg "is_no_more" (top 24))
  (a61:PySem.W.nsIn K mainGlobals "law" = some (some (.ref f61))) (l61:K.lookup f61=some ⟨oc61,od61,.func (PySem.W.fnOf "law" "law" (x7d (top 80)) (x3o (top 80)) (x0b (top 80)) .none kV61 dc61 pm61 an61 cd61 ct61),sl61⟩) (c61:PySem.W.codeIn K cd61 "law" = true) (k61:PySem.W.keepIn K (.ref f61)=true)
  (z1:PySem.W.nsIn K mainGlobals "ValueError" = some none) (z2:PySem.W.nsIn K mainGlobals "all" = some none) (z3:PySem.W.nsIn K mainGlobals "bool" = some none) (z4:PySem.W.nsIn K mainGlobals "enumerate" = some none) (z5:PySem.W.nsIn K mainGlobals "int" = some none) (z6:PySem.W.nsIn K mainGlobals "isinstance" = some none) (z7:PySem.W.nsIn K mainGlobals "len" = some none) (z8:PySem.W.nsIn K mainGlobals "list" = some none) (z9:PySem.W.nsIn K mainGlobals "max" = some none) (z10:PySem.W.nsIn K mainGlobals "range" = some none) (z11:PySem.W.nsIn K mainGlobals "set" = some none) (z12:PySem.W.nsIn K mainGlobals "str" = some none) (z13:PySem.W.nsIn K mainGlobals "tuple" = some none) (z14:PySem.W.nsIn K mainGlobals "zip" = some none) {tk1:Tok} (v1:PySem.W.nsIn K mainGlobals "MOST_BEGINS" = some (some (.int 60 tk1))) {tk2:Tok} (v2:PySem.W.nsIn K mainGlobals "MOST_PLACES" = some (some (.int 8 tk2))) {tk3:Tok} (v3:PySem.W.nsIn K mainGlobals "MOST_WAYS" = some (some (.int 60 tk3))) (xrN:PySem.W.nsIn K mainGlobals "RiseError" = some (some (.ref xr))) (xcg:PySem.W.specialIn K (.builtin "object.__class__") "__get__" = some (some (.builtin "getset_descriptor.__get__"))) (xct:PySem.W.takesIn K (.builtin "object.__class__")=some true) (xrg:PySem.W.findIn K (.ref xr) "__getattribute__" = some (some (.builtin "BaseException.__getattribute__"))) (xrt:PySem.W.findIn K (.ref xr) "__getattr__" = some none) (xrc:PySem.W.findIn K (.ref xr) "__class__" = some (some (.builtin "object.__class__"))) (xro:PySem.W.mroIn K xr (.type "object")=some true) (xrb:PySem.W.mroIn K xr (.type "BaseException")=some true) (xrT:PySem.W.typeIn K (.ref xr)=some (.type "type")) (xe0N:PySem.W.nsIn K mainGlobals "NoMap" = some (some (.ref xe0))) (xe0g:PySem.W.findIn K (.ref xe0) "__getattribute__" = some (some (.builtin "BaseException.__getattribute__"))) (xe0t:PySem.W.findIn K (.ref xe0) "__getattr__" = some none) (xe0c:PySem.W.findIn K (.ref xe0) "__class__" = some (some (.builtin "object.__class__"))) (xe0o:PySem.W.mroIn K xe0 (.type "object")=some true) (xe0b:PySem.W.mroIn K xe0 (.type "BaseException")=some true) (xe0V:PySem.W.mroIn K xe0 (.type "ValueError")=some true) (xe0n0:PySem.W.mroIn K xe0 (.type "int")=some false) (xe0n1:PySem.W.mroIn K xe0 (.type "bool")=some false) (xe0n2:PySem.W.mroIn K xe0 (.type "tuple")=some false) (xe0n3:PySem.W.mroIn K xe0 (.type "list")=some false) (xe0n4:PySem.W.mroIn K xe0 (.type "str")=some false) (xe0R:PySem.W.mroIn K xe0 (.ref xr)=some true) (xe0X:PySem.W.excIn K xe0 L3.bmV "ValueError.__new__" = true) (y0N:PySem.W.nsIn K mainGlobals "NoHouse" = some (some (.ref y0))) (y0O:PySem.W.mroIn K y0 (.type "object")=some true) (y0T:PySem.W.typeIn K (.ref y0)=some (.type "type")) (y0Sxe0:PySem.W.mroIn K xe0 (.ref y0)=some false) (y0Dxe0:xe0≠y0) (y1N:PySem.W.nsIn K mainGlobals "NoPlace" = some (some (.ref y1))) (y1O:PySem.W.mroIn K y1 (.type "object")=some true) (y1T:PySem.W.typeIn K (.ref y1)=some (.type "type")) (y1Sxe0:PySem.W.mroIn K xe0 (.ref y1)=some false) (y1Dxe0:xe0≠y1) (y2N:PySem.W.nsIn K mainGlobals "NoRule" = some (some (.ref y2))) (y2O:PySem.W.mroIn K y2 (.type "object")=some true) (y2T:PySem.W.typeIn K (.ref y2)=some (.type "type")) (y2Sxe0:PySem.W.mroIn K xe0 (.ref y2)=some false) (y2Dxe0:xe0≠y2) (y3N:PySem.W.nsIn K mainGlobals "NoStep" = some (some (.ref y3))) (y3O:PySem.W.mroIn K y3 (.type "object")=some true) (y3T:PySem.W.typeIn K (.ref y3)=some (.type "type")) (y3Sxe0:PySem.W.mroIn K xe0 (.ref y3)=some false) (y3Dxe0:xe0≠y3) (y4N:PySem.W.nsIn K mainGlobals "TooGreat" = some (some (.ref y4))) (y4O:PySem.W.mroIn K y4 (.type "object")=some true) (y4T:PySem.W.typeIn K (.ref y4)=some (.type "type")) (y4Sxe0:PySem.W.mroIn K xe0 (.ref y4)=some false) (y4Dxe0:xe0≠y4) :
  ∃ fd:FuncData,(∀ (s:Shared) (v:Value),BindsTo s fd ⟨[v],[]⟩ [("_law_script",v)])/\∀ base:Heap,K.In base->base.Ns mainGlobals mg->Lm K mg base->FnOk l.prog w K mg base CX0 9 fa fd ["_law_script"] (spD K 1 z20):=by
 have e:=hfa.symm.trans (PySem.W.mg_of X G a61)
 cases e
 have B:Bt mg:=⟨PySem.W.mg_none_of X G z1,PySem.W.mg_none_of X G z2,PySem.W.mg_none_of X G z3,PySem.W.mg_none_of X G z4,PySem.W.mg_none_of X G z5,PySem.W.mg_none_of X G z6,PySem.W.mg_none_of X G z7,PySem.W.mg_none_of X G z8,PySem.W.mg_none_of X G z9,PySem.W.mg_none_of X G z10,PySem.W.mg_none_of X G z11,PySem.W.mg_none_of X G z12,PySem.W.mg_none_of X G z13,PySem.W.mg_none_of X G z14,⟨_,PySem.W.mg_of X G v1⟩,⟨_,PySem.W.mg_of X G v2⟩,⟨_,PySem.W.mg_of X G v3⟩⟩
 have xk_xe0:XKls K "NoMap" xe0:=XKls.of xe0N ⟨L3.j86 xe0o,xe0g,xe0t,xe0c,xcg,xct,xe0o,xe0b⟩ xe0X xe0V xe0n0 xe0n1 xe0n2 xe0n3 xe0n4
 have T:Xt K mg:=⟨(y3u.cons (y3u.nil ⟨L3.j86 xro,xrg,xrt,xrc,xcg,xct,xro,xrb⟩ xrT (PySem.W.mg_of X G xrN)) (PySem.W.mg_of X G xrN) xk_xe0 xe0R),⟨xe0,⟨xk_xe0,PySem.W.mg_of X G xe0N⟩⟩,(IsC.other (IsC.nil (PySem.W.mg_of X G y0N)) xe0N (PySem.W.mg_of X G y0N) (by decide) y0Dxe0 y0T y0O y0Sxe0),(IsC.self (IsC.nil (PySem.W.mg_of X G xe0N)) xe0N (PySem.W.mg_of X G xe0N)),(IsC.other (IsC.nil (PySem.W.mg_of X G y1N)) xe0N (PySem.W.mg_of X G y1N) (by decide) y1Dxe0 y1T y1O y1Sxe0),(IsC.other (IsC.nil (PySem.W.mg_of X G y2N)) xe0N (PySem.W.mg_of X G y2N) (by decide) y2Dxe0 y2T y2O y2Sxe0),(IsC.other (IsC.nil (PySem.W.mg_of X G y3N)) xe0N (PySem.W.mg_of X G y3N) (by decide) y3Dxe0 y3T y3O y3Sxe0),(IsC.other (IsC.nil (PySem.W.mg_of X G y4N)) xe0N (PySem.W.mg_of X G y4N) (by decide) y4Dxe0 y4T y4O y4Sxe0)⟩
 refine⟨PySem.W.fnOf "law" "law" (x7d (top 80)) (x3o (top 80)) (x0b (top 80)) .none kV61 dc61 pm61 an61 cd61 ct61,fun s v=>.of_eq rfl,fun base KX NG L=>?_⟩
 have D__law_cell:=y91 (P:=l.prog) (w:=w) (base:=base) B (A1.at fun _ _ _ _ _ _ _ h=>by obtain⟨_,_,rfl⟩:=L3.j9e h;rfl)
 have D__law_pick:=y9e B D__law_cell (A2.at fun _ _ _ _ _ _ _ h=>by obtain⟨_,_,_,rfl⟩:=L3.j9d h;rfl)
 have D__law_chain:=y7d (P:=l.prog) (w:=w) (base:=base) B (A3.at fun _ _ _ _ _ _ _ h=>by obtain⟨_,rfl⟩:=L3.k01 h;rfl)
 have D__law_couples:=y43 (P:=l.prog) (w:=w) (base:=base) B (A4.at fun _ _ _ _ _ _ _ h=>by obtain⟨_,_,rfl⟩:=L3.j9e h;rfl)
 have D__law_side_by_side:=x8v (P:=l.prog) (w:=w) (base:=base) B (A5.at fun _ _ _ _ _ _ _ h=>by obtain⟨_,rfl⟩:=L3.k01 h;rfl)
 have D__law_base:=y8x B D__law_pick D__law_chain D__law_couples D__law_side_by_side (A6.at fun _ _ _ _ _ _ _ h=>by obtain⟨_,_,rfl⟩:=L3.j9e h;rfl)
 have D__law_ladder:=y57 B D__law_base D__law_pick (A7.at fun _ _ _ _ _ _ _ h=>by obtain⟨_,_,rfl⟩:=L3.j9e h;rfl)
 have D__law_under:=y7w (P:=l.prog) (w:=w) (base:=base) B (A8.at fun _ _ _ _ _ _ _ h=>by obtain⟨_,_,rfl⟩:=L3.j9e h;rfl)
 have D__law_over:=y9j B D__law_under (A9.at fun _ _ _ _ _ _ _ h=>by obtain⟨_,_,rfl⟩:=L3.j9e h;rfl)
 have D__law_map:=z1i B D__law_pick D__law_over D__law_couples (A10.at fun _ _ _ _ _ _ _ h=>by obtain⟨_,_,_,rfl⟩:=L3.j9d h;rfl)
 have D__law_low:=z2t (P:=l.prog) (w:=w) (base:=base) B (A11.at fun _ _ _ _ _ _ _ h=>by obtain⟨_,rfl⟩:=L3.k01 h;rfl)
 have D__law_join:=y8z B D__law_low (A12.at fun _ _ _ _ _ _ _ h=>by obtain⟨_,_,rfl⟩:=L3.j9e h;rfl)
 have D__law_rule:=y92 B D__law_low D__law_pick D__law_join D__law_under (A13.at fun _ _ _ _ _ _ _ h=>by obtain⟨_,_,_,rfl⟩:=L3.j9d h;rfl)
 have D__law_spreads:=y3q (P:=l.prog) (w:=w) (base:=base) B (A14.at fun _ _ _ _ _ _ _ h=>by obtain⟨_,_,rfl⟩:=L3.j9e h;rfl)
 have D__law_spread_rule:=x99 B D__law_rule D__law_spreads D__law_pick (A15.at fun _ _ _ _ _ _ _ h=>by obtain⟨_,_,_,rfl⟩:=L3.j9d h;rfl)
 have D__law_chart:=y6o B D__law_pick D__law_rule D__law_spread_rule (A16.at fun _ _ _ _ _ _ _ h=>by obtain⟨_,_,_,_,rfl⟩:=L3.k0f h;rfl)
 have D_after:=j0v (P:=l.prog) (w:=w) (base:=base) B (A17.at fun _ _ _ _ _ _ _ h=>by obtain⟨_,_,rfl⟩:=L3.j9e h;rfl)
 have D_back_and_forth:=y1w B D_after (A18.at fun _ _ _ _ _ _ _ h=>by obtain⟨_,_,_,rfl⟩:=L3.j9d h;rfl)
 have D_is_whole:=z29 (P:=l.prog) (w:=w) (base:=base) B (A19.at fun _ _ _ _ _ _ _ h=>by obtain⟨_,rfl⟩:=L3.k01 h;rfl)
 have D_is_number_of:=y40 B D_is_whole (A20.at fun _ _ _ _ _ _ _ h=>by obtain⟨_,_,rfl⟩:=L3.j9e h;rfl)
 have D_is_row_of:=z08 B D_is_number_of (A21.at fun _ _ _ _ _ _ _ h=>by obtain⟨_,_,_,rfl⟩:=L3.j9d h;rfl)
 have D_leads_joins_to_joins:=x77 (P:=l.prog) (w:=w) (base:=base) B (A22.at fun _ _ _ _ _ _ _ h=>by obtain⟨_,_,_,rfl⟩:=L3.j9d h;rfl)
 have D_row_of_least:=y3o (P:=l.prog) (w:=w) (base:=base) B (A23.at fun _ _ _ _ _ _ _ h=>by obtain⟨_,rfl⟩:=L3.k01 h;rfl)
 have D_least_of:=z27 B D_row_of_least (A24.at fun _ _ _ _ _ _ _ h=>by obtain⟨_,rfl⟩:=L3.k01 h;rfl)
 have D_is_map:=z94 B D_is_row_of D_leads_joins_to_joins D_least_of (A25.at fun _ _ _ _ _ _ _ h=>by obtain⟨_,_,_,rfl⟩:=L3.j9d h;rfl)
 have D_refuse_no_map:=y2x B D_is_map (A26.at fun _ _ _ _ _ _ _ h=>by obtain⟨_,_,_,rfl⟩:=L3.j9d h;rfl)
 have DX_refuse_no_map:=y1y B T D_is_map (A26.at fun _ _ _ _ _ _ _ h=>by obtain⟨_,_,_,rfl⟩:=L3.j9d h;rfl)
 have D_joined_all:=y88 B D_least_of (A27.at fun _ _ _ _ _ _ _ h=>by obtain⟨_,_,rfl⟩:=L3.j9e h;rfl)
 have D_is_below:=z2c (P:=l.prog) (w:=w) (base:=base) B (A28.at fun _ _ _ _ _ _ _ h=>by obtain⟨_,_,_,rfl⟩:=L3.j9d h;rfl)
 have D_led_below:=y95 B D_is_below (A29.at fun _ _ _ _ _ _ _ h=>by obtain⟨_,_,_,rfl⟩:=L3.j9d h;rfl)
 have D_back_of:=z4v B D_refuse_no_map D_joined_all D_led_below (A30.at fun _ _ _ _ _ _ _ h=>by obtain⟨_,_,_,rfl⟩:=L3.j9d h;rfl)
 have DX_back_of:=z2i B T DX_refuse_no_map (A30.at fun _ _ _ _ _ _ _ h=>by obtain⟨_,_,_,rfl⟩:=L3.j9d h;rfl)
 have D_mapped_rule:=y63 B D_back_and_forth D_back_of (A31.at fun _ _ _ _ _ _ _ h=>by obtain⟨_,_,_,_,rfl⟩:=L3.k0f h;rfl)
 have D__law_is_no_more:=y0x (P:=l.prog) (w:=w) (base:=base) B (A32.at fun _ _ _ _ _ _ _ h=>by obtain⟨_,_,_,rfl⟩:=L3.j9d h;rfl)
 have D__law_word:=y9i (P:=l.prog) (w:=w) (base:=base) B T (A33.at fun _ _ _ _ _ _ _ h=>by obtain⟨_,rfl⟩:=L3.k01 h;rfl)
 have D_mapped_chart:=y3l B D_back_of D_back_and_forth (A34.at fun _ _ _ _ _ _ _ h=>by obtain⟨_,_,_,_,rfl⟩:=L3.k0f h;rfl)
 have DX_mapped_chart:=y3f B T DX_back_of (A34.at fun _ _ _ _ _ _ _ h=>by obtain⟨_,_,_,_,rfl⟩:=L3.k0f h;rfl)
 have D__law_tried:=y71 B T D_mapped_chart D__law_word DX_mapped_chart (A35.at fun _ _ _ _ _ _ _ h=>by obtain⟨_,_,_,_,rfl⟩:=L3.k0f h;rfl)
 have D_mapped_worths:=y2j B D_after (A36.at fun _ _ _ _ _ _ _ h=>by obtain⟨_,_,rfl⟩:=L3.j9e h;rfl)
 have D__law_raised:=y5k (P:=l.prog) (w:=w) (base:=base) B (A37.at fun _ _ _ _ _ _ _ h=>by obtain⟨_,_,_,rfl⟩:=L3.j9d h;rfl)
 have D__law_lowest:=y58 B D__law_raised (A38.at fun _ _ _ _ _ _ _ h=>by obtain⟨_,_,_,rfl⟩:=L3.j9d h;rfl)
 have D_below:=j0r B D_is_below (A39.at fun _ _ _ _ _ _ _ h=>by obtain⟨_,_,rfl⟩:=L3.j9e h;rfl)
 have D_rises:=j1p B D_below D_is_below (A40.at fun _ _ _ _ _ _ _ h=>by obtain⟨_,_,rfl⟩:=L3.j9e h;rfl)
 have D_is_many_places:=y20 B D_is_whole (A41.at fun _ _ _ _ _ _ _ h=>by obtain⟨_,rfl⟩:=L3.k01 h;rfl)
 have D_goes_between:=y48 B D_is_number_of (A42.at fun _ _ _ _ _ _ _ h=>by obtain⟨_,_,rfl⟩:=L3.j9e h;rfl)
 have D_is_rule:=z3g B D_is_row_of (A43.at fun _ _ _ _ _ _ _ h=>by obtain⟨_,_,rfl⟩:=L3.j9e h;rfl)
 have D_is_rising_rule:=y1r B D_is_rule D_rises (A44.at fun _ _ _ _ _ _ _ h=>by obtain⟨_,_,rfl⟩:=L3.j9e h;rfl)
 have D_is_way:=z8g B D_goes_between D_is_rising_rule (A45.at fun _ _ _ _ _ _ _ h=>by obtain⟨_,_,_,rfl⟩:=L3.j9d h;rfl)
 have D_are_ways:=z2a B D_is_way (A46.at fun _ _ _ _ _ _ _ h=>by obtain⟨_,_,_,rfl⟩:=L3.j9d h;rfl)
 have D_is_begin:=z2l B D_is_number_of (A47.at fun _ _ _ _ _ _ _ h=>by obtain⟨_,_,_,rfl⟩:=L3.j9d h;rfl)
 have D_are_begins:=y7s B D_is_begin (A48.at fun _ _ _ _ _ _ _ h=>by obtain⟨_,_,_,rfl⟩:=L3.j9d h;rfl)
 have D_is_chart:=z23 B D_is_many_places D_are_ways D_are_begins (A49.at fun _ _ _ _ _ _ _ h=>by obtain⟨_,_,rfl⟩:=L3.j9e h;rfl)
 have D_is_named_number:=y0s B D_is_number_of (A50.at fun _ _ _ _ _ _ _ h=>by obtain⟨_,_,rfl⟩:=L3.j9e h;rfl)
 have D_is_step:=z4b B D_is_named_number (A51.at fun _ _ _ _ _ _ _ h=>by obtain⟨_,_,rfl⟩:=L3.j9e h;rfl)
 have D_refuse_no_step:=y1v B D_is_step (A52.at fun _ _ _ _ _ _ _ h=>by obtain⟨_,_,rfl⟩:=L3.j9e h;rfl)
 have D_place_and_worth:=y0v (P:=l.prog) (w:=w) (base:=base) B (A53.at fun _ _ _ _ _ _ _ h=>by obtain⟨_,_,_,rfl⟩:=L3.j9d h;rfl)
 have D_worths_behind:=y2g B D_place_and_worth (A54.at fun _ _ _ _ _ _ _ h=>by obtain⟨_,_,_,_,rfl⟩:=L3.k0f h;rfl)
 have D_risen:=j0f B D_worths_behind (A55.at fun _ _ _ _ _ _ _ h=>by obtain⟨_,_,_,_,rfl⟩:=L3.k0f h;rfl)
 have D_lowest:=z7z B D_least_of (A56.at fun _ _ _ _ _ _ _ h=>by obtain⟨_,_,rfl⟩:=L3.j9e h;rfl)
 have D_least_by:=z2o B D_refuse_no_step D_risen D_lowest (A57.at fun _ _ _ _ _ _ _ h=>by obtain⟨_,_,_,rfl⟩:=L3.j9d h;rfl)
 have D_all_steps:=z0a (P:=l.prog) (w:=w) (base:=base) B (A58.at fun _ _ _ _ _ _ _ h=>by obtain⟨_,rfl⟩:=L3.k01 h;rfl)
 have D_least:=j2t B D_least_by D_all_steps (A59.at fun _ _ _ _ _ _ _ h=>by obtain⟨_,_,rfl⟩:=L3.j9e h;rfl)
 have D_is_no_more:=y7z B D_is_below (A60.at fun _ _ _ _ _ _ _ h=>by obtain⟨_,_,_,rfl⟩:=L3.j9d h;rfl)
 exact j0g B D__law_ladder D__law_map D__law_chart D__law_rule D_mapped_rule D_rises D__law_is_no_more D_is_no_more D__law_tried D_is_chart D_mapped_worths D_least D__law_lowest D__law_low (j01 (st:=top 80) l61 c61 k61)
theorem walk {l:PySem.W.OpenLaw}{q:Program}{loose:List Str}{XP:(Str->Option Value)->Heap->Prop}{YP:World->Heap->Prop}{d:DefRec}{K:Params->PySem.W.Frag}(hn:l.most=some 63)(hdf:d.params.defaults=[])
  (hY:∀ (w:World) (h:Heap),YP w h->(K w.params).In h)
  (F:∀ (w:World) (mg:Str->Option Value) (fa:Addr) (h:Heap),(K w.params).In h->h.Ns mainGlobals mg->mg d.name=some (.ref fa)->j7d q (K w.params)/\PySem.W.noTabs (K w.params)=true /\
    ∃ fd:FuncData,(∀ (s:Shared) (u:Value),BindsTo s fd ⟨[u],[]⟩ [("_law_script",u)])/\∀ base:Heap,(K w.params).In base->base.Ns mainGlobals mg->Lm (K w.params) mg base->FnOk l.prog w (K w.params) mg base CX0 9 fa fd ["_law_script"] (spD (K w.params) 1 z20)) :
  PySem.W.WalkO q loose XP YP l.row.toRowW d [] (fun f vs=>PySem.call f vs):=
 z6z (n:=63) (k:=9) (x:="_law_script") (CX:=fun _=>CX0) (sp:=fun w=>spD (K w.params) 1 z20) hn (by decide) hdf ⟨rfl,by decide,by decide⟩ hY F (fun _ _ a ns hl tb hS=>j6h law_true hl hS tb) fun _ _ _ _ _ z=>z
end My
namespace PySem.W.Fast
def tw10028808739111226051:=0
def tw10039139900005518307:=0
def tw10085238450259314989:=0
def tw1009616662890960058:=0
def tw10117522513404705717:=0
def tw10245711408146374571:=0
def tw10248442683141859802:=0
def tw10259149555617465627:=0
def tw10360115940956973982:=0
def tw10414104468248008705:=0
def tw10439843990549621211:=0
def tw10449081439113075684:=0
def tw10487449168872577935:=0
def tw10525235033000436602:=0
def tw10557165239556320261:=0
def tw10581722688569557693:=0
def tw10591016408889929649:=0
def tw10629401533276211253:=0
def tw10634887497453290799:=0
def tw10684308248419386518:=0
def tw10688629617224591705:=0
def tw10708315520404092264:=0
def tw10771681572286868534:=0
def tw10812606577908961085:=0
def tw10824024858018282250:=0
def tw10888422987694975134:=0
def tw10900658002444513749:=0
def tw10922493562318166453:=0
def tw10952084118806028831:=0
def tw1095777163774487453:=0
def tw10984842911798335221:=0
def tw1102313197938133422:=0
def tw1102672187633652474:=0
def tw11096923066885785358:=0
def tw1118155945198653619:=0
def tw11260499452529329724:=0
def tw11266317026460895985:=0
def tw11368433918314018490:=0
def tw11472712324730156386:=0
def tw11482311100497166405:=0
def tw11516931478603913913:=0
def tw11663690618703648405:=0
def tw11703988379431118423:=0
def tw11706718250730343599:=0
def tw11747650013931171402:=0
def tw11840921101249849059:=0
def tw11907300013532344133:=0
def tw11945027799217396129:=0
def tw11953118967782596867:=0
def tw1198765218423817007:=0
def tw11989930276410755961:=0
def tw11990500001366752344:=0
def tw12009348266940644554:=0
def tw12030008860867246111:=0
def tw12176883475088744490:=0
def tw1222384054375423429:=0
def tw12278789564047262763:=0
def tw12351724254662864440:=0
def tw1246683040644615959:=0
def tw12467164642999933884:=0
def tw12470344055419183056:=0
def tw12474971236425382718:=0
def tw1254067489079556055:=0
def tw12553912227591882958:=0
def tw12601021313712054944:=0
def tw12603601875230920358:=0
def tw12613233743179773790:=0
def tw12616860782546864177:=0
def tw12635070607281351090:=0
def tw12679116653270415810:=0
def tw12681103387253698245:=0
def tw12876589934113924719:=0
def tw12913356526757368643:=0
def tw12968695860746590250:=0
def tw12978528148325683374:=0
def tw13035976346700135785:=0
def tw13058334076096454030:=0
def tw13108651457522421171:=0
def tw13151768737843278338:=0
def tw1316541221715760807:=0
def tw13173112487738411840:=0
def tw13227257316031640281:=0
def tw1324928083047929795:=0
def tw13276402993278619209:=0
def tw13278461234196206627:=0
def tw13279837921890333326:=0
def tw13347684860328310411:=0
def tw13472774391363830117:=0
def tw13555914275302302659:=0
def tw13573938181611324416:=0
def tw13619615124453432283:=0
def tw13654222345255183220:=0
def tw13733775054475631872:=0
def tw13810365074772518723:=0
def tw13846956884903301688:=0
def tw13910176569178702476:=0
def tw13921696045015846599:=0
def tw13923148812482721583:=0
def tw13934752886526303326:=0
def tw13973247205115160583:=0
def tw13976789023552565532:=0
def tw14055683996969575366:=0
def tw14096383153244859794:=0
def tw14163069571883466999:=0
def tw1422586720658603642:=0
def tw14238027637382153228:=0
def tw14240373661301489812:=0
def tw14279628427238127508:=0
def tw14294046188365740619:=0
def tw14326323110371281341:=0
def tw14370576869704215740:=0
def tw14402981476915622082:=0
def tw14416930436154522323:=0
def tw14421460444127060144:=0
def tw14425847746619831362:=0
def tw14523312665380752362:=0
def tw145449813932469017:=0
def tw14633674887276043469:=0
def tw14643379102635947293:=0
def tw14643622543422396476:=0
def tw14659149417570225691:=0
def tw14669150692870025432:=0
def tw14677596832031558710:=0
def tw1469630924375662215:=0
def tw14716549490340728075:=0
def tw14759688274918993835:=0
def tw1480144064430845896:=0
def tw14823331887645905643:=0
def tw1486821593634378414:=0
def tw14977749295718946401:=0
def tw14978999150913060551:=0
def tw15010514411631253965:=0
def tw15042940819679831363:=0
def tw15085078523588630279:=0
def tw15088579595759023744:=0
def tw15136461494599245545:=0
def tw15201680593120163611:=0
def tw1521573276595386659:=0
def tw15246824357026420817:=0
def tw15251492501376477083:=0
def tw15262962306028702196:=0
def tw15278053982064388109:=0
def tw15311041842644829050:=0
def tw15317251601699806931:=0
def tw15317272352055114133:=0
def tw1533784817718711364:=0
def tw15376227768457707664:=0
def tw15420349884040113099:=0
def tw15440753269722369783:=0
def tw15472284095026192915:=0
def tw15501920743637560660:=0
def tw15536764967987211898:=0
def tw15545953626028399856:=0
def tw15555073774912183944:=0
def tw15559291045887461597:=0
def tw15632722435758164291:=0
def tw15719357663894525727:=0
def tw15725332403203118680:=0
def tw15783832586832763951:=0
def tw15798104737551080483:=0
def tw15840943949568163326:=0
def tw15927766684441765062:=0
def tw15932049564959431157:=0
def tw15972135785480575410:=0
def tw160012696563921107:=0
def tw1600462617401791600:=0
def tw1605088987379176322:=0
def tw16087083607010836044:=0
def tw16125186458656922343:=0
def tw16147811414629358014:=0
def tw16151553628571495867:=0
def tw16163479365732404853:=0
def tw162668866245010584:=0
def tw16279877431578331131:=0
def tw16279897250182704571:=0
def tw16370001056477472165:=0
def tw16391520068176178811:=0
def tw16402399515066115006:=0
def tw16437860864850149775:=0
def tw16472182509191988686:=0
def tw16504294811384850636:=0
def tw16605498984160914507:=0
def tw16768662467385722339:=0
def tw16777852264191920448:=0
def tw16788169148004126997:=0
def tw16799869321830863388:=0
def tw16819795279436296458:=0
def tw16823219298456923694:=0
def tw16860236006625958179:=0
def tw1687377388499255217:=0
def tw16896706821272134050:=0
def tw16929593769495953390:=0
def tw16973762246594293977:=0
def tw17018400007021483133:=0
def tw17076292820465923218:=0
def tw17080018275486018288:=0
def tw17131399186864548208:=0
def tw17180317368825338285:=0
def tw17215128966856230625:=0
def tw17258355479739579512:=0
def tw17259516293236824186:=0
def tw17308804947368152764:=0
def tw17310951532764442374:=0
def tw17330901800773441312:=0
def tw17411375798438444274:=0
def tw17424306774708155830:=0
def tw17431143176629733935:=0
def tw17433099503307386037:=0
def tw17436125477858767:=0
def tw17696919021330695370:=0
def tw17780947115522039023:=0
def tw17865683591338185354:=0
def tw17874421792346009243:=0
def tw17889363561092437214:=0
def tw17891342130159044139:=0
def tw17953675799126932188:=0
def tw17979596235920160965:=0
def tw18095802675102817297:=0
def tw18104759145290150160:=0
def tw18290671479917592165:=0
def tw18290914588507893564:=0
def tw18292279904356767679:=0
def tw18315268837802545173:=0
def tw183594000076807238:=0
def tw18369197271554303279:=0
def tw1863513410910245348:=0
def tw1901982672523861866:=0
def tw1925248202899842613:=0
def tw1950541685072852341:=0
def tw1963284479691539729:=0
def tw1993186507040579348:=0
def tw2020732275387581649:=0
def tw2025656624547948492:=0
def tw2055254734896945710:=0
def tw2152657459677558802:=0
def tw2244047152955819282:=0
def tw2272185677926668066:=0
def tw2336817669530623383:=0
def tw2379010934901396528:=0
def tw2438592674772374546:=0
def tw2440482479149174350:=0
def tw248175664310982814:=0
def tw2493879948323520228:=0
def tw2594492776369604508:=0
def tw259859899144913243:=0
def tw2599538561960937912:=0
def tw260465949387437115:=0
def tw2610515852962014660:=0
def tw2732948112792292136:=0
def tw2739201555116157637:=0
def tw2774836091324261210:=0
def tw2789798634632417403:=0
def tw2821401612750122945:=0
def tw2877002321809394892:=0
def tw2905609364805864526:=0
def tw2911628583211352329:=0
def tw2917912515909748606:=0
def tw2950306429087346093:=0
def tw2969379472457192259:=0
def tw2972745684992092262:=0
def tw2983984063091771005:=0
def tw2986325201492578440:=0
def tw3057869977213026483:=0
def tw3086287380347370451:=0
def tw3100327827081207983:=0
def tw3114092350857099342:=0
def tw3143206402843540861:=0
def tw3153953774998778019:=0
def tw328738512472981891:=0
def tw3320897553594668514:=0
def tw3351203854267311544:=0
def tw3352876465207757984:=0
def tw339286249616567756:=0
def tw3399199937589958073:=0
def tw3431585074482284521:=0
def tw3441922292132292367:=0
def tw3475407335324953041:=0
def tw3521140403149452178:=0
def tw3534169448517227779:=0
def tw361966935710916745:=0
def tw3645323781233962931:=0
def tw3681920575009373150:=0
def tw371745387696930760:=0
def tw3727098001483823780:=0
def tw3755117237929941462:=0
def tw378028108687492958:=0
def tw3838487044483660203:=0
def tw3882736456098683400:=0
def tw3903679469924528805:=0
def tw3933261299815387472:=0
def tw4019118280508364796:=0
def tw4026627558463530641:=0
def tw4056675531575782446:=0
def tw4113062431466117210:=0
def tw4124658620781302317:=0
def tw4159173669593423455:=0
def tw4212258641073161755:=0
def tw4305645013867212064:=0
def tw43197245926505179:=0
def tw4323516566151434666:=0
def tw4325356502801920175:=0
def tw4399501733125992239:=0
def tw4470898276583655424:=0
def tw4491536069541062541:=0
def tw450124570789868518:=0
def tw4501477676063186787:=0
def tw4503727899167525742:=0
def tw4539624648437601410:=0
def tw4543844228820995180:=0
def tw4550580147121171107:=0
def tw4551935179383090797:=0
def tw4601433376064897509:=0
def tw460822842822498682:=0
def tw4628377383427741249:=0
def tw4651499550683455182:=0
def tw4935851802221721282:=0
def tw4951355597216627462:=0
def tw4972105615951890324:=0
def tw500138767895691268:=0
def tw5016817500779030697:=0
def tw5055159948955041222:=0
def tw507897296044872592:=0
def tw5111185880579084011:=0
def tw5132564182808565179:=0
def tw5350444431822930061:=0
def tw5357921781603221519:=0
def tw5370923063159987370:=0
def tw5377303476281679453:=0
def tw537871508180234767:=0
def tw5396278856912555084:=0
def tw5440145404236097982:=0
def tw5465672017696758693:=0
def tw5550397331283997329:=0
def tw5578341542819082142:=0
def tw5588206820211880541:=0
def tw5596650078862955191:=0
def tw5603016679505846802:=0
def tw5608897556030077391:=0
def tw5610364212674048167:=0
def tw563477916807297972:=0
def tw5718897139548867020:=0
def tw5740276074644732924:=0
def tw5772460776652746720:=0
def tw5775581076122803653:=0
def tw5792381025957068988:=0
def tw579982456113040499:=0
def tw5830225340704676639:=0
def tw5837410678065819299:=0
def tw590048522201872328:=0
def tw5938891770499468310:=0
def tw5941212741557493946:=0
def tw5971285767880519116:=0
def tw5987421912166270701:=0
def tw5989985313909734181:=0
def tw6000157607953652846:=0
def tw6026096474485431870:=0
def tw6047565291597687591:=0
def tw6127157586850981300:=0
def tw6140972644255918042:=0
def tw6200944378007118195:=0
def tw6233591590153289520:=0
def tw6247573009718232608:=0
def tw6330432226195383984:=0
def tw6368412715092952180:=0
def tw6418337262821937593:=0
def tw6451771860891624241:=0
def tw6546802005353813232:=0
def tw6581314636229442644:=0
def tw6582075018248109914:=0
def tw6585686592035692165:=0
def tw6602099716786978101:=0
def tw6613840247432548808:=0
def tw6635738378952326034:=0
def tw664561168764721128:=0
def tw66789334639835510:=0
def tw6706491375158740910:=0
def tw6712221123692570984:=0
def tw6715378438311276578:=0
def tw674529608670764881:=0
def tw6791830690823753303:=0
def tw6803575349237639140:=0
def tw6832873448861844156:=0
def tw6854408462283317202:=0
def tw6864613074056556517:=0
def tw6879570460959344331:=0
def tw6883764888081007980:=0
def tw7047107512468764840:=0
def tw7058855441915025379:=0
def tw7086181127009716961:=0
def tw7147894520752403445:=0
def tw718985182038605052:=0
def tw7221932994286846828:=0
def tw7237266285075300235:=0
def tw7253699576069711391:=0
def tw7331606887844472059:=0
def tw7334729677260427058:=0
def tw7384302882972454390:=0
def tw7449015212024243908:=0
def tw7489070801038135389:=0
def tw7501605171952206219:=0
def tw7558915466739686517:=0
def tw7614132474257824274:=0
def tw7647350452764157505:=0
def tw7661201524783929129:=0
def tw7661434372255427516:=0
def tw7671272036346713708:=0
def tw7743151149025722360:=0
def tw7787412966301054997:=0
def tw783628298749362825:=0
def tw7859544441726704151:=0
def tw7911893763693166462:=0
def tw7968916556513225683:=0
def tw8007439910832530503:=0
def tw8048807629957766432:=0
def tw8074745402774234933:=0
def tw8075783961480734079:=0
def tw8082761833262365706:=0
def tw8103562712425565624:=0
def tw8169117731286213805:=0
def tw8318271672679840820:=0
def tw8346790025097053135:=0
def tw836345968496456179:=0
def tw8449505456534208771:=0
def tw8458117802846414734:=0
def tw8459960489985938288:=0
def tw8470929159071866051:=0
def tw8507034384953386347:=0
def tw8548841092867924719:=0
def tw8586669962294248912:=0
def tw8597984923019452182:=0
def tw8663514467692708501:=0
def tw8668124472039685809:=0
def tw8677287096429879275:=0
def tw8720706268020391105:=0
def tw873064944910193778:=0
def tw877421755342261294:=0
def tw9034950592506796241:=0
def tw905323556276496287:=0
def tw9081645109833015563:=0
def tw9118882004446683411:=0
def tw9133608105321362754:=0
end PySem.W.Fast
open PySem PySem.W PyProof.Rows
set_option maxRecDepth 100000 in
set_option maxHeartbeats 0 in
theorem PySem.Challenge.cw_ladderhall_k91_whole_mapped_holds : PySem.Challenge.rw_ladderhall_k91_whole_mapped.Holds := by
  w_on; o_law; k_head; (case hw => w_witness2)
  k_fill
  refine My.walk (l := PySem.Challenge.rw_ladderhall_k91_whole_mapped) rfl rfl (fun w h Y => PySem.W.kIn_of Y) ?F
  case F =>
    intro w mg fa h KX G hmg
    refine' ⟨L3.j7d.of ?r1 ?r2 ?r3 ?r4, ?nt, ?al⟩
    (case r1 => refine' .inr (L3.j7g ?_); k_is)
    (case r2 => refine' .inr (L3.j7g ?_); k_is)
    (case r3 => refine' .inr (L3.j7g ?_); k_is)
    (case r4 => refine' .inr (L3.j7g ?_); k_is)
    (case nt => kernel_rfl)
    refine' My.all_mk KX G hmg ?A1 ?A2 ?A3 ?A4 ?A5 ?A6 ?A7 ?A8 ?A9 ?A10 ?A11 ?A12 ?A13 ?A14 ?A15 ?A16 ?A17 ?A18 ?A19 ?A20 ?A21 ?A22 ?A23 ?A24 ?A25 ?A26 ?A27 ?A28 ?A29 ?A30 ?A31 ?A32 ?A33 ?A34 ?A35 ?A36 ?A37 ?A38 ?A39 ?A40 ?A41 ?A42 ?A43 ?A44 ?A45 ?A46 ?A47 ?A48 ?A49 ?A50 ?A51 ?A52 ?A53 ?A54 ?A55 ?A56 ?A57 ?A58 ?A59 ?A60 ?a61 ?l61 ?c61 ?k61 ?z1 ?z2 ?z3 ?z4 ?z5 ?z6 ?z7 ?z8 ?z9 ?z10 ?z11 ?z12 ?z13 ?z14 ?v1 ?v2 ?v3 ?xrN ?xcg ?xct ?xrg ?xrt ?xrc ?xro ?xrb ?xrT ?xe0N ?xe0g ?xe0t ?xe0c ?xe0o ?xe0b ?xe0V ?xe0n0 ?xe0n1 ?xe0n2 ?xe0n3 ?xe0n4 ?xe0R ?xe0X ?y0N ?y0O ?y0T ?y0Sxe0 ?y0Dxe0 ?y1N ?y1O ?y1T ?y1Sxe0 ?y1Dxe0 ?y2N ?y2O ?y2T ?y2Sxe0 ?y2Dxe0 ?y3N ?y3O ?y3T ?y3Sxe0 ?y3Dxe0 ?y4N ?y4O ?y4T ?y4Sxe0 ?y4Dxe0
    (case A1 | A2 | A3 | A4 | A5 | A6 | A7 | A8 | A9 | A10 | A11 | A12 | A13 | A14 | A15 | A16 | A17 | A18 | A19 | A20 | A21 | A22 | A23 | A24 | A25 | A26 | A27 | A28 | A29 | A30 | A31 | A32 | A33 | A34 | A35 | A36 | A37 | A38 | A39 | A40 | A41 | A42 | A43 | A44 | A45 | A46 | A47 | A48 | A49 | A50 | A51 | A52 | A53 | A54 | A55 | A56 | A57 | A58 | A59 | A60 => refine' My.A0.mk KX G ?a ?l ?c ?k; (case a => k_is); (case l => k_is); (case c => k_is); (case k => k_is))
    (case a61 => k_is)
    (case l61 => k_is)
    (case c61 => k_is)
    (case k61 => k_is)
    (case z1 => k_is)
    (case z2 => k_is)
    (case z3 => k_is)
    (case z4 => k_is)
    (case z5 => k_is)
    (case z6 => k_is)
    (case z7 => k_is)
    (case z8 => k_is)
    (case z9 => k_is)
    (case z10 => k_is)
    (case z11 => k_is)
    (case z12 => k_is)
    (case z13 => k_is)
    (case z14 => k_is)
    (case v1 => k_is)
    (case v2 => k_is)
    (case v3 => k_is)
    (case xrN => k_is)
    (case xcg => k_is)
    (case xct => k_is)
    (case xrg => k_is)
    (case xrt => k_is)
    (case xrc => k_is)
    (case xro => k_is)
    (case xrb => k_is)
    (case xrT => k_is)
    (case xe0N => k_is)
    (case xe0g => k_is)
    (case xe0t => k_is)
    (case xe0c => k_is)
    (case xe0o => k_is)
    (case xe0b => k_is)
    (case xe0V => k_is)
    (case xe0n0 => k_is)
    (case xe0n1 => k_is)
    (case xe0n2 => k_is)
    (case xe0n3 => k_is)
    (case xe0n4 => k_is)
    (case xe0R => k_is)
    (case xe0X => k_exc)
    (case y0N => k_is)
    (case y0O => k_is)
    (case y0T => k_is)
    (case y0Sxe0 => k_is)
    (case y0Dxe0 => decide)
    (case y1N => k_is)
    (case y1O => k_is)
    (case y1T => k_is)
    (case y1Sxe0 => k_is)
    (case y1Dxe0 => decide)
    (case y2N => k_is)
    (case y2O => k_is)
    (case y2T => k_is)
    (case y2Sxe0 => k_is)
    (case y2Dxe0 => decide)
    (case y3N => k_is)
    (case y3O => k_is)
    (case y3T => k_is)
    (case y3Sxe0 => k_is)
    (case y3Dxe0 => decide)
    (case y4N => k_is)
    (case y4O => k_is)
    (case y4T => k_is)
    (case y4Sxe0 => k_is)
    (case y4Dxe0 => decide)
