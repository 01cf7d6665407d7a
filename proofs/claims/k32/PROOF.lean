import PyProof.Rows.All
import Wide.All
import OpenK.AllK
import Wide.FinOn
import Lean
import PyProof.EqAt
import PyProof.EqKinds
import PyProof.TupleCall
import KE.KIsNot
import PyProof.ExcArgs
import OpenK.KOwn
import KE.LcSums
import PyProof.EnumMake
import PyProof.Draws
import PyProof.Rows.EnumRows
import PyProof.ExcBaseAll.ValueError
import PyProof.NsDelKeeps
import PyProof.Rows.SetFrom
import PyProof.WalksMore
import KE.KDictSum
import PyProof.Rows.MinMaxN
import PyProof.Rows.CallKwBuiltin
import KE.KMinKey
import KE.KSortKey
import PyProof.DictWalks
import PySem.Challenge.RW_ladderhall_k32_whole_papers
set_option Elab.async false
set_option linter.all false
set_option maxRecDepth 100000
set_option maxHeartbeats 0
namespace L2
open PySem PySem.Spec PyProof.Rows
variable {A:Around}{C a b dx it:Addr}{E:Value->Shared->Prop}{K:PySem.W.Frag}{M:Model}{N ps:List Str}{P:Program}{Q:Unit->Shared->Prop}{base h:Heap}{body:List Stmt}{c tg:Expr}{es:List Expr}{f:Value->Value->Sem Value}{fp:List Addr}{g:Int->Int->Int}{i j n:Nat}{kindOf:Str->Option NameKind}{mA mg:Str->Option Value}{o:Obj}{op:CmpOp}{pins:List (Addr×Obj)}{qual x:Str}{s s':Shared}{sc scope:Scope}{u v:Value}{us:List Value}{w:World}
abbrev Key:=Sum Int Str
def z03:Key->Value->Bool
 | .inl k,v=>Value.isInt k v
 | .inr x,v=>Value.isStrOf x v
def j8l (w:World):Key->Int
 | .inl k=>hashInt k
 | .inr x=>hashStr w x
theorem x2m:∀ {k:Key} {v:Value},z03 k v=true->(∃ i t,k=Sum.inl i/\v=Value.int i t)\/(∃ x t,k=Sum.inr x/\v=Value.str x t)
 | .inl i,v,h=>by
  obtain⟨t,e⟩:=Value.isInt_shape (k:=i) (v:=v) h
  exact .inl ⟨i,t,rfl,e⟩
 | .inr x,v,h=>by
  obtain⟨t,e⟩:=Value.isStrOf_shape (x:=x) (v:=v) h
  exact .inr ⟨x,t,rfl,e⟩
theorem z2f(i:Int)(t:Tok):z03 (.inl i) (.int i t)=true:=by simp[z03,Value.isInt]
theorem z2v(x:Str)(t:Tok):z03 (.inr x) (.str x t)=true:=by simp[z03,Value.isStrOf]
theorem j39(a b:Int):decide ((Sum.inl a:Key)=Sum.inl b)=(a==b):=by
 by_cases e:a=b
 ·subst e;simp
 ·have h:¬ (Sum.inl a:Key)=Sum.inl b:=fun q=>e (Sum.inl.inj q)
  rw[decide_eq_false h]
  exact(beq_eq_false_iff_ne.mpr e).symm
theorem j56(a b:Str):decide ((Sum.inr a:Key)=Sum.inr b)=decide (a=b):=by
 by_cases e:a=b
 ·subst e;simp
 ·have h:¬ (Sum.inr a:Key)=Sum.inr b:=fun q=>e (Sum.inr.inj q)
  rw[decide_eq_false h,decide_eq_false e]
theorem j53(a:Int)(b:Str):decide ((Sum.inl a:Key)=Sum.inr b)=false:=decide_eq_false (fun q=>nomatch q)
theorem j3u(a:Str)(b:Int):decide ((Sum.inr a:Key)=Sum.inl b)=false:=decide_eq_false (fun q=>nomatch q)
def x2z (prog:Program)(w:World):PySem.KeyKind prog w Key where
 is:=z03
 hash:=j8l w
 inj:=fun v a b ha hb=>by
  rcases x2m ha with⟨i,t,rfl,rfl⟩|⟨x,t,rfl,rfl⟩
  ·rcases x2m hb with⟨j,u,rfl,e⟩|⟨y,u,rfl,e⟩
   ·injection e with e1 _;rw[e1]
   ·exact nomatch e
  ·rcases x2m hb with⟨j,u,rfl,e⟩|⟨y,u,rfl,e⟩
   ·exact nomatch e
   ·injection e with e1 _;rw[e1]
 byValue:=fun k v h=>by
  rcases x2m h with⟨i,t,rfl,rfl⟩|⟨x,t,rfl,rfl⟩<;>rfl
 pyHash:=fun hv h=>by
  rcases x2m hv with⟨i,t,rfl,rfl⟩|⟨x,t,rfl,rfl⟩
  ·exact wpAny_pyHash_int h
  ·exact wpAny_pyHash_str h
 eqBool:=fun hu hv h=>by
  rcases x2m hu with⟨i,t,rfl,rfl⟩|⟨x,t,rfl,rfl⟩
  ·rcases x2m hv with⟨j,u,rfl,rfl⟩|⟨y,u,rfl,rfl⟩
   ·rw[j39]at h;exact wpAny_eqBool_int h
   ·rw[j53]at h;exact SeqAt.EqAt.int_str i t y u _ _ _ _ h
  ·rcases x2m hv with⟨j,u,rfl,rfl⟩|⟨y,u,rfl,rfl⟩
   ·rw[j3u]at h;exact SeqAt.EqAt.str_int x t j u _ _ _ _ h
   ·rw[j56]at h;exact wpAny_eqBool_str h
 «strs»:=fun k x t v h=>by
  rcases x2m h with⟨i,u,rfl,e⟩|⟨y,u,rfl,e⟩
  ·exact nomatch e
  ·injection e with e1 _
   subst e1
   cases v<;>rfl
theorem y7i(prog:Program)(w:World)(i:Int)(t:Tok):(x2z prog w).is (.inl i) (.int i t)=true:=z2f i t
theorem y8f(prog:Program)(w:World)(x:Str)(t:Tok):(x2z prog w).is (.inr x) (.str x t)=true:=z2v x t
inductive V where
 | non|bl (b:Bool)|int (i:Int)|str (x:Str)|byt (b:Array UInt8)|flt (b:UInt64)|ref (a:Addr)|ty (n:String)
 deriving DecidableEq
def x39:V->Value->Prop
 | .non,u=>u=Value.none
 | .bl b,u=>u=Value.bool b
 | .int i,u=>∃ t,u=Value.int i t
 | .str x,u=>∃ t,u=Value.str x t
 | .byt b,u=>∃ t,u=Value.bytes b t
 | .flt b,u=>∃ t,u=Value.float b t
 | .ref a,u=>u=Value.ref a
 | .ty n,u=>u=Value.type n
abbrev x28:List V->List Value->Prop:=Paired x39
theorem x28.length{xs:List V}(r:x28 xs us):xs.length=us.length:=Paired.length r
theorem x28.get:∀ {xs:List V} {us:List Value} {i:Nat} {x:V},x28 xs us->xs[i]? = some x->∃ u,us[i]? = some u/\x39 x u
 | _,_,_,_,.nil,e=>by simp at e
 | _,_,0,_,.cons r _,e=>by simp at e;subst e;exact⟨_,rfl,r⟩
 | _,_,i+1,x,.cons _ t,e=>by
  obtain⟨u,h1,h2⟩:=x28.get (i:=i) (x:=x) t (by simpa using e)
  exact⟨u,by simpa using h1,h2⟩
theorem x28.set{x:V}(r:x39 x u):∀ {xs:List V} {us:List Value} (i:Nat),x28 xs us->x28 (xs.set i x) (us.set i u)
 | _,_,_,.nil=>.nil
 | _,_,0,.cons _ t=>.cons r t
 | _,_,i+1,.cons q t=>.cons q (x28.set r i t)
theorem x28.append:∀ {xs ys:List V} {us ws:List Value},x28 xs us->x28 ys ws->x28 (xs++ys) (us++ws)
 | _,_,_,_,.nil,s=>s
 | _,_,_,_,.cons r t,s=>.cons r (x28.append t s)
theorem x28.take:∀ {xs:List V} {us:List Value} (n:Nat),x28 xs us->x28 (xs.take n) (us.take n)
 | _,_,0,_=>.nil
 | _,_,_+1,.nil=>.nil
 | _,_,n+1,.cons r t=>.cons r (x28.take n t)
theorem x28.drop:∀ {xs:List V} {us:List Value} (n:Nat),x28 xs us->x28 (xs.drop n) (us.drop n)
 | _,_,0,r=>r
 | _,_,_+1,.nil=>.nil
 | _,_,n+1,.cons _ t=>x28.drop n t
def z0f:Option V->Option Value->Prop
 | some v,some u=>x39 v u
 | none,none=>True
 | _,_=>False
def KV {κ:Type}:List (κ×V)->List (κ×Value)->Prop:=Paired fun(p:κ×V) (q:κ×Value)=>p.1=q.1/\x39 p.2 q.2
def kV:Key->V
 | .inl i=>.int i
 | .inr x=>.str x
inductive HO where
 /-- a list -/
 | lst (xs:List V)
 /-- a tuple (never changes) -/
 | tup (xs:List V)
 /-- a dict whose keys are ints and texts;one whose keys are tuples of ints and texts (the empty one is both) -/
 | dK (kvs:List (Key×V))|dT (kvs:List (List Key×V))
 /-- a set of ints: its members,its size -/
 | set (S:Int->Bool) (n:Nat)
 /-- an instance of the class at C,its dict at dx,its attributes -/
 | ins (C dx:Addr) (fs:List (Str×V))
 /-- the dict of the instance at x -/
 | own (x:Addr)
 /-- the dict of an exception -/
 | xd (fs:List (Str×V))
 /-- a bound method,f of x -/
 | met (f x:Addr)
 /-- a range object lo,lo+1,.. below hi -/
 | rng (lo hi:Int)
 /-- a thing that is known to the object (the script;a dict while a loop walks it): read,never written while it is so -/
 | frz (o:Obj) (u:HO)
 /-- a code object's table -/
 | tbl (ps:Array Value)
 /-- any other thing,by what is true of its one object (a def of one's own: SetO a S n:=HO.ext fun h=>..) -/
 | ext (φ:Heap->Prop)
abbrev Hp:=Addr->Option HO
def upd (H:Hp)(a:Addr)(o:HO):Hp:=fun b=>if b=a then some o else H b
theorem x0t{H:Hp}{o:HO}:upd H a o a=some o:=by unfold upd;rw[if_pos rfl]
theorem x0h{H:Hp}{o:HO}(h:b≠a):upd H a o b=H b:=by unfold upd;rw[if_neg h]
theorem z8i{H:Hp}{o u:HO}:upd (upd H a o) a u=upd H a u:=by
 funext b;unfold upd;split<;>rfl
theorem j6f{H:Hp}{o u:HO}(h:H a=some o)(h':H b=some u)(d:o≠u):a≠b:=by
 intro e;subst e;rw[h]at h';exact d (Option.some.inj h')
theorem x0r{H:Hp}{o:HO}(h:H a=some o)(h':H b=none):a≠b:=by
 intro e;subst e;rw[h]at h';cases h'
def x6f (h:Heap)(a:Addr)(items:Array Value):Prop:=∃ o,h.get? a=some o/\o.cls=.type "tuple" /\ (∃ n,o.data=.seq items n)/\o.dict=none
theorem x6f.tup{h:Heap}{a:Addr}{items:Array Value}(x:x6f h a items):IsTup h a items:=let ⟨o,e,c,n,_⟩:=x;⟨o,e,c,n⟩
theorem x6f.new(h:Heap)(items:Array Value):x6f (h.push { cls:=.type "tuple",data:=.seq items }) h.objs.size items:=⟨_,Heap.get?_push_size _ rfl,rfl,⟨_,rfl⟩,rfl⟩
theorem x6f.lt{items:Array Value}(x:x6f h a items):a<h.objs.size:=let ⟨_,e,_⟩:=x;Heap.lt_size e
section
variable (P:Program)(w:World)
def x29 (H:Hp)(h:Heap)(a:Addr):HO->Prop
 | .lst xs=>xs.length<=sizeLine/\∃ (its:List Value) (n:Nat),x28 xs its/\h.get? a=some { cls:=.type "list",data:=.seq its.toArray n }
 | .tup xs=>xs.length<=sizeLine/\∃ its:List Value,x28 xs its/\x6f h a its.toArray
 | .dK kvs=>kvs.length<=sizeLine/\(a==sysModules)=false/\∃ vs,KV kvs vs/\h.DictOf (x2z P w) a vs
 | .dT kvs=>kvs.length<=sizeLine/\(a==sysModules)=false/\∃ xs:List (List Key×Addr×Value),
   Paired (fun(p:List Key×V) (q:List Key×Addr×Value)=>p.1=q.1/\H q.2.1=some (.tup (p.1.map kV))/\x39 p.2 q.2.2) kvs xs /\
   ∃ o es ep,h.get? a=some o/\o.ExactDict/\o.data=.dict es ep/\es.toList=xs.map (entryOfKey (tupleKind (x2z P w)))/\(xs.map (·.1)).Nodup
 | .set S n=>h.SetOf (intKind P w) a S n
 | .ins C dx fs=>H dx=some (.own a)/\fs.length<=1000/\dx≠a/\h.get? a=some (PySem.W.instObj C dx) /\
   ∃ mA,h.Ns1 dx mA/\(∀ f,z0f (fs.lookup f) (mA f))/\PySem.Within mA (fs.map (·.1))
 | .own _=>∃ o,h.get? a=some o
 | .xd fs=>∃ mA,h.Ns1 a mA/\∀ f,z0f (fs.lookup f) (mA f)
 | .rng lo hi=>∃ t u v,h.get? a=some { cls:=.type "range",data:=.fields #[.int lo t,.int hi u,.int 1 v] }
 | .frz o u=>h.get? a=some o/\x29 H h a u
 | .tbl ps=>h.get? a=some { cls:=.none,data:=.fields ps }
 | .met f x=>h.get? a=some (PySem.W.methodObj (.ref f) (.ref x))
 | .ext φ=>φ h/\(∃ o,h.get? a=some o)/\∀ h1 h2:Heap,φ h1->(∀ o,h1.get? a=some o->h2.get? a=some o)->φ h2
def HOk (H:Hp)(h:Heap):Prop:=∀ a o,H a=some o->x29 P w H h a o
end
section
variable {P:Program}{w:World}{H H':Hp}{h h':Heap}{a:Addr}{o:HO}
theorem x29.lt(x:x29 P w H h a o):a<h.objs.size:=by
 cases o with
 | lst xs=>obtain⟨_,_,_,_,e⟩:=x;exact Heap.lt_size e
 | tup xs=>obtain⟨_,_,_,p⟩:=x;exact p.lt
 | dK kvs=>obtain⟨_,_,_,_,o,_,_,e,_⟩:=x;exact Heap.lt_size e
 | dT kvs=>obtain⟨_,_,_,_,o,_,_,e,_⟩:=x;exact Heap.lt_size e
 | set S n=>obtain⟨o,_,_,_,e,_⟩:=x;exact Heap.lt_size e
 | ins C dx fs=>obtain⟨_,_,_,e,_⟩:=x;exact Heap.lt_size e
 | own y=>obtain⟨_,e⟩:=x;exact Heap.lt_size e
 | xd fs=>obtain⟨_,⟨_,_,_,e,_⟩,_⟩:=x;exact Heap.lt_size e
 | rng lo hi=>obtain⟨_,_,_,e⟩:=x;exact Heap.lt_size e
 | frz ob u=>obtain⟨e,_⟩:=x;exact Heap.lt_size e
 | tbl ps=>exact Heap.lt_size (show h.get? a=some _ from x)
 | met f y=>exact Heap.lt_size (show h.get? a=some _ from x)
 | ext φ=>obtain⟨_,⟨_,e⟩,_⟩:=x;exact Heap.lt_size e
theorem Paired.mapP{α β:Type}{F G:α->β->Prop}:∀ {l₁:List α} {l₂:List β},Paired F l₁ l₂->(∀ a b,F a b->G a b)->Paired G l₁ l₂
 | _,_,.nil,_=>.nil
 | _,_,.cons r t,f=>.cons (f _ _ r) (Paired.mapP t f)
theorem x29.stay(x:x29 P w H h a o)(k:∀ b u,(b=a\/H b=some (.own a))->h.get? b=some u->h'.get? b=some u)
  (ho:∀ b,H b=some (.own a)->H' b=some (.own a)) (ht:∀ b xs,H b=some (.tup xs)->H' b=some (.tup xs)):x29 P w H' h' a o:=by
 induction o with
 | lst xs=>obtain⟨z,its,n,r,e⟩:=x;exact⟨z,its,n,r,k _ _ (.inl rfl) e⟩
 | tup xs=>obtain⟨z,its,r,ob,e,c⟩:=x;exact⟨z,its,r,ob,k _ _ (.inl rfl) e,c⟩
 | dK kvs=>obtain⟨z,y,vs,r,ob,es,ep,e,c⟩:=x;exact⟨z,y,vs,r,ob,es,ep,k _ _ (.inl rfl) e,c⟩
 | dT kvs=>
  obtain⟨z,y,xs,r,ob,es,ep,e,c⟩:=x
  exact⟨z,y,xs,Paired.mapP r fun p q z=>⟨z.1,ht _ _ z.2.1,z.2.2⟩,ob,es,ep,k _ _ (.inl rfl) e,c⟩
 | set S n=>obtain⟨ob,es,ep,t,e,c⟩:=x;exact⟨ob,es,ep,t,k _ _ (.inl rfl) e,c⟩
 | ins C dx fs=>
  obtain⟨d,z,ne,e,mA,⟨od,es,ep,e2,c⟩,r⟩:=x
  exact⟨ho _ d,z,ne,k _ _ (.inl rfl) e,mA,⟨od,es,ep,k _ _ (.inr d) e2,c⟩,r⟩
 | own y=>obtain⟨ob,e⟩:=x;exact⟨ob,k _ _ (.inl rfl) e⟩
 | xd fs=>obtain⟨mA,⟨od,es,ep,e,c⟩,r⟩:=x;exact⟨mA,⟨od,es,ep,k _ _ (.inl rfl) e,c⟩,r⟩
 | rng lo hi=>obtain⟨t,u,v,e⟩:=x;exact⟨t,u,v,k _ _ (.inl rfl) e⟩
 | frz ob u ih=>obtain⟨e,q⟩:=x;exact⟨k _ _ (.inl rfl) e,ih q⟩
 | tbl ps=>
  have e:h.get? a=some { cls:=.none,data:=.fields ps }:=x
  show h'.get? a=some { cls:=.none,data:=.fields ps }
  exact k a _ (.inl rfl) e
 | met f y=>
  have e:h.get? a=some (PySem.W.methodObj (.ref f) (.ref y)):=x
  show h'.get? a=some (PySem.W.methodObj (.ref f) (.ref y))
  exact k a _ (.inl rfl) e
 | ext φ=>obtain⟨p,⟨o,e⟩,st⟩:=x;exact⟨st _ _ p fun o q=>k _ _ (.inl rfl) q,⟨o,k _ _ (.inl rfl) e⟩,st⟩
theorem HOk.lt(x:HOk P w H h)(e:H a=some o):a<h.objs.size:=(x a o e).lt
theorem HOk.fresh(x:HOk P w H h)(e:h.objs.size<=a):H a=none:=by
 cases q:H a with
 | none=>rfl
 | some u=>exact absurd (Nat.lt_of_lt_of_le (x.lt q) e) (Nat.lt_irrefl _)
theorem HOk.kept(x:HOk P w H h)(k:∀ b u,h.get? b=some u->h'.get? b=some u):HOk P w H h':=fun a o e=>
 (x a o e).stay (fun b u _ q=>k b u q) (fun _ q=>q) fun _ _ q=>q
theorem HOk.laid(x:HOk P w H h)(k:∀ b u,h.get? b=some u->h'.get? b=some u)(hp:h.objs.size<=a)(new:x29 P w (upd H a o) h' a o):HOk P w (upd H a o) h':=fun b u e=>by
 have hn:=x.fresh hp
 by_cases hb:b=a
 ·subst hb;rw[x0t]at e;cases e;exact new
 ·rw[x0h hb]at e
  exact(x b u e).stay (fun c v _ q=>k c v q) (fun c q=>by rw[x0h (x0r q hn)];exact q) fun c xs q=>by rw[x0h (x0r q hn)];exact q
end
def Rd (H:Hp)(a:Addr)(u:HO):Prop:=H a=some u\/∃ o,H a=some (.frz o u)
theorem Rd.of{H:Hp}{u:HO}(h:H a=some u):Rd H a u:=.inl h
theorem Rd.ok{H:Hp}{u:HO}(r:Rd H a u)(x:HOk P w H h):x29 P w H h a u:=by
 rcases r with r|⟨o,r⟩
 ·exact x a u r
 ·obtain⟨_,q⟩:=x a _ r
  exact q
def Mut:Option HO->Prop
 | some (.lst _)=>True
 | some (.dK _)=>True
 | some (.dT _)=>True
 | some (.set _ _)=>True
 | some (.ins _ _ _)=>True
 | some (.ext _)=>True
 | _=>False
section
variable {P:Program}{w:World}{H:Hp}{h h':Heap}{x e:Addr}{o':HO}
theorem HOk.write(ok:HOk P w H h)(mu:Mut (H x))(he:e=x\/H e=some (.own x))(k:∀ b u,b≠e->h.get? b=some u->h'.get? b=some u)(heo:∃ u,h'.get? e=some u)
  (new:x29 P w (upd H x o') h' x o'):HOk P w (upd H x o') h':=fun b u q=>by
 have nown:∀ c y,H c=some (.own y)->c≠x:=fun c y r z=>by subst z;rw[r]at mu;exact mu
 have ntup:∀ c xs,H c=some (.tup xs)->c≠x:=fun c xs r z=>by subst z;rw[r]at mu;exact mu
 by_cases hb:b=x
 ·subst hb;rw[x0t]at q;cases q;exact new
 ·rw[x0h hb]at q
  by_cases hbe:b=e
  ·have q':H b=some (.own x):=by
    rcases he with z|z
    ·exact absurd (hbe.trans z) hb
    ·rw[hbe];exact z
   rw[q]at q';cases q'
   obtain⟨v,hv⟩:=heo
   exact⟨v,by rw[hbe];exact hv⟩
  ·refine(ok b u q).stay (fun c v hc r=>k c v ?_ r) (fun c r=>by rw[x0h (nown c b r)];exact r) fun c xs r=>by rw[x0h (ntup c xs r)];exact r
   rcases hc with rfl|hc
   ·exact hbe
   ·rintro rfl
    rcases he with z|z
    ·exact nown c b hc z
    ·rw[hc]at z;cases z;exact hb rfl
end
structure Un (fs ex:List Addr) (H H':Hp) (h h':Heap):Prop where
 keep:∀ b o,h.get? b=some o->H b=none->b ∉ fs->b ∉ ex->h'.get? b=some o
 slot:∀ b o,h.get? b=some o->H b=none->b∈fs->b ∉ ex->∃ sl,h'.get? b=some { o with slots:=sl }
 free:∀ b o,h.get? b=some o->H b=none->b ∉ ex->H' b=none
 there:∀ b o,h.get? b=some o->b ∉ ex->∃ o',h'.get? b=some o'
 tups:∀ b xs,H b=some (.tup xs)->H' b=some (.tup xs)
 frzs:∀ b o u,H b=some (.frz o u)->H' b=some (.frz o u)
 tbls:∀ b ps,H b=some (.tbl ps)->∃ more,H' b=some (.tbl (ps++more))
section
variable {fs fs' ex ex':List Addr}{H H1 H2:Hp}{h h1 h2 h':Heap}{a x e:Addr}{o:HO}
theorem Un.any(u:Un fs ex H H1 h h1){ob:Obj}(q:h.get? b=some ob)(n:H b=none)(hx:b ∉ ex):∃ sl,h1.get? b=some { ob with slots:=sl }:=by
 by_cases hb:b∈fs
 ·exact u.slot b ob q n hb hx
 ·exact⟨ob.slots,u.keep b ob q n hb hx⟩
theorem Un.kept(k:∀ b u,h.get? b=some u->h'.get? b=some u):Un fs ex H H h h':=
 ⟨fun b ob q _ _ _=>k b ob q,fun b ob q _ _ _=>⟨ob.slots,k b ob q⟩,fun _ _ _ n _=>n,fun b ob q _=>⟨ob,k b ob q⟩,fun _ _ q=>q,fun _ _ _ q=>q,fun _ ps q=>⟨#[],by rw[q];simp⟩⟩
theorem Un.refl:Un fs ex H H h h:=Un.kept fun _ _ q=>q
theorem Un.laid(k:∀ b u,h.get? b=some u->h'.get? b=some u)(hp:h.objs.size<=a)(hn:H a=none):Un fs ex H (upd H a o) h h' where
 keep:=fun b u q _ _ _=>k b u q
 slot:=fun b u q _ _ _=>⟨u.slots,k b u q⟩
 free:=fun b u q n _=>by rw[x0h (Nat.ne_of_lt (Nat.lt_of_lt_of_le (Heap.lt_size q) hp))];exact n
 there:=fun b u q _=>⟨u,k b u q⟩
 tups:=fun b xs q=>by rw[x0h (x0r q hn)];exact q
 frzs:=fun b u xs q=>by rw[x0h (x0r q hn)];exact q
 tbls:=fun b ps q=>⟨#[],by rw[x0h (x0r q hn),q];simp⟩
theorem Un.write(mu:Mut (H x))(he:e=x\/H e=some (.own x))(k:∀ b u,b≠e->h.get? b=some u->h'.get? b=some u)(heo:∃ u,h'.get? e=some u):Un fs ex H (upd H x o) h h':=by
 have hx:∀ b,H b=none->b≠x:=fun b n z=>by subst z;rw[n]at mu;exact mu
 have hb:∀ b,H b=none->b≠e:=fun b n z=>by
  subst z
  rcases he with r|r
  ·exact hx b n r
  ·rw[n]at r;cases r
 have hm:∀ b u,H b=some u->¬ Mut (some u)->b≠x:=fun b u q nm z=>by subst z;rw[q]at mu;exact nm mu
 refine⟨fun b u q n _ _=>k b u (hb b n) q,fun b u q n _ _=>⟨u.slots,k b u (hb b n) q⟩,fun b u q n _=>by rw[x0h (hx b n)];exact n,fun b u q _=>?_,
  fun b xs q=>by rw[x0h (hm b _ q fun z=>z)];exact q,fun b u xs q=>by rw[x0h (hm b _ q fun z=>z)];exact q,fun b ps q=>⟨#[],by rw[x0h (hm b _ q fun z=>z),q];simp⟩⟩
 by_cases hbe:b=e
 ·subst hbe;exact heo
 ·exact⟨u,k b u hbe q⟩
end
def trk (h:Heap)(H:Hp):List Addr:=(List.range h.objs.size).filter fun a=>(H a).isSome
def z47 (h:Heap)(H:Hp):Heap:=PySem.W.hideAll h (trk h H)
theorem z20(h:Heap)(H:Hp):(z47 h H).objs.size=h.objs.size:=PySem.W.hideAll_size _ _
theorem z62{H:Hp}(e:h.get? b=some o)(n:H b=none):(z47 h H).get? b=some o:=
 PySem.W.hideAll_get _ e fun hm=>by
  have q:(H b).isSome=true:=(List.mem_filter.mp hm).2
  rw[n]at q;simp at q
theorem j0v{H:Hp}(e:(z47 h H).get? b=some o):h.get? b=some o/\H b=none:=by
 have e':h.get? b=some o:=PySem.W.of_hideAll (trk h H) e
 refine⟨e',?_⟩
 cases q:H b with
 | none=>rfl
 | some x=>
  have hm:b∈trk h H:=List.mem_filter.mpr ⟨List.mem_range.mpr (Heap.lt_size e'),by simp[q]⟩
  have z:(z47 h H).get? b=none:=PySem.W.hideAll_none (trk h H) hm
  rw[z]at e;cases e
def z8h (g h:Heap)(L:Addr):List (Addr×Obj):=(List.range h.objs.size).filterMap fun a=>if a=L\/(g.get? a).isSome=true then none else(h.get? a).map fun o=>(a,o)
def x21 (g h:Heap)(L d:Addr):List (Addr×Obj):=(z8h g h L).filter fun p=>decide (p.1≠d)
structure Mod (K:PySem.W.Frag) (mg:Str->Option Value) (base:Heap):Prop where
 kin:K.In base
 glob:base.Ns mainGlobals mg
 blt:∃ mb,base.Ns builtinsNs mb/\∀ x:Str,x ≠ "__name__"->mb x=bootBuiltins x
 nolimit:base.NoLimit
structure Cx where
 prog:Program
 w:World
 K:PySem.W.Frag
 mg:Str->Option Value
 base:Heap
 A:Around
 N:List Str
 s₀:Shared
 H₀:Hp
 env:Env
 outer:List Env
 stack:List Env
 ex:List Addr
 fn:Str->Bool
 calm:Bool
 pn:List (Addr×Obj)
 xe:Value->Shared->Prop
def frs (l:List Env):List Addr:=l.filterMap (·.frame)
abbrev Cx.fs (X:Cx):List Addr:=frs X.outer
def Vis (sc:Scope)(x:Str):Prop:=sc.names.lookup x=some .local\/sc.names.lookup x=some .cell\/sc.names.lookup x=some .free
def Loc (sc:Scope)(x:Str):Prop:=sc.names.lookup x=some .local\/sc.names.lookup x=some .cell
def j8h (env:Env)(h:Heap)(m:Str->Option Value)(x:Str)(u:Value):Prop:=
 (env.kindOf x=some .local/\m x=some u)\/((env.kindOf x=some .cell\/env.kindOf x=some .free)/\∃ c,env.cells.lookup x=some c/\h.IsCell c (some u))
structure Cx.Ok (X:Cx):Prop where
 mod:Mod X.K X.mg X.base
 kind:X.env.scope.kind=.function
 glob:X.env.globals=mainGlobals
 blt:X.env.builtins=builtinsNs
 above:X.s₀.heap.objs.size<=X.env.locals
 inj:∀ x y c,X.env.cells.lookup x=some c->X.env.cells.lookup y=some c->x=y
 has:∀ x,(X.env.kindOf x=some .cell\/X.env.kindOf x=some .free)->∃ c,X.env.cells.lookup x=some c
 cab:∀ x c,X.fn x=true->X.env.cells.lookup x=some c->X.s₀.heap.objs.size<=c
 hd:X.calm=true->X.A.handled=none
 frames:X.A.frames=some X.stack
 stk:X.stack=X.outer\/(X.stack=X.env::X.outer/\X.env.frame=some X.env.locals)
 exf:∀ b∈X.ex,b≠X.env.locals/\∀ x c,X.env.cells.lookup x=some c->c≠b
 bs:∀ b o,X.base.get? b=some o->X.s₀.heap.get? b=some o/\X.H₀ b=none
 bsz:X.base.objs.size<=X.s₀.heap.objs.size
 noex:∀ b o,X.base.get? b=some o->b ∉ X.ex
 exfs:∀ b∈X.ex,b ∉ X.fs
 funs:X.s₀.heap.FunFrames X.base X.outer
 frf:∀ b∈X.fs,X.H₀ b=none
structure Inv (X:Cx) (pins:List (Addr×Obj)) (σ:List (Option V)) (H:Hp) (s:Shared):Prop where
 ok:X.Ok
 os:s.os=X.s₀.os
 bare:AllBare s.gens
 base:Un X.fs X.ex X.H₀ H X.s₀.heap s.heap
 loc:∃ m,s.heap.Ns X.env.locals m/\∀ (i:Nat) (x:Str) (v:V),X.N[i]? = some x->σ[i]? = some (some v)->Vis X.env.scope x->∃ u,x39 v u/\j8h X.env s.heap m x u
 cell:∀ x c,X.env.cells.lookup x=some c->∃ v,s.heap.IsCell c v
 free:H X.env.locals=none
 freeC:∀ x c,X.env.cells.lookup x=some c->H c=none
 pin:∀ p∈X.pn++pins,s.heap.get? p.1=some p.2/\H p.1=none/\p.1≠X.env.locals/\p.1 ∉ X.fs/\∀ v,p.2.data ≠ .cell v
 hok:HOk X.prog X.w H s.heap
 len:σ.length=X.N.length
section
variable {X:Cx}{pins:List (Addr×Obj)}{σ:List (Option V)}{H H':Hp}{s:Shared}{h':Heap}
theorem Cx.Ok.nofr(ok:X.Ok)(e:X.base.get? b=some o):b ∉ X.fs:=fun hb=>by
 have:=(ok.funs.mem hb).1
 rw[e]at this;cases this
theorem Inv.bs(I:Inv X pins σ H s):∀ b o,X.base.get? b=some o->s.heap.get? b=some o/\H b=none:=fun b o e=>
 ⟨I.base.keep b o (I.ok.bs b o e).1 (I.ok.bs b o e).2 (I.ok.nofr e) (I.ok.noex b o e),I.base.free b o (I.ok.bs b o e).1 (I.ok.bs b o e).2 (I.ok.noex b o e)⟩
theorem Inv.bk(I:Inv X pins σ H s):∀ b o,X.base.get? b=some o->s.heap.get? b=some o:=fun b o e=>(I.bs b o e).1
theorem Inv.mod(I:Inv X pins σ H s):Mod X.K X.mg X.base:=I.ok.mod
theorem Inv.kIn(I:Inv X pins σ H s):X.K.In s.heap:=I.ok.mod.kin.keeps I.bk
theorem Inv.fr(I:Inv X pins σ H s):∃ m,Fr X.base X.env.locals s.heap m:=
 let ⟨m,hn,_⟩:=I.loc
 ⟨m,hn,I.bk,Nat.le_trans I.ok.bsz I.ok.above⟩
theorem Inv.lt(I:Inv X pins σ H s):X.env.locals<s.heap.objs.size:=let ⟨_,hn,_⟩:=I.loc;hn.lt
theorem Inv.sz(I:Inv X pins σ H s):X.s₀.heap.objs.size<=s.heap.objs.size:=Nat.le_trans I.ok.above (Nat.le_of_lt I.lt)
theorem Inv.nofs(I:Inv X pins σ H s)(h:s.heap.objs.size<=a):a ∉ X.fs:=fun hb=>by
 obtain⟨_,o,ho,_⟩:=I.ok.funs.mem hb
 exact absurd (Nat.lt_of_lt_of_le (Heap.lt_size ho) (Nat.le_trans I.sz h)) (Nat.lt_irrefl _)
theorem Inv.cne(I:Inv X pins σ H s):∀ x c,X.env.cells.lookup x=some c->c≠X.env.locals:=fun x c e z=>by
 obtain⟨v,o,ho,hd⟩:=I.cell x c e
 obtain⟨m,⟨o',es,ep,ho',hd',_⟩,_⟩:=I.loc
 rw[z,ho']at ho;cases ho;rw[hd']at hd;cases hd
theorem Inv.funs(I:Inv X pins σ H s):s.heap.FunFrames X.base X.outer:=by
 have all:∀ (l:List Env),(∀ b∈frs l,b∈X.fs)->X.s₀.heap.FunFrames X.base l->s.heap.FunFrames X.base l:=by
  intro l
  induction l with
  | nil=>intro _ _;trivial
  | cons env r ih=>
   intro hs hl
   obtain⟨hk,⟨L,o,hf,hn,ho,hd⟩,hr⟩:=hl
   have hL:L∈X.fs:=hs L (by unfold frs;rw[List.filterMap_cons,hf];exact List.mem_cons_self)
   obtain⟨sl,e⟩:=I.base.slot L o ho (I.ok.frf L hL) hL fun z=>I.ok.exfs L z hL
   exact⟨hk,⟨L,_,hf,hn,e,hd⟩,ih (fun b hb=>hs b (by unfold frs;rw[List.filterMap_cons,hf];exact List.mem_cons_of_mem _ hb)) hr⟩
 exact all X.outer (fun _ hb=>hb) I.ok.funs
theorem Inv.stack(I:Inv X pins σ H s):s.heap.FunFrames X.base X.stack:=by
 rcases I.ok.stk with e|⟨e,hf⟩
 ·rw[e];exact I.funs
 ·rw[e]
  obtain⟨m,hn,_⟩:=I.loc
  refine .cons (by rw[I.ok.kind];decide) hf hn ?_ I.funs
  exact Heap.get?_none_of_le (Nat.le_trans I.ok.bsz I.ok.above)
theorem Inv.stkSub(I:Inv X pins σ H s):∀ b∈frs X.stack,b∈X.env.locals::X.fs:=fun b hb=>by
 rcases I.ok.stk with e|⟨e,hf⟩
 ·rw[e]at hb;exact List.mem_cons_of_mem _ hb
 ·rw[e]at hb
  unfold frs at hb
  rw[List.filterMap_cons,hf]at hb
  exact hb
theorem Inv.stkFree(I:Inv X pins σ H s):∀ b∈frs X.stack,H b=none:=fun b hb=>by
 rcases List.mem_cons.mp (I.stkSub b hb)with e|hb
 ·rw[e];exact I.free
 ·obtain⟨_,o,ho,_⟩:=I.ok.funs.mem hb
  exact I.base.free b o ho (I.ok.frf b hb) fun z=>I.ok.exfs b z hb
theorem Inv.step{g':Array GenState}{t':Nat}{d':Drawn}{ch:List Addr}(I:Inv X pins σ H s)
  (hch:∀ b∈ch,(b∈X.ex\/X.s₀.heap.objs.size<=b)/\b≠X.env.locals/\(∀ x c,X.env.cells.lookup x=some c->c≠b)/\∀ p∈X.pn++pins,p.1≠b)
  (keep:∀ b o,b≠X.env.locals->b ∉ X.fs->b ∉ ch->s.heap.get? b=some o->H b=none->h'.get? b=some o)
  (slot:∀ b o,b≠X.env.locals->b∈X.fs->b ∉ ch->s.heap.get? b=some o->H b=none->∃ sl,h'.get? b=some { o with slots:=sl }) (free:∀ b o,b ∉ ch->s.heap.get? b=some o->H b=none->H' b=none)
  (there:∀ b o,b ∉ ch->s.heap.get? b=some o->∃ o',h'.get? b=some o')
  (tups:∀ b xs,H b=some (.tup xs)->H' b=some (.tup xs)) (frzs:∀ b o u,H b=some (.frz o u)->H' b=some (.frz o u)) (tbls:∀ b ps,H b=some (.tbl ps)->∃ more,H' b=some (.tbl (ps++more)))
  (ns:∀ m,s.heap.Ns X.env.locals m->h'.Ns X.env.locals m) (hok:HOk X.prog X.w H' h') (hg:AllBare g') :
  Inv X pins σ H' { s with heap:=h',gens:=g',drawn:=d',toks:=t' }:=by
 have neL:∀ b o,X.s₀.heap.get? b=some o->b≠X.env.locals:=fun b o e=>Nat.ne_of_lt (Nat.lt_of_lt_of_le (Heap.lt_size e) I.ok.above)
 have neC:∀ b o,X.s₀.heap.get? b=some o->b ∉ X.ex->b ∉ ch:=fun b o e hx hb=>by
  rcases(hch b hb).1 with z|z
  ·exact hx z
  ·exact absurd (Nat.lt_of_lt_of_le (Heap.lt_size e) z) (Nat.lt_irrefl _)
 have cellK:∀ x c,X.env.cells.lookup x=some c->∀ v,s.heap.IsCell c v->h'.IsCell c v:=fun x c e v hh0=>by
  obtain⟨o,ho,hd⟩:=hh0
  have nch:c ∉ ch:=fun z=>(hch c z).2.2.1 x c e rfl
  by_cases hc:c∈X.fs
  ·obtain⟨sl,q⟩:=slot c o (I.cne x c e) hc nch ho (I.freeC x c e)
   exact⟨_,q,hd⟩
  ·exact⟨o,keep c o (I.cne x c e) hc nch ho (I.freeC x c e),hd⟩
 refine⟨I.ok,I.os,hg,⟨fun b o e n hb hx=>?_,fun b o e n hb hx=>?_,fun b o e n hx=>?_,fun b o e hx=>?_,fun b xs e=>tups b xs (I.base.tups b xs e),fun b o xs e=>frzs b o xs (I.base.frzs b o xs e),fun b ps e=>?_⟩,?_,fun x c e=>?_,?_,fun x c e=>?_,fun p hp=>?_,hok,I.len⟩
 ·exact keep b o (neL b o e) hb (neC b o e hx) (I.base.keep b o e n hb hx) (I.base.free b o e n hx)
 ·obtain⟨sl,e1⟩:=I.base.slot b o e n hb hx
  obtain⟨sl',e2⟩:=slot b _ (neL b o e) hb (neC b o e hx) e1 (I.base.free b o e n hx)
  exact⟨sl',e2⟩
 ·obtain⟨o',e1⟩:=I.base.there b o e hx
  exact free b o' (neC b o e hx) e1 (I.base.free b o e n hx)
 ·obtain⟨o',e1⟩:=I.base.there b o e hx
  exact there b o' (neC b o e hx) e1
 ·obtain⟨m1,e1⟩:=I.base.tbls b ps e
  obtain⟨m2,e2⟩:=tbls b _ e1
  exact⟨m1++m2,by rw[e2,Array.append_assoc]⟩
 ·obtain⟨m,hn,hl⟩:=I.loc
  refine⟨m,ns m hn,fun i x v e1 e2 e3=>?_⟩
  obtain⟨u,r,l⟩:=hl i x v e1 e2 e3
  refine⟨u,r,?_⟩
  rcases l with l|⟨k,c,e,z⟩
  ·exact .inl l
  ·exact .inr ⟨k,c,e,cellK x c e _ z⟩
 ·obtain⟨v,z⟩:=I.cell x c e
  exact⟨v,cellK x c e v z⟩
 ·obtain⟨m,⟨o,_,_,ho,_⟩,_⟩:=I.loc
  exact free _ o (fun z=>(hch _ z).2.1 rfl) ho I.free
 ·obtain⟨v,o,ho,hd⟩:=I.cell x c e
  exact free c o (fun z=>(hch c z).2.2.1 x c e rfl) ho (I.freeC x c e)
 ·obtain⟨e,n,ne,nf,d⟩:=I.pin p hp
  have nch:p.1 ∉ ch:=fun z=>(hch p.1 z).2.2.2 p hp rfl
  exact⟨keep p.1 p.2 ne nf nch e n,free p.1 p.2 nch e n,ne,nf,d⟩
theorem Inv.un{t':Nat}(I:Inv X pins σ H s)(u:Un X.fs [] H H' s.heap h')(hok:HOk X.prog X.w H' h'):Inv X pins σ H' { s with heap:=h',toks:=t' }:=by
 obtain⟨m,⟨o,es,ep,ho,r⟩,_⟩:=id I.loc
 obtain⟨sl,hL⟩:=u.any ho I.free (by simp)
 exact I.step (g':=s.gens) (d':=s.drawn) (ch:=[]) (fun _ z=>nomatch z) (fun b o _ hb _ e n=>u.keep b o e n hb (by simp)) (fun b o _ hb _ e n=>u.slot b o e n hb (by simp)) (fun b o _ e n=>u.free b o e n (by simp)) (fun b o _ e=>u.there b o e (by simp)) u.tups u.frzs u.tbls (fun m' hm=>by
  obtain⟨o',es',ep',ho',r'⟩:=hm
  rw[ho]at ho';cases ho'
  exact⟨_,es',ep',hL,r'⟩) hok I.bare
theorem Inv.call{g':Array GenState}{t':Nat}{d':Drawn}{ch:List Addr}(I:Inv X pins σ H s)(u:Un (frs X.stack) ch H H' s.heap h')(hok:HOk X.prog X.w H' h')(hg:AllBare g')
  (hch:∀ b∈ch,(b∈X.ex\/X.s₀.heap.objs.size<=b)/\b≠X.env.locals/\(∀ x c,X.env.cells.lookup x=some c->c≠b)/\∀ p∈X.pn++pins,p.1≠b) :
  Inv X pins σ H' { s with heap:=h',gens:=g',drawn:=d',toks:=t' }:=by
 obtain⟨m,⟨o,es,ep,ho,r⟩,_⟩:=id I.loc
 obtain⟨sl,hL⟩:=u.any ho I.free fun z=>(hch _ z).2.1 rfl
 exact I.step (ch:=ch) hch (fun b o hL hb hc e n=>u.keep b o e n (fun z=>(List.mem_cons.mp (I.stkSub b z)).elim hL hb) hc) (fun b o _ _ hc e n=>u.any e n hc) (fun b o hc e n=>u.free b o e n hc) (fun b o hc e=>u.there b o e hc) u.tups u.frzs u.tbls (fun m' hm=>by
  obtain⟨o',es',ep',ho',r'⟩:=hm
  rw[ho]at ho';cases ho'
  exact⟨_,es',ep',hL,r'⟩) hok hg
theorem Inv.turned{t':Nat}(I:Inv X pins σ H s)(k:∀ b o,b≠it->s.heap.get? b=some o->h'.get? b=some o)(hn:H it=none)(hL:it≠X.env.locals)
  (h1:it∈X.ex\/X.s₀.heap.objs.size<=it) (h2:∀ x c,X.env.cells.lookup x=some c->c≠it) (h3:∀ p∈X.pn++pins,p.1≠it):Inv X pins σ H { s with heap:=h',toks:=t' }:=by
 have nit:∀ b u,H b=some u->b≠it:=fun b u e z=>by rw[z,hn]at e;cases e
 refine I.step (g':=s.gens) (d':=s.drawn) (ch:=[it]) (fun b hb=>?_) (fun b o _ _ hc e _=>k b o (fun z=>hc (by simp[z])) e) (fun b o _ _ hc e _=>⟨o.slots,k b o (fun z=>hc (by simp[z])) e⟩) (fun _ _ _ _ n=>n)
  (fun b o hc e=>⟨o,k b o (fun z=>hc (by simp[z])) e⟩) (fun _ _ e=>e) (fun _ _ _ e=>e) (fun b ps e=>⟨#[],by rw[e];simp⟩) (fun m hm=>?_) (fun b u e=>?_) I.bare
 ·have e:b=it:=by simpa using hb
  subst e
  exact⟨h1,hL,h2,h3⟩
 ·obtain⟨o,es,ep,ho,r⟩:=hm
  exact⟨o,es,ep,k _ o (Ne.symm hL) ho,r⟩
 ·refine(I.hok b u e).stay (fun c v hc q=>k c v ?_ q) (fun _ q=>q) fun _ _ q=>q
  rcases hc with z|z
  ·rw[z];exact nit b u e
  ·exact nit c _ z
theorem Inv.tok(I:Inv X pins σ H s)(t:Nat):Inv X pins σ H { s with toks:=t }:=I.un (h':=s.heap) (t':=t) Un.refl I.hok
theorem Inv.kept{t':Nat}(I:Inv X pins σ H s)(k:∀ b u,s.heap.get? b=some u->h'.get? b=some u):Inv X pins σ H { s with heap:=h',toks:=t' }:=I.un (Un.kept k) (I.hok.kept k)
theorem Inv.laid{o:HO}{t':Nat}(I:Inv X pins σ H s)(k:∀ b u,s.heap.get? b=some u->h'.get? b=some u)(hp:s.heap.objs.size<=a)(new:x29 X.prog X.w (upd H a o) h' a o) :
  Inv X pins σ (upd H a o) { s with heap:=h',toks:=t' }:=I.un (Un.laid k hp (I.hok.fresh hp)) (I.hok.laid k hp new)
theorem Inv.write{x e:Addr}{o:HO}{t':Nat}(I:Inv X pins σ H s)(mu:Mut (H x))(he:e=x\/H e=some (.own x))(k:∀ b u,b≠e->s.heap.get? b=some u->h'.get? b=some u)(heo:∃ u,h'.get? e=some u)
  (new:x29 X.prog X.w (upd H x o) h' x o):Inv X pins σ (upd H x o) { s with heap:=h',toks:=t' }:=I.un (Un.write mu he k heo) (I.hok.write mu he k heo new)
theorem Inv.weak{σ':List (Option V)}(I:Inv X pins σ H s)(hl:σ'.length=σ.length)(w:∀ (i:Nat) v,σ'[i]? = some (some v)->σ[i]? = some (some v)):Inv X pins σ' H s:=
 ⟨I.ok,I.os,I.bare,I.base,let ⟨m,hn,hl'⟩:=I.loc;⟨m,hn,fun i x v e1 e2 e3=>hl' i x v e1 (w i v e2) e3⟩,I.cell,I.free,I.freeC,I.pin,I.hok,hl.trans I.len⟩
theorem Inv.pins_of{pins':List (Addr×Obj)}(I:Inv X pins σ H s)(h:∀ p∈pins',s.heap.get? p.1=some p.2/\H p.1=none/\p.1≠X.env.locals/\p.1 ∉ X.fs/\∀ v,p.2.data ≠ .cell v):Inv X pins' σ H s:=
 ⟨I.ok,I.os,I.bare,I.base,I.loc,I.cell,I.free,I.freeC,fun p hp=>(List.mem_append.mp hp).elim (fun z=>I.pin p (List.mem_append_left _ z)) (h p),I.hok,I.len⟩
theorem y4l(hN:N.Nodup)(a:N[i]? = some x)(b:N[j]? = some x):i=j:=by
 obtain⟨h1,e1⟩:=List.getElem?_eq_some_iff.mp a
 obtain⟨h2,e2⟩:=List.getElem?_eq_some_iff.mp b
 exact(List.getElem_inj hN).mp (e1.trans e2.symm)
theorem y57{M:Model}{A:Around}{E:Value->Shared->Prop}{v:V}(I:Inv X pins σ H s)(hN:X.N.Nodup)(hi:X.N[i]? = some x)(hx:Loc X.env.scope x)(r:x39 v u)
  (h:∀ s',Inv X pins (σ.set i (some v)) H s'->(∃ a,Heap.SameBut a s.heap s'.heap/\(a=X.env.locals\/X.env.cells.lookup x=some a))->Q () s') (hf:X.fn x=true\/X.env.scope.names.lookup x=some .local:=by first|exact .inl rfl|exact .inr rfl|assumption):wpAny M A (storeName X.env x u) Q E s:=by
 obtain⟨m,hn,hl⟩:=id I.loc
 have hcls:(X.env.scope.kind == .class||(X.env.scope.kind == .module&&X.env.locals != X.env.globals))=false:=by rw[I.ok.kind];rfl
 have hiσ:i<σ.length:=by rw[I.len];exact(List.getElem?_eq_some_iff.mp hi).1
 have cne:=I.cne
 have tracked:∀ {a:Addr} {h':Heap},(∃ o,s.heap.get? a=some o/\H a=none)->Heap.SameBut a s.heap h'->HOk X.prog X.w H h':=fun {a h'} ha hs b ob e=>by
  obtain⟨_,_,hfree⟩:=ha
  refine(I.hok b ob e).stay (fun c w' hc q=>(hs.2 c ?_).trans q) (fun _ q=>q) fun _ _ q=>q
  rintro rfl
  rcases hc with rfl|hc
  ·rw[hfree]at e;cases e
  ·rw[hfree]at hc;cases hc
 rcases hx with hk|hk
 ·refine wpAny_storeName_local hk hn (fun h' hn' hs=>?_) hcls
  obtain⟨oL,_,_,hoL,_⟩:=id hn
  refine h _ ⟨I.ok,I.os,I.bare,⟨fun b o e n hb hx=>?_,fun b o e n hb hx=>?_,I.base.free,fun b o e hx=>?_,I.base.tups,I.base.frzs,I.base.tbls⟩,⟨_,hn',fun j y v' e1 e2 e3=>?_⟩,fun y c e=>?_,I.free,I.freeC,fun p hp=>?_,tracked ⟨oL,hoL,I.free⟩ hs,by simpa using I.len⟩ ⟨_,hs,.inl rfl⟩
  ·exact(hs.2 b (Nat.ne_of_lt (Nat.lt_of_lt_of_le (Heap.lt_size e) I.ok.above))).trans (I.base.keep b o e n hb hx)
  ·obtain⟨sl,e1⟩:=I.base.slot b o e n hb hx
   exact⟨sl,(hs.2 b (Nat.ne_of_lt (Nat.lt_of_lt_of_le (Heap.lt_size e) I.ok.above))).trans e1⟩
  ·obtain⟨o',e1⟩:=I.base.there b o e hx
   exact⟨o',(hs.2 b (Nat.ne_of_lt (Nat.lt_of_lt_of_le (Heap.lt_size e) I.ok.above))).trans e1⟩
  ·by_cases hj:j=i
   ·subst hj
    rw[hi]at e1;cases e1
    rw[List.getElem?_set_self hiσ]at e2
    cases e2
    exact⟨u,r,.inl ⟨hk,by simp⟩⟩
   ·rw[List.getElem?_set_ne (Ne.symm hj)]at e2
    obtain⟨u',r',q⟩:=hl j y v' e1 e2 e3
    refine⟨u',r',?_⟩
    rcases q with⟨k,e⟩|⟨k,c,e,z⟩
    ·refine .inl ⟨k,?_⟩
     have:y≠x:=fun e=>hj (y4l hN e1 (e ▸ hi))
     simp[this,e]
    ·exact .inr ⟨k,c,e,z.sameBut hs (cne y c e)⟩
  ·obtain⟨w',z⟩:=I.cell y c e
   exact⟨w',z.sameBut hs (cne y c e)⟩
  ·obtain⟨e,n,ne,nf,d⟩:=I.pin p hp
   exact⟨(hs.2 p.1 ne).trans e,n,ne,nf,d⟩
 ·have hfn:X.fn x=true:=by
   rcases hf with z|z
   ·exact z
   ·rw[z]at hk;cases hk
  obtain⟨c,hc⟩:=I.ok.has x (.inl hk)
  obtain⟨w',z⟩:=I.cell x c hc
  refine wpAny_storeName_cell I.ok.kind hk hc z (fun h' hc' hs=>?_)
  obtain⟨oc,hoc,hocd⟩:=id z
  refine h { s with heap:=h' } ⟨I.ok,I.os,I.bare,⟨fun b o e n hb hx=>?_,fun b o e n hb hx=>?_,I.base.free,fun b o e hx=>?_,I.base.tups,I.base.frzs,I.base.tbls⟩,⟨m,hn.sameBut hs (Ne.symm (cne x c hc)),fun j y v' e1 e2 e3=>?_⟩,fun y c' e=>?_,I.free,I.freeC,fun p hp=>?_,tracked ⟨oc,hoc,I.freeC x c hc⟩ hs,by simpa using I.len⟩ ⟨c,hs,.inr hc⟩
  ·exact(hs.2 b (Nat.ne_of_lt (Nat.lt_of_lt_of_le (Heap.lt_size e) (I.ok.cab x c hfn hc)))).trans (I.base.keep b o e n hb hx)
  ·obtain⟨sl,e1⟩:=I.base.slot b o e n hb hx
   exact⟨sl,(hs.2 b (Nat.ne_of_lt (Nat.lt_of_lt_of_le (Heap.lt_size e) (I.ok.cab x c hfn hc)))).trans e1⟩
  ·obtain⟨o',e1⟩:=I.base.there b o e hx
   exact⟨o',(hs.2 b (Nat.ne_of_lt (Nat.lt_of_lt_of_le (Heap.lt_size e) (I.ok.cab x c hfn hc)))).trans e1⟩
  ·by_cases hj:j=i
   ·subst hj
    rw[hi]at e1;cases e1
    rw[List.getElem?_set_self hiσ]at e2
    cases e2
    exact⟨u,r,.inr ⟨.inl hk,c,hc,hc'⟩⟩
   ·rw[List.getElem?_set_ne (Ne.symm hj)]at e2
    obtain⟨u',r',q⟩:=hl j y v' e1 e2 e3
    refine⟨u',r',?_⟩
    rcases q with q|⟨k,c',e,z'⟩
    ·exact .inl q
    ·refine .inr ⟨k,c',e,z'.sameBut hs ?_⟩
     rintro rfl
     exact hj (y4l hN e1 (I.ok.inj _ _ _ e hc ▸ hi))
  ·by_cases hcc:c'=c
   ·subst hcc;exact⟨_,hc'⟩
   ·obtain⟨w2,z2⟩:=I.cell y c' e
    exact⟨w2,z2.sameBut hs hcc⟩
  ·obtain⟨e,n,ne,nf,d⟩:=I.pin p hp
   refine⟨(hs.2 p.1 ?_).trans e,n,ne,nf,d⟩
   intro q
   rw[q,hoc]at e
   have q':oc=p.2:=Option.some.inj e
   exact d w' (by rw[<- q'];exact hocd)
theorem y47{M:Model}{A:Around}{E:Value->Shared->Prop}{v:V}(I:Inv X pins σ H s)(hN:X.N.Nodup)(hi:X.N[i]? = some x)(hx:Loc X.env.scope x)(r:x39 v u)
  (h:∀ s',Inv X pins (σ.set i (some v)) H s'->Q () s') (hf:X.fn x=true\/X.env.scope.names.lookup x=some .local:=by first|exact .inl rfl|exact .inr rfl|assumption):wpAny M A (storeName X.env x u) Q E s:=
 y57 I hN hi hx r (fun s' I' _=>h s' I') hf
theorem Inv.call'{ch:List Addr}(I:Inv X pins σ H s)(ho:s'.os=s.os)(u:Un (frs X.stack) ch H H' s.heap s'.heap)(hok:HOk X.prog X.w H' s'.heap)(hg:AllBare s'.gens)
  (hch:∀ b∈ch,(b∈X.ex\/X.s₀.heap.objs.size<=b)/\b≠X.env.locals/\(∀ x c,X.env.cells.lookup x=some c->c≠b)/\∀ p∈X.pn++pins,p.1≠b):Inv X pins σ H' s':=by
 obtain⟨h',g',d',t',o'⟩:=s'
 have e:o'=s.os:=ho
 subst e
 exact I.call (g':=g') (t':=t') (d':=d') u hok hg hch
end
abbrev XK:=Value->Option Addr->Hp->Prop
abbrev St:=List (Option V)
abbrev VK:=V->Hp->Prop
abbrev TE:=St->Hp->VK->Prop
abbrev TT:=St->Hp->(Bool->Hp->Prop)->Prop
abbrev TA:=St->Hp->(List V->Hp->Prop)->Prop
structure Ends where
 nx:St->Hp->Prop
 rt:VK
 bk:St->Hp->Prop:=fun _ _=>False
 ct:St->Hp->Prop:=fun _ _=>False
abbrev TS:=Ends->St->Hp->Prop
def EP (X:Cx)(pins:List (Addr×Obj))(σ:St)(Q:VK)(u:Value)(s':Shared):Prop:=∃ v H',Inv X pins σ H' s'/\x39 v u/\Q v H'
def TP (X:Cx)(pins:List (Addr×Obj))(σ:St)(Q:Bool->Hp->Prop)(b:Bool)(s':Shared):Prop:=∃ H',Inv X pins σ H' s'/\Q b H'
def AP (X:Cx)(pins:List (Addr×Obj))(σ:St)(Q:List V->Hp->Prop)(us:List Value)(s':Shared):Prop:=∃ vs H',Inv X pins σ H' s'/\x28 vs us/\Q vs H'
def SP (X:Cx)(pins:List (Addr×Obj))(D:Ends)(f:Flow)(s':Shared):Prop:=
 match f with
 | .next=>∃ σ' H',Inv X pins σ' H' s'/\D.nx σ' H'
 | .brk=>∃ σ' H',Inv X pins σ' H' s'/\D.bk σ' H'
 | .cont=>∃ σ' H',Inv X pins σ' H' s'/\D.ct σ' H'
 | .ret u=>∃ v σ' H',Inv X pins σ' H' s'/\x39 v u/\D.rt v H'
def PE (X:Cx)(e:Expr)(t:TE):Prop:=
 ∀ (pins:List (Addr×Obj)) (s:Shared) (σ:St) (H:Hp) (Q:VK),Inv X pins σ H s->t σ H Q->wpAny (model X.prog X.w) X.A (eval e X.env) (EP X pins σ Q) X.xe s
def PT (X:Cx)(e:Expr)(t:TT):Prop:=
 ∀ (pins:List (Addr×Obj)) (s:Shared) (σ:St) (H:Hp) (Q:Bool->Hp->Prop),Inv X pins σ H s->t σ H Q->wpAny (model X.prog X.w) X.A (isTrue e X.env (eval e X.env)) (TP X pins σ Q) X.xe s
def PW (X:Cx)(e:Expr)(t:TT):Prop:=
 ∀ (whole:Sem Value) (pins:List (Addr×Obj)) (s:Shared) (σ:St) (H:Hp) (Q:Bool->Hp->Prop),Inv X pins σ H s->t σ H Q->wpAny (model X.prog X.w) X.A (isTrue e X.env whole) (TP X pins σ Q) X.xe s
theorem PW.pt{X:Cx}{e:Expr}{t:TT}(h:PW X e t):PT X e t:=h _
def PA (X:Cx)(es:List Expr)(t:TA):Prop:=
 ∀ (pos:Pos) (pins:List (Addr×Obj)) (s:Shared) (σ:St) (H:Hp) (Q:List V->Hp->Prop),Inv X pins σ H s->t σ H Q->wpAny (model X.prog X.w) X.A (spliced (backTo pos (starEach es X.env))) (AP X pins σ Q) X.xe s
def PS (X:Cx)(st:Stmt)(t:TS):Prop:=
 ∀ (pins:List (Addr×Obj)) (s:Shared) (σ:St) (H:Hp) (D:Ends),Inv X pins σ H s->t D σ H->wpAny (model X.prog X.w) X.A (exec st X.env) (SP X pins D) X.xe s
def PSs (X:Cx)(st:List Stmt)(t:TS):Prop:=
 ∀ (pins:List (Addr×Obj)) (s:Shared) (σ:St) (H:Hp) (D:Ends),Inv X pins σ H s->t D σ H->wpAny (model X.prog X.w) X.A (execs st X.env) (SP X pins D) X.xe s
theorem thn{α:Type}{t:Sem α}{Q Q':α->Shared->Prop}(h:wpAny M A t Q E s)(hQ:∀ a s,Q a s->Q' a s):wpAny M A t Q' E s:=wpAny_mono h hQ fun _ _ x=>x
section
variable {X:Cx}
def x7j (i:Nat):TE:=fun σ H Q=>∃ v,σ[i]? = some (some v)/\Q v H
def tC (v:V):TE:=fun _ H Q=>Q v H
theorem j54{pos:Pos}(hN:X.N[i]? = some x)(hv:Vis X.env.scope x)(hd:(x==("__debug__":Str))=false:=by decide)(hcd:(x==("__classdict__":Str))=false:=by decide):PE X (.Name x pos) (x7j i):=by
 intro pins s σ H Q I h
 obtain⟨v,e,h⟩:=h
 obtain⟨m,hn,hl⟩:=I.loc
 obtain⟨u,r,l⟩:=hl i x v hN e hv
 have fin:EP X pins σ Q u s:=⟨v,H,I,r,h⟩
 rcases l with⟨hk,hm⟩|⟨hk,c,hc,hcell⟩
 ·exact wpAny_Name (wpAny_loadName_local I.ok.kind hk hn hm fin) hd
 ·rcases hk with hk|hk
  ·exact wpAny_Name (wpAny_loadName_cell I.ok.kind hk hc hcell fin) hd
  ·exact wpAny_Name (wpAny_loadName_free I.ok.kind hk hc hcell fin hcd) hd
theorem y5v{i j pos}:PE X (.Constant (.int i) j pos) (tC (.int i)):=fun _ _ _ H _ I h=>wpAny_Constant_int ⟨.int i,H,I.tok _,⟨_,rfl⟩,h⟩
theorem j6q{b j pos}:PE X (.Constant (.bool b) j pos) (tC (.bl b)):=fun _ _ _ H _ I h=>Constant_bool ⟨.bl b,H,I,rfl,h⟩
theorem j2z{j pos}:PE X (.Constant .none j pos) (tC .non):=fun _ _ _ H _ I h=>Constant_none ⟨.non,H,I,rfl,h⟩
theorem y8k{x j pos}:PE X (.Constant (.str x) j pos) (tC (.str x)):=fun _ _ _ H _ I h=>Calls.Constant_str ⟨.str x,H,I.tok _,⟨_,rfl⟩,h⟩
def Gl (X:Cx)(x:Str):Prop:=X.env.kindOf x=some .globalImplicit
theorem y1u{E:Value->Shared->Prop}{σ:St}{H:Hp}{pos:Pos}{Q:Value->Shared->Prop}(I:Inv X pins σ H s)(hg:Gl X x)(hm:X.mg x=some u)(h:Q u s)
  (hd:(x==("__debug__":Str))=false:=by decide):wpAny (model X.prog X.w) X.A (eval (.Name x pos) X.env) Q E s:=
 Calls.Name_function_global I.ok.kind hg (Calls.loadGlobal_global (by rw[I.ok.glob];exact I.mod.glob.keeps I.bk) hm h) hd
theorem y1a{E:Value->Shared->Prop}{σ:St}{H:Hp}{pos:Pos}{Q:Value->Shared->Prop}(I:Inv X pins σ H s)(hg:Gl X x)(hm:X.mg x=none)(hv:bootBuiltins x=some u)(h:Q u s)
  (hn:x ≠ "__name__":=by decide) (hd:(x==("__debug__":Str))=false:=by decide):wpAny (model X.prog X.w) X.A (eval (.Name x pos) X.env) Q E s:=by
 obtain⟨mb,h1,h2⟩:=I.mod.blt
 exact Calls.Name_function_global I.ok.kind hg (Calls.loadGlobal_builtin (by rw[I.ok.glob];exact I.mod.glob.keeps I.bk) hm (by rw[I.ok.blt];exact h1.keeps I.bk) ((h2 x hn).trans hv) h) hd
theorem z9x{v:V}{pos:Pos}(hg:Gl X x)(hm:X.mg x=some u)(r:x39 v u)(hd:(x==("__debug__":Str))=false:=by decide):PE X (.Name x pos) (tC v):=
 fun _ _ _ H _ I h=>y1u I hg hm ⟨v,H,I,r,h⟩ hd
theorem z3d{v:V}{pos:Pos}(hg:Gl X x)(hm:X.mg x=none)(hv:bootBuiltins x=some u)(r:x39 v u)(hn:x ≠ "__name__":=by decide)(hd:(x==("__debug__":Str))=false:=by decide):PE X (.Name x pos) (tC v):=
 fun _ _ _ H _ I h=>y1a I hg hm hv ⟨v,H,I,r,h⟩ hn hd
variable {a b:Expr}{ta tb:TE}{pos:Pos}
variable {tA tB':TT}{x21:List Expr}
def j8u (t u:TT):TT:=fun σ H Q=>t σ H fun c H1=>if c=true then u σ H1 Q else Q false H1
def tOr (t u:TT):TT:=fun σ H Q=>t σ H fun c H1=>if c=true then Q true H1 else u σ H1 Q
def j8y (t:TT):TT:=fun σ H Q=>t σ H fun c H1=>Q (!c) H1
theorem j0a(ha:PT X a tA):PW X (.BoolOp .And [a] pos) tA:=by
 intro wh pins s σ H Q I h
 refine isTrue_and (thn (ha pins s σ H Q I h) fun c s1 e=>?_)
 cases c with
 | true=>exact isTrue_and_nil e
 | false=>exact e
theorem j2n(ha:PT X a tA):PW X (.BoolOp .Or [a] pos) tA:=by
 intro wh pins s σ H Q I h
 refine isTrue_or (thn (ha pins s σ H Q I h) fun c s1 e=>?_)
 cases c with
 | false=>exact isTrue_or_nil e
 | true=>exact e
theorem j2y(ha:PT X a tA)(hb:PW X (.BoolOp .And (b::x21) pos) tB'):PW X (.BoolOp .And (a::b::x21) pos) (j8u tA tB'):=by
 intro wh pins s σ H Q I h
 refine isTrue_and (thn (ha pins s σ H _ I h) fun c s1 hh0=>?_)
 obtain⟨H1,I1,q1⟩:=hh0
 cases c with
 | true=>exact hb wh pins s1 σ H1 Q I1 q1
 | false=>exact⟨H1,I1,q1⟩
theorem j7m(ha:PT X a tA)(hb:PW X (.BoolOp .Or (b::x21) pos) tB'):PW X (.BoolOp .Or (a::b::x21) pos) (tOr tA tB'):=by
 intro wh pins s σ H Q I h
 refine isTrue_or (thn (ha pins s σ H _ I h) fun c s1 hh0=>?_)
 obtain⟨H1,I1,q1⟩:=hh0
 cases c with
 | true=>exact⟨H1,I1,q1⟩
 | false=>exact hb wh pins s1 σ H1 Q I1 q1
theorem j2t(ha:PT X a tA):PT X (.UnaryOp .Not a pos) (j8y tA):=by
 intro pins s σ H Q I h
 exact isTrue_not (ha pins s σ H (fun c H1=>Q (!c) H1) I h)
def j6r (ta tb:TE):TE:=fun σ H Q=>ta σ H fun x H1=>∃ c,x=.bl c/\if c=true then tb σ H1 Q else Q (.bl false) H1
def j6x (ta:TE):TE:=fun σ H Q=>ta σ H fun x H1=>∃ c,x=.bl c/\Q (.bl (!c)) H1
theorem j2l{op}{t:TE}(h:PE X a t):PE X (.BoolOp op [a] pos) t:=fun pins s σ H Q I hw=>BoolOp_one (h pins s σ H Q I hw)
theorem j5c(ha:PE X a ta)(hb:PE X (.BoolOp .And (b::x21) pos) tb):PE X (.BoolOp .And (a::b::x21) pos) (j6r ta tb):=by
 intro pins s σ H Q I h
 refine BoolOp_and (thn (ha pins s σ H _ I h) fun v s1 hh0=>?_)
 obtain⟨x,H1,I1,r1,q1⟩:=hh0
 obtain⟨c,rfl,q1⟩:=q1
 cases r1
 refine wpAny_truthy_bool ?_
 cases c with
 | true=>exact hb pins s1 σ H1 Q I1 q1
 | false=>exact⟨.bl false,H1,I1,rfl,q1⟩
theorem j3b(ha:PE X a ta):PE X (.UnaryOp .Not a pos) (j6x ta):=by
 intro pins s σ H Q I h
 refine UnaryOp_ (thn (ha pins s σ H _ I h) fun v s1 hh0=>?_)
 obtain⟨x,H1,I1,r1,q1⟩:=hh0
 obtain⟨c,rfl,q1⟩:=q1
 cases r1
 exact not_of (wpAny_truthy_bool ⟨.bl (!c),H1,I1,rfl,q1⟩)
def tIf (t:TT)(ta tb:TE):TE:=fun σ H Q=>t σ H fun c H1=>if c=true then ta σ H1 Q else tb σ H1 Q
theorem z53(hc:PT X c tA)(ha:PE X a ta)(hb:PE X b tb):PE X (.IfExp c a b pos) (tIf tA ta tb):=by
 intro pins s σ H Q I h
 refine wpAny_IfExp (thn (hc pins s σ H _ I h) fun d s1 hh0=>?_)
 obtain⟨H1,I1,q1⟩:=hh0
 cases d with
 | true=>exact ha pins s1 σ H1 Q I1 q1
 | false=>exact hb pins s1 σ H1 Q I1 q1
end
def SqL (K:PySem.W.Frag)(H:Hp)(a:Addr)(xs:List V):Prop:=
 Rd H a (.lst xs) \/
  ∃ (o:Obj) (its:Array Value) (n:Nat),K.lookup a=some o/\o.cls=.type "list" /\ o.dict=none/\o.data=.seq its n/\its.size<=sizeLine/\x28 xs its.toList
def SqT (K:PySem.W.Frag)(H:Hp)(a:Addr)(xs:List V):Prop:=
 Rd H a (.tup xs) \/
  ∃ (o:Obj) (its:Array Value) (n:Nat),K.lookup a=some o/\o.cls=.type "tuple" /\ o.data=.seq its n/\its.size<=sizeLine/\x28 xs its.toList
def j8f:Value->Option V
 | .none=>some .non
 | .bool b=>some (.bl b)
 | .int i _=>some (.int i)
 | .str x _=>some (.str x)
 | .bytes b _=>some (.byt b)
 | .float b _=>some (.flt b)
 | .ref a=>some (.ref a)
 | .type n=>some (.ty n)
 | _=>none
theorem x39.abs{x:V}(r:x39 x u):j8f u=some x:=by
 cases x with
 | non=>cases r;rfl
 | bl _=>cases r;rfl
 | int _=>obtain⟨t,rfl⟩:=r;rfl
 | str _=>obtain⟨t,rfl⟩:=r;rfl
 | byt _=>obtain⟨t,rfl⟩:=r;rfl
 | flt _=>obtain⟨t,rfl⟩:=r;rfl
 | ref _=>cases r;rfl
 | ty _=>cases r;rfl
theorem x39.inj{x y:V}(r:x39 x u)(q:x39 y u):x=y:=Option.some.inj (r.abs.symm.trans q.abs)
theorem x28.inj:∀ {xs ys:List V} {us:List Value},x28 xs us->x28 ys us->xs=ys
 | _,_,_,.nil,.nil=>rfl
 | _,_,_,.cons r t,.cons r' t'=>by rw[r.inj r',x28.inj t t']
section
variable {X:Cx}{pins:List (Addr×Obj)}{σ:St}{H:Hp}{s:Shared}{a:Addr}{xs ys:List V}
theorem SqL.of(h:H a=some (.lst xs)):SqL K H a xs:=.inl (.inl h)
theorem SqT.of(h:H a=some (.tup xs)):SqT K H a xs:=.inl (.inl h)
theorem Inv.list(I:Inv X pins σ H s)(h:SqL X.K H a xs):∃ its:List Value,x28 xs its/\PlainL s.heap a its.toArray/\xs.length<=sizeLine:=by
 rcases h with h|⟨o,its,n,hk,hc,hd,hs,hz,r⟩
 ·obtain⟨z,its,n,r,e⟩:=h.ok I.hok
  exact⟨its,r,⟨_,n,e,rfl,rfl,rfl⟩,z⟩
 ·refine⟨its.toList,r,⟨o,n,I.kIn a o hk,hc,hd,by simpa using hs⟩,?_⟩
  have e:=r.length
  simp only[Array.length_toList]at e
  omega
theorem Inv.tuple(I:Inv X pins σ H s)(h:SqT X.K H a xs):∃ its:List Value,x28 xs its/\IsTup s.heap a its.toArray/\xs.length<=sizeLine:=by
 rcases h with h|⟨o,its,n,hk,hc,hs,hz,r⟩
 ·obtain⟨z,its,r,p⟩:=h.ok I.hok
  exact⟨its,r,p.tup,z⟩
 ·refine⟨its.toList,r,⟨o,I.kIn a o hk,hc,n,by simpa using hs⟩,?_⟩
  have e:=r.length
  simp only[Array.length_toList]at e
  omega
theorem Inv.list_inj(I:Inv X pins σ H s)(h:SqL X.K H a xs)(h':SqL X.K H a ys):xs=ys:=by
 obtain⟨its,r,⟨o,n,e,_,_,d⟩,_⟩:=I.list h
 obtain⟨its',r',⟨o',n',e',_,_,d'⟩,_⟩:=I.list h'
 rw[e]at e';cases e'
 rw[d]at d'
 injection d' with d1 _
 have:its=its':=by simpa using congrArg Array.toList d1
 subst this
 exact r.inj r'
theorem Inv.tuple_inj(I:Inv X pins σ H s)(h:SqT X.K H a xs)(h':SqT X.K H a ys):xs=ys:=by
 obtain⟨its,r,⟨o,e,_,n,d⟩,_⟩:=I.tuple h
 obtain⟨its',r',⟨o',e',_,n',d'⟩,_⟩:=I.tuple h'
 rw[e]at e';cases e'
 rw[d]at d'
 injection d' with d1 _
 have:its=its':=by simpa using congrArg Array.toList d1
 subst this
 exact r.inj r'
end
abbrev Cx.wish (X:Cx)(E:Value->Shared->Prop):Cx:={ X with xe:=E }
abbrev Cx.nox (X:Cx):Cx:=X.wish fun _ _=>False
theorem Cx.Ok.wish{X:Cx}(ok:X.Ok)(E:Value->Shared->Prop):(X.wish E).Ok:=
 ⟨ok.mod,ok.kind,ok.glob,ok.blt,ok.above,ok.inj,ok.has,ok.cab,ok.hd,ok.frames,ok.stk,ok.exf,ok.bs,ok.bsz,ok.noex,ok.exfs,ok.funs,ok.frf⟩
theorem Cx.Ok.unwish{X:Cx}(ok:(X.wish E).Ok):X.Ok:=
 ⟨ok.mod,ok.kind,ok.glob,ok.blt,ok.above,ok.inj,ok.has,ok.cab,ok.hd,ok.frames,ok.stk,ok.exf,ok.bs,ok.bsz,ok.noex,ok.exfs,ok.funs,ok.frf⟩
section
variable {X:Cx}{pins:List (Addr×Obj)}{σ:St}{H:Hp}{s:Shared}{E:Value->Shared->Prop}
theorem Inv.wish(I:Inv X pins σ H s)(E:Value->Shared->Prop):Inv (X.wish E) pins σ H s:=⟨I.ok.wish E,I.os,I.bare,I.base,I.loc,I.cell,I.free,I.freeC,I.pin,I.hok,I.len⟩
theorem Inv.unwish(I:Inv (X.wish E) pins σ H s):Inv X pins σ H s:=⟨I.ok.unwish,I.os,I.bare,I.base,I.loc,I.cell,I.free,I.freeC,I.pin,I.hok,I.len⟩
theorem SP.unwish{D:Ends}{f:Flow}(h:SP (X.wish E) pins D f s'):SP X pins D f s':=by
 cases f with
 | next=>obtain⟨σ',H',I,q⟩:=h;exact⟨σ',H',I.unwish,q⟩
 | brk=>obtain⟨σ',H',I,q⟩:=h;exact⟨σ',H',I.unwish,q⟩
 | cont=>obtain⟨σ',H',I,q⟩:=h;exact⟨σ',H',I.unwish,q⟩
 | ret u=>obtain⟨v,σ',H',I,r,q⟩:=h;exact⟨v,σ',H',I.unwish,r,q⟩
theorem PSs.nox{st:List Stmt}{t:TS}(h:PSs X.nox st t):PSs X st t:=fun pins s σ H D I hw=>
 wpAny_mono (h pins s σ H D (I.wish _) hw) (fun _ _ q=>q.unwish) fun _ _ z=>False.elim z
end
section
variable {X:Cx}{st:Stmt}{x21:List Stmt}{t u:TS}{e:Expr}{te:TE}{pos:Pos}
def j77:TS:=fun D σ H=>D.nx σ H
def j90 (t u:TS):TS:=fun D σ H=>t { D with nx:=u D } σ H
theorem z96:PSs X [] j77:=fun _ _ σ H _ I h=>wpAny_execs_nil ⟨σ,H,I,h⟩
theorem y3r(h1:PS X st t)(h2:PSs X x21 u):PSs X (st::x21) (j90 t u):=by
 intro pins s σ H D I h
 refine wpAny_execs_cons (thn (h1 pins s σ H { D with nx:=u D } I h) fun f s1 q=>?_)
 cases f with
 | next=>
  obtain⟨σ',H',I',q⟩:=q
  exact h2 pins s1 σ' H' D I' q
 | ret v=>exact q
 | brk=>exact q
 | cont=>exact q
theorem y4j(h1:PS X st t):PSs X [st] t:=by
 intro pins s σ H D I h
 refine wpAny_execs_cons (thn (h1 pins s σ H D I h) fun f s1 q=>?_)
 cases f with
 | next=>exact wpAny_execs_nil q
 | ret v=>exact q
 | brk=>exact q
 | cont=>exact q
def j5k:TS:=fun D σ H=>D.bk σ H
theorem z5w:PS X (.Break pos) j5k:=fun _ _ σ H _ I h=>wpAny_Break ⟨σ,H,I,h⟩
theorem Inv.quiet{σ:St}{H:Hp}(I:Inv X pins σ H s):interactive X.env=false:=by simp[interactive,I.ok.kind]
def j6e (te:TE):TS:=fun D σ H=>te σ H fun _ H1=>D.nx σ H1
theorem z14(he:PE X e te)(hs:swapsWith e none pos.line X.env=pure false:=by rfl):PS X (.Expr e pos) (j6e te):=by
 intro pins s σ H D I h
 exact wpAny_Expr_any (thn (he pins s σ H _ I h) fun v s1 ⟨x,H1,I1,r1,q1⟩=>⟨σ,H1,I1,q1⟩) I.quiet hs
def j7u (te:TE):TS:=fun D σ H=>te σ H D.rt
theorem z7r(he:PE X e te):PS X (.Return (some e) pos) (j7u te):=by
 intro pins s σ H D I h
 exact wpAny_Return_some (thn (he pins s σ H _ I h) fun v s1 ⟨x,H1,I1,r1,q1⟩=>⟨x,σ,H1,I1,r1,q1⟩)
def j86 (c:TT)(t u:TS):TS:=fun D σ H=>c σ H fun b H1=>if b=true then t D σ H1 else u D σ H1
theorem j5l{a b:List Stmt}{tc:TT}(hc:PT X c tc)(ha:PSs X a t)(hb:PSs X b u):PS X (.If c a b pos) (j86 tc t u):=by
 intro pins s σ H D I h
 refine wpAny_If (thn (hc pins s σ H _ I h) fun d s1 hh0=>?_)
 obtain⟨H1,I1,q1⟩:=hh0
 cases d with
 | true=>exact ha pins s1 σ H1 D I1 q1
 | false=>exact hb pins s1 σ H1 D I1 q1
def j2a:TS:=fun _ _ _=>False
theorem z6s:PS X st j2a:=fun _ _ _ _ _ _ h=>h.elim
end
abbrev TG:=V->St->Hp->(St->Hp->Prop)->Prop
abbrev TGs:=List V->St->Hp->(St->Hp->Prop)->Prop
def PG (X:Cx)(target:Expr)(t:TG):Prop:=
 ∀ (pins:List (Addr×Obj)) (s:Shared) (σ:St) (H:Hp) (v:V) (u:Value) (Q:St->Hp->Prop),Inv X pins σ H s->x39 v u->t v σ H Q->
  wpAny (model X.prog X.w) X.A (assign target X.env u) (fun _ s'=>∃ σ' H',Inv X pins σ' H' s'/\Q σ' H') X.xe s
def PGs (X:Cx)(ts:List Expr)(t:TGs):Prop:=
 ∀ (pins:List (Addr×Obj)) (s:Shared) (σ:St) (H:Hp) (vs:List V) (us:List Value) (Q:St->Hp->Prop),Inv X pins σ H s->x28 vs us->t vs σ H Q->
  wpAny (model X.prog X.w) X.A (assignInOrder ((assignEach ts X.env).map (·.2)) us) (fun _ s'=>∃ σ' H',Inv X pins σ' H' s'/\Q σ' H') X.xe s
abbrev j6u:=V->V->V->Hp->(Hp->Prop)->Prop
def j7y (X:Cx)(t:j6u):Prop:=
 ∀ (pins:List (Addr×Obj)) (s:Shared) (σ:St) (H:Hp) (o i v:V) (ov iv u:Value) (Q:Hp->Prop),Inv X pins σ H s->x39 o ov->x39 i iv->x39 v u->t o i v H Q->
  wpAny (model X.prog X.w) X.A (setItem ov iv u) (fun _ s'=>∃ H',Inv X pins σ H' s'/\Q H') X.xe s
section
variable {X:Cx}{pos:Pos}
def y78 (i:Nat):TG:=fun v σ H Q=>Q (σ.set i (some v)) H
theorem y7t(hN:X.N.Nodup)(hi:X.N[i]? = some x)(hx:Loc X.env.scope x)(hf:X.fn x=true\/X.env.scope.names.lookup x=some .local:=by first|exact .inl rfl|exact .inr rfl|assumption):PG X (.Name x pos) (y78 i):=by
 intro pins s σ H v u Q I r h
 exact wpAny_assign_Name (y47 I hN hi hx r (fun s' I'=>⟨_,H,I',h⟩) hf)
def j8c:TGs:=fun vs σ H Q=>vs=[]/\Q σ H
def j6j (t:TG)(u:TGs):TGs:=fun vs σ H Q=>∃ v r,vs=v::r/\t v σ H fun σ' H'=>u r σ' H' Q
theorem z95:PGs X [] j8c:=by
 intro pins s σ H vs us Q I r h
 obtain⟨e,h⟩:=h
 subst e
 cases r
 exact assignInOrder_nil ⟨σ,H,I,h⟩
theorem z5g{e:Expr}{t:TG}{u:TGs}(h1:PG X e t)(h2:PGs X es u)
  (hs:(assignEach (e::es) X.env).map (·.2)=assign e X.env::(assignEach es X.env).map (·.2):=by rfl):PGs X (e::es) (j6j t u):=by
 intro pins s σ H vs us Q I r h
 obtain⟨v,vr,e1,h⟩:=h
 subst e1
 cases r with
 | cons r rr=>
  rw[hs]
  refine assignInOrder_cons (thn (h1 pins s σ H _ _ _ I r h) fun _ s1 hh0=>?_)
  obtain⟨σ1,H1,I1,q1⟩:=hh0
  exact h2 pins s1 σ1 H1 _ _ Q I1 rr q1
def j8t (K:PySem.W.Frag)(n:Nat)(t:TGs):TG:=fun v σ H Q=>∃ a xs,v=.ref a/\SqT K H a xs/\xs.length=n/\t xs σ H Q
theorem j57{k:Nat}{t:TGs}(hc:X.calm=true)(h:PGs X es t)
  (hn:(assignEach es X.env).length=n:=by rfl) (hst:(assignEach es X.env).findIdx? (·.1)=none:=by rfl):PG X (.Tuple es k pos) (j8t X.K n t):=by
 intro pins s σ H v u Q I r hw
 obtain⟨a,xs,e1,hq,hl,hw⟩:=hw
 subst e1
 cases r
 obtain⟨its,rv,ht,hz⟩:=I.tuple hq
 refine assign_Tuple_tuple (I.ok.hd hc) ht (by simp[hn,<- hl,rv.length]) hst fun h' hx=>?_
 have I1:Inv X pins σ H { s with heap:=h' }:=I.kept (t':=s.toks) fun b o e=>hx b o (Nat.ne_of_lt (Heap.lt_size e)) e
 exact h pins _ σ H xs _ Q I1 (by simpa using rv) hw
def j8g (to ti:TE)(t:j6u):TG:=fun v σ H Q=>to σ H fun o H1=>ti σ H1 fun i H2=>t o i v H2 fun H3=>Q σ H3
theorem z87{o i:Expr}{to ti:TE}{t:j6u}(ho:PE X o to)(hi:PE X i ti)(hs:j7y X t)
  (ha:∀ v,assign (.Subscript o i pos) X.env v=(do
    let ov <- holding [v] (eval o X.env)
    let iv <- holding [v,ov] (eval i X.env)
    standAt pos
    holding [v,ov,iv] (setItem ov iv v)
    release [v,ov,iv] []):=by intro _;rfl):PG X (.Subscript o i pos) (j8g to ti t):=by
 intro pins s σ H v u Q I r h
 rw[ha]
 refine wpAny_bind (wpAny_holding (thn (ho pins s σ H _ I h) fun ov s1 hh0=>?_))
 obtain⟨x,H1,I1,r1,q1⟩:=hh0
 refine wpAny_bind (wpAny_holding (thn (hi pins s1 σ H1 _ I1 q1) fun iv s2 hh0=>?_))
 obtain⟨y,H2,I2,r2,q2⟩:=hh0
 refine wpAny_bind (wpAny_standAt (wpAny_bind (wpAny_holding (thn (hs pins s2 σ H2 x y v ov iv u _ I2 r1 r2 r q2) fun _ s3 hh0=>?_))))
 obtain⟨H3,I3,q3⟩:=hh0
 exact wpAny_release ⟨σ,H3,I3,q3⟩
def j64 (te:TE)(g:TG):TS:=fun D σ H=>te σ H fun x H1=>g x σ H1 D.nx
theorem z2b{e:Expr}{te:TE}{g:TG}(he:PE X e te)(hg:PG X tg g)(hs:swapsWithSole [tg] e pos.line X.env=pure false:=by rfl)(hw:swappedStores [tg] e X.env=pure none:=by rfl)
  (h1:(assignEach [tg] X.env).map (·.2)=[assign tg X.env]:=by rfl):PS X (.Assign [tg] e pos) (j64 te g):=by
 intro pins s σ H D I h
 refine wpAny_Assign_stores (thn (he pins s σ H _ I h) fun v s1 ⟨x,H1,I1,r1,q1⟩=>?_) hs hw
 rw[h1]
 exact thn (hg pins s1 σ H1 x v _ I1 r1 q1) fun _ s2 q=>q
theorem z2r{e:Expr}{te:TE}{pos':Pos}(hN:X.N.Nodup)(hi:X.N[i]? = some x)(hx:Loc X.env.scope x)(he:PE X e te)(hs:swapsWith e (some (.Name x pos')) pos.line X.env=pure false:=by rfl)(hf:X.fn x=true\/X.env.scope.names.lookup x=some .local:=by first|exact .inl rfl|exact .inr rfl|assumption) :
  PS X (.Assign [.Name x pos'] e pos) (j64 te (y78 i)):=by
 intro pins s σ H D I h
 refine wpAny_Assign_Name (thn (he pins s σ H _ I h) fun v s1 ⟨y,H1,I1,r1,q1⟩=>?_) hs
 exact y47 I1 hN hi hx r1 (fun s2 I2=>⟨_,H1,I2,q1⟩) hf
def j2p (c:TT)(tb:TS):TS:=fun D σ H=>∃ W:Nat->St->Hp->Prop,(∃ m,W m σ H)/\∀ m σ H,W m σ H->
 c σ H fun b H1=>if b=true then ∃ N:St->Hp->Prop,(∀ σ' H',N σ' H'->∃ m',m'<m/\W m' σ' H')/\tb { D with nx:=N,ct:=N,bk:=D.nx } σ H1 else D.nx σ H1
theorem z6d{tc:TT}{tb:TS}(hp:PassesOwn (model X.prog X.w) X.A X.env X.xe)(hc:PT X c tc)(hb:PSs X body tb):PS X (.While c body [] pos) (j2p tc tb):=by
 intro pins s σ H D I h
 obtain⟨W,⟨m0,w0⟩,turn⟩:=h
 refine wpAny_While (codeAny_whileLoop (fun n s'=>∃ σ' H',Inv X pins σ' H' s'/\W n σ' H') ?_ m0 ⟨σ,H,I,w0⟩)
 rintro n s1 ⟨σ1,H1,I1,w1⟩
 refine wpAny_passesOwn hp (thn (hc pins s1 σ1 H1 _ I1 (turn n σ1 H1 w1)) fun b s2 hh0=>?_)
 obtain⟨H2,I2,q2⟩:=hh0
 cases b with
 | true=>
  obtain⟨N,hN,q2⟩:=q2
  rw[if_pos rfl]
  refine wpAny_passesOwn hp (thn (hb pins s2 σ1 H2 _ I2 q2) fun f s3 q3=>?_)
  cases f with
  | next=>
   obtain⟨σ3,H3,I3,n3⟩:=q3
   obtain⟨m',hm,w3⟩:=hN σ3 H3 n3
   exact⟨m',hm,σ3,H3,I3,w3⟩
  | cont=>
   obtain⟨σ3,H3,I3,n3⟩:=q3
   obtain⟨m',hm,w3⟩:=hN σ3 H3 n3
   exact⟨m',hm,σ3,H3,I3,w3⟩
  | brk=>exact q3
  | ret v=>exact q3
 | false=>
  rw[if_neg Bool.false_ne_true]
  exact wpAny_execs_nil ⟨σ1,H2,I2,q2⟩
end
structure It where
 go:Nat->Hp->Prop
 yld:Nat->Hp->V->Hp->Prop
 stop:Nat->Hp->Prop
def z44 (X:Cx)(pins:List (Addr×Obj))(H:Hp)(b:Addr):Prop:=
 H b=none/\b≠X.env.locals/\b ∉ X.fs/\(b∈X.ex\/X.s₀.heap.objs.size<=b)/\(∀ x c,X.env.cells.lookup x=some c->c≠b)/\∀ p∈X.pn++pins,p.1≠b
theorem Inv.fpOk{X:Cx}{σ:St}{H H':Hp}(I:Inv X pins σ H s)(hb:s.heap.objs.size<=b)(hn:H' b=none):z44 X pins H' b:=by
 refine⟨hn,Nat.ne_of_gt (Nat.lt_of_lt_of_le I.lt hb),I.nofs hb,.inr (Nat.le_trans I.sz hb),fun x c e z=>?_,fun p hp z=>?_⟩
 ·obtain⟨v,q⟩:=I.cell x c e
  exact absurd (Nat.lt_of_lt_of_le q.lt (by rw[z];exact hb)) (Nat.lt_irrefl _)
 ·exact absurd (Nat.lt_of_lt_of_le (Heap.lt_size (I.pin p hp).1) (by rw[z];exact hb)) (Nat.lt_irrefl _)
structure Turn (P:Program) (w:World) (K:PySem.W.Frag) (tg:Expr) (J:It) (fp:List Addr) (it:Addr) (tn:Nat->Heap->Prop):Prop where
 mem:it∈fp
 obj:∀ i h,tn i h->∀ b∈fp,∃ o,h.get? b=some o/\∀ v,o.data ≠ .cell v
 keep:∀ i h h',tn i h->(∀ b∈fp,∀ o,h.get? b=some o->h'.get? b=some o)->tn i h'
 item:∀ (X:Cx),X.prog=P->X.w=w->X.K=K->X.calm=true->∀ (i:Nat) (pins:List (Addr×Obj)) (s:Shared) (σ:St) (H:Hp) (E:Value->Shared->Prop),Inv X pins σ H s->(∀ b∈fp,z44 X pins H b)->tn i s.heap->J.go i H->
  wpAny (model P w) X.A (pyNext (.ref it)) (fun r s1=>∃ u,r=some u /\
   wpAny (model P w) X.A (letOwnedTupleGo tg (.ref it) u) (fun _ s2=>∃ x H',Inv X pins σ H' s2/\x39 x u/\J.yld i H x H'/\tn (i+1) s2.heap/\∀ b∈fp,H' b=none) E s1) E s
 done:∀ (X:Cx),X.prog=P->X.w=w->X.K=K->X.calm=true->∀ (i:Nat) (pins:List (Addr×Obj)) (s:Shared) (σ:St) (H:Hp) (E:Value->Shared->Prop),Inv X pins σ H s->(∀ b∈fp,z44 X pins H b)->tn i s.heap->J.stop i H->
  wpAny (model P w) X.A (pyNext (.ref it)) (fun r s1=>r=none/\Inv X pins σ H s1) E s
 self:∀ (A:Around) (i:Nat) (s:Shared) (Q:Value->Shared->Prop) (E:Value->Shared->Prop),tn i s.heap->Q (.ref it) s->wpAny (model P w) A (pyIter (.ref it)) Q E s
abbrev TI:=St->Hp->(It->Hp->Prop)->Prop
def PIE (X:Cx)(pins:List (Addr×Obj))(σ:St)(tg:Expr)(R:It->Hp->Prop)(itv:Value)(s2:Shared):Prop:=
 ∃ (it:Addr) (fp:List Addr) (tn:Nat->Heap->Prop) (J:It) (H':Hp),itv=.ref it/\Inv X pins σ H' s2/\Turn X.prog X.w X.K tg J fp it tn/\tn 0 s2.heap/\(∀ b∈fp,z44 X pins H' b)/\R J H'
def PI (X:Cx)(tg iter:Expr)(wi:TI):Prop:=
 ∀ (pins:List (Addr×Obj)) (s:Shared) (σ:St) (H:Hp) (R:It->Hp->Prop),Inv X pins σ H s->wi σ H R->
  wpAny (model X.prog X.w) X.A (eval iter X.env) (fun v s1=>wpAny (model X.prog X.w) X.A (pyIter v) (PIE X pins σ tg R) X.xe s1) X.xe s
theorem z9j{n:String}{vs:Array Value}(ho:s.heap.get? it=some o)(hc:o.cls=.type n)(hd:o.data=.fields vs)
  (hn:["enumerate","zip","dict_itemiterator","dict_reverseitemiterator","odict_iterator","itertools.zip_longest","itertools.pairwise"].contains n=false) (hQ:Q () s):wpAny M A (letOwnedTupleGo tg (.ref it) u) Q E s:=by
 unfold letOwnedTupleGo
 cases tg<;>first
  | exact wpAny_pure hQ
  | (cases u<;>first
      | exact wpAny_pure hQ
      | (refine wpAny_bind (wpAny_load ho ?_)
         rw[hc,hd]
         show wpAny M A (if(["enumerate","zip","dict_itemiterator","dict_reverseitemiterator","odict_iterator","itertools.zip_longest","itertools.pairwise"].contains n&&vs[0]? == some (rawInt _))=true then _ else _) Q E s
         rw[if_neg (by intro h;rw[hn,Bool.false_and]at h;cases h)]
         exact wpAny_pure hQ))
def Itl (K:PySem.W.Frag)(a:Addr):It:=
 ⟨fun i H=>∃ xs x,SqL K H a xs/\xs[i]? = some x,fun i H x H'=>H'=H/\∀ xs,SqL K H a xs->xs[i]? = some x,fun i H=>∃ xs,SqL K H a xs/\xs.length<=i⟩
def Itt (K:PySem.W.Frag)(a:Addr):It:=
 ⟨fun i H=>∃ xs x,SqT K H a xs/\xs[i]? = some x,fun i H x H'=>H'=H/\∀ xs,SqT K H a xs->xs[i]? = some x,fun i H=>∃ xs,SqT K H a xs/\xs.length<=i⟩
def Itr (lo:Int)(n:Nat):It:=⟨fun i _=>i<n,fun i H x H'=>H'=H/\x=.int (lo+i),fun i _=>n<=i⟩
theorem z3k(a it:Addr):Turn P w K tg (Itl K a) [it] it (fun i h=>h.IsListIter it a i) where
 mem:=by simp
 obj:=fun i h st b hb=>by
  have e:b=it:=by simpa using hb
  subst e
  obtain⟨o,e,c,d⟩:=st
  exact⟨o,e,fun v z=>by rw[d]at z;cases z⟩
 keep:=fun i h h' st k=>st.at fun o e=>k it (by simp) o e
 item:=by
  intro X hP hw hK hc i pins s σ H E I hf st hg
  subst hP hw hK
  obtain⟨xs,x,hq,hx⟩:=hg
  obtain⟨its,rv,p,hz⟩:=I.list hq
  obtain⟨u,hu,ru⟩:=rv.get hx
  obtain⟨f0,f1,f2,f3,f4,f5⟩:=hf it (by simp)
  refine wpAny_pyNext_list_item st p.isList (x:=u) (by simpa using hu) fun h' st' sb=>?_
  have I1:Inv X pins σ H { s with heap:=h' }:=I.turned (t':=s.toks) (fun b o hb e=>(sb.2 b hb).trans e) f0 f1 f3 f4 f5
  obtain⟨o,e,c,d⟩:=id st'
  exact⟨u,rfl,z9j (s:={ s with heap:=h' }) e c d (by decide) ⟨x,H,I1,ru,⟨rfl,fun ys hy=>by rw[I.list_inj hy hq];exact hx⟩,st',fun b hb=>(hf b hb).1⟩⟩
 done:=by
  intro X hP hw hK hc i pins s σ H E I hf st hg
  subst hP hw hK
  obtain⟨xs,hq,hx⟩:=hg
  obtain⟨its,rv,p,hz⟩:=I.list hq
  obtain⟨f0,f1,f2,f3,f4,f5⟩:=hf it (by simp)
  have hl:=rv.length
  exact wpAny_pyNext_list_end (I.ok.hd hc) st p.isList (by simp;omega) fun h' eb=>⟨rfl,I.turned (t':=s.toks) (fun b o hb e=>eb b o hb e) f0 f1 f3 f4 f5⟩
 self:=fun _ _ _ _ _ st h=>wpAny_pyIter_listiter st h
theorem z0m(a it:Addr):Turn P w K tg (Itt K a) [it] it (fun i h=>h.IsTupleIter it a i) where
 mem:=by simp
 obj:=fun i h st b hb=>by
  have e:b=it:=by simpa using hb
  subst e
  obtain⟨o,e,c,d⟩:=st
  exact⟨o,e,fun v z=>by rw[d]at z;cases z⟩
 keep:=fun i h h' st k=>st.at fun o e=>k it (by simp) o e
 item:=by
  intro X hP hw hK hc i pins s σ H E I hf st hg
  subst hP hw hK
  obtain⟨xs,x,hq,hx⟩:=hg
  obtain⟨its,rv,p,hz⟩:=I.tuple hq
  obtain⟨u,hu,ru⟩:=rv.get hx
  obtain⟨f0,f1,f2,f3,f4,f5⟩:=hf it (by simp)
  refine wpAny_pyNext_tuple_item st (show s.heap.IsTuple a its.toArray from p) (x:=u) (by simpa using hu) fun h' st' sb=>?_
  have I1:Inv X pins σ H { s with heap:=h' }:=I.turned (t':=s.toks) (fun b o hb e=>(sb.2 b hb).trans e) f0 f1 f3 f4 f5
  obtain⟨o,e,c,d⟩:=id st'
  exact⟨u,rfl,z9j (s:={ s with heap:=h' }) e c d (by decide) ⟨x,H,I1,ru,⟨rfl,fun ys hy=>by rw[I.tuple_inj hy hq];exact hx⟩,st',fun b hb=>(hf b hb).1⟩⟩
 done:=by
  intro X hP hw hK hc i pins s σ H E I hf st hg
  subst hP hw hK
  obtain⟨xs,hq,hx⟩:=hg
  obtain⟨its,rv,p,hz⟩:=I.tuple hq
  obtain⟨f0,f1,f2,f3,f4,f5⟩:=hf it (by simp)
  have hl:=rv.length
  exact wpAny_pyNext_tuple_end (I.ok.hd hc) st (show s.heap.IsTuple a its.toArray from p) (by simp;omega) fun h' eb=>⟨rfl,I.turned (t':=s.toks) (fun b o hb e=>eb b o hb e) f0 f1 f3 f4 f5⟩
 self:=fun _ _ _ _ _ st h=>wpAny_pyIter_tupleiter st h
theorem z0a(it:Addr)(lo:Int)(n:Nat):Turn P w K tg (Itr lo n) [it] it (fun i h=>IsRangeIter h it (lo+(i:Nat)*1) ((n:Int)-(i:Nat)) 1) where
 mem:=by simp
 obj:=fun i h st b hb=>by
  have e:b=it:=by simpa using hb
  subst e
  exact⟨_,st,fun v z=>by
   have z':Data.fields _=Data.cell v:=z
   cases z'⟩
 keep:=fun i h h' st k=>k it (by simp) _ st
 item:=by
  intro X hP hw hK hc i pins s σ H E I hf st hg
  subst hP hw hK
  obtain⟨f0,f1,f2,f3,f4,f5⟩:=hf it (by simp)
  have W:=Walks.range (prog:=X.prog) (w:=X.w) (I.ok.hd hc) it lo 1 n
  refine W.item i s _ _ hg st fun v h' tk hv st' kk=>?_
  obtain⟨t,rfl⟩:=hv
  have I1:Inv X pins σ H { s with heap:=h',toks:=tk }:=I.turned (fun b o hb e=>kk b o (by simpa using hb) e) f0 f1 f3 f4 f5
  refine⟨_,rfl,z9j (s:={ s with heap:=h',toks:=tk }) (n:="range_iterator") st' rfl rfl (by decide) ⟨.int (lo+i),H,I1,⟨t,?_⟩,⟨rfl,rfl⟩,st',fun b hb=>(hf b hb).1⟩⟩
  rw[Int.mul_one]
 done:=by
  intro X hP hw hK hc i pins s σ H E I hf st hg
  subst hP hw hK
  obtain⟨f0,f1,f2,f3,f4,f5⟩:=hf it (by simp)
  exact wpAny_pyNext_range_end (I.ok.hd hc) st (by have:n<=i:=hg;omega) fun h' eb=>⟨rfl,I.turned (t':=s.toks) (fun b o hb e=>eb b o hb e) f0 f1 f3 f4 f5⟩
 self:=fun _ _ _ _ _ st h=>wpAny_pyIter_rangeiter st h
section
variable {X:Cx}{tg:Expr}
theorem z5k{σ:St}{H:Hp}{R:It->Hp->Prop}{lo hi:Int}{t u v:Tok}{tk:Nat}(I:Inv X pins σ H s)(h1:-(2 ^ 62)<=lo)(h2:lo<2 ^ 62)(h3:-(2 ^ 62)<=hi)(h4:hi<2 ^ 62)
  (q:R (Itr lo (hi-lo).toNat) H):wpAny (model X.prog X.w) X.A (pyIter (.ref s.heap.objs.size)) (PIE X pins σ tg R) E { s with heap:=s.heap.push { cls:=.type "range",data:=.fields #[.int lo t,.int hi u,.int 1 v] },toks:=tk }:=by
 refine wpAny_pyIter_range (IsRange.new ..) (small_one h1 h2 h3 h4) ?_
 have I1:Inv X pins σ H { s with heap:=s.heap.push { cls:=.type "range",data:=.fields #[.int lo t,.int hi u,.int 1 v] },toks:=tk }:=I.kept fun b o e=>Heap.get?_push_of_some _ e
 refine⟨(s.heap.push { cls:=.type "range",data:=.fields #[.int lo t,.int hi u,.int 1 v] }).objs.size,[(s.heap.push { cls:=.type "range",data:=.fields #[.int lo t,.int hi u,.int 1 v] }).objs.size],_,_,H,rfl,
  I1.kept (t':=tk) fun b o e=>Heap.get?_push_of_some _ e,z0a _ lo (hi-lo).toNat,?_,fun b hb=>?_,q⟩
 ·have e1:lo+((0:Nat):Int)*1=lo:=by simp
  have e2:(((hi-lo).toNat:Nat):Int)-((0:Nat):Int)=Builtin.Range.rangeSize lo hi 1:=by rw[rangeSize_one];split<;>omega
  show IsRangeIter _ _ (lo+((0:Nat):Int)*1) ((((hi-lo).toNat:Nat):Int)-((0:Nat):Int)) 1
  rw[e1,e2]
  exact Heap.get?_push_size _ rfl
 ·have e:b=(s.heap.push { cls:=.type "range",data:=.fields #[.int lo t,.int hi u,.int 1 v] }).objs.size:=by simpa using hb
  subst e
  exact I1.fpOk (Nat.le_refl _) (I1.hok.fresh (Nat.le_refl _))
def j6w (ta:TA):TI:=fun σ H R=>ta σ H fun vs H1=>∃ j:Int,vs=[.int j] /\ -(2 ^ 62)<=j/\j<2 ^ 62/\R (Itr 0 j.toNat) H1
theorem z2q{a:Expr}{ta:TA}{p pos:Pos}(hg:Gl X "range")(hm:X.mg "range" = none)(ha:PA X [a] ta)(hs:starEach [a] X.env=[(false,eval a X.env)]:=by rfl):PI X tg (.Call (.Name "range" p) [a] [] pos) (j6w ta):=by
 intro pins s σ H R I h
 refine Call_ (y1a I hg hm boot_range (PyProof.Rows.callWith_type1 (thn (ha pos pins s σ H _ I h) fun us s1 ⟨vs,H1,I1,r1,q1⟩=>?_) hs rfl))
 obtain⟨j,e,q1,q2,q⟩:=q1
 subst e
 cases r1 with
 | cons r rr=>
  cases rr
  obtain⟨t,rfl⟩:=r
  exact call_range_1 (z5k I1 (by omega) (by omega) q1 q2 (by simpa using q))
def j7b (wi:TI)(g:TG)(tb:TS):TS:=fun D σ H=>wi σ H fun J H1=>∃ W:Nat->Nat->St->Hp->Prop,(∃ m,W 0 m σ H1)/\∀ i m σ H,W i m σ H->
 (J.stop i H/\D.nx σ H)\/(J.go i H/\∃ N:St->Hp->Prop,(∀ σ' H',N σ' H'->∃ m',m'<m/\W (i+1) m' σ' H')/\∀ x H',J.yld i H x H'->g x σ H' fun σ2 H2=>tb { D with nx:=N,ct:=N,bk:=D.nx } σ2 H2)
def y0o (fp:List Addr)(h:Heap):List (Addr×Obj):=fp.filterMap fun b=>(h.get? b).map fun o=>(b,o)
theorem x7i(hb:b∈fp)(e:h.get? b=some o):(b,o)∈y0o fp h:=List.mem_filterMap.mpr ⟨b,hb,by rw[e];rfl⟩
theorem y5i{p:Addr×Obj}(hp:p∈y0o fp h):p.1∈fp/\h.get? p.1=some p.2:=by
 obtain⟨b,hb,e⟩:=List.mem_filterMap.mp hp
 cases q:h.get? b with
 | none=>rw[q]at e;cases e
 | some o=>
  rw[q]at e
  have e':(b,o)=p:=Option.some.inj e
  subst e'
  exact⟨hb,q⟩
theorem Inv.pinned{σ:St}{H:Hp}(I:Inv X pins σ H s)(hf:∀ b∈fp,z44 X pins H b)(ho:∀ b∈fp,∃ o,s.heap.get? b=some o/\∀ v,o.data ≠ .cell v):Inv X (pins++y0o fp s.heap) σ H s:=
 I.pins_of fun p hp=>(List.mem_append.mp hp).elim (fun z=>I.pin p (List.mem_append_right _ z)) fun z=>by
  obtain⟨hb,e⟩:=y5i z
  obtain⟨f0,f1,f2,_⟩:=hf p.1 hb
  obtain⟨o,e',d⟩:=ho p.1 hb
  rw[e]at e';cases e'
  exact⟨e,f0,f1,f2,d⟩
theorem Inv.unpinned{pl:List (Addr×Obj)}{σ:St}{H:Hp}(I:Inv X (pins++pl) σ H s):Inv X pins σ H s:=I.pins_of fun p hp=>I.pin p (List.mem_append_right _ (List.mem_append_left _ hp))
theorem z81{iter:Expr}{wi:TI}{g:TG}{tb:TS}{pos:Pos}(hp:PassesOwn (model X.prog X.w) X.A X.env X.xe)(hc:X.calm=true)(hi:PI X tg iter wi)(hg:PG X tg g)(hb:PSs X body tb)
  (hs:∀ x,foldedSetIterable iter X.env x=pure x:=by intro _;rfl):PS X (.For tg iter body [] pos) (j7b wi g tb):=by
 intro pins s σ H D I h
 refine wpAny_For (thn (hi pins s σ H _ I h) fun v s1 h1=>thn h1 fun itv s2 h2=>?_) hs
 obtain⟨it,fp,tn,J,H2,e,I2,T,st2,f2,W,⟨m0,w0⟩,turn⟩:=h2
 subst e
 -- what stays true of the iterator's objects through the loop
 have stat:∀ {H':Hp},(∀ b∈fp,H' b=none)->∀ b∈fp,z44 X pins H' b:=fun hn b hb=>⟨hn b hb,(f2 b hb).2⟩
 refine codeAny_forLoop_any (fun n s'=>∃ i σ' H',Inv X pins σ' H' s'/\tn i s'.heap/\(∀ b∈fp,H' b=none)/\W i n σ' H') ?_ m0 ⟨0,σ,H2,I2,st2,fun b hb=>(f2 b hb).1,w0⟩
 rintro n s3 ⟨i,σ3,H3,I3,st3,fr3,w3⟩
 rcases turn i n σ3 H3 w3 with⟨stop,qn⟩|⟨go,N,hN,step⟩
 ·refine wpAny_passesOwn hp (thn (T.done X rfl rfl rfl hc i pins s3 σ3 H3 X.xe I3 (stat fr3) st3 stop) fun r s4 ⟨hr,I4⟩=>?_)
  subst hr
  exact wpAny_execs_nil ⟨σ3,H3,I4,qn⟩
 ·refine wpAny_passesOwn hp (thn (T.item X rfl rfl rfl hc i pins s3 σ3 H3 X.xe I3 (stat fr3) st3 go) fun r s4 ⟨u,hr,h4⟩=>?_)
  subst hr
  refine wpAny_passesOwn hp (thn h4 fun _ s5 hh0=>?_)
  obtain⟨x,H5,I5,r5,y5,st5,fr5⟩:=hh0
  have I5':=I5.pinned (stat fr5) (T.obj _ _ st5)
  refine wpAny_passesOwn hp (thn (hg _ s5 σ3 H5 x u _ I5' r5 (step x H5 y5)) fun _ s6 hh0=>?_)
  obtain⟨σ6,H6,I6,q6⟩:=hh0
  refine wpAny_passesOwn hp (thn (hb _ s6 σ6 H6 _ I6 q6) fun f s7 q7=>?_)
  have again:∀ {σ7:St} {H7:Hp},Inv X (pins++y0o fp s5.heap) σ7 H7 s7->N σ7 H7->∃ m,m<n/\∃ i σ' H',Inv X pins σ' H' s7/\tn i s7.heap/\(∀ b∈fp,H' b=none)/\W i m σ' H':=fun {σ7 H7} I7 n7=>by
   obtain⟨m',hm,w7⟩:=hN σ7 H7 n7
   refine⟨m',hm,i+1,σ7,H7,I7.unpinned,T.keep _ _ _ st5 fun b hb o e=>(I7.pin (b,o) (List.mem_append_right _ (List.mem_append_right _ (x7i hb e)))).1,fun b hb=>?_,w7⟩
   obtain⟨o,e,d⟩:=T.obj _ _ st5 b hb
   exact(I7.pin (b,o) (List.mem_append_right _ (List.mem_append_right _ (x7i hb e)))).2.1
  cases f with
  | next=>obtain⟨σ7,H7,I7,n7⟩:=q7;exact again I7 n7
  | cont=>obtain⟨σ7,H7,I7,n7⟩:=q7;exact again I7 n7
  | brk=>obtain⟨σ7,H7,I7,q7⟩:=q7;exact⟨σ7,H7,I7.unpinned,q7⟩
  | ret v=>obtain⟨x7,σ7,H7,I7,r7,q7⟩:=q7;exact⟨x7,σ7,H7,I7.unpinned,r7,q7⟩
end
abbrev R2:=V->V->Hp->VK->Prop
def OpR (X:Cx)(f:Value->Value->Sem Value)(r:R2):Prop:=
 ∀ (pins:List (Addr×Obj)) (s:Shared) (σ:St) (H:Hp) (x y:V) (v u:Value) (Q:VK),Inv X pins σ H s->x39 x v->x39 y u->r x y H Q->
  wpAny (model X.prog X.w) X.A (f v u) (EP X pins σ Q) X.xe s
def UnR (X:Cx)(f:Value->Sem Value)(r:V->Hp->VK->Prop):Prop:=
 ∀ (pins:List (Addr×Obj)) (s:Shared) (σ:St) (H:Hp) (x:V) (v:Value) (Q:VK),Inv X pins σ H s->x39 x v->r x H Q->
  wpAny (model X.prog X.w) X.A (f v) (EP X pins σ Q) X.xe s
def y0s (X:Cx)(f:Value)(r:List V->Hp->VK->Prop):Prop:=
 ∀ (pins:List (Addr×Obj)) (s:Shared) (σ:St) (H:Hp) (xs:List V) (us:List Value) (Q:VK),Inv X pins σ H s->x28 xs us->r xs H Q->
  wpAny (model X.prog X.w) X.A (call f us) (EP X pins σ Q) X.xe s
def j87 (X:Cx)(r:V->Hp->(Bool->Hp->Prop)->Prop):Prop:=
 ∀ (pins:List (Addr×Obj)) (s:Shared) (σ:St) (H:Hp) (x:V) (v:Value) (Q:Bool->Hp->Prop),Inv X pins σ H s->x39 x v->r x H Q->
  wpAny (model X.prog X.w) X.A (truthy v) (TP X pins σ Q) X.xe s
def tOp (r:R2)(ta tb:TE):TE:=fun σ H Q=>ta σ H fun x H1=>tb σ H1 fun y H2=>r x y H2 Q
def tUn (r:V->Hp->VK->Prop)(ta:TE):TE:=fun σ H Q=>ta σ H fun x H1=>r x H1 Q
def rI (C:Int->Int->Prop)(g:Int->Int->V):R2:=fun x y H Q=>∃ i j,x=.int i/\y=.int j/\C i j/\Q (g i j) H
def rI0 (g:Int->Int->V):R2:=fun x y H Q=>∃ i j,x=.int i/\y=.int j/\Q (g i j) H
def rU (g:Int->V):V->Hp->VK->Prop:=fun x H Q=>∃ i,x=.int i/\Q (g i) H
section
variable {X:Cx}{a b c:Expr}{ta tb tc:TE}{pos:Pos}
theorem j72(ha:PE X a ta)(hb:PE X b tb){σ:St}{H:Hp}{R:V->V->Hp->Prop}(I:Inv X pins σ H s)
  (h:ta σ H fun x H1=>tb σ H1 fun y H2=>R x y H2) {Q:Value->Shared->Prop} 
  (hf:∀ v u s2 x y H2,Inv X pins σ H2 s2->x39 x v->x39 y u->R x y H2->wpAny (model X.prog X.w) X.A (f v u) Q X.xe s2) :
  wpAny (model X.prog X.w) X.A (eval a X.env) (fun v s₁=>wpAny (model X.prog X.w) X.A (eval b X.env) (fun u s₂=>wpAny (model X.prog X.w) X.A (f v u) Q X.xe s₂) X.xe s₁) X.xe s:=by
 refine thn (ha pins s σ H _ I h) fun v s1 hh0=>?_
 obtain⟨x,H1,I1,r1,q1⟩:=hh0
 refine thn (hb pins s1 σ H1 _ I1 q1) fun u s2 hh0=>?_
 obtain⟨y,H2,I2,r2,q2⟩:=hh0
 exact hf v u s2 x y H2 I2 r1 r2 q2
theorem y49{op:Operator}{r:R2}(ho:OpR X (binaryOp op) r)(ha:PE X a ta)(hb:PE X b tb):PE X (.BinOp a op b pos) (tOp r ta tb):=by
 intro pins s σ H Q I h
 exact wpAny_BinOp (j72 ha hb I h fun v u s2 x y H2 I2 rx ry q=>ho pins s2 σ H2 x y v u Q I2 rx ry q)
theorem j6d{op:UnaryOp}{r:V->Hp->VK->Prop}(ho:UnR X (unaryOp op) r)(ha:PE X a ta):PE X (.UnaryOp op a pos) (tUn r ta):=by
 intro pins s σ H Q I h
 exact UnaryOp_ (thn (ha pins s σ H _ I h) fun v s1 ⟨x,H1,I1,r1,q1⟩=>ho pins s1 σ H1 x v Q I1 r1 q1)
theorem opI{f:Value->Value->Sem Value}{C:Int->Int->Prop}
  (rule:∀ (i j:Int) (t u:Tok) (s:Shared) (Q:Value->Shared->Prop) (E:Value->Shared->Prop),C i j->Q (.int (g i j) s.toks) { s with toks:=s.toks+1 }->wpAny (model X.prog X.w) X.A (f (.int i t) (.int j u)) Q E s) :
  OpR X f (rI C fun i j=>.int (g i j)):=by
 intro pins s σ H x y v u Q I rx ry h
 obtain⟨i,j,rfl,rfl,hc,q⟩:=h
 obtain⟨t,rfl⟩:=rx
 obtain⟨t',rfl⟩:=ry
 exact rule i j t t' s _ _ hc ⟨.int (g i j),H,I.tok _,⟨_,rfl⟩,q⟩
theorem j8k{f:Value->Value->Sem Value}
  (rule:∀ (i j:Int) (t u:Tok) (s:Shared) (Q:Value->Shared->Prop) (E:Value->Shared->Prop),Q (.int (g i j) s.toks) { s with toks:=s.toks+1 }->wpAny (model X.prog X.w) X.A (f (.int i t) (.int j u)) Q E s) :
  OpR X f (rI0 fun i j=>.int (g i j)):=by
 intro pins s σ H x y v u Q I rx ry h
 obtain⟨i,j,rfl,rfl,q⟩:=h
 obtain⟨t,rfl⟩:=rx
 obtain⟨t',rfl⟩:=ry
 exact rule i j t t' s _ _ ⟨.int (g i j),H,I.tok _,⟨_,rfl⟩,q⟩
theorem j6s{g:Int->Int->Bool}
  (rule:∀ (i j:Int) (t u:Tok) (s:Shared) (Q:Value->Shared->Prop) (E:Value->Shared->Prop),Q (.bool (g i j)) s->wpAny (model X.prog X.w) X.A (f (.int i t) (.int j u)) Q E s) :
  OpR X f (rI0 fun i j=>.bl (g i j)):=by
 intro pins s σ H x y v u Q I rx ry h
 obtain⟨i,j,rfl,rfl,q⟩:=h
 obtain⟨t,rfl⟩:=rx
 obtain⟨t',rfl⟩:=ry
 exact rule i j t t' s _ _ ⟨.bl (g i j),H,I,rfl,q⟩
def j8o (i j:Int):Prop:=0<j/\j<1073741824
def j6c (i j:Int):Prop:=(-(2 ^ 64)<i/\i<2 ^ 64)\/(-(2 ^ 64)<j/\j<2 ^ 64)
theorem j6c.ok{i j:Int}(h:j6c i j):IntMulOk i j:=by
 rcases h with⟨h1,h2⟩|⟨h1,h2⟩
 ·exact .of_left (intBits_le_64 h1 h2)
 ·exact .of_right (intBits_le_64 h1 h2)
theorem z7s:OpR X (binaryOp .Add) (rI0 fun i j=>.int (i+j)):=j8k fun _ _ _ _ _ _ _ q=>add_int q
theorem j4u:OpR X (binaryOp .Mult) (rI j6c fun i j=>.int (i*j)):=opI fun _ _ _ _ _ _ _ hc q=>mul_int q hc.ok
theorem z9c:OpR X (binaryOp .FloorDiv) (rI j8o fun i j=>.int (i / j)):=opI fun i j _ _ _ _ _ hc q=>by
 have h1:(0:Int)<j:=hc.1
 have h2:j<1073741824:=hc.2
 exact floordiv_int (by omega) (by rw[Int.fdiv_eq_ediv_of_nonneg i (by omega)];exact q) (.inl (PyProof.noPylong_small (by omega)))
theorem j55:OpR X (binaryOp .Mod) (rI (fun _ j=>0<j) fun i j=>.int (i % j)):=opI fun i j _ _ _ _ _ hc q=>by
 have h1:(0:Int)<j:=hc
 exact mod_int' (by omega) (by rw[Int.fmod_eq_emod_of_nonneg i (by omega)];exact q)
theorem unI{f:Value->Sem Value}{g:Int->Int}
  (rule:∀ (i:Int) (t:Tok) (s:Shared) (Q:Value->Shared->Prop) (E:Value->Shared->Prop),Q (.int (g i) s.toks) { s with toks:=s.toks+1 }->wpAny (model X.prog X.w) X.A (f (.int i t)) Q E s) :
  UnR X f (rU fun i=>.int (g i)):=by
 intro pins s σ H x v Q I rx h
 obtain⟨i,rfl,q⟩:=h
 obtain⟨t,rfl⟩:=rx
 exact rule i t s _ _ ⟨.int (g i),H,I.tok _,⟨_,rfl⟩,q⟩
theorem j33:UnR X (unaryOp .USub) (rU fun i=>.int (-i)):=unI fun _ _ _ _ _ q=>neg_int q
theorem j3p{σ:St}{H:Hp}{Q:VK}{k k':Bool}(I:Inv X pins σ H s)(q:Q (.bl k) H)(e:k=k'):EP X pins σ Q (.bool k') s:=by
 subst e
 exact⟨.bl k,H,I,rfl,q⟩
theorem j40:OpR X (compareOp .Lt) (rI0 fun i j=>.bl (decide (i<j))):=j6s fun _ _ _ _ _ _ _ q=>lt_int q
theorem j73:OpR X (compareOp .LtE) (rI0 fun i j=>.bl (decide (i<=j))):=j6s fun _ _ _ _ _ _ _ q=>le_int q
theorem j6z:OpR X (compareOp .Gt) (rI0 fun i j=>.bl (decide (j<i))):=j6s fun _ _ _ _ _ _ _ q=>gt_int q
theorem z7n:OpR X (compareOp .Is) (fun x y H Q=>y=.non/\Q (.bl (decide (x=.non))) H):=by
 intro pins s σ H x y v u Q I rx ry h
 obtain⟨rfl,q⟩:=h
 cases ry
 refine is_none_gen (j3p I q ?_)
 cases x<;>first
  | (cases rx;rfl)
  | (obtain⟨t,rfl⟩:=rx;rfl)
theorem OpR.or{r r':R2}(h:OpR X f r)(h':OpR X f r'):OpR X f (fun x y H Q=>r x y H Q\/r' x y H Q):=by
 intro pins s σ H x y v u Q I rx ry q
 rcases q with q|q
 ·exact h pins s σ H x y v u Q I rx ry q
 ·exact h' pins s σ H x y v u Q I rx ry q
theorem y09(b:Expr)(h:op ≠ .In:=by decide)(h2:op ≠ .NotIn:=by decide):behindInMarks op b=false:=by
 have e1:(op==CmpOp.In)=false:=by cases op<;>first|rfl|exact absurd rfl h
 have e2:(op==CmpOp.NotIn)=false:=by cases op<;>first|rfl|exact absurd rfl h2
 cases b<;>simp[behindInMarks,e1,e2]
theorem j0f{r:R2}(ho:OpR X (compareOp op) r)(ha:PE X a ta)(hb:PE X b tb)(hm:behindInMarks op b=false):PE X (.Compare a [op] [b] pos) (tOp r ta tb):=by
 intro pins s σ H Q I h
 exact wpAny_Compare1 (j72 ha hb I h fun v u s2 x y H2 I2 rx ry q=>ho pins s2 σ H2 x y v u Q I2 rx ry q) hm
def j45 (t:TE):TT:=fun σ H Q=>t σ H fun x H'=>∃ k,x=.bl k/\Q k H'
theorem z8x{r:R2}(ho:OpR X (compareOp op) r)(ha:PE X a ta)(hb:PE X b tb)(hm:behindInMarks op b=false):PT X (.Compare a [op] [b] pos) (j45 (tOp r ta tb)):=by
 intro pins s σ H Q I h
 refine wpAny_isTrue_Compare1 (thn (ha pins s σ H _ I h) fun v s1 ⟨x,H1,I1,r1,q1⟩=>thn (hb pins s1 σ H1 _ I1 q1) fun u s2 ⟨y,H2,I2,r2,q2⟩=>
  thn (ho pins s2 σ H2 x y v u _ I2 r1 r2 q2) fun c s3 ⟨z,H3,I3,r3,k,e,q3⟩=>?_) hm
 subst e
 cases r3
 exact wpAny_truthy_bool ⟨H3,I3,q3⟩
def j4o (r r':R2)(ta tb tc:TE):TE:=fun σ H Q=>ta σ H fun x H1=>tb σ H1 fun y H2=>r x y H2 fun z H3=>∃ k,z=.bl k /\
 (if k=true then tc σ H3 fun w' H4=>r' y w' H4 Q else Q (.bl false) H3)
theorem z5h{op':CmpOp}{r r':R2}(ho:OpR X (compareOp op) r)(ho':OpR X (compareOp op') r')(ha:PE X a ta)(hb:PE X b tb)(hc:PE X c tc)
  (hm:lastMarks [op,op'] [b,c]=false:=by with_unfolding_all rfl):PE X (.Compare a [op,op'] [b,c] pos) (j4o r r' ta tb tc):=by
 intro pins s σ H Q I h
 refine Compare_chain (thn (ha pins s σ H _ I h) fun v s1 ⟨x,H1,I1,r1,q1⟩=>chain_link (thn (hb pins s1 σ H1 _ I1 q1) fun u s2 ⟨y,H2,I2,r2,q2⟩=>
  thn (ho pins s2 σ H2 x y v u _ I2 r1 r2 q2) fun d s3 ⟨z,H3,I3,r3,k,e,q3⟩=>?_)) hm
 subst e
 cases r3
 refine wpAny_truthy_bool ?_
 cases k with
 | false=>exact ite_ff ⟨.bl false,H3,I3,rfl,q3⟩
 | true=>exact ite_tt (chain_last (thn (hc pins s3 σ H3 _ I3 q3) fun w' s4 ⟨z',H4,I4,r4,q4⟩=>ho' pins s4 σ H4 y z' u w' Q I4 r2 r4 q4))
def j7s (K:PySem.W.Frag)(x:V)(H:Hp)(k:Bool):Prop:=
 match x with
 | .non=>k=false
 | .bl b=>k=b
 | .int i=>k=(i != 0)
 | .str y=>y.length<=sizeLine/\k=((y.length:Int) != 0)
 | .byt y=>y.size<=sizeLine/\k=((y.size:Int) != 0)
 | .ref p=>(∃ xs,SqL K H p xs/\k = !xs.isEmpty)\/(∃ xs,SqT K H p xs/\k = !xs.isEmpty)\/∃ kvs,H p=some (.dK kvs)/\k = !kvs.isEmpty
 | _=>False
theorem z0r{κ:Type}{kvs:List (κ×V)}{vs:List (κ×Value)}(r:KV kvs vs):(!vs.isEmpty) = !kvs.isEmpty:=by
 cases r<;>rfl
theorem y32{xs:List V}{its:List Value}(r:x28 xs its):(!its.toArray.isEmpty) = !xs.isEmpty:=by
 cases r<;>simp
theorem y3e:(sizeLine:Nat)<2 ^ 63:=by rw[sizeLine_eq];decide
theorem j4n:j87 X (fun x H Q=>∃ k,j7s X.K x H k/\Q k H):=by
 intro pins s σ H x v Q I rx h
 obtain⟨k,e,q⟩:=h
 have hl:=y3e
 have hs:sizeLine=16777216:=sizeLine_eq
 cases x with
 | non=>
  cases rx
  have e':k=false:=e
  subst e'
  exact truthy_none ⟨H,I,q⟩
 | bl b=>
  cases rx
  have e':k=b:=e
  subst e'
  exact wpAny_truthy_bool ⟨H,I,q⟩
 | int i=>
  obtain⟨t,rfl⟩:=rx
  have e':k=(i != 0):=e
  subst e'
  exact PySem.P.truthy_int ⟨H,I,q⟩
 | str y=>
  obtain⟨t,rfl⟩:=rx
  obtain⟨hy,e'⟩:y.length<=sizeLine/\k=((y.length:Int) != 0):=e
  subst e'
  exact PySem.P.truthy_str (by omega) ⟨H,I.tok _,q⟩
 | byt y=>
  obtain⟨t,rfl⟩:=rx
  obtain⟨hy,e'⟩:y.size<=sizeLine/\k=((y.size:Int) != 0):=e
  subst e'
  exact PySem.W.truthy_bytes (by omega) ⟨H,I.tok _,q⟩
 | ref p=>
  cases rx
  have e':(∃ xs,SqL X.K H p xs/\k = !xs.isEmpty)\/(∃ xs,SqT X.K H p xs/\k = !xs.isEmpty)\/∃ kvs,H p=some (.dK kvs)/\k = !kvs.isEmpty:=e
  rcases e' with⟨xs,hx,e'⟩|⟨xs,hx,e'⟩|⟨kvs,hx,e'⟩
  ·subst e'
   obtain⟨its,r,pl,hz⟩:=I.list hx
   have hlen:=r.length
   exact wpAny_truthy_list pl.isList (by simp only[List.size_toArray];omega) ⟨H,I.tok _,by rw[y32 r];exact q⟩
  ·subst e'
   obtain⟨its,r,pl,hz⟩:=I.tuple hx
   have hlen:=r.length
   exact truthy_tuple pl (by simp only[List.size_toArray];omega) ⟨H,I.tok _,by rw[y32 r];exact q⟩
  ·subst e'
   obtain⟨hz,hS,vs,r,m⟩:kvs.length<=sizeLine/\(p==sysModules)=false/\∃ vs,KV kvs vs/\s.heap.DictOf (x2z X.prog X.w) p vs:=I.hok p _ hx
   have hlen:kvs.length=vs.length:=Paired.length r
   exact wpAny_truthy_dict hS m (by omega) ⟨H,I.tok _,by rw[z0r r];exact q⟩
 | _=>exact(show False from e).elim
theorem z5v(ha:PE X a ta)(he:∀ whole,isTrue a X.env whole=(do let v <- whole;standAt a.pos;holding [v] (truthy v))) :
  PT X a (fun σ H Q=>ta σ H fun x H'=>∃ k,j7s X.K x H' k/\Q k H'):=by
 intro pins s σ H Q I h
 exact isTrue_plain (thn (ha pins s σ H _ I h) fun v s1 ⟨x,H1,I1,r1,q1⟩=>j4n pins s1 σ H1 x v Q I1 r1 q1) (he _)
theorem x9r{x:V}(r:x28 [x] us):∃ u,us=[u]/\x39 x u:=by
 cases r with
 | cons r1 r2=>cases r2;exact⟨_,rfl,r1⟩
theorem z4p{x y:V}(r:x28 [x,y] us):∃ u w',us=[u,w']/\x39 x u/\x39 y w':=by
 cases r with
 | cons r1 r2=>
  cases r2 with
  | cons r3 r4=>cases r4;exact⟨_,_,rfl,r1,r3⟩
theorem z3y(hc:X.calm=true):y0s X (.builtin "max") (fun xs H Q=>∃ i j,xs=[.int i,.int j]/\Q (.int (if j > i then j else i)) H):=by
 intro pins s σ H xs us Q I r h
 obtain⟨i,j,rfl,q⟩:=h
 obtain⟨u,w',rfl,⟨t,rfl⟩,⟨t',rfl⟩⟩:=z4p r
 refine max_two_ints (I.ok.hd hc) fun h' tk k=>⟨_,H,I.kept k,?_,q⟩
 by_cases hj:j > i
 ·rw[if_pos hj,if_pos hj];exact⟨_,rfl⟩
 ·rw[if_neg hj,if_neg hj];exact⟨_,rfl⟩
end
structure ObjM (h:Heap) (x dx C:Addr) (mA:Str->Option Value):Prop where
 obj:h.get? x=some (PySem.W.instObj C dx)
 ns:h.Ns1 dx mA
 ne:dx≠x
theorem z3s(n:h.Ns1 dx mA):∃ od,h.get? dx=some od/\∀ name,PySem.W.lookIn name od=some (mA name):=by
 obtain⟨o,es,ep,ho,hd,hk,_,hm⟩:=n
 refine⟨o,ho,fun name=>?_⟩
 have e:=hm name
 unfold nsFind findBy at e
 rw[<- Array.find?_toList]at e
 unfold PySem.W.lookIn
 rw[hd]
 dsimp only
 split
 ·rename_i y q
  rw[q]at e
  exact congrArg some e
 ·rename_i q
  rw[q]at e
  have a:es.toList.any (·.refKey)=false:=by
   rw[List.any_eq_false]
   intro y hy
   obtain⟨z,t,hkey⟩:=hk y (Array.mem_toList_iff.mp hy)
   simp[DictEntry.refKey,hkey]
  have a':¬ es.toList.any (·.refKey)=true:=by rw[a];exact Bool.false_ne_true
  rw[if_neg a']
  exact congrArg some e
theorem ObjM.look{x:Addr}(I:ObjM h x dx C mA):∃ od,PySem.W.InstAt h x (PySem.W.instObj C dx) C (some od)/\∀ name,PySem.W.lookIn name od=some (mA name):=
 let ⟨od,ho,hl⟩:=z3s I.ns
 ⟨od,⟨I.obj,rfl,rfl,ho⟩,hl⟩
theorem z0f.some_of{v:V}{o:Option Value}(r:z0f (some v) o):∃ u,o=some u/\x39 v u:=by
 cases o with
 | none=>exact(show False from r).elim
 | some u=>exact⟨u,rfl,r⟩
section
variable {P:Program}{w:World}{H H':Hp}{h h':Heap}{a C dx:Addr}{fs fs':List (Str×V)}
theorem j1e(hok:HOk P w H h)(e:H a=some (.ins C dx fs)):∃ mA,ObjM h a dx C mA/\(∀ f,z0f (fs.lookup f) (mA f))/\PySem.Within mA (fs.map (·.1))/\fs.length<=1000/\H dx=some (.own a):=by
 obtain⟨d,z,ne,ob,mA,n,r,q⟩:=(show x29 P w H h a (.ins C dx fs)from hok a _ e)
 exact⟨mA,⟨ob,n,ne⟩,r,q,z,d⟩
end
structure Cls (K:PySem.W.Frag) (C:Addr):Prop where
 pg:PySem.W.plainGet K C Str.empty=true
 hd:PySem.W.hasDictIn K C=true
 po:PySem.W.plainOver K C=true
 sa:PySem.W.findIn K (.ref C) "__setattr__" = some (some (.builtin "object.__setattr__"))
theorem Cls.get(c:Cls K C)(f:Str):PySem.W.plainGet K C f=true:=c.pg
section
variable {X:Cx}{pins:List (Addr×Obj)}{σ:St}{H:Hp}{s:Shared}{A:Around}{E:Value->Shared->Prop}{Q:Value->Shared->Prop}{c:Value}{b:Bool}
inductive TyOf (K:PySem.W.Frag) (H:Hp):V->Value->Prop where
 | non:TyOf K H .non (.type "NoneType")
 | bl (x:Bool):TyOf K H (.bl x) (.type "bool")
 | int (i:Int):TyOf K H (.int i) (.type "int")
 | str (x:Str):TyOf K H (.str x) (.type "str")
 | flt (x:UInt64):TyOf K H (.flt x) (.type "float")
 | lst {a:Addr} {xs:List V} (e:H a=some (.lst xs)):TyOf K H (.ref a) (.type "list")
 | frz {a:Addr} {o:Obj} {xs:List V} (e:H a=some (.frz o (.lst xs))):TyOf K H (.ref a) (.type "list")
 | tup {a:Addr} {xs:List V} (e:H a=some (.tup xs)):TyOf K H (.ref a) (.type "tuple")
 | dK {a:Addr} {kvs:List (Key×V)} (e:H a=some (.dK kvs)):TyOf K H (.ref a) (.type "dict")
 | dT {a:Addr} {kvs:List (List Key×V)} (e:H a=some (.dT kvs)):TyOf K H (.ref a) (.type "dict")
 | ins {a C dx:Addr} {fs:List (Str×V)} (e:H a=some (.ins C dx fs)) (cl:Cls K C) (ha:PySem.W.findIn K (.ref C) "__class__" = some (some (.builtin "object.__class__")))
   (hn:PySem.W.specialIn K (.builtin "object.__class__") "__get__" = some (some (.builtin "getset_descriptor.__get__"))) (htk:PySem.W.takesIn K (.builtin "object.__class__")=some true)
   (hm:PySem.W.mroIn K C (.type "object")=some true):TyOf K H (.ref a) (.ref C)
theorem x3w{x:V}{t:Value}(I:Inv X pins σ H s)(rx:x39 x u)(ty:TyOf X.K H x t)(e:PySem.W.kitOne X.K t c=some b)(h:∀ tk,Q (.bool b) { s with toks:=tk }) :
  wpAny (model X.prog X.w) A (call (.builtin "isinstance") [u,c]) Q E s:=by
 cases ty with
 | non=>cases (show u=Value.none from rx);exact PySem.W.kia_one PySem.W.kitx_none I.kIn True.intro e (fun z=>nomatch z) h
 | bl y=>cases (show u=Value.bool y from rx);exact PySem.W.kia_one PySem.W.kitx_bool I.kIn True.intro e (fun z=>nomatch z) h
 | int i=>obtain⟨t,q⟩:=(show ∃ t,u=Value.int i t from rx);cases q;exact PySem.W.kia_one PySem.W.kitx_int I.kIn True.intro e (fun z=>nomatch z) h
 | str y=>obtain⟨t,q⟩:=(show ∃ t,u=Value.str y t from rx);cases q;exact PySem.W.kia_one PySem.W.kitx_str I.kIn True.intro e (fun z=>nomatch z) h
 | flt y=>obtain⟨t,q⟩:=(show ∃ t,u=Value.float y t from rx);cases q;exact PySem.W.kia_one PySem.W.kitx_float I.kIn True.intro e (fun z=>nomatch z) h
 | @lst a xs ea=>
  cases (show u=Value.ref a from rx)
  obtain⟨_,_,n,_,h1⟩:=(show x29 X.prog X.w H s.heap a (.lst xs)from I.hok a _ ea)
  exact PySem.W.kia_one PySem.W.kitx_list I.kIn ⟨_,h1,rfl⟩ e (fun z=>nomatch z) h
 | @frz a ob xs ea=>
  cases (show u=Value.ref a from rx)
  obtain⟨_,_,_,n,_,h1⟩:=(show x29 X.prog X.w H s.heap a (.frz ob (.lst xs))from I.hok a _ ea)
  exact PySem.W.kia_one PySem.W.kitx_list I.kIn ⟨_,h1,rfl⟩ e (fun z=>nomatch z) h
 | @tup a xs ea=>
  cases (show u=Value.ref a from rx)
  obtain⟨_,_,_,p⟩:=(show x29 X.prog X.w H s.heap a (.tup xs)from I.hok a _ ea)
  obtain⟨o,h1,h2,_⟩:=p
  exact PySem.W.kia_one PySem.W.kitx_tuple I.kIn ⟨o,h1,h2⟩ e (fun z=>nomatch z) h
 | @dK a kvs ea=>
  cases (show u=Value.ref a from rx)
  obtain⟨_,_,vs,_,p⟩:=(show x29 X.prog X.w H s.heap a (.dK kvs)from I.hok a _ ea)
  obtain⟨o,es,ep,h1,h2,_⟩:=p
  exact PySem.W.kia_one PySem.W.kitx_dict I.kIn ⟨o,h1,h2.1⟩ e (fun z=>nomatch z) h
 | @dT a kvs ea=>
  cases (show u=Value.ref a from rx)
  obtain⟨_,_,xs,_,o,es,ep,h1,h2,_⟩:=(show x29 X.prog X.w H s.heap a (.dT kvs)from I.hok a _ ea)
  exact PySem.W.kia_one PySem.W.kitx_dict I.kIn ⟨o,h1,h2.1⟩ e (fun z=>nomatch z) h
 | @ins a C dx fs ea cl ha hn htk hm=>
  cases (show u=Value.ref a from rx)
  obtain⟨mA,O,_⟩:=j1e I.hok ea
  obtain⟨od,J,_⟩:=O.look
  exact PySem.W.kia_one (PySem.W.kitx_own (cl.get _) cl.hd ha hn htk hm) I.kIn J e (fun z=>nomatch z) h
end
structure Room (k:Nat) (A:Around):Prop where
 hd:A.handled=none
 dp:A.depth+3*k+5<recursionLimit
 un:A.units+16*k+200<cLine
theorem Room.mono{k:Nat}(r:Room k A)(h:j<=k):Room j A:=⟨r.hd,by have:=r.dp;omega,by have:=r.un;omega⟩
theorem Room.deeper{k:Nat}(r:Room (k+1) A)(env:Env):Room k (A.deeper env):=
 ⟨r.hd,by have:=r.dp;show A.depth+1+3*k+5<_;omega,by have:=r.un;show A.units+3+16*k+200<_;omega⟩
theorem Room.in1{k:Nat}(r:Room (k+1) A):Room k A.in1:=
 ⟨r.hd,by have:=r.dp;show A.depth+3*k+5<_;omega,by have:=r.un;show A.units+1+16*k+200<_;omega⟩
theorem Room.depth{k:Nat}(r:Room k A):A.depth<recursionLimit:=by have:=r.dp;omega
theorem Room.units{k:Nat}(r:Room k A):A.units+64<cLine:=by have:=r.un;omega
def z7f:TA:=fun _ H Q=>Q [] H
def y7e (ta:TE)(tr:TA):TA:=fun σ H Q=>ta σ H fun x H1=>tr σ H1 fun xs H2=>Q (x::xs) H2
section
variable {X:Cx}{e:Expr}{es:List Expr}{te:TE}{t:TA}{pos:Pos}
theorem x6h:PA X [] z7f:=fun _ _ _ _ H Q I h=>Calls.spliced_nil ⟨[],H,I,.nil,h⟩
theorem x3i(ha:PE X e te)(hr:PA X es t)(hs:starEach (e::es) X.env=(false,eval e X.env)::starEach es X.env:=by rfl):PA X (e::es) (y7e te t):=by
 intro pos pins s σ H Q I h
 rw[hs]
 show wpAny _ _ (spliced ((false,eval e X.env)::backTo pos (starEach es X.env))) _ _ s
 refine Calls.spliced_cons (thn (ha pins s σ H _ I h) fun u s1 hh0=>?_)
 obtain⟨x,H1,I1,r1,q1⟩:=hh0
 exact thn (hr pos pins s1 σ H1 _ I1 q1) fun us s2 ⟨xs,H2,I2,r2,q2⟩=>⟨x::xs,H2,I2,.cons r1 r2,q2⟩
def j8i (t:TA):TE:=fun σ H Q=>t σ H fun xs H1=>xs.length<=sizeLine/\∀ p,H1 p=none->Q (.ref p) (upd H1 p (.tup xs))
def j8s (t:TA):TE:=fun σ H Q=>t σ H fun xs H1=>xs.length<=sizeLine/\∀ p,H1 p=none->Q (.ref p) (upd H1 p (.lst xs))
theorem j2b{x1}(h:PA X es t):PE X (.Tuple es x1 pos) (j8i t):=by
 intro pins s σ H Q I hq
 refine wpAny_Tuple_spliced (thn (h pos pins s σ H _ I hq) fun us s1 ⟨xs,H1,I1,r,z,q⟩=>⟨by rw[<- r.length];exact z,?_⟩)
 have hf:H1 s1.heap.objs.size=none:=I1.hok.fresh (Nat.le_refl _)
 refine⟨.ref s1.heap.objs.size,upd H1 s1.heap.objs.size (.tup xs),I1.laid (t':=s1.toks) (fun b u e=>Heap.get?_push_of_some _ e) (Nat.le_refl _) ?_,rfl,q _ hf⟩
 exact⟨z,us,r,⟨_,Heap.get?_push_size _ rfl,rfl,⟨_,rfl⟩,rfl⟩⟩
theorem j5g(h:PA X es t):PE X (.List es pos) (j8s t):=by
 intro pins s σ H Q I hq
 refine wpAny_List_spliced (thn (h pos pins s σ H _ I hq) fun us s1 ⟨xs,H1,I1,r,z,q⟩=>⟨by rw[<- r.length];exact z,?_⟩)
 have hf:H1 s1.heap.objs.size=none:=I1.hok.fresh (Nat.le_refl _)
 refine⟨.ref s1.heap.objs.size,upd H1 s1.heap.objs.size (.lst xs),I1.laid (t':=s1.toks) (fun b u e=>Heap.get?_push_of_some _ e) (Nat.le_refl _) ?_,rfl,q _ hf⟩
 exact⟨z,us,0,r,Heap.get?_push_size _ rfl⟩
end
abbrev Sp:=List V->Hp->VK->XK->Prop
abbrev CXT:=List Env->Hp->Shared->XK->Value->Shared->Prop
structure Env0 (P:Program) (w:World) (K:PySem.W.Frag) (mg:Str->Option Value) (base:Heap) (A:Around) (outer:List Env) (s:Shared) (H:Hp):Prop where
 frames:A.frames=some outer
 mod:Mod K mg base
 bs:∀ b o,base.get? b=some o->s.heap.get? b=some o/\H b=none
 bsz:base.objs.size<=s.heap.objs.size
 funs:s.heap.FunFrames base outer
 frf:∀ b∈frs outer,H b=none
 hok:HOk P w H s.heap
 bare:AllBare s.gens
def CE (outer:List Env)(P:Program)(w:World)(H:Hp)(s:Shared)(Q:VK)(u:Value)(s':Shared):Prop:=
 ∃ v H',s'.os=s.os/\AllBare s'.gens/\Un (frs outer) [] H H' s.heap s'.heap/\HOk P w H' s'.heap/\x39 v u/\Q v H'
def CR (CX:CXT)(outer:List Env)(P:Program)(w:World)(H:Hp)(s:Shared)(Q:VK)(E:XK)(r:Result)(s':Shared):Prop:=
 match r with
 | .ok (.ret u)=>CE outer P w H s Q u s'
 | .ok _=>False
 | .error e=>CX outer H s E e s'
structure FnOk (P:Program) (w:World) (K:PySem.W.Frag) (mg:Str->Option Value) (base:Heap) (CX:CXT) (k:Nat) (f:Addr) (fd:FuncData) (ps:List Str) (sp:Sp):Prop where
 len:∀ vs H Q E,sp vs H Q E->vs.length=ps.length
 run:∀ (A:Around) (outer:List Env) (s:Shared) (H:Hp) (args:Args) (us:List Value) (vs:List V) (Q:VK) (E:XK),Room k A->Env0 P w K mg base A outer s H->BindsTo s fd args (ps.zip us)->x28 vs us->sp vs H Q E->
  codeAny (model P w) A (.call (.ref f) args) (CR CX outer P w H s Q E) s
section
variable {X:Cx}{pins:List (Addr×Obj)}{σ:St}{H:Hp}{s s':Shared}
theorem Inv.env0(I:Inv X pins σ H s):Env0 X.prog X.w X.K X.mg X.base X.A X.stack s H:=
 ⟨I.ok.frames,I.ok.mod,I.bs,Nat.le_trans I.ok.bsz I.sz,I.stack,I.stkFree,I.hok,I.bare⟩
theorem Inv.after{Q:VK}(I:Inv X pins σ H s)(h:CE X.stack X.prog X.w H s Q u s'):EP X pins σ Q u s':=by
 obtain⟨v,H',os,bare,un,hok,r,q⟩:=h
 obtain⟨hh,g,d,t,os'⟩:=s'
 obtain rfl:os'=s.os:=os
 exact⟨v,H',I.call (h':=hh) (g':=g) (d':=d) (t':=t) (ch:=[]) un hok bare (fun b z=>absurd z (by simp)),r,q⟩
end
def j6i (sp:Sp)(dvs:List V)(E:XK)(t:TA):TE:=fun σ H Q=>t σ H fun vs H1=>sp (vs++dvs) H1 Q E
def y4b (K:PySem.W.Frag)(fd:FuncData)(ps:List Str)(ds:List Value):Prop:=
 ∀ (s:Shared) (us:List Value),K.In s.heap->(us++ds).length=ps.length->BindsTo s fd ⟨us,[]⟩ (ps.zip (us++ds))
theorem y4b.all{fd:FuncData}(h:∀ us:List Value,us.length=ps.length->bindArgs fd ⟨us,[]⟩=pure (ps.zip us)):y4b K fd ps []:=fun s us _ hl=>by
 rw[List.append_nil]at hl ⊢
 exact .of_eq (h us hl)
def y8n (CX:CXT)(X:Cx)(E:XK):Prop:=∀ (pins:List (Addr×Obj)) (σ:St) (H:Hp) (s:Shared) (e:Value) (s':Shared),Inv X pins σ H s->CX X.stack H s E e s'->X.xe e s'
section
variable {X:Cx}{CX:CXT}{k:Nat}{f C:Addr}{fd:FuncData}{ps:List Str}{sp:Sp}{dvs:List V}{ds:List Value}{E:XK}{x m:Str}{p pos apos:Pos}{e o:Expr}{es:List Expr}{ta:TE}{t:TA}
theorem j4b{σ:St}{H:Hp}{Q:VK}{vs:List V}(F:FnOk X.prog X.w X.K X.mg X.base CX k f fd ps sp)(hr:Room k X.A)(hb:y4b X.K fd ps ds)(hd:x28 dvs ds)(hx:y8n CX X E)
  (I:Inv X pins σ H s) (r:x28 vs us) (h:sp (vs++dvs) H Q E):wpAny (model X.prog X.w) X.A (call (.ref f) us) (EP X pins σ Q) X.xe s:=by
 have r2:x28 (vs++dvs) (us++ds):=r.append hd
 have hl:(us++ds).length=ps.length:=by rw[<- r2.length];exact F.len _ _ _ _ h
 refine wpAny_call (codeAny_mono (F.run X.A X.stack s H ⟨us,[]⟩ (us++ds) (vs++dvs) Q E hr I.env0 (hb s us I.kIn hl) r2 h) fun r s' hq=>?_)
 cases r with
 | error e=>exact hx pins σ H s e s' I hq
 | ok fl=>
  cases fl with
  | ret u=>exact I.after hq
  | next=>exact False.elim hq
  | brk=>exact False.elim hq
  | cont=>exact False.elim hq
theorem z3l(F:FnOk X.prog X.w X.K X.mg X.base CX k f fd ps sp)(hr:Room k X.A)(hg:Gl X x)(hm:X.mg x=some (.ref f))(hk:PySem.W.keepIn X.K (.ref f)=true)(hb:y4b X.K fd ps ds)(hd:x28 dvs ds)(hx:y8n CX X E)
  (ha:PA X (e::es) t) (hdb:(x==("__debug__":Str))=false:=by decide) (he:starEach (e::es) X.env=(false,eval e X.env)::starEach es X.env:=by rfl) (hpl:(backTo pos (starEach es X.env)).any (·.1)=false:=by rfl) :
  PE X (.Call (.Name x p) (e::es) [] pos) (j6i sp dvs E t):=by
 intro pins s σ H Q I h
 refine wpAny_Call_Name_kw (y1u I hg hm ?_ hdb)
 refine PySem.W.callWith_K (h₀:=X.base) I.ok.mod.kin hk (thn (ha pos pins s σ H _ I h) fun us s1 ⟨vs,H1,I1,r,q⟩=>⟨I1.kIn,?_⟩) he hpl
 exact j4b F hr hb hd hx I1 r q
end
def PK (X:Cx)(kws:List Keyword)(t:TA):Prop:=
 ∀ (pos:Pos) (pins:List (Addr×Obj)) (s:Shared) (σ:St) (H:Hp) (Q:List V->Hp->Prop),Inv X pins σ H s->t σ H Q->wpAny (model X.prog X.w) X.A (evalAll ((backToKw pos (keywordEach kws X.env)).map (·.2))) (AP X pins σ Q) X.xe s
section
variable {X:Cx}{CX:CXT}{k:Nat}{f C:Addr}{fd:FuncData}{ps ks:List Str}{sp:Sp}{E:XK}{x m:Str}{p pos apos kpos:Pos}{e o:Expr}{es:List Expr}{kws:List Keyword}{te ta:TE}{t tk:TA}{nm:Option Str}
theorem z7v:PK X [] z7f:=fun _ _ _ _ H Q I h=>wpAny_evalAll_nil ⟨[],H,I,.nil,h⟩
theorem z34(ha:PE X e te)(hr:PK X kws t):PK X (⟨nm,e,kpos⟩::kws) (y7e te t):=by
 intro pos pins s σ H Q I h
 show wpAny _ _ (evalAll ((do let v <- eval e X.env;standAt pos;pure v)::(backToKw pos (keywordEach kws X.env)).map (·.2))) _ _ s
 refine wpAny_evalAll_cons (wpAny_bind (thn (ha pins s σ H _ I h) fun u s1 ⟨x,H1,I1,r1,q1⟩=>wpAny_bind (wpAny_standAt (wpAny_pure ?_))))
 exact thn (hr pos pins s1 σ H1 _ I1 q1) fun us s2 ⟨xs,H2,I2,r2,q2⟩=>⟨x::xs,H2,I2,.cons r1 r2,q2⟩
variable {g:List Value->List Value->List Value}{gV:List V->List V->List V}
end
structure FnScope (N P:List Str) (sc:Scope):Prop where
 kind:sc.kind=.function
 co:sc.isCoroutine=false
 gen:sc.isGenerator=false
 nd:N.Nodup
 pre:N.take P.length=P
 par:∀ x∈P,sc.names.lookup x=some .local\/sc.names.lookup x=some .cell
 nofree:∀ y∈sc.names,y.2 ≠ .free
theorem fsq{N P:List Str}(a:sc.kind=.function:=by rfl)(b:sc.isCoroutine=false:=by rfl)(c:sc.isGenerator=false:=by rfl)(d:N.Nodup:=by decide +kernel)(e:N.take P.length=P:=by rfl)(f:∀ x∈P,sc.names.lookup x=some .local\/sc.names.lookup x=some .cell:=by decide +kernel)(g:∀ y∈sc.names,y.2 ≠ .free:=by decide +kernel):FnScope N P sc:=⟨a,b,c,d,e,f,g⟩
theorem y6j:∀ {binds:List (Str×Value)} {m:Str->Option Value},(∀ v,(x,v) ∉ binds)->bindL kindOf binds m x=m x
 | [],_,_=>rfl
 | (n,v)::r,m,h=>by
  unfold bindL
  rw[y6j fun w hw=>h w (List.mem_cons_of_mem _ hw)]
  split
  ·have:x≠n:=by rintro rfl;exact h v List.mem_cons_self
   simp[this]
  ·rfl
theorem y5a:∀ {binds:List (Str×Value)} {m:Str->Option Value},(∀ v,(x,v) ∉ binds)->bindC kindOf binds m x=m x
 | [],_,_=>rfl
 | (n,v)::r,m,h=>by
  unfold bindC
  rw[y5a fun w hw=>h w (List.mem_cons_of_mem _ hw)]
  split
  ·rfl
  ·have:x≠n:=by rintro rfl;exact h v List.mem_cons_self
   simp[this]
theorem y5l:∀ {P:List Str} {vs:List Value} {i:Nat} {m:Str->Option Value},P.Nodup->P[i]? = some x->vs[i]? = some v->kindOf x=some .local->
  bindL kindOf (P.zip vs) m x=some v
 | [],_,_,_,_,h,_,_=>by simp at h
 | _::_,[],_,_,_,_,h,_=>by simp at h
 | p::P,w::vs,0,m,nd,h1,h2,hk=>by
  simp at h1 h2;subst h1;subst h2
  show bindL kindOf ((p,w)::P.zip vs) m p=_
  unfold bindL
  rw[y6j fun v hv=>(List.nodup_cons.mp nd).1 (List.of_mem_zip hv).1,if_pos hk]
  simp
 | p::P,w::vs,i+1,m,nd,h1,h2,hk=>by
  show bindL kindOf ((p,w)::P.zip vs) m x=_
  unfold bindL
  exact y5l (i:=i) (List.nodup_cons.mp nd).2 (by simpa using h1) (by simpa using h2) hk
theorem y61:∀ {P:List Str} {vs:List Value} {i:Nat} {m:Str->Option Value},P.Nodup->P[i]? = some x->vs[i]? = some v->kindOf x≠some .local->
  bindC kindOf (P.zip vs) m x=some v
 | [],_,_,_,_,h,_,_=>by simp at h
 | _::_,[],_,_,_,_,h,_=>by simp at h
 | p::P,w::vs,0,m,nd,h1,h2,hk=>by
  simp at h1 h2;subst h1;subst h2
  show bindC kindOf ((p,w)::P.zip vs) m p=_
  unfold bindC
  rw[y5a fun v hv=>(List.nodup_cons.mp nd).1 (List.of_mem_zip hv).1,if_neg hk]
  simp
 | p::P,w::vs,i+1,m,nd,h1,h2,hk=>by
  show bindC kindOf ((p,w)::P.zip vs) m x=_
  unfold bindC
  exact y61 (i:=i) (List.nodup_cons.mp nd).2 (by simpa using h1) (by simpa using h2) hk
def start (N:List Str)(vs:List V):St:=vs.map some++List.replicate (N.length-vs.length) none
def z0k (CX:CXT)(P:Program)(w:World)(K:PySem.W.Frag)(mg:Str->Option Value)(base:Heap)(N:List Str)(qual:Str)(scope:Scope)(f:Addr)(cd:Value)(A:Around)(outer:List Env)(s:Shared)(H:Hp)(E:XK):Cx where
 prog:=P
 w:=w
 K:=K
 mg:=mg
 base:=base
 A:=A.deeper (envOfC qual scope s.heap.objs.size f cd)
 N:=N
 s₀:=s
 H₀:=H
 env:=envOfC qual scope s.heap.objs.size f cd
 outer:=outer
 stack:=envOfC qual scope s.heap.objs.size f cd::outer
 ex:=[]
 calm:=true
 fn:=fun _=>true
 pn:=[]
 xe:=fun e s'=>wpAny (model P w) (A.deeper (envOfC qual scope s.heap.objs.size f cd)) (leaving (envOfC qual scope s.heap.objs.size f cd) e) (fun _ s''=>CX outer H s E e s'') (fun e' s''=>CX outer H s E e' s'') s'
theorem y9i(h:sc.names.lookup x=some .cell):∃ c,(cellsFrom n sc.names []).lookup x=some c:=by
 have q:=PySem.W.cellsFrom_some sc.names n [] (.inl h)
 exact Option.isSome_iff_exists.mp q
theorem z3h{CX:CXT}{f:Addr}{cd:Value}{outer:List Env}{s1:Shared}{H:Hp}{E:XK}{vs:List V}
  (S:FnScope N ps scope) (hd:A.handled=none) (e0:Env0 P w K mg base A outer s H) (hl:vs.length=ps.length) (r:x28 vs us)
  (x:InCallC s s.heap.objs.size (bindL (envOfC qual scope s.heap.objs.size f cd).kindOf (ps.zip us) fun _=>none) (cellsFrom (s.heap.objs.size+1) scope.names []) (bindC (envOfC qual scope s.heap.objs.size f cd).kindOf (ps.zip us) fun _=>none) s1) :
  Inv (z0k CX P w K mg base N qual scope f cd A outer s H E) [] (start N vs) H s1:=by
 have hpl:ps.length<=N.length:=by have:=congrArg List.length S.pre;rw[List.length_take]at this;omega
 obtain⟨h1,tk,rfl,hk⟩:=x.done
 have noA:∀ b:Addr,b ∉ (z0k CX P w K mg base N qual scope f cd A outer s H E).ex:=fun b z=>absurd (show b∈([]:List Addr)from z) (by simp)
 refine⟨⟨e0.mod,S.kind,rfl,rfl,Nat.le_refl _,fun y z c h1 h2=>?_,fun y hy=>?_,fun y c _ h=>?_,fun _=>hd,Around.frames_deeper e0.frames,.inr ⟨rfl,rfl⟩,fun b z=>absurd z (noA b),e0.bs,e0.bsz,fun b _ _=>noA b,fun b z=>absurd z (noA b),e0.funs,e0.frf⟩,
  rfl,e0.bare,Un.kept hk,⟨_,x.toInCall.ns,fun i y v h1 h2 h3=>?_⟩,fun y c h=>⟨_,x.cell y c h⟩,e0.hok.fresh (Nat.le_refl _),fun y c h=>?_,fun p hp=>absurd (show p∈([]:List (Addr×Obj))from hp) (by simp),e0.hok.kept hk,?_⟩
 ·exact name_of_addr x.apart (PySem.mem_of_lookup h1) (PySem.mem_of_lookup h2)
 ·have hy:scope.names.lookup y=some .cell\/scope.names.lookup y=some .free:=hy
  rcases hy with hy|hy
  ·exact y9i hy
  ·exact absurd rfl (S.nofree _ (PySem.mem_of_lookup hy))
 ·exact Nat.le_of_lt (x.above y c (PySem.mem_of_lookup h))
 ·have hi:i<vs.length:=by
   unfold start at h2
   by_cases hi:i<vs.length
   ·exact hi
   ·rw[List.getElem?_append_right (by simpa using hi)]at h2
    rw[List.getElem?_replicate]at h2
    split at h2<;>cases h2
  have ha:vs[i]? = some v:=by
   unfold start at h2
   rw[List.getElem?_append_left (by simpa using hi),List.getElem?_map]at h2
   cases e:vs[i]? with
   | none=>rw[e]at h2;cases h2
   | some a=>rw[e]at h2;cases h2;rfl
  obtain⟨u,hu,rv⟩:=r.get ha
  have hp:ps[i]? = some y:=by
   rw[<- S.pre,List.getElem?_take_of_lt (by omega)];exact h1
  have ndP:ps.Nodup:=by rw[<- S.pre];exact S.nd.sublist (List.take_sublist _ _)
  refine⟨u,rv,?_⟩
  rcases S.par y (List.mem_of_getElem? hp)with k|k
  ·exact .inl ⟨k,y5l ndP hp hu k⟩
  ·obtain⟨c,e⟩:=y9i (n:=s.heap.objs.size+1) k
   refine .inr ⟨.inl k,c,e,?_⟩
   have q:=x.cell y c e
   rw[y61 ndP hp hu (by show scope.names.lookup y≠_;rw[k];decide)]at q
   exact q
 ·exact e0.hok.fresh (Nat.le_of_lt (x.above y c (PySem.mem_of_lookup h)))
 ·unfold start
  show _=N.length
  rw[List.length_append,List.length_map,List.length_replicate]
  omega
theorem z91{CX:CXT}{k:Nat}{f:Addr}{name:Str}{params:Arguments}{dV kV doc pm cdv ct oc:Value}{an od:Option Addr}
  {osl:Array (Option Value)}  {sp:Sp} (lk:K.lookup f=some ⟨oc,od,.func (PySem.W.fnOf name qual params body scope dV kV doc pm an cdv ct),osl⟩) (hcd:PySem.W.codeIn K cdv qual=true) (S:FnScope N ps scope)
  (len:∀ vs H Q E,sp vs H Q E->vs.length=ps.length)
  (hbody:∀ (A:Around) (outer:List Env) (s:Shared) (H:Hp) (vs:List V) (Q:VK) (E:XK),Room k (A.deeper (envOfC qual scope s.heap.objs.size f cdv))->sp vs H Q E->
    ∃ t,PSs (z0k CX P w K mg base N qual scope f cdv A outer s H E) body t/\t { nx:=fun _ H'=>Q .non H',rt:=Q } (start N vs) H) :
  FnOk P w K mg base CX (k+1) f (PySem.W.fnOf name qual params body scope dV kV doc pm an cdv ct) ps sp:=by
 refine⟨len,fun A outer s H args us vs Q E hr e0 hb r hsp=>?_⟩
 have hl:=len _ _ _ _ hsp
 have KX:K.In s.heap:=e0.mod.kin.keeps fun b o e=>(e0.bs b o e).1
 have lim:s.heap.NoLimit:=e0.mod.nolimit.keeps fun b o e=>(e0.bs b o e).1
 have hkind:∀ y∈ps.zip us,scope.names.lookup y.1=some .local\/(scope.names.lookup y.1=some .cell/\((cellsFrom (s.heap.objs.size+1) scope.names []).lookup y.1).isSome=true):=fun⟨n,v⟩ hy=>by
  rcases S.par n (List.of_mem_zip hy).1 with q|q
  ·exact .inl q
  ·exact .inr ⟨q,PySem.W.cellsFrom_some _ _ _ (.inl q)⟩
 refine codeAny_call_function hr.depth (KX _ _ lk) rfl S.co S.gen rfl (PySem.W.codeRec_of KX hcd) (hb _ _ _ _ ?_)
 refine wpAny_newFunctionEnv_cells S.kind hkind fun env he s1 x=>?_
 subst he
 refine⟨lim.keeps x.toInCall.keep,codeAny_func ?_⟩
 obtain⟨t,ht,hq⟩:=hbody A outer s H vs Q E (hr.deeper _) hsp
 have I:Inv (z0k CX P w K mg base N qual scope f cdv A outer s H E) [] (start N vs) H s1:=z3h S hr.hd e0 hl r x
 refine wpAny_mono (ht [] s1 (start N vs) H _ I hq) (fun fl s' hs=>?_) fun e s' hs=>hs
 have fin:∀ {σ':St} {H':Hp} {v:V} {u:Value},Inv (z0k CX P w K mg base N qual scope f cdv A outer s H E) [] σ' H' s'->x39 v u->Q v H'->CE outer P w H s Q u s':=
  fun {σ' H' v u} J rv q=>⟨v,H',J.os,J.bare,J.base,J.hok,rv,q⟩
 cases fl with
 | ret u=>
  obtain⟨v,σ',H',J,rv,q⟩:=hs
  exact fin J rv q
 | next=>
  obtain⟨σ',H',J,q⟩:=hs
  exact fin (v:=V.non) (u:=Value.none) J rfl q
 | brk=>
  obtain⟨_,_,_,q⟩:=hs
  exact False.elim q
 | cont=>
  obtain⟨_,_,_,q⟩:=hs
  exact False.elim q
section
variable {X:Cx}{x:Str}{p pos:Pos}{e:Expr}{es:List Expr}{t:TA}{id T:String}{r:List V->Hp->VK->Prop}
def tCB (r:List V->Hp->VK->Prop)(t:TA):TE:=fun σ H Q=>t σ H fun vs H1=>r vs H1 Q
theorem x59(hc:y0s X (.builtin id) r)(hg:Gl X x)(hm:X.mg x=none)(hv:bootBuiltins x=some (.builtin id))(ha:PA X (e::es) t)(hn:x ≠ "__name__":=by decide)(hdb:(x==("__debug__":Str))=false:=by decide)
  (he:starEach (e::es) X.env=(false,eval e X.env)::starEach es X.env:=by rfl) (hpl:(backTo pos (starEach es X.env)).any (·.1)=false:=by rfl):PE X (.Call (.Name x p) (e::es) [] pos) (tCB r t):=by
 intro pins s σ H Q I h
 refine wpAny_Call_Name_kw (y1a I hg hm hv ?_ hn hdb)
 exact PyProof.Rows.callWith_builtin1 (thn (ha pos pins s σ H _ I h) fun us s1 ⟨vs,H1,I1,r1,q1⟩=>hc pins s1 σ H1 vs us Q I1 r1 q1) he hpl
theorem x6n(hc:y0s X (.type T) r)(hg:Gl X x)(hm:X.mg x=none)(hv:bootBuiltins x=some (.type T))(ha:PA X (e::es) t)(hn:x ≠ "__name__":=by decide)(hdb:(x==("__debug__":Str))=false:=by decide)
  (he:starEach (e::es) X.env=(false,eval e X.env)::starEach es X.env:=by rfl) (hpl:(backTo pos (starEach es X.env)).any (·.1)=false:=by rfl):PE X (.Call (.Name x p) (e::es) [] pos) (tCB r t):=by
 intro pins s σ H Q I h
 refine wpAny_Call_Name_kw (y1a I hg hm hv ?_ hn hdb)
 exact PyProof.Rows.callWith_type1 (thn (ha pos pins s σ H _ I h) fun us s1 ⟨vs,H1,I1,r1,q1⟩=>hc pins s1 σ H1 vs us Q I1 r1 q1) he hpl
end
end L2
namespace HT
open PySem PyProof.Rows
variable {Q:Value->Shared->Prop}{hi lo:Option Int}{sl t:Addr}{vl vu:Value}
section
open PySem.SeqAt
open PySem.AutoSeq1 (wpAny_loadPart')
open PySem.MeetsSeq PySem.MeetsSeq2 PySem.MeetsSeq3
end
section
variable {prog:Program}{w:World}{A:Around}{E:Value->Shared->Prop}{s:Shared}
theorem j7g{b:Addr}{vs ws:List Value}(ht:IsTup s.heap t vs.toArray)(hb:IsTup s.heap b ws.toArray)(hv:vs ≠ [])
  (h1:ws=[]->Q (.ref t) s) (h2:ws ≠ []->Q (.ref s.heap.objs.size) { s with heap:=s.heap.push { cls:=.type "tuple",data:=.seq (vs++ws).toArray } })
  (hsz:vs.length+ws.length<=sizeLine):wpAny (model prog w) A (binaryOp .Add (.ref t) (.ref b)) Q E s:=by
 obtain⟨⟨cls,dd,data,sl⟩,ho,hc,n,hd⟩:=id ht
 obtain⟨⟨cls2,dd2,data2,sl2⟩,ho2,hc2,n2,hd2⟩:=id hb
 simp only at hc hd hc2 hd2
 subst hc hd hc2 hd2
 have e:vs.toArray++ws.toArray=(vs++ws).toArray:=by simp
 by_cases hw:ws=[]
 ·exact concat_meets ⟨_,ho,rfl⟩ ⟨_,ho2,rfl⟩ noFill_tuple_add seq_tuple_add PySem.F.slot_tuple_add PySem.F.entry_tuple_add (PySem.F.args_tuple_add_2 _ _)
   (tuple_addW1 t b vs.toArray ws.toArray n n2 dd dd2 sl sl2 (by simpa using hv) (by simp[hw])) ⟨ho,ho2,h1 hw⟩
 ·refine concat_meets ⟨_,ho,rfl⟩ ⟨_,ho2,rfl⟩ noFill_tuple_add seq_tuple_add PySem.F.slot_tuple_add PySem.F.entry_tuple_add (PySem.F.args_tuple_add_2 _ _)
   (tuple_addW2 t b vs.toArray ws.toArray n n2 dd dd2 sl sl2 (by simpa using hv) (by simpa using hw) (by rw[List.size_toArray,List.size_toArray];exact hsz)) ⟨ho,ho2,?_⟩
  rw[e]
  exact h2 hw
def sIx (n d:Nat):Option Int->Nat
 | none=>d
 | some v=>if v<0 then(v+(n:Int)).toNat else min v.toNat n
theorem j5p(n d:Nat)(hd:d<=n)(o:Option Int):sIx n d o<=n:=by
 cases o with
 | none=>exact hd
 | some v=>
  show(if v<0 then(v+(n:Int)).toNat else min v.toNat n)<=n
  by_cases hv:v<0
  ·rw[if_pos hv];omega
  ·rw[if_neg hv];exact Nat.min_le_right _ _
theorem z16(v:Int)(n d:Nat):(if v<0 then max (v+(n:Int)) 0 else min v (n:Int))=((sIx n d (some v):Nat):Int):=by
 show(if v<0 then max (v+(n:Int)) 0 else min v (n:Int))=(((if v<0 then(v+(n:Int)).toNat else min v.toNat n):Nat):Int)
 by_cases hv:v<0
 ·simp only[if_pos hv];omega
 ·simp only[if_neg hv];omega
theorem z0p(lo hi:Option Int)(n:Nat):Builtin.Slice.sliceAdjust lo hi 1 (n:Int)=(((sIx n 0 lo:Nat):Int),((sIx n n hi:Nat):Int)):=by
 have h1:¬ ((1:Int)<0):=by omega
 unfold Builtin.Slice.sliceAdjust
 simp only[h1,if_false]
 refine Prod.ext ?_ ?_
 ·cases lo with
  | none=>rfl
  | some v=>exact z16 v n 0
 ·cases hi with
  | none=>rfl
  | some v=>exact z16 v n n
theorem z0n(i j:Nat):Builtin.Slice.slicePlaces (i:Int) (j:Int) 1=j-i:=by
 unfold Builtin.Slice.slicePlaces
 have h1:(1:Int) > 0:=by omega
 simp only[h1,if_true,Int.ediv_one]
 split<;>omega
theorem y3h{v:Value}{o:Option Int}{Q:Option Int->Shared->Prop}(p:IsPart v o)(h:Q o s):wpAny (model prog w) A (Builtin.Slice.slicePartIndex v) Q E s:=by
 cases p with
 | none=>exact slicePart_none h
 | int i t=>exact slicePart_int h
theorem y0v{n:Nat}{Q:Int×Int×Nat->Shared->Prop}(hs:s.heap.IsSliceOf sl vl vu .none)(pl:IsPart vl lo)(pu:IsPart vu hi)
  (h:Q (((sIx n 0 lo:Nat):Int),1,sIx n n hi-sIx n 0 lo) s):wpAny (model prog w) A (Builtin.Slice.sliceApplied (.ref sl) (pure (n:Int))) Q E s:=by
 obtain⟨os,hos,hcs,hds⟩:=id hs
 unfold Builtin.Slice.sliceApplied Builtin.Slice.sliceFields
 refine wpAny_bind (wpAny_bind (wpAny_field hos hds (x:=vl) rfl (wpAny_bind (wpAny_field hos hds (x:=vu) rfl (wpAny_bind (wpAny_field hos hds (x:=.none) rfl (wpAny_pure ?_)))))))
 refine wpAny_bind (slicePart_none ?_)
 show wpAny _ _ (if((1:Int)==0)=true then _ else _) _ _ s
 rw[if_neg (by decide)]
 refine wpAny_bind (y3h pl (wpAny_bind (y3h pu (wpAny_bind (wpAny_pure ?_)))))
 show wpAny _ _ (match Builtin.Slice.sliceAdjust lo hi 1 (n:Int)with|(lo,hi)=>pure (lo,(1:Int),Builtin.Slice.slicePlaces lo hi 1)) _ _ s
 rw[z0p lo hi n]
 show wpAny _ _ (pure (((sIx n 0 lo:Nat):Int),(1:Int),Builtin.Slice.slicePlaces ((sIx n 0 lo:Nat):Int) ((sIx n n hi:Nat):Int) 1)) _ _ s
 rw[z0n]
 exact wpAny_pure h
theorem z64(xs:Array Value)(i k:Nat):((List.range k).filterMap fun(m:Nat)=>xs[((i:Int)+(m:Int)*1).toNat]?).toArray=((xs.toList.drop i).take k).toArray:=by
 have e:(fun(m:Nat)=>xs[((i:Int)+(m:Int)*1).toNat]?)=fun m=>xs[i+m]?:=by
  funext m
  have:((i:Int)+(m:Int)*1).toNat=i+m:=by omega
  rw[this]
 rw[e]
 have:=pick_run xs i k
 rw[List.filterMap_map]at this
 have e2:((fun x=>xs[x]?) ∘ fun x=>i+x)=fun m=>xs[i+m]?:=rfl
 rw[e2]at this
 rw[this]
theorem z0j{items:Array Value}(ht:IsTup s.heap t items)(hs:s.heap.IsSliceOf sl vl vu .none)(pl:IsPart vl lo)(pu:IsPart vu hi)
  (hw:¬ (sIx items.size 0 lo=0/\sIx items.size items.size hi=items.size))
  (h:Q (.ref s.heap.objs.size) { s with heap:=s.heap.push { cls:=.type "tuple",data:=.seq ((items.toList.drop (sIx items.size 0 lo)).take (sIx items.size items.size hi-sIx items.size 0 lo)).toArray } })
  (hsz:items.size<=sizeLine):wpAny (model prog w) A (getItem (.ref t) (.ref sl)) Q E s:=by
 have htake:sizeOk (.seq ((items.toList.drop (sIx items.size 0 lo)).take (sIx items.size items.size hi-sIx items.size 0 lo)).toArray):=by
  show((items.toList.drop (sIx items.size 0 lo)).take (sIx items.size items.size hi-sIx items.size 0 lo)).toArray.size<=sizeLine
  rw[List.size_toArray,List.length_take,List.length_drop,Array.length_toList]
  omega
 have hj:sIx items.size items.size hi<=items.size:=j5p _ _ (Nat.le_refl _) hi
 obtain⟨os,hos,hcs,hds⟩:=id hs
 have hTs:s.TypeIs (.ref sl) "slice":=⟨os,hos,hcs⟩
 unfold getItem
 try with_reducible refine wpAny_holding ?_
 first|refine wpAny_bind (wpAny_pure ?_)|skip
 refine wpAny_bind (wpAny_sequenceKey ht.typeIs (by decide) ?_)
 refine wpAny_bind (wpAny_callSpecial?_slot (name:=Str.ofString "__getitem__") ht.typeIs PyProof.Rows.slot_tuple_getitem
  (wpAny_call_entry PyProof.Rows.slot_tuple_getitem ht.typeIs entry_tuple_getitem ?_ (args_tuple_getitem _ _)))
 show wpAny _ _ (Builtin.Tuple.tupleItemsOf (.ref t) >>= _) _ _ s
 refine wpAny_bind (tupleItemsOf_ ht ?_)
 refine wpAny_bind (wpAny_typeOf hTs ?_)
 rw[if_pos (by decide)]
 refine wpAny_bind (y0v hs pl pu ?_)
 have hno:¬ ((((sIx items.size 0 lo:Nat):Int)==0&&(1:Int)==1&&(sIx items.size items.size hi-sIx items.size 0 lo)==items.size)=true):=by
  intro q
  rw[Bool.and_eq_true,Bool.and_eq_true]at q
  have q1:((sIx items.size 0 lo:Nat):Int)=0:=eq_of_beq q.1.1
  have q2:sIx items.size items.size hi-sIx items.size 0 lo=items.size:=eq_of_beq q.2
  exact hw ⟨by omega,by omega⟩
 show wpAny _ _ (if(((sIx items.size 0 lo:Nat):Int)==0&&(1:Int)==1&&(sIx items.size items.size hi-sIx items.size 0 lo)==items.size)=true then _ else _) _ _ s
 rw[if_neg hno,z64]
 first
  | exact wpAny_bind (m:=Builtin.Tuple.tupleExact _) (wpAny_newObj_type (wpAny_pure ⟨_,rfl,wpAny_pure h⟩) htake)
  | exact wpAny_bind (m:=Builtin.Tuple.tupleExact _) (wpAny_newObj_type (wpAny_bind (wpAny_pure (wpAny_pure ⟨_,rfl,wpAny_pure h⟩))) htake)
  | exact wpAny_bind (wpAny_bind (m:=Builtin.Tuple.tupleExact _) (wpAny_newObj_type (wpAny_pure (wpAny_pure ⟨_,rfl,wpAny_pure h⟩)) htake))
  | exact wpAny_bind (wpAny_bind (m:=Builtin.Tuple.tupleExact _) (wpAny_newObj_type (wpAny_pure ⟨_,rfl,wpAny_pure h⟩) htake))
end
end HT
namespace L2
open PySem PySem.Spec PyProof.Rows
variable {H:Hp}{i:Int}{n:Nat}{pins:List (Addr×Obj)}{r:V->Option Int->Option Int->Hp->VK->Prop}{s:Shared}{us:List Value}{xs:List V}{σ:St}
abbrev TO:=St->Hp->(Option Int->Hp->Prop)->Prop
def PO (X:Cx)(e:Option Expr)(t:TO):Prop:=
 ∀ (pins:List (Addr×Obj)) (s:Shared) (σ:St) (H:Hp) (Q:Option Int->Hp->Prop),Inv X pins σ H s->t σ H Q->
  wpAny (model X.prog X.w) X.A (evalPart e X.env) (fun u s'=>∃ o H',Inv X pins σ H' s'/\IsPart u o/\Q o H') X.xe s
def z9e:TO:=fun _ H Q=>Q none H
def j66 (t:TE):TO:=fun σ H Q=>t σ H fun x H1=>∃ i,x=.int i/\Q (some i) H1
section
variable {X:Cx}{e:Expr}{te:TE}{lo hi:Option Expr}{tl th:TO}{pos p2:Pos}
theorem z9q:PO X none z9e:=by
 intro pins s σ H Q I h
 rw[evalPart_none]
 exact wpAny_pure ⟨none,H,I,.none,h⟩
theorem j0u(h:PE X e te):PO X (some e) (j66 te):=by
 intro pins s σ H Q I hw
 rw[evalPart_some]
 refine thn (h pins s σ H _ I hw) fun u s1 hh0=>?_
 obtain⟨x,H1,I1,r1,q1⟩:=hh0
 obtain⟨i,rfl,q⟩:=q1
 obtain⟨t,rfl⟩:=r1
 exact⟨some i,H1,I1,.int i t,q⟩
def SlR (X:Cx)(r:V->Option Int->Option Int->Hp->VK->Prop):Prop:=
 ∀ (pins:List (Addr×Obj)) (s:Shared) (σ:St) (H:Hp) (x:V) (v vl vu:Value) (lo hi:Option Int) (sl:Addr) (Q:VK),Inv X pins σ H s->x39 x v->s.heap.IsSliceOf sl vl vu .none->IsPart vl lo->IsPart vu hi->r x lo hi H Q->
  ∃ T id,typeLookup (.type T) "__getitem__" = pure (some (.builtin id))/\s.TypeIs v T/\wpAny (model X.prog X.w) X.A (getItem v (.ref sl)) (EP X pins σ Q) X.xe s
theorem SlR.or{r':V->Option Int->Option Int->Hp->VK->Prop}(h:SlR X r)(h':SlR X r'):SlR X (fun x lo hi H Q=>r x lo hi H Q\/r' x lo hi H Q):=by
 intro pins s σ H x v vl vu lo hi sl Q I rx hs pl pu q
 rcases q with q|q
 ·exact h pins s σ H x v vl vu lo hi sl Q I rx hs pl pu q
 ·exact h' pins s σ H x v vl vu lo hi sl Q I rx hs pl pu q
def tSl (r:V->Option Int->Option Int->Hp->VK->Prop)(te:TE)(tl th:TO):TE:=fun σ H Q=>te σ H fun x H1=>tl σ H1 fun l H2=>th σ H2 fun u H3=>r x l u H3 Q
theorem y8h(hr:SlR X r)(he:PE X e te)(hl:PO X lo tl)(hu:PO X hi th):PE X (.Subscript e (.Slice lo hi none p2) pos) (tSl r te tl th):=by
 intro pins s σ H Q I h
 refine Subscript_ (thn (he pins s σ H _ I h) fun v s1 hh0=>?_)
 obtain⟨x,H1,I1,r1,q1⟩:=hh0
 refine wpAny_Slice (thn (hl pins s1 σ H1 _ I1 q1) fun vl s2 ⟨l,H2,I2,pl,q2⟩=>thn (hu pins s2 σ H2 _ I2 q2) fun vu s3 hh0=>?_)
 obtain⟨u,H3,I3,pu,q3⟩:=hh0
 rw[evalPart_none]
 refine wpAny_pure ?_
 have I4:Inv X pins σ H3 { s3 with heap:=s3.heap.push { cls:=.type "slice",data:=.fields #[vl,vu,.none] } }:=I3.kept (t':=s3.toks) fun b ob q=>Heap.get?_push_of_some _ q
 obtain⟨T,id,hT,ht,hg⟩:=hr pins { s3 with heap:=s3.heap.push { cls:=.type "slice",data:=.fields #[vl,vu,.none] } } σ H3 x v vl vu l u s3.heap.objs.size Q I4 r1 (Heap.IsSliceOf.new ..) pl pu q3
 show wpAny (model X.prog X.w) X.A (subscriptTail e (.Slice lo hi none p2) v (.ref s3.heap.objs.size)) (EP X pins σ Q) X.xe { s3 with heap:=s3.heap.push { cls:=.type "slice",data:=.fields #[vl,vu,.none] } }
 exact tail_any (ops:=[.ref s3.heap.objs.size,v]) ht hT hg (by with_unfolding_all rfl)
def z42 (xs:List V)(lo hi:Option Int):List V:=(xs.drop (HT.sIx xs.length 0 lo)).take (HT.sIx xs.length xs.length hi-HT.sIx xs.length 0 lo)
theorem y2c(xs:List V)(lo hi:Option Int):(z42 xs lo hi).length<=xs.length:=by
 unfold z42
 rw[List.length_take,List.length_drop]
 omega
def j8n (K:PySem.W.Frag):V->Option Int->Option Int->Hp->VK->Prop:=fun x lo hi H Q=>∃ a xs,x=.ref a/\SqT K H a xs /\
 ¬ (HT.sIx xs.length 0 lo=0/\HT.sIx xs.length xs.length hi=xs.length)/\∀ p,H p=none->Q (.ref p) (upd H p (.tup (z42 xs lo hi)))
theorem j51:SlR X (j8n X.K):=by
 intro pins s σ H x v vl vu lo hi sl Q I rx hs pl pu h
 obtain⟨a,xs,rfl,hx,hw,q⟩:=h
 cases rx
 obtain⟨its,r,ht,hz⟩:=I.tuple hx
 have hlen:its.toArray.size=xs.length:=by rw[List.size_toArray];exact r.length.symm
 refine⟨"tuple",_,PyProof.Rows.slot_tuple_getitem.lookup,ht.typeIs,?_⟩
 refine HT.z0j ht hs pl pu (by rw[hlen];exact hw) ?_ (by rw[hlen];exact hz)
 rw[hlen]
 refine⟨.ref s.heap.objs.size,_,I.laid (t':=s.toks) (o:=.tup (z42 xs lo hi)) (fun b ob q=>Heap.get?_push_of_some _ q) (Nat.le_refl _) ?_,rfl,q _ (I.hok.fresh (Nat.le_refl _))⟩
 exact⟨Nat.le_trans (y2c xs lo hi) hz,_,(r.drop (HT.sIx xs.length 0 lo)).take (HT.sIx xs.length xs.length hi-HT.sIx xs.length 0 lo),x6f.new _ _⟩
def j6v (K:PySem.W.Frag):R2:=fun x y H Q=>∃ a b xs ys,x=.ref a/\y=.ref b/\SqT K H a xs/\SqT K H b ys/\xs ≠ []/\xs.length+ys.length<=sizeLine /\
 (ys=[]->Q (.ref a) H)/\(ys ≠ []->∀ p,H p=none->Q (.ref p) (upd H p (.tup (xs++ys))))
theorem x28.nil_iff(r:x28 xs us):us=[] ↔ xs=[]:=by
 cases r with
 | nil=>simp
 | cons _ _=>simp
theorem z9r:OpR X (binaryOp .Add) (j6v X.K):=by
 intro pins s σ H x y v u Q I rx ry h
 obtain⟨a,b,xs,ys,rfl,rfl,ha,hb,hx,hz,q1,q2⟩:=h
 cases rx
 cases ry
 obtain⟨its,r1,p1,_⟩:=I.tuple ha
 obtain⟨its2,r2,p2,_⟩:=I.tuple hb
 refine HT.j7g p1 p2 (fun z=>hx (r1.nil_iff.mp z)) (fun z=>⟨.ref a,H,I,rfl,q1 (r2.nil_iff.mp z)⟩) (fun z=>?_) (by rw[<- r1.length,<- r2.length];exact hz)
 refine⟨.ref s.heap.objs.size,_,I.laid (t':=s.toks) (o:=.tup (xs++ys)) (fun b ob q=>Heap.get?_push_of_some _ q) (Nat.le_refl _) ?_,rfl,q2 (fun w=>z (r2.nil_iff.mpr w)) _ (I.hok.fresh (Nat.le_refl _))⟩
 exact⟨by rw[List.length_append];exact hz,_,r1.append r2,x6f.new _ _⟩
end
def ixN (n:Nat)(i:Int):Option Nat:=if 0<=i then(if i<n then some i.toNat else none)else if -(n:Int)<=i then some (i+n).toNat else none
def atI {α:Type}(xs:List α)(i:Int):Option α:=(ixN xs.length i).bind fun j=>xs[j]?
theorem y71{j:Nat}(h:ixN n i=some j):seqIndex? i n=some j/\j<n /\ -(n:Int)<=i/\i<n:=by
 unfold ixN at h
 by_cases h0:0<=i
 ·rw[if_pos h0]at h
  by_cases h1:i<n
  ·rw[if_pos h1]at h
   have e:i.toNat=j:=Option.some.inj h
   exact⟨by rw[seqIndex_of h0 h1,e],by omega,by omega,h1⟩
  ·rw[if_neg h1]at h;cases h
 ·rw[if_neg h0]at h
  by_cases h1:-(n:Int)<=i
  ·rw[if_pos h1]at h
   have e:(i+n).toNat=j:=Option.some.inj h
   exact⟨by rw[seqIndex_neg (by omega) h1,e],by omega,h1,by omega⟩
  ·rw[if_neg h1]at h;cases h
theorem y7u{α:Type}{xs:List α}{v:α}(h:atI xs i=some v):∃ j,seqIndex? i xs.length=some j/\xs[j]? = some v/\j<xs.length /\ -(xs.length:Int)<=i/\i<xs.length:=by
 unfold atI at h
 cases e:ixN xs.length i with
 | none=>rw[e]at h;cases h
 | some j=>
  rw[e]at h
  obtain⟨h1,h2,h3,h4⟩:=y71 e
  exact⟨j,h1,h,h2,h3,h4⟩
def x4m (b:Expr):Prop:=∀ o i,subscripted b false o i=operate [o,i] (getItem o i)
def IxR (X:Cx)(r:R2):Prop:=
 ∀ (value slice:Expr) (pins:List (Addr×Obj)) (s:Shared) (σ:St) (H:Hp) (x y:V) (v u:Value) (Q:VK),Inv X pins σ H s->x39 x v->x39 y u->r x y H Q->
  subscripted slice false v u=operate [v,u] (getItem v u)->wpAny (model X.prog X.w) X.A (subscriptTail value slice v u) (EP X pins σ Q) X.xe s
def MtR (X:Cx)(id:String)(r:V->List V->Hp->VK->Prop):Prop:=
 ∀ (pins:List (Addr×Obj)) (s:Shared) (σ:St) (H:Hp) (x:V) (xs:List V) (v:Value) (us:List Value) (Q:VK),Inv X pins σ H s->x39 x v->x28 xs us->r x xs H Q->
  wpAny (model X.prog X.w) X.A (call (.builtin id) (v::us)) (EP X pins σ Q) X.xe s
section
variable {X:Cx}{a b:Expr}{ta tb:TE}{pos:Pos}
theorem IxR.or{r r':R2}(h:IxR X r)(h':IxR X r'):IxR X (fun x y H Q=>r x y H Q\/r' x y H Q):=by
 intro value slice pins s σ H x y v u Q I rx ry q hs
 rcases q with q|q
 ·exact h value slice pins s σ H x y v u Q I rx ry q hs
 ·exact h' value slice pins s σ H x y v u Q I rx ry q hs
theorem z21{r:R2}(hr:IxR X r)(ha:PE X a ta)(hb:PE X b tb)(hs:x4m b):PE X (.Subscript a b pos) (tOp r ta tb):=by
 intro pins s σ H Q I h
 exact Subscript_ (j72 ha hb I h fun v u s2 x y H2 I2 rx ry q=>hr a b pins s2 σ H2 x y v u Q I2 rx ry q (hs _ _))
def j82 (K:PySem.W.Frag):R2:=fun x y H Q=>∃ p xs i v,x=.ref p/\y=.int i/\SqL K H p xs/\atI xs i=some v/\Q v H
def j7z (K:PySem.W.Frag):R2:=fun x y H Q=>∃ p xs i v,x=.ref p/\y=.int i/\SqT K H p xs/\atI xs i=some v/\Q v H
def j81:R2:=fun x y H Q=>∃ z i c,x=.str z/\y=.int i/\z.length<=sizeLine/\atI z.cps.toList i=some c/\Q (.str ⟨#[c]⟩) H
theorem z8a:IxR X (j82 X.K):=by
 intro value slice pins s σ H x y v u Q I rx ry h hs
 obtain⟨p,xs,i,z,rfl,rfl,hq,he,q⟩:=h
 cases rx
 obtain⟨t,rfl⟩:=ry
 obtain⟨its,r,pl,hz⟩:=I.list hq
 obtain⟨j,h1,h2,h3,h4,h5⟩:=y7u he
 obtain⟨w,ew,rw'⟩:=r.get h2
 have hl:=r.length
 have hn:=y3e
 have fin:EP X pins σ Q w s:=⟨z,H,I,rw',q⟩
 by_cases h0:0<=i
 ·have hj:i.toNat=j:=by
   rw[seqIndex_of h0 h5]at h1
   exact Option.some.inj h1
  exact item_listR pl.isList h0 (by omega) (by rw[hj];simpa using ew) fin hs
 ·have hj:(i+(its.toArray.size:Int)).toNat=j:=by
   rw[seqIndex_neg (by omega) h4]at h1
   rw[List.size_toArray,<- hl]
   exact Option.some.inj h1
  exact subscriptTail_builtinR (x:=w) pl.isList.typeIs slot_list_getitem.lookup
   (wpAny_getItem_list_neg (Q:=fun r s'=>r=w/\EP X pins σ Q r s') pl.isList (by omega) (by rw[List.size_toArray]<;>omega) (by omega) (by rw[hj];simpa using ew) ⟨rfl,fin⟩) hs
theorem j4s:IxR X (j7z X.K):=by
 intro value slice pins s σ H x y v u Q I rx ry h hs
 obtain⟨p,xs,i,z,rfl,rfl,hq,he,q⟩:=h
 cases rx
 obtain⟨t,rfl⟩:=ry
 obtain⟨its,r,pl,hz⟩:=I.tuple hq
 obtain⟨j,h1,h2,h3,h4,h5⟩:=y7u he
 obtain⟨w,ew,rw'⟩:=r.get h2
 have hl:=r.length
 have hn:=y3e
 have fin:EP X pins σ Q w s:=⟨z,H,I,rw',q⟩
 exact subscriptTail_builtinR (x:=w) pl.typeIs slot_tuple_getitem.lookup
  (getItem_tuple (j:=j) (Q:=fun r s'=>r=w/\EP X pins σ Q r s') pl (by omega) (by omega) (by rw[List.size_toArray,<- hl];exact h1) (by simpa using ew) ⟨rfl,fin⟩) hs
theorem j5i:IxR X j81:=by
 intro value slice pins s σ H x y v u Q I rx ry h hs
 obtain⟨z,i,c,rfl,rfl,hz,he,q⟩:=h
 obtain⟨t,rfl⟩:=rx
 obtain⟨t',rfl⟩:=ry
 obtain⟨j,h1,h2,h3,h4,h5⟩:=y7u he
 have hl:z.cps.toList.length=z.length:=by simp[Str.length]
 rw[hl]at h1 h4 h5
 have hn:=y3e
 exact tail_any (typeIs_str s z t) slot_str_getitem.lookup (getItem_str (c:=c) (by
  have e1:decide (i < -(2 ^ 63:Int))=false:=decide_eq_false (by omega)
  have e2:decide (i ≥ 2 ^ 63)=false:=decide_eq_false (by omega)
  rw[e1,e2,Bool.or_false]) (by rw[h1];simpa using h2) ⟨.str ⟨#[c]⟩,H,I.tok _,⟨_,rfl⟩,q⟩) hs
def rIx (K:PySem.W.Frag):R2:=fun x y H Q=>j82 K x y H Q\/j7z K x y H Q\/j81 x y H Q
theorem y5g:IxR X (rIx X.K):=z8a.or (j4s.or j5i)
theorem z08(its:List Value)(n j:Nat)(u:Value):Obj.mapSeq (·.setIfInBounds j u) { cls:=.type "list",data:=.seq its.toArray n }={ cls:=.type "list",data:=.seq (its.set j u).toArray n }:=by
 simp[Obj.mapSeq]
theorem Inv.lst{pins:List (Addr×Obj)}{σ:St}{H:Hp}{s:Shared}{p:Addr}{xs:List V}(I:Inv X pins σ H s)(h:H p=some (.lst xs)) :
  ∃ (its:List Value) (n:Nat),x28 xs its/\s.heap.get? p=some { cls:=.type "list",data:=.seq its.toArray n }/\xs.length<=sizeLine:=by
 obtain⟨z,its,n,r,e⟩:=I.hok p _ h
 exact⟨its,n,r,e,z⟩
theorem Inv.lstUpd{p:Addr}{xs ys:List V}{its its':List Value}{n n':Nat}{f:Obj->Obj}(I:Inv X pins σ H s)(h:H p=some (.lst xs))
  (ho:s.heap.get? p=some { cls:=.type "list",data:=.seq its.toArray n }) (hf:f { cls:=.type "list",data:=.seq its.toArray n }={ cls:=.type "list",data:=.seq its'.toArray n' }) (r:x28 ys its') (hz:ys.length<=sizeLine) (t:Nat) :
  Inv X pins σ (upd H p (.lst ys)) { s with heap:=s.heap.update p f,toks:=t }:=by
 have e:(s.heap.update p f).get? p=some { cls:=.type "list",data:=.seq its'.toArray n' }:=by
  rw[Heap.get?_update_self f ho (by rw[hf]<;>rfl),hf]
 refine I.write (x:=p) (e:=p) (by rw[h];trivial) (.inl rfl) (fun b u hb q=>(Heap.get?_update_other _ _ (Ne.symm hb)).trans q) ⟨_,e⟩ ?_
 exact⟨hz,its',n',r,e⟩
def j7k:V->V->V->Hp->(Hp->Prop)->Prop:=fun o i v H Q=>∃ p xs k j,o=.ref p/\i=.int k/\H p=some (.lst xs)/\ixN xs.length k=some j/\Q (upd H p (.lst (xs.set j v)))
theorem y9t:j7y X j7k:=by
 intro pins s σ H o i v ov iv u Q I ro ri rv h
 obtain⟨p,xs,k,j,rfl,rfl,hp,hj,q⟩:=h
 cases ro
 obtain⟨t,rfl⟩:=ri
 obtain⟨its,n,r,ho,hz⟩:=I.lst hp
 obtain⟨h1,h2,h3,h4⟩:=y71 hj
 have hl:=r.length
 have hn:=y3e
 have I':Inv X pins σ (upd H p (.lst (xs.set j v))) { s with heap:=s.heap.update p (Obj.mapSeq (·.setIfInBounds j u)) }:=
  I.lstUpd hp ho (z08 its n j u) (r.set rv j) (by rw[List.length_set];exact hz) s.toks
 by_cases h0:0<=k
 ·have hk:k.toNat=j:=by
   rw[seqIndex_of h0 h4]at h1
   exact Option.some.inj h1
  exact PySem.W.ki_setAt ho h0 (by omega) (by rw[List.size_toArray,<- hl];exact h4) (by rw[hk];exact⟨_,I',q⟩)
 ·have hk:(k+(its.toArray.size:Int)).toNat=j:=by
   rw[seqIndex_neg (by omega) h3]at h1
   rw[List.size_toArray,<- hl]
   exact Option.some.inj h1
  exact PySem.W.ki_setBack ho (by omega) (by rw[List.size_toArray,<- hl];exact h3) (by omega) (by rw[hk];exact⟨_,I',q⟩)
theorem y68(lo hi:Option Int)(n:Nat):(sliceBounds lo hi none n).1=((HT.sIx n 0 lo:Nat):Int)/\(sliceBounds lo hi none n).2.1=((HT.sIx n n hi:Nat):Int)/\(sliceBounds lo hi none n).2.2=1:=by
 refine⟨?_,?_,rfl⟩
 ·cases lo with
  | none=>simp[sliceBounds,HT.sIx]
  | some i=>
   simp only[sliceBounds,HT.sIx,Option.getD_none,show(1:Int) > 0 by decide,if_true]
   by_cases h:i<0
   ·simp only[h,if_true]<;>omega
   ·simp only[h,if_false]<;>omega
 ·cases hi with
  | none=>simp[sliceBounds,HT.sIx]
  | some i=>
   simp only[sliceBounds,HT.sIx,Option.getD_none,show(1:Int) > 0 by decide,if_true]
   by_cases h:i<0
   ·simp only[h,if_true]<;>omega
   ·simp only[h,if_false]<;>omega
theorem y4a(its:List Value)(lo hi:Option Int):slicePick its.toArray lo hi none=((its.drop (HT.sIx its.length 0 lo)).take (HT.sIx its.length its.length hi-HT.sIx its.length 0 lo)).toArray:=by
 obtain⟨h1,h2,h3⟩:=y68 lo hi its.toArray.size
 unfold slicePick
 rw[h1,h2,h3]
 simp only[sliceRange_one,pick_run,List.size_toArray]<;>rfl
def j8b (K:PySem.W.Frag):V->Option Int->Option Int->Hp->VK->Prop:=fun x lo hi H Q=>∃ a xs,x=.ref a/\SqL K H a xs/\∀ p,H p=none->Q (.ref p) (upd H p (.lst (z42 xs lo hi)))
theorem j0y:SlR X (j8b X.K):=by
 intro pins s σ H x v vl vu lo hi sl Q I rx hs pl pu h
 obtain⟨a,xs,rfl,hx,q⟩:=h
 cases rx
 obtain⟨its,r,ht,hz⟩:=I.list hx
 have hlen:=r.length
 refine⟨"list",_,slot_list_getitem.lookup,ht.isList.typeIs,?_⟩
 refine wpAny_getItem_list_slice ht.isList hs pl pu .none (by simp) ?_ (by rw[List.size_toArray]<;>omega)
 rw[y4a,<- hlen]
 refine⟨.ref s.heap.objs.size,_,I.laid (t':=s.toks) (o:=.lst (z42 xs lo hi)) (fun b ob q=>Heap.get?_push_of_some _ q) (Nat.le_refl _) ?_,rfl,q _ (I.hok.fresh (Nat.le_refl _))⟩
 exact⟨Nat.le_trans (y2c xs lo hi) hz,_,0,(r.drop (HT.sIx xs.length 0 lo)).take (HT.sIx xs.length xs.length hi-HT.sIx xs.length 0 lo),Heap.get?_push_size _ rfl⟩
theorem x6x:y0s X (.builtin "len") (fun xs H Q=>∃ p ys,xs=[.ref p]/\(SqL X.K H p ys\/SqT X.K H p ys)/\Q (.int ys.length) H):=by
 intro pins s σ H xs us Q I r h
 obtain⟨p,ys,rfl,hq,q⟩:=h
 obtain⟨u,rfl,rx⟩:=x9r r
 cases rx
 have hn:=y3e
 rcases hq with hq|hq
 ·obtain⟨its,r',pl,hz⟩:=I.list hq
  have hlen:=r'.length
  exact Calls.call_len_list pl.isList (by simp only[List.size_toArray]<;>omega) ⟨.int ys.length,H,I.tok _,⟨s.toks+1,by rw[List.size_toArray,hlen]⟩,q⟩
 ·obtain⟨its,r',pl,hz⟩:=I.tuple hq
  have hlen:=r'.length
  exact len_tuple pl (by simp only[List.size_toArray]<;>omega) ⟨.int ys.length,H,I.tok _,⟨s.toks+1,by rw[List.size_toArray,hlen]⟩,q⟩
theorem y05:y0s X (.type "list") (fun xs H Q=>∃ p ys,xs=[.ref p]/\(SqL X.K H p ys\/SqT X.K H p ys)/\∀ l,H l=none->Q (.ref l) (upd H l (.lst ys))):=by
 intro pins s σ H xs us Q I r h
 obtain⟨p,ys,rfl,hq,q⟩:=h
 obtain⟨u,rfl,rx⟩:=x9r r
 cases rx
 have fin:∀ (its:List Value),x28 ys its->ys.length<=sizeLine->∀ (h':Heap) (c':Nat),(∀ b o',s.heap.get? b=some o'->h'.get? b=some o')->
   h'.get? s.heap.objs.size=some { cls:=.type "list",dict:=none,data:=.seq its.toArray c',slots:=#[] }->EP X pins σ Q (.ref s.heap.objs.size) { s with heap:=h' }:=fun its r' hz h' c' kp e=>
  ⟨.ref s.heap.objs.size,_,I.laid (t':=s.toks) kp (Nat.le_refl _) (show x29 X.prog X.w _ h' _ (.lst ys)from⟨hz,its,c',r',e⟩),rfl,q _ (I.hok.fresh (Nat.le_refl _))⟩
 rcases hq with hq|hq
 ·obtain⟨its,r',pl,hz⟩:=I.list hq
  have hlen:=r'.length
  obtain⟨o,ho,hc,n,hd⟩:=pl.isList
  exact call_list_seq p (.inl rfl) ho hc hd (fun h' c' kp e=>fin its r' hz h' c' kp e) (by simp only[List.size_toArray]<;>omega)
 ·obtain⟨its,r',pl,hz⟩:=I.tuple hq
  have hlen:=r'.length
  obtain⟨o,ho,hc,n,hd⟩:=pl
  exact call_list_seq p (.inr rfl) ho hc hd (fun h' c' kp e=>fin its r' hz h' c' kp e) (by simp only[List.size_toArray]<;>omega)
theorem y3p:y0s X (.type "tuple") (fun xs H Q=>∃ p ys,xs=[.ref p]/\((SqL X.K H p ys/\∀ l,H l=none->Q (.ref l) (upd H l (.tup ys)))\/(SqT X.K H p ys/\Q (.ref p) H))):=by
 intro pins s σ H xs us Q I r h
 obtain⟨p,ys,rfl,h⟩:=h
 obtain⟨u,rfl,rx⟩:=x9r r
 cases rx
 rcases h with⟨hq,q⟩|⟨hq,q⟩
 ·obtain⟨its,r',pl,hz⟩:=I.list hq
  have hlen:=r'.length
  refine call_tuple_list pl.isList (fun h' kp=>?_) (by simp only[List.size_toArray]<;>omega)
  have I1:Inv X pins σ H { s with heap:=h' }:=I.kept (t':=s.toks) kp
  have I2:Inv X pins σ (upd H h'.objs.size (.tup ys)) { s with heap:=h'.push { cls:=.type "tuple",data:=.seq its.toArray } }:=
   I1.laid (t':=s.toks) (fun b o e=>Heap.get?_push_of_some _ e) (Nat.le_refl _) (show x29 X.prog X.w _ _ _ (.tup ys)from⟨hz,its,r',x6f.new _ _⟩)
  exact⟨.ref h'.objs.size,_,I2,rfl,q _ (I1.hok.fresh (Nat.le_refl _))⟩
 ·obtain⟨its,r',pl,hz⟩:=I.tuple hq
  exact call_tuple_same pl ⟨.ref p,H,I,rfl,q⟩
def tyV (K:PySem.W.Frag)(T:String)(x:V)(H:Hp):Prop:=match x with
 | .str _=>T = "str"
 | .int _=>T = "int"
 | .ref p=>(T = "list" /\ ∃ xs,SqL K H p xs)\/(T = "tuple" /\ ((∃ o,K.lookup p=some o/\o.cls=.type "tuple" /\ o.dict=none)\/∃ xs,H p=some (.tup xs))) \/
   (T = "dict" /\ ((∃ kvs,H p=some (.dK kvs))\/∃ kvs,H p=some (.dT kvs)))\/(T = "set" /\ ∃ S n,H p=some (.set S n))
 | _=>False
theorem j4f{T:String}{x:V}{v:Value}(I:Inv X pins σ H s)(r:x39 x v)(ty:tyV X.K T x H) :
  s.TypeIs v T/\∀ a,v=.ref a->∃ ob,s.heap.get? a=some ob/\ob.dict=none:=by
 cases x with
 | str z=>
  obtain⟨t,rfl⟩:=r
  cases (show T = "str" from ty)
  exact⟨typeIs_str s z t,fun _ e=>nomatch e⟩
 | int i=>
  obtain⟨t,rfl⟩:=r
  cases (show T = "int" from ty)
  exact⟨typeIs_int s i t,fun _ e=>nomatch e⟩
 | ref p=>
  cases r
  rcases ty with⟨rfl,xs,hq⟩|⟨rfl,⟨o,hk,hc,hd⟩|⟨xs,hk⟩⟩|⟨rfl,hk⟩|⟨rfl,S,n,hk⟩
  ·obtain⟨its,_,pl,_⟩:=I.list hq
   refine⟨pl.isList.typeIs,fun a e=>?_⟩
   cases e
   obtain⟨o,n,e,c,hd,_⟩:=pl
   exact⟨o,e,hd⟩
  ·refine⟨⟨o,I.kIn p o hk,hc⟩,fun a e=>?_⟩
   cases e
   exact⟨o,I.kIn _ o hk,hd⟩
  ·obtain⟨_,its,_,o,e,c,_,hd⟩:=(show x29 X.prog X.w H s.heap p (.tup xs)from I.hok p _ hk)
   refine⟨⟨o,e,c⟩,fun a e2=>?_⟩
   cases e2
   exact⟨o,e,hd⟩
  ·have z:∃ o,s.heap.get? p=some o/\o.ExactDict:=by
    rcases hk with⟨kvs,hk⟩|⟨kvs,hk⟩
    ·obtain⟨_,_,_,_,o,_,_,e,ex,_⟩:=I.hok p _ hk
     exact⟨o,e,ex⟩
    ·obtain⟨_,_,_,_,o,_,_,e,ex,_⟩:=I.hok p _ hk
     exact⟨o,e,ex⟩
   obtain⟨o,e,ex⟩:=z
   refine⟨⟨o,e,ex.1⟩,fun a e2=>?_⟩
   cases e2
   exact⟨o,e,ex.2.1⟩
  ·obtain⟨o,_,_,_,e,ex,_⟩:=I.hok p _ hk
   refine⟨⟨o,e,ex.1⟩,fun a e2=>?_⟩
   cases e2
   exact⟨o,e,ex.2.1⟩
 | _=>exact False.elim ty
def tBM (K:PySem.W.Frag)(T:String)(r:V->List V->Hp->VK->Prop)(to:TE)(t:TA):TE:=fun σ H Q=>to σ H fun x H1=>tyV K T x H1/\t σ H1 fun xs H2=>r x xs H2 Q
variable {o e:Expr}{es:List Expr}{to:TE}{t:TA}{name:Str}{apos cpos:Pos}{T id:String}{r:V->List V->Hp->VK->Prop}
theorem z0h(pa:PlainAttrs T)(slot:Slot T name id)(hty:typeOf (.builtin id)=pure (.type "method_descriptor"))(hm:MtR X id r)(ho:PE X o to)(ha:PA X (e::es) t)
  (hbase:attributeBase o name X.env (eval o X.env)=eval o X.env:=by rfl)
  (hfew:((backTo cpos (starEach (e::es) X.env)).all (fun x=>!x.1)&&(backToKw cpos (keywordEach [] X.env)).all (fun x=>x.1.isSome)
    && decide ((e::es).length+([]:List Keyword).length+(if([]:List Keyword).isEmpty then 0 else 1)<30))=true:=by rfl)
  (hline:(apos.endLine==cpos.line)=true:=by rfl) (hs:starEach (e::es) X.env=(false,eval e X.env)::starEach es X.env:=by rfl) (hplain:(backTo cpos (starEach es X.env)).any (·.1)=false:=by rfl) :
  PE X (.Call (.Attribute o name apos) (e::es) [] cpos) (tBM X.K T r to t):=by
 intro pins s σ H Q I h
 refine wpAny_Call_method_late hbase hfew hline rfl (thn (ho pins s σ H _ I h) fun v s1 hh0=>?_)
 obtain⟨x,H1,I1,r1,ty,q1⟩:=hh0
 obtain⟨h1,h2⟩:=j4f I1 r1 ty
 refine⟨T,id,pa,slot,hty,h1,h2,?_⟩
 have hA:=ha cpos pins s1 σ H1 _ I1 q1
 rw[hs]at hA ⊢
 refine Calls.callWith_builtin (by show(false||(backTo cpos (starEach es X.env)).any (·.1))=false;rw[hplain]<;>rfl) (Calls.evalArgs_plain ?_)
 exact thn hA fun us s2 ⟨vs,H2,I2,r2,q2⟩=>hm pins s2 σ H2 x vs v us Q I2 r1 r2 q2
end
def MtM (X:Cx)(id:String)(r:V->List V->Hp->VK->Prop):Prop:=
 ∀ (pins:List (Addr×Obj)) (s:Shared) (σ:St) (H:Hp) (x:V) (xs:List V) (v:Value) (us:List Value) (Q:VK),Inv X pins σ H s->x39 x v->x28 xs us->r x xs H Q->
  wpAny (model X.prog X.w) X.A (call (.builtin id) (v::us)) (EP X pins σ Q) X.xe s
theorem x28.one:∀ {x:V} {us:List Value},x28 [x] us->∃ u,us=[u]/\x39 x u
 | _,_,.cons r .nil=>⟨_,rfl,r⟩
theorem x28.eraseIdx:∀ {xs:List V} {us:List Value} (i:Nat),x28 xs us->x28 (xs.eraseIdx i) (us.eraseIdx i)
 | _,_,_,.nil=>.nil
 | _,_,0,.cons _ t=>t
 | _,_,i+1,.cons r t=>.cons r (x28.eraseIdx i t)
theorem x28.reverse(h:x28 xs us):x28 xs.reverse us.reverse:=by
 induction h with
 | nil=>exact .nil
 | cons r t ih=>rw[List.reverse_cons,List.reverse_cons];exact x28.append ih (.cons r .nil)
theorem x28.rep(h:x28 xs us):∀ k:Nat,x28 (List.replicate k xs).flatten (List.replicate k us).flatten
 | 0=>.nil
 | k+1=>by
  rw[List.replicate_succ,List.replicate_succ,List.flatten_cons,List.flatten_cons]
  exact x28.append h (x28.rep h k)
theorem y5t{α:Type}:∀ (l:List α) (i:Nat),(l.eraseIdx i).length<=l.length
 | [],_=>Nat.le_refl _
 | _::_,0=>Nat.le_succ _
 | _::r,i+1=>Nat.succ_le_succ (y5t r i)
theorem y1h(its:List Value):∀ (k:Nat) (acc:List Value),
  List.foldl (fun x1 x2=>x1++x2) acc.toArray (List.replicate k its.toArray)=(acc++(List.replicate k its).flatten).toArray
 | 0,acc=>by simp
 | k+1,acc=>by
  have e:acc.toArray++its.toArray=(acc++its).toArray:=by simp
  have e2:(acc++its)++(List.replicate k its).flatten=acc++(List.replicate (k+1) its).flatten:=by
   rw[List.replicate_succ,List.flatten_cons,List.append_assoc]
  rw[<- e2,<- y1h its k (acc++its),<- e,List.replicate_succ,List.foldl_cons]
section
variable {X:Cx}{pins:List (Addr×Obj)}{σ:St}{H:Hp}{s:Shared}{l b:Addr}{xs ys zs:List V}
theorem Inv.lset{its its':List Value}{n:Nat}{f:Array Value->Array Value}{t':Nat}(I:Inv X pins σ H s)(hH:H l=some (.lst xs))
  (e:s.heap.get? l=some { cls:=.type "list",data:=.seq its.toArray n }) (hf:f its.toArray=its'.toArray) (hv:x28 ys its') (hz:ys.length<=sizeLine) :
  Inv X pins σ (upd H l (.lst ys)) { s with heap:=s.heap.update l (Obj.mapSeq f),toks:=t' }:=by
 have q:=PySem.IsL.update e f
 rw[hf]at q
 refine I.write (x:=l) (e:=l) (by rw[hH];exact trivial) (.inl rfl) (fun b' u hb hu=>(Heap.get?_update_other s.heap (Obj.mapSeq f) (Ne.symm hb)).trans hu) ⟨_,q⟩ ?_
 exact⟨hz,its',_,hv,q⟩
theorem Inv.lnew{its:List Value}{t':Nat}(I:Inv X pins σ H s)(hv:x28 ys its)(hz:ys.length<=sizeLine) :
  Inv X pins σ (upd H s.heap.objs.size (.lst ys)) { s with heap:=s.heap.push { cls:=.type "list",data:=.seq its.toArray },toks:=t' }:=
 I.laid (fun _ _ q=>Heap.get?_push_of_some _ q) (Nat.le_refl _) ⟨hz,its,0,hv,Heap.get?_push_size _ rfl⟩
theorem Inv.fresh(I:Inv X pins σ H s):H s.heap.objs.size=none:=I.hok.fresh (Nat.le_refl _)
theorem Inv.lstM(I:Inv X pins σ H s)(hH:H l=some (.lst xs)):xs.length<=sizeLine/\∃ (its:List Value) (n:Nat),x28 xs its/\xs.length=its.length/\s.heap.get? l=some { cls:=.type "list",data:=.seq its.toArray n }:=by
 obtain⟨z,its,n,r,e⟩:=I.hok l _ hH
 exact⟨z,its,n,r,r.length,e⟩
theorem y9d(h:n<=sizeLine):Builtin.List.listTooLong n=false:=by
 unfold Builtin.List.listTooLong
 exact decide_eq_false (by omega)
end
section
variable {X:Cx}
def j0j:V->List V->Hp->VK->Prop:=fun x vs H Q=>∃ l xs y,x=.ref l/\vs=[y]/\H l=some (.lst xs)/\xs.length<sizeLine/\Q .non (upd H l (.lst (xs++[y])))
theorem z38:MtM X "list.append" j0j:=by
 intro pins s σ H x vs v us Q I rx rv h
 obtain⟨l,xs,y,rfl,rfl,hH,hz,q⟩:=h
 cases rx
 obtain⟨u,rfl,ru⟩:=rv.one
 obtain⟨z,its,n,r,hl,e⟩:=I.lstM hH
 refine call_meets F.slot_list_append ⟨_,e,rfl⟩ F.entry_list_append (F.args_list_append_2 _ _) (PySem.list_append l its.toArray n u (by rw[List.size_toArray];omega)) ⟨e,?_⟩
 refine⟨.non,_,I.lset (its':=its++[u]) hH e (by simp) (r.append (.cons ru .nil)) ?_,rfl,q⟩
 rw[List.length_append,List.length_singleton]
 omega
def z8u:V->List V->Hp->VK->Prop:=fun x vs H Q=>∃ l b xs zs,x=.ref l/\vs=[.ref b]/\H l=some (.lst xs)/\H b=some (.lst zs)/\xs.length+zs.length<=sizeLine/\Q .non (upd H l (.lst (xs++zs)))
theorem z2l:MtM X "list.extend" z8u:=by
 intro pins s σ H x vs v us Q I rx rv h
 obtain⟨l,b,xs,zs,rfl,rfl,hH,hB,hz,q⟩:=h
 cases rx
 obtain⟨u,rfl,ru⟩:=rv.one
 cases ru
 obtain⟨z,its,n,r,hl,e⟩:=I.lstM hH
 obtain⟨z2,its2,n2,r2,hl2,e2⟩:=I.lstM hB
 have hsz:its.toArray.size+its2.toArray.size<=sizeLine:=by rw[List.size_toArray,List.size_toArray];omega
 have hlong:¬ (!its.toArray.isEmpty&&Builtin.List.listTooLong (its.toArray.size+its2.toArray.size))=true:=by
  rw[y9d hsz,Bool.and_false]
  exact Bool.false_ne_true
 refine call_meets F.slot_list_extend ⟨_,e,rfl⟩ F.entry_list_extend (F.args_list_extend_2 _ _)
  (AutoSeq1.list_extend_list_list_0 l its.toArray n b its2.toArray n2 hlong (by rw[List.size_toArray];omega) (by omega)) ⟨e,e2,?_⟩
 refine⟨.non,_,I.lset (its':=its++its2) hH e (by simp) (r.append r2) ?_,rfl,q⟩
 rw[List.length_append]
 omega
def j4j:V->List V->Hp->VK->Prop:=fun x vs H Q=>∃ l xs i k y,x=.ref l/\vs=[.int i]/\H l=some (.lst xs) /\ -(2 ^ 63)<=i/\i<2 ^ 63/\seqIndex? i xs.length=some k/\xs[k]? = some y/\Q y (upd H l (.lst (xs.eraseIdx k)))
theorem z6c:MtM X "list.pop" j4j:=by
 intro pins s σ H x vs v us Q I rx rv h
 obtain⟨l,xs,i,k,y,rfl,rfl,hH,h1,h2,hk,hy,q⟩:=h
 cases rx
 obtain⟨u,rfl,ru⟩:=rv.one
 obtain⟨t,rfl⟩:=ru
 obtain⟨z,its,n,r,hl,e⟩:=I.lstM hH
 obtain⟨w,hw,rw'⟩:=r.get hy
 refine call_meets F.slot_list_pop ⟨_,e,rfl⟩ F.entry_list_pop (F.args_list_pop_2 _ _)
  (MeetsSeq.list_pop_at l its.toArray n i t k w (fitsIndex_both h1 h2) (by rw[List.size_toArray,<- hl];exact hk) (by rw[<- Array.getElem?_toList];exact hw) (by rw[List.size_toArray];omega)) ⟨e,?_⟩
 refine⟨y,_,I.lset (its':=its.eraseIdx k) hH e ?_ (r.eraseIdx k) ?_,rw',q⟩
 ·show its.toArray.eraseIdxIfInBounds k=(its.eraseIdx k).toArray
  rw[List.eraseIdxIfInBounds_toArray]
 ·have:=y5t xs k
  omega
def j8r:R2:=fun x y H Q=>∃ l k xs,x=.ref l/\y=.int k/\H l=some (.lst xs) /\ -(2 ^ 63)<=k/\k<2 ^ 63/\xs.length*k.toNat<=sizeLine /\
 ∀ p,H p=none->Q (.ref p) (upd H p (.lst (List.replicate k.toNat xs).flatten))
theorem y6s{α:Type}(xs:List α)(k:Nat):(List.replicate k xs).flatten.length=k*xs.length:=by
 induction k with
 | zero=>simp
 | succ k ih=>rw[List.replicate_succ,List.flatten_cons,List.length_append,ih,Nat.succ_mul,Nat.add_comm]
theorem j2h:OpR X (binaryOp .Mult) j8r:=by
 intro pins s σ H x y v u Q I rx ry h
 obtain⟨l,k,xs,rfl,rfl,hH,h1,h2,hz,q⟩:=h
 cases rx
 obtain⟨t,rfl⟩:=ry
 obtain⟨z,its,n,r,hl,e⟩:=I.lstM hH
 have hlen:its.toArray.size*k.toNat<=sizeLine:=by rw[List.size_toArray,<- hl];exact hz
 have hcap:¬ its.toArray.size*k.toNat > (2 ^ 63-1) / 8:=by
  have:(sizeLine:Nat)<=(2 ^ 63-1) / 8:=by decide
  omega
 have hfit:¬ (!Builtin.List.listFitsIndex k)=true:=by
  rw[fitsIndex_both h1 h2]
  exact Bool.false_ne_true
 have hlong:¬ Builtin.List.listTooLong (its.toArray.size*k.toNat)=true:=by
  rw[y9d hlen]
  exact Bool.false_ne_true
 have hnew:List.foldl (fun x1 x2=>x1++x2) #[] (List.replicate (if its.toArray.isEmpty=true then 0 else k.toNat) its.toArray)=(List.replicate k.toNat its).flatten.toArray:=by
  have f0:∀ m:Nat,List.foldl (fun x1 x2=>x1++x2) #[] (List.replicate m its.toArray)=(List.replicate m its).flatten.toArray:=fun m=>by
   have:=y1h its m []
   rw[List.nil_append]at this
   exact this
  rw[f0]
  cases its with
  | nil=>simp
  | cons a r'=>rw[if_neg (by simp)]
 refine wpAny_binaryOp_repeat_ref (T:="list") (U:="int") (by decide) ⟨_,e,rfl⟩ (fun s'=>typeIs_int s' k t) noFill_list_mul F.fills_int_mul F.slot_int_rmul repeat_list F.slot_int_index.lookup
  (call_meets F.slot_int_rmul (typeIs_int s k t) F.entry_int_rmul (F.args_int_rmul_2 _ _) (int___rmul___int_list k t l its.toArray n)
    ⟨e,rfl,⟨_,e,rfl⟩,call_meets F.slot_list_mul ⟨_,e,rfl⟩ F.entry_list_mul (F.args_list_mul_2 _ _) (AutoListH.list___mul___list_int_3 l its.toArray n k t hfit hcap hlong) ⟨e,?_⟩⟩)
 rw[hnew]
 exact⟨.ref _,_,I.lnew (t':=s.toks) (r.rep k.toNat) (by rw[y6s,Nat.mul_comm];exact hz),rfl,q _ I.fresh⟩
end
end L2
namespace Att
open PySem PySem.W PySem.Calls PyProof.Rows
variable {P:Params}{h:Heap}{l:OpenLaw}{n:Nat}
theorem y1q:∀ (ns:List Int) (vs:List Value),WellAll P h vs (ns.map WData.int)->IntsAre vs ns:=by
 intro ns
 induction ns with
 | nil=>
  intro vs w
  rw[List.map_nil]at w
  cases w
  exact .nil
 | cons n ns ih=>
  intro vs w
  rw[List.map_cons]at w
  cases w with
  | cons a b=>
   cases a
   exact .cons _ _ (ih _ b)
theorem z33(hn:l.most=some n){args:List WData}{vals:List Value}
  (hpre:l.row.toRowW.claim.pre args=true) (hwl:WellAll P h vals args) :
  ∃ a vs ns,vals=[Value.ref a]/\args=[WData.list (ns.map WData.int)]/\h.get? a=some { cls:=.type "list",data:=.seq vs.toArray }/\IntsAre vs ns/\ns.length<=n:=by
 have hsh:WShape.hasAll [] args [.list .int]=true:=(pre_splitW hpre).1
 have hc:l.pre.holds [] { args:=args }=true:=(pre_splitW hpre).2
 obtain⟨d,r,rfl,h1,h2⟩:=hasAllW_cons hsh
 obtain rfl:=hasAllW_nil h2
 obtain⟨xs,rfl,h3⟩:=hasW_list h1
 obtain⟨ns,rfl⟩:=items_int h3
 have hlen:ns.length<=n:=by
  unfold OpenLaw.pre at hc
  have h4:(WTm.not (.lt (.lit (.int (n:Int))) (.len (.arg 0)))).holds [] { args:=[.list (ns.map .int)] }=true:=by
   have h4:=(holds_andW hc).1
   rw[hn]at h4
   exact h4
  have h5:=condW_of h4 (w_not (w_lt w_lit (w_len_list (w_arg rfl))))
  rw[List.length_map]at h5
  refine Nat.le_of_not_lt fun q=>?_
  have q':(n:Int)<((ns.length:Nat):Int):=by omega
  first
   | (rw[decide_eq_true q']at h5;exact absurd h5 (by decide))
   | (simp at h5;omega)
 cases hwl with
 | cons w1 w2=>
  cases w2
  cases w1 with
  | list ho hall=>exact⟨_,_,ns,rfl,rfl,ho,y1q ns _ hall,hlen⟩
theorem z23(l:OpenLaw)(args:List WData):l.row.toRowW.claim.post args (.bool true) args=true:=
 postW_of (r:=l.row.toRowW) (X:=(true==true))
  (show WShape.has [] (.bool true) .bool=true by first|rfl|decide|simp[WShape.has,WShape.arms,WShape.armsAll])
  (show(WTm.eq .res (.lit (.bool true))).value [] { args:=args,res:=some (.bool true),after:=args }=some (.bool (true==true))from w_eq_bool (w_res rfl) w_lit) rfl
theorem j05{q:Program}{loose:List Str}{XP:(Str->Option Value)->Heap->Prop}{YP:World->Heap->Prop}{d:DefRec}
  (hn:l.most=some n) (hdf:d.params.defaults=[])
  (call:∀ (w:World) (s₀ s₁:Shared) (mg mb:Str->Option Value) (fa:Addr) (o:Obj) (pm cd doc:Value) (a:Addr) (vs:List Value) (ns:List Int),
    Ground q loose [] XP w s₀ mg mb s₁.heap->YP w s₁.heap->
    s₁.heap.get? fa=some o->o.data=.func (docDef d.name d.params d.body d.scope pm cd doc)->s₁.heap.CodeRec cd d.name->mg d.name=some (.ref fa)->
    s₁.heap.get? a=some { cls:=.type "list",data:=.seq vs.toArray }->IntsAre vs ns->ns.length<=n->s₁.gens = #[]->
    codeAny (model l.prog w) callerA (.call (.ref fa) ⟨[.ref a],[]⟩) (fun r s'=>r=.ok (.ret (.bool true))/\OldK s₁.heap s'.heap/\s'.os=s₁.os/\AllBare s'.gens) s₁) :
  WalkO q loose XP YP l.row.toRowW d [] (fun f vs=>PySem.call f vs):=by
 intro w s₀ s₁ mg mb G Y fa o pm cd doc dV kV ho hd hcd hD hmg hg args vals as hpre hlay hrd hwl hlo
 obtain rfl:dV=.none:=Dflts.none hD hdf
 obtain rfl:kV=.none:=Dflts.noKw hD
 obtain⟨a,vs,ns,rfl,rfl,hobj,hints,hlen⟩:=z33 hn hpre hwl
 refine enter_call (codeAny_mono (call w s₀ s₁ mg mb fa o pm cd doc a vs ns G Y ho (fd_plain hd) hcd hmg hobj hints hlen hg) fun r s' hq=>?_)
 obtain⟨rfl,h2,h3,h4⟩:=hq
 exact⟨.inl ⟨.bool true,.bool true,[],rfl,fun _=>rfl,.bool true,z23 l _,fun _=>⟨List.Pairwise.nil,fun _ hm=>(nomatch hm)⟩⟩,h2,h3,h4⟩
end Att
namespace L2
open PySem PySem.Spec PyProof.Rows
theorem x9a:∀ {vs:List Value} {ns:List Int},IntsAre vs ns->x28 (ns.map V.int) vs
 | _,_,.nil=>.nil
 | _,_,.cons n t h=>.cons ⟨t,rfl⟩ (x9a h)
end L2
namespace L2
open PySem PySem.Spec PyProof.Rows
end L2
namespace L2
open PySem PySem.Spec PyProof.Rows
variable {A:Around}{C a c f:Addr}{H H':Hp}{N' ps:List Str}{P prog:Program}{Q:Value->Shared->Prop}{X:Cx}{cells:List (Str×Addr)}{elt iter:Expr}{env:Env}{fd:FuncData}{h h':Heap}{i lo n:Nat}{ifs:List Expr}{kvs:List (List Key×V)}{o:Option V}{pins:List (Addr×Obj)}{pos:Pos}{qual x y:Str}{s:Shared}{scope:Scope}{st:Stmt}{trs:List (TE×TE)}{u:Value}{w:World}{xs:List (List Key×Addr×Value)}{σ:St}
def x6z (s:Stmt):Arguments:=match s with
 | .FunctionDef _ a _ _ _ _ _ _ _ _=>a
 | _=>{ posonlyargs:=[],args:=[],vararg:=none,kwonlyargs:=[],kw_defaults:=[],kwarg:=none,defaults:=[] }
def x35 (s:Stmt):List Stmt:=match s with
 | .FunctionDef _ _ b _ _ _ _ _ _ _=>b
 | _=>[]
def x0b (s:Stmt):Scope:=match s with
 | .FunctionDef _ _ _ _ _ _ sc _ _ _=>sc
 | _=>{ kind:=.function,names:=[],isGenerator:=false,isCoroutine:=false }
abbrev CX0:CXT:=fun _ _ _ _ _ _=>False
abbrev E0:XK:=fun _ _ _=>False
theorem j6k:y8n CX0 X E0:=fun _ _ _ _ _ _ _ h=>h.elim
structure Fun (K:PySem.W.Frag) (x qual:Str) (st:Stmt) (f:Addr) (fd:FuncData):Prop where
 ex:∃ (oc:Value) (od:Option Addr) (kV doc pm:Value) (an:Option Addr) (cdv ct:Value) (osl:Array (Option Value)),
  fd=PySem.W.fnOf x qual (x6z st) (x35 st) (x0b st) .none kV doc pm an cdv ct/\K.lookup f=some ⟨oc,od,.func fd,osl⟩/\PySem.W.codeIn K cdv qual=true
 kp:PySem.W.keepIn K (.ref f)=true
section
variable {P:Program}{w:World}{K:PySem.W.Frag}{mg:Str->Option Value}{base:Heap}
theorem Fun.ok{N:List Str}{k:Nat}{sp:Sp}(F:Fun K x qual st f fd)(S:FnScope N ps (x0b st))(len:∀ vs H Q E,sp vs H Q E->vs.length=ps.length)
  (hbody:∀ (cdv:Value) (A:Around) (outer:List Env) (s:Shared) (H:Hp) (vs:List V) (Q:VK) (E:XK),Room k (A.deeper (envOfC qual (x0b st) s.heap.objs.size f cdv))->sp vs H Q E->
    ∃ t,PSs (z0k CX0 P w K mg base N qual (x0b st) f cdv A outer s H E).nox (x35 st) t/\t { nx:=fun _ H'=>Q .non H',rt:=Q } (start N vs) H):FnOk P w K mg base CX0 (k+1) f fd ps sp:=by
 obtain⟨oc,od,kV,doc,pm,an,cdv,ct,osl,rfl,lk,hcd⟩:=F.ex
 refine z91 lk hcd S len fun A outer s H vs Q E hr hsp=>?_
 obtain⟨t,h,q⟩:=hbody cdv A outer s H vs Q E hr hsp
 exact⟨t,h.nox,q⟩
theorem Fun.binds(F:Fun K x qual st f fd)
  (h:∀ (kV doc pm:Value) (an:Option Addr) (cdv ct:Value) (us:List Value),us.length=ps.length->bindArgs (PySem.W.fnOf x qual (x6z st) (x35 st) (x0b st) .none kV doc pm an cdv ct) ⟨us,[]⟩=pure (ps.zip us)):y4b K fd ps []:=by
 obtain⟨oc,od,kV,doc,pm,an,cdv,ct,osl,rfl,lk,hcd⟩:=F.ex
 exact .all (h kV doc pm an cdv ct)
theorem z7p{oc:Value}{od an:Option Addr}{osl:Array (Option Value)}{kV doc pm cdv ct:Value}(l:K.lookup f=some ⟨oc,od,.func (PySem.W.fnOf x qual (x6z st) (x35 st) (x0b st) .none kV doc pm an cdv ct),osl⟩)
  (c:PySem.W.codeIn K cdv qual=true) (k:PySem.W.keepIn K (.ref f)=true):Fun K x qual st f (PySem.W.fnOf x qual (x6z st) (x35 st) (x0b st) .none kV doc pm an cdv ct):=⟨⟨oc,od,kV,doc,pm,an,cdv,ct,osl,rfl,l,c⟩,k⟩
end
theorem j74{k:Nat}(hr:Room k A):A.units+1<cLine:=Nat.lt_of_le_of_lt (Nat.add_le_add_left (by decide:1<=64) _) hr.units
theorem x4p(h:n<=1000):n<sizeLine:=Nat.lt_of_le_of_lt h (by decide)
section
variable {X:Cx}
theorem pv(i:Nat){pos:Pos}(hN:X.N[i]? = some x:=by rfl)(hv:Vis X.env.scope x:=by first|exact Or.inl rfl|exact Or.inr (Or.inl rfl)|exact Or.inr (Or.inr rfl))(hd:(x==("__debug__":Str))=false:=by decide)
  (hcd:(x==("__classdict__":Str))=false:=by decide):PE X (.Name x pos) (x7j i):=j54 hN hv hd hcd
end
section
variable {κ:Type}[DecidableEq κ]
def x9v (kvs:List (κ×V))(k:κ):Option V:=(kvs.find? fun kv=>decide (kv.1=k)).map (·.2)
def y55 (kvs:List (κ×V))(k:κ)(v:V):List (κ×V):=
 if(kvs.any fun kv=>decide (kv.1=k))=true then kvs.map (fun kv=>if kv.1=k then(kv.1,v)else kv)else kvs++[(k,v)]
theorem x5a{p:κ×V}{r:List (κ×V)}{k:κ}(e:p.1=k):x9v (p::r) k=some p.2:=by simp[x9v,List.find?_cons,e]
theorem x53{p:κ×V}{r:List (κ×V)}{k:κ}(e:¬ p.1=k):x9v (p::r) k=x9v r k:=by simp[x9v,List.find?_cons,e]
theorem y0z(k:κ):∀ kvs:List (κ×V),(kvs.any fun kv=>decide (kv.1=k))=(x9v kvs k).isSome
 | []=>rfl
 | p::r=>by
  rw[List.any_cons]
  by_cases e:p.1=k
  ·simp only[x5a e,decide_eq_true e,Bool.true_or,Option.isSome_some]
  ·rw[x53 e,decide_eq_false e,Bool.false_or];exact y0z k r
theorem y63(k j:κ)(y:V):∀ kvs:List (κ×V),x9v kvs k=none->x9v (kvs++[(k,y)]) j=if j=k then some y else x9v kvs j
 | [],_=>by
  by_cases e:k=j
  ·rw[if_pos e.symm];exact x5a (p:=(k,y)) e
  ·rw[if_neg (fun z=>e z.symm)];exact x53 (p:=(k,y)) e
 | p::r,hn=>by
  rw[List.cons_append]
  have hk:¬ p.1=k:=fun z=>by rw[x5a z]at hn;cases hn
  rw[x53 hk]at hn
  have ih:=y63 k j y r hn
  by_cases e:p.1=j
  ·rw[x5a e,x5a e,if_neg (fun z=>hk (e.trans z))]
  ·rw[x53 e,x53 e,ih]
theorem x87(kvs:List (κ×V))(k:κ)(v:V):(y55 kvs k v).length<=kvs.length+1:=by
 unfold y55
 split
 ·rw[List.length_map];omega
 ·rw[List.length_append,List.length_cons,List.length_nil];omega
theorem z5e{kvs:List (κ×V)}{k:κ}(v:V)(h:x9v kvs k=none):y55 kvs k v=kvs++[(k,v)]:=by
 unfold y55
 rw[y0z,h]
 exact if_neg (by decide)
theorem z0f.isSome_eq{u:Option Value}(r:z0f o u):o.isSome=u.isSome:=by
 cases o with
 | none=>cases u with
  | none=>rfl
  | some _=>exact(show False from r).elim
 | some _=>cases u with
  | none=>exact(show False from r).elim
  | some _=>rfl
theorem z0f.getD{u:Option Value}{d:V}{d':Value}(r:z0f o u)(rd:x39 d d'):x39 (o.getD d) (u.getD d'):=by
 cases o with
 | none=>cases u with
  | none=>exact rd
  | some _=>exact(show False from r).elim
 | some _=>cases u with
  | none=>exact(show False from r).elim
  | some _=>exact r
theorem KV.val{kvs:List (κ×V)}{vs:List (κ×Value)}(r:KV kvs vs)(k:κ):z0f (x9v kvs k) (valueAt vs k):=by
 unfold KV at r
 induction r with
 | nil=>exact True.intro
 | @cons p q ps qs h t ih=>
  obtain⟨h1,h2⟩:=h
  by_cases e:p.1=k
  ·have e':q.1=k:=h1.symm.trans e
   have b:valueAt (q::qs) k=some q.2:=by simp[valueAt,List.find?_cons,e']
   rw[x5a e,b];exact h2
  ·have e':¬ q.1=k:=fun z=>e (h1.trans z)
   have b:valueAt (q::qs) k=valueAt qs k:=by simp[valueAt,List.find?_cons,e']
   rw[x53 e,b];exact ih
theorem KV.any{kvs:List (κ×V)}{vs:List (κ×Value)}(r:KV kvs vs)(k:κ):(kvs.any fun kv=>decide (kv.1=k))=vs.any fun kv=>decide (kv.1=k):=by
 unfold KV at r
 induction r with
 | nil=>rfl
 | cons h t ih=>rw[List.any_cons,List.any_cons,ih,h.1]
theorem KV.repl{kvs:List (κ×V)}{vs:List (κ×Value)}(r:KV kvs vs)(k:κ){y:V}(ry:x39 y u) :
  KV (kvs.map fun kv=>if kv.1=k then(kv.1,y)else kv) (vs.map fun kv=>if kv.1=k then(kv.1,u)else kv):=by
 unfold KV at r ⊢
 induction r with
 | nil=>exact .nil
 | @cons p q ps qs h t ih=>
  rw[List.map_cons,List.map_cons]
  refine .cons ?_ ih
  obtain⟨h1,h2⟩:=h
  by_cases e:p.1=k
  ·rw[if_pos e,if_pos (h1.symm.trans e)];exact⟨h1,ry⟩
  ·rw[if_neg e,if_neg (fun z=>e (h1.trans z))];exact⟨h1,h2⟩
theorem KV.put{kvs:List (κ×V)}{vs:List (κ×Value)}(r:KV kvs vs)(k:κ){y:V}(ry:x39 y u):KV (y55 kvs k y) (stored vs k u):=by
 unfold y55 stored
 rw[r.any k]
 by_cases e:(vs.any fun kv=>decide (kv.1=k))=true
 ·rw[if_pos e,if_pos e];exact r.repl k ry
 ·rw[if_neg e,if_neg e];exact Paired.snoc r ⟨rfl,ry⟩
theorem KV.length{kvs:List (κ×V)}{vs:List (κ×Value)}(r:KV kvs vs):kvs.length=vs.length:=Paired.length r
end
theorem z13{k:Key}(r:x39 (kV k) u):(x2z P w).is k u=true:=by
 cases k with
 | inl i=>obtain⟨t,e⟩:=(show ∃ t,u=Value.int i t from r);subst e;exact y7i P w i t
 | inr x=>obtain⟨t,e⟩:=(show ∃ t,u=Value.str x t from r);subst e;exact y8f P w x t
theorem y5r:∀ {ks:List Key} {us:List Value},x28 (ks.map kV) us->ItemsAre (x2z P w) ks us
 | [],_,r=>by rw[List.map_nil]at r;cases r;exact .nil
 | k::ks,_,r=>by
  rw[List.map_cons]at r
  cases r with
  | cons h t=>exact .cons (z13 h) (y5r t)
abbrev KT (H:Hp):List (List Key×V)->List (List Key×Addr×Value)->Prop:=Paired fun p q=>p.1=q.1/\H q.2.1=some (.tup (p.1.map kV))/\x39 p.2 q.2.2
theorem KT.val(r:KT H kvs xs)(k:List Key):z0f (x9v kvs k) ((atKey xs k).map (·.2)):=by
 induction r with
 | nil=>exact True.intro
 | @cons p q ps qs h t ih=>
  obtain⟨h1,_,h2⟩:=h
  by_cases e:p.1=k
  ·have e':q.1=k:=h1.symm.trans e
   have b:atKey (q::qs) k=some q.2:=by simp[atKey,List.find?_cons,e']
   rw[x5a e,b];exact h2
  ·have e':¬ q.1=k:=fun z=>e (h1.trans z)
   have b:atKey (q::qs) k=atKey qs k:=by simp[atKey,List.find?_cons,e']
   rw[x53 e,b];exact ih
theorem KT.repl(r:KT H kvs xs)(k:List Key){y:V}(ry:x39 y u) :
  KT H (kvs.map fun kv=>if kv.1=k then(kv.1,y)else kv) (xs.map (putAt k u)):=by
 induction r with
 | nil=>exact .nil
 | @cons p q ps qs h t ih=>
  rw[List.map_cons,List.map_cons]
  refine .cons ?_ ih
  obtain⟨h1,h2,h3⟩:=h
  unfold putAt
  by_cases e:p.1=k
  ·rw[if_pos e,if_pos (h1.symm.trans e)];exact⟨h1,h2,ry⟩
  ·rw[if_neg e,if_neg (fun z=>e (h1.trans z))];exact⟨h1,h2,h3⟩
theorem KT.put(r:KT H kvs xs)(k:List Key){b:Addr}{y:V}(hb:H b=some (.tup (k.map kV)))(ry:x39 y u) :
  KT H (y55 kvs k y) (storedH xs k b u):=by
 have e:(kvs.any fun kv=>decide (kv.1=k))=(atKey xs k).isSome:=by
  rw[y0z,(r.val k).isSome_eq,Option.isSome_map]
 unfold y55 storedH
 rw[e]
 by_cases q:(atKey xs k).isSome=true
 ·rw[if_pos q,if_pos q];exact r.repl k ry
 ·rw[if_neg q,if_neg q];exact Paired.snoc r ⟨rfl,hb,ry⟩
theorem KT.keeps(r:KT H kvs xs)(ht:∀ b ys,H b=some (.tup ys)->H' b=some (.tup ys)):KT H' kvs xs:=
 Paired.mapP r fun _ _ z=>⟨z.1,ht _ _ z.2.1,z.2.2⟩
section
variable {P:Program}{w:World}{H:Hp}{h:Heap}{a:Addr}
theorem j3o{u:HO}(ok:HOk P w H h)(e:Rd H a u):x29 P w H h a u:=e.ok ok
theorem z2g{kvs:List (Key×V)}(ok:HOk P w H h)(e:Rd H a (.dK kvs)):kvs.length<=sizeLine/\(a==sysModules)=false/\∃ vs,KV kvs vs/\h.DictOf (x2z P w) a vs:=
 show x29 P w H h a (.dK kvs)from j3o ok e
theorem j4i{kvs:List (Key×V)}(ok:HOk P w H h)(e:H a=some (.dK kvs)):kvs.length<=sizeLine/\(a==sysModules)=false/\∃ vs,KV kvs vs/\h.DictOf (x2z P w) a vs:=z2g ok (.inl e)
theorem y98{ks:List Key}(ok:HOk P w H h)(e:H a=some (.tup (ks.map kV))):(tupleKind (x2z P w)).is h ks a:=by
 obtain⟨_,its,r,o,h1,h2,⟨n,h3⟩,_⟩:=(show x29 P w H h a (.tup (ks.map kV))from ok a _ e)
 exact⟨o,its.toArray,n,h1,h2,h3,by simpa using y5r r⟩
theorem z2t(ok:HOk P w H h)(e:Rd H a (.dT kvs)):kvs.length<=sizeLine/\(a==sysModules)=false /\
  ∃ xs,KT H kvs xs/\h.DictOfH (tupleKind (x2z P w)) a xs:=by
 obtain⟨z,y,xs,r,o,es,ep,h1,h2,h3,h4,h5⟩:=(show x29 P w H h a (.dT kvs)from j3o ok e)
 refine⟨z,y,xs,r,o,es,ep,h1,h2,h3,h4,fun x hx=>?_,h5⟩
 have all:∀ {l:List (List Key×V)} {m:List (List Key×Addr×Value)},KT H l m->∀ x∈m,(tupleKind (x2z P w)).is h x.1 x.2.1:=by
  intro l m q
  induction q with
  | nil=>intro x hx;exact nomatch hx
  | @cons p q ps qs hq t ih=>
   intro x hx
   rcases List.mem_cons.mp hx with e|hx
   ·subst e
    exact y98 ok (by rw[<- hq.1];exact hq.2.1)
   ·exact ih x hx
 exact all r x hx
theorem j70(ok:HOk P w H h)(e:H a=some (.dT kvs)):kvs.length<=sizeLine/\(a==sysModules)=false /\
  ∃ xs,KT H kvs xs/\h.DictOfH (tupleKind (x2z P w)) a xs:=z2t ok (.inl e)
end
def z41 (H:Hp)(a:Addr)(y:V)(r:Option V):Prop:=
 (∃ kvs k,Rd H a (.dK kvs)/\y=kV k/\r=x9v kvs k)\/∃ kvs k b,Rd H a (.dT kvs)/\y=.ref b/\H b=some (.tup (k.map kV))/\r=x9v kvs k
def j44 (H:Hp)(a:Addr)(y v:V)(H':Hp):Prop:=
 (∃ kvs k,H a=some (.dK kvs)/\y=kV k/\kvs.length<sizeLine/\H'=upd H a (.dK (y55 kvs k v))) \/
 ∃ kvs k b,H a=some (.dT kvs)/\y=.ref b/\H b=some (.tup (k.map kV))/\kvs.length<sizeLine/\H'=upd H a (.dT (y55 kvs k v))
theorem z41.k{kvs:List (Key×V)}{k:Key}(e:H a=some (.dK kvs)):z41 H a (kV k) (x9v kvs k):=.inl ⟨kvs,k,.inl e,rfl,rfl⟩
theorem j44.k{kvs:List (Key×V)}{k:Key}{v:V}(e:H a=some (.dK kvs))(hl:kvs.length<sizeLine):j44 H a (kV k) v (upd H a (.dK (y55 kvs k v))):=.inl ⟨kvs,k,e,rfl,hl,rfl⟩
section
variable {X:Cx}{pins:List (Addr×Obj)}{σ:St}{H:Hp}{s:Shared}{a:Addr}{y v:V}{u r:Value}{o:Option V}{A:Around}{E:Value->Shared->Prop}
theorem Inv.big(I:Inv X pins σ H s):sysModules<s.heap.objs.size:=by
 have h:mainGlobals<s.heap.objs.size:=(I.mod.glob.keeps I.bk).lt
 exact Nat.lt_trans (by decide) h
theorem z1c(hu:A.units+1<cLine)(I:Inv X pins σ H s)(g:z41 H a y (some v))(ry:x39 y u)(h:∀ w' s',Inv X pins σ H s'->x39 v w'->Q w' s') :
  wpAny (model X.prog X.w) A (getItem (.ref a) u) Q E s:=by
 rcases g with⟨kvs,k,e,ey,l⟩|⟨kvs,k,b,e,ey,eb,l⟩
 ·subst ey
  obtain⟨z,hd,vs,rel,dd⟩:=z2g I.hok e
  obtain⟨w',hw,rw'⟩:=z0f.some_of (v:=v) (o:=valueAt vs k) (by rw[l];exact rel.val k)
  exact wpAny_getItem_of (z13 ry) dd.mapOf hw (h w' _ (I.tok _) rw')
 ·subst ey
  cases (show u=Value.ref b from ry)
  obtain⟨z,hd,xs,rel,dd⟩:=z2t I.hok e
  obtain⟨w',hw,rw'⟩:=z0f.some_of (v:=v) (o:=(atKey xs k).map (·.2)) (by rw[l];exact rel.val k)
  obtain⟨p,hp,hp2⟩:=Option.map_eq_some_iff.mp hw
  refine wpAny_getItem_heap (tupleKind_room_in1 hu) (y98 I.hok eb) dd hp ?_
  rw[hp2]
  exact h w' _ (I.tok _) rw'
theorem y7j{t':Nat}{ob:HO}(I:Inv X pins σ H s)(mu:Mut (H a))(hs:Heap.SameBut a s.heap h')(he:∃ q,h'.get? a=some q)(new:x29 X.prog X.w (upd H a ob) h' a ob) :
  Inv X pins σ (upd H a ob) { s with heap:=h',toks:=t' }:=
 I.write (x:=a) (e:=a) mu (.inl rfl) (fun b q hb z=>(hs.2 b hb).trans z) he new
theorem z7x{kvs:List (Key×V)}{vs:List (Key×Value)}(z:kvs.length<=sizeLine)(hd:(a==sysModules)=false)(rel:KV kvs vs)(dd:h'.DictOf (x2z P w) a vs) :
  x29 P w H' h' a (.dK kvs):=⟨z,hd,vs,rel,dd⟩
theorem z22{Q:Unit->Shared->Prop}(hu:A.units+1<cLine)(I:Inv X pins σ H s)(g:j44 H a y v H')(ry:x39 y u)(rv:x39 v r)(h:∀ s',Inv X pins σ H' s'->Q () s') :
  wpAny (model X.prog X.w) A (setItem (.ref a) u r) Q E s:=by
 rcases g with⟨kvs,k,e,ey,l,eH⟩|⟨kvs,k,b,e,ey,eb,l,eH⟩
 ·subst ey eH
  obtain⟨z,hd,vs,rel,dd⟩:=j4i I.hok e
  have hz:vs.length<=sizeLine:=by rw[<- rel.length];exact z
  have hl:(y55 kvs k v).length<=sizeLine:=by have:=x87 kvs k v;omega
  refine wpAny_setItem_pairs (hsz:=hz) (z13 ry) dd fun h' dd' hs=>h _ ?_
  have he:∃ q,h'.get? a=some q:=let ⟨q,_,_,hq,_⟩:=dd';⟨q,hq⟩
  exact y7j I (by rw[e];exact True.intro) hs he (z7x hl hd (rel.put k rv) dd')
 ·subst ey eH
  cases (show u=Value.ref b from ry)
  obtain⟨z,hd,xs,rel,dd⟩:=j70 I.hok e
  have hz:xs.length<=sizeLine:=by rw[<- Paired.length rel];exact z
  have hl:(y55 kvs k v).length<=sizeLine:=by have:=x87 kvs k v;omega
  refine wpAny_setItem_heap (hsz:=hz) (tupleKind_room_in1 hu) (y98 I.hok eb) dd fun h' dd' hs=>h _ ?_
  obtain⟨q,es,ep,hq,h2,h3,h4,_,h5⟩:=dd'
  refine y7j I (by rw[e];exact True.intro) hs ⟨q,hq⟩ ⟨hl,hd,_,(rel.put k eb rv).keeps fun c ys ec=>?_,q,es,ep,hq,h2,h3,h4,h5⟩
  rw[x0h (j6f ec e (fun z=>nomatch z))]
  exact ec
end
def j7r (i:Expr):Prop:=∀ ov iv,subscripted i false ov iv=operate [ov,iv] (getItem ov iv)
theorem j01{E:Value->Shared->Prop}{value slice:Expr}{T id:String}
  (hl:typeLookup (.type T) "__getitem__" = pure (some (.builtin id))) (hs:j7r slice)
  (h:wpAny (model prog w) A (eval value env) (fun o s₁=>wpAny (model prog w) A (eval slice env) (fun i s₂=>s₂.TypeIs o T/\wpAny (model prog w) A (getItem o i) Q E s₂) E s₁) E s) :
  wpAny (model prog w) A (eval (.Subscript value slice pos) env) Q E s:=by
 refine Subscript_ (wpAny_mono h (fun o s₁ h₁=>wpAny_mono h₁ (fun i s₂ h₂=>?_) fun _ _ x=>x) fun _ _ x=>x)
 obtain⟨hT,h₂⟩:=h₂
 unfold subscriptTail
 refine wpAny_bind ?_
 rw[getitemInPython_of_ne hT.not_modules]
 refine wpAny_bind (wpAny_specialOf hT hl ?_)
 have fin:wpAny (model prog w) A (subscripted slice false o i) (fun r s₃=>wpAny (model prog w) A (letTemporaryGo value o r >>= fun _=>pure r) Q E s₃) E s₂:=by
  rw[hs o i]
  exact wpAny_operating (wpAny_mono h₂ (fun r s₃ h₃=>wpAny_bind (wpAny_letTemporaryGo (wpAny_pure h₃))) fun _ _ x=>x)
 first
  | exact wpAny_pure (wpAny_bind fin)
  | exact wpAny_bind (wpAny_pure (wpAny_bind fin))
  | exact wpAny_bind fin
theorem y7y{y:V}(I:Inv X pins σ H s)(g:z41 H a y o):s.TypeIs (.ref a) "dict":=by
 rcases g with⟨kvs,k,e,_,_⟩|⟨kvs,k,b,e,_,_,_⟩
 ·obtain⟨_,_,vs,_,dd⟩:=z2g I.hok e
  exact dd.typeIs
 ·obtain⟨_,_,xs,_,dd⟩:=z2t I.hok e
  exact dd.typeIs
def j12 (td ty:TE):TE:=fun σ H Q=>td σ H fun x H1=>ty σ H1 fun y H2=>∃ a v,x=.ref a/\z41 H2 a y (some v)/\Q v H2
def z9w (td ty tv:TE):TS:=fun D σ H=>tv σ H fun v H1=>td σ H1 fun x H2=>ty σ H2 fun y H3=>∃ a H4,x=.ref a/\j44 H3 a y v H4/\D.nx σ H4
section
variable {X:Cx}{o i e value:Expr}{pos pos' tpos:Pos}{td ty tv:TE}
theorem z2n(hu:X.A.units+1<cLine)(ho:PE X o td)(hi:PE X i ty)(hs:j7r i):PE X (.Subscript o i pos) (j12 td ty):=by
 intro pins s σ H Q I h
 refine j01 PySem.F.slot_dict_getitem.lookup hs (thn (ho pins s σ H _ I h) fun u s1 ⟨x,H1,I1,rx,q1⟩=>thn (hi pins s1 σ H1 _ I1 q1) fun iv s2 hh0=>?_)
 obtain⟨y,H2,I2,ry,a,v,ex,g,q2⟩:=hh0
 subst ex
 obtain rfl:u=Value.ref a:=rx
 exact⟨y7y I2 g,z1c hu I2 g ry fun w' s3 I3 rw'=>⟨v,H2,I3,rw',q2⟩⟩
theorem j03(hu:X.A.units+1<cLine)(ho:PE X o td)(hi:PE X i ty)(hv:PE X value tv)(hs:swapsWith value (some (.Subscript o i pos')) pos.line X.env=pure false) :
  PS X (.Assign [.Subscript o i pos'] value pos) (z9w td ty tv):=by
 intro pins s σ H D I h
 refine wpAny_Assign_Subscript (thn (hv pins s σ H _ I h) fun r s1 ⟨v,H1,I1,rv,q1⟩=>thn (ho pins s1 σ H1 _ I1 q1) fun u s2 ⟨x,H2,I2,rx,q2⟩=>thn (hi pins s2 σ H2 _ I2 q2) fun iv s3 ⟨y,H3,I3,ry,a,H4,ex,g,q3⟩=>?_) hs
 subst ex
 obtain rfl:u=Value.ref a:=rx
 exact z22 hu I3 g ry rv fun s4 I4=>⟨σ,H4,I4,q3⟩
end
theorem y93(h:Heap)(hb:sysModules<h.objs.size):x29 P w H (h.push { cls:=.type "dict",data:=.dict #[] }) h.objs.size (.dK []):=
 ⟨Nat.zero_le _,beq_eq_false_iff_ne.mpr (Ne.symm (Nat.ne_of_lt hb)),[],.nil,Heap.DictOf.new h⟩
def z80:TE:=fun _ H Q=>∀ p,H p=none->Q (.ref p) (upd H p (.dK []))
section
variable {X:Cx}{pos:Pos}
theorem z4l:PE X (.Dict [] [] pos) z80:=fun pins s σ H Q I h=>
 wpAny_Dict_empty ⟨.ref s.heap.objs.size,_,I.laid (a:=s.heap.objs.size) (o:=.dK []) (t':=s.toks) (fun _ _ q=>Heap.get?_push_of_some _ q) (Nat.le_refl _) (y93 s.heap I.big),rfl,h _ (I.hok.fresh (Nat.le_refl _))⟩
end
def z3g:List (TE×TE)->St->Hp->(List (V×V)->Hp->Prop)->Prop
 | [],_,H,Q=>Q [] H
 | (tk,tv)::r,σ,H,Q=>tk σ H fun x H1=>tv σ H1 fun y H2=>z3g r σ H2 fun ps H3=>Q ((x,y)::ps) H3
abbrev VV:List (V×V)->List (Value×Value)->Prop:=Paired fun p q=>x39 p.1 q.1/\x39 p.2 q.2
def PPs (X:Cx)(pos:Pos)(keys:List (Option Expr))(values:List Expr)(trs:List (TE×TE)):Prop:=
 ∀ (pins:List (Addr×Obj)) (s:Shared) (σ:St) (H:Hp) (Q:List (V×V)->Hp->Prop),Inv X pins σ H s->z3g trs σ H Q->
  wpAny (model X.prog X.w) X.A (evalPairs (pairTrees keys values X.env pos)) (fun vs s'=>∃ ps H',Inv X pins σ H' s'/\VV ps vs/\Q ps H') X.xe s
theorem j1b:PPs X pos [] [] []:=fun pins s σ H Q I h=>pairTrees_nil_walk ⟨[],H,I,.nil,h⟩
theorem y8i{k v:Expr}{ks:List (Option Expr)}{vs:List Expr}{tk tv:TE}(hk:PE X k tk)(hv:PE X v tv)(hr:PPs X pos ks vs trs) :
  PPs X pos (some k::ks) (v::vs) ((tk,tv)::trs):=fun pins s σ H Q I h=>
 pairTrees_cons_walk (thn (hk pins s σ H _ I h) fun u s1 ⟨x,H1,I1,rx,q1⟩=>thn (hv pins s1 σ H1 _ I1 q1) fun w2 s2 ⟨y,H2,I2,ry,q2⟩=>
  thn (hr pins s2 σ H2 _ I2 q2) fun ws s3 ⟨ps,H3,I3,rel,q3⟩=>⟨(x,y)::ps,H3,I3,.cons ⟨rx,ry⟩ rel,q3⟩)
def y1x (kvs more:List (Key×V)):List (Key×V):=more.foldl (fun acc kv=>y55 acc kv.1 kv.2) kvs
theorem KV.merge:∀ {more:List (Key×V)} {rs:List (Key×Value)} {kvs:List (Key×V)} {vs:List (Key×Value)},KV more rs->KV kvs vs->KV (y1x kvs more) (merged vs rs):=by
 intro more rs kvs vs r
 unfold KV at r
 induction r generalizing kvs vs with
 | nil=>intro q;exact q
 | @cons p q ps qs h t ih=>
  intro r0
  have e:KV (y55 kvs p.1 p.2) (stored vs q.1 q.2):=by
   have:=r0.put p.1 h.2
   rw[<- h.1];exact this
  exact ih e
theorem x8r:∀ (more kvs:List (Key×V)),(y1x kvs more).length<=kvs.length+more.length
 | [],kvs=>by show kvs.length<=kvs.length+0;omega
 | p::r,kvs=>by
  have h1:=x8r r (y55 kvs p.1 p.2)
  have h2:=x87 kvs p.1 p.2
  show(y1x (y55 kvs p.1 p.2) r).length<=_
  rw[List.length_cons];omega
theorem y3f{P:Program}{w:World}:∀ {kvs:List (Key×V)} {ws:List (Value×Value)},VV (kvs.map fun kv=>(kV kv.1,kv.2)) ws->∃ rs,Carries (x2z P w) ws rs/\KV kvs rs
 | [],_,r=>by rw[List.map_nil]at r;cases r;exact⟨[],True.intro,.nil⟩
 | p::kvs,_,r=>by
  rw[List.map_cons]at r
  cases r with
  | @cons a b as bs h t=>
   obtain⟨rs,c,q⟩:=y3f (P:=P) (w:=w) t
   obtain⟨b1,b2⟩:=b
   exact⟨(p.1,b2)::rs,⟨z13 h.1,rfl,c⟩,.cons ⟨rfl,h.2⟩ q⟩
def j68 (trs:List (TE×TE)):TE:=fun σ H Q=>∀ p,H p=none->z3g trs σ (upd H p (.dK [])) fun ps H2=>H2 p=some (.dK [])/\∃ kvs:List (Key×V),ps=kvs.map (fun kv=>(kV kv.1,kv.2))/\kvs.length<=15/\Q (.ref p) (upd H2 p (.dK (y1x [] kvs)))
theorem j00{keys:List (Option Expr)}{values:List Expr}(h:PPs X pos keys values trs)(hall:keys.all (·.isSome)=true)(hl:keys.length=values.length)(h0:keys ≠ [])
  (h15:keys.length<=15):PE X (.Dict keys values pos) (j68 trs):=by
 intro pins s σ H Q I q
 have hn:=I.hok.fresh (Nat.le_refl s.heap.objs.size)
 have I1:=I.laid (a:=s.heap.objs.size) (o:=.dK []) (h':=s.heap.push { cls:=.type "dict",data:=.dict #[] }) (t':=s.toks) (fun _ _ q=>Heap.get?_push_of_some _ q) (Nat.le_refl _) (y93 s.heap I.big)
 refine wpAny_Dict_walk (knd:=x2z X.prog X.w) hall hl h0 h15 (thn (h pins _ σ _ _ I1 (q _ hn)) fun ws s2 hh0=>?_)
 obtain⟨ps,H2,I2,rel,e,kvs,ep,lk,q2⟩:=hh0
 subst ep
 obtain⟨rs,c,rk⟩:=y3f (P:=X.prog) (w:=X.w) rel
 obtain⟨z,hd,vs0,r0,dd⟩:=j4i I2.hok e
 cases r0
 refine⟨rs,c,dd,fun h' dd' hs=>⟨.ref s.heap.objs.size,_,?_,rfl,q2⟩⟩
 have hz:(y1x [] kvs).length<=sizeLine:=by
  have h1:=x8r kvs []
  rw[List.length_nil]at h1
  rw[sizeLine_eq];omega
 have he:∃ q,h'.get? s.heap.objs.size=some q:=let ⟨q,_,_,hq,_⟩:=dd';⟨q,hq⟩
 exact y7j I2 (by rw[e];exact True.intro) hs he (z7x hz hd (rk.merge .nil) dd')
structure M2 (X:Cx) (o:Expr) (m:Str) (apos:Pos) (e f:Expr) (cpos:Pos):Prop where
 base:attributeBase o m X.env (eval o X.env)=eval o X.env
 few:((backTo cpos (starEach [e,f] X.env)).all (fun x=>!x.1)&&(backToKw cpos (keywordEach [] X.env)).all (fun x=>x.1.isSome)
  && decide (([e,f]:List Expr).length+([]:List Keyword).length+(if([]:List Keyword).isEmpty then 0 else 1)<30))=true
 line:(apos.endLine==cpos.line)=true
 trees:backTo cpos (starEach [e,f] X.env)=[(false,eval e X.env),(false,eval f X.env)]
def IsD (H:Hp)(a:Addr):Prop:=(∃ kvs,Rd H a (.dK kvs))\/∃ kvs,Rd H a (.dT kvs)
theorem j58(I:Inv X pins σ H s)(d:IsD H a) :
  s.TypeIs (.ref a) "dict" /\ (∀ b,Value.ref a=.ref b->∃ ob,s.heap.get? b=some ob/\ob.dict=none)/\(a==sysModules)=false:=by
 rcases d with⟨kvs,e⟩|⟨kvs,e⟩
 ·obtain⟨_,hd,vs,_,dd⟩:=z2g I.hok e
  refine⟨dd.typeIs,fun b q=>?_,hd⟩
  cases q
  obtain⟨ob,_,_,h1,h2,_⟩:=dd
  exact⟨ob,h1,h2.2.1⟩
 ·obtain⟨_,hd,xs,_,dd⟩:=z2t I.hok e
  refine⟨dd.typeIs,fun b q=>?_,hd⟩
  cases q
  obtain⟨ob,_,_,h1,h2,_⟩:=dd
  exact⟨ob,h1,h2.2.1⟩
section
variable {X:Cx}{pins:List (Addr×Obj)}{σ:St}{H:Hp}{s:Shared}{a:Addr}{y d:V}{u r:Value}{o:Option V}{A:Around}{E:Value->Shared->Prop}
theorem j35(hu:A.units+1<cLine)(I:Inv X pins σ H s)(g:z41 H a y o)(ry:x39 y u)(rd:x39 d r)(h:∀ w' s',Inv X pins σ H s'->x39 (o.getD d) w'->Q w' s') :
  wpAny (model X.prog X.w) A (call (.builtin "dict.get") [.ref a,u,r]) Q E s:=by
 rcases g with⟨kvs,k,e,ey,l⟩|⟨kvs,k,b,e,ey,eb,l⟩
 ·subst ey
  obtain⟨z,hd,vs,rel,dd⟩:=z2g I.hok e
  refine call_meetsIn PySem.F.slot_dict_get dd.typeIs PySem.F.entry_dict_get (PySem.F.args_dict_get_3 _ _ _) (meets_dict_get_default (x2z X.prog X.w) a (z13 ry) hd r) ⟨_,dd.mapOf,h _ _ (I.tok _) ?_⟩
  rw[l]
  exact(rel.val k).getD rd
 ·subst ey
  cases (show u=Value.ref b from ry)
  obtain⟨z,hd,xs,rel,dd⟩:=z2t I.hok e
  refine call_meetsIn PySem.F.slot_dict_get dd.typeIs PySem.F.entry_dict_get (PySem.F.args_dict_get_3 _ _ _) (meetsH_dict_get_default (tupleKind (x2z X.prog X.w)) a b hd r) ⟨tupleKind_room_in1 hu,k,xs,y98 I.hok eb,dd,h _ _ (I.tok _) ?_⟩
  rw[l]
  exact(rel.val k).getD rd
end
def j34 (td ty tx:TE):TE:=fun σ H Q=>td σ H fun x H1=>∃ a,x=.ref a/\IsD H1 a/\ty σ H1 fun y H2=>tx σ H2 fun z H3=>∃ o,z41 H3 a y o/\Q (o.getD z) H3
section
variable {X:Cx}{o e f:Expr}{apos cpos:Pos}{td ty tx:TE}
theorem z4f(hu:X.A.units+1<cLine)(ho:PE X o td)(he:PE X e ty)(hf:PE X f tx)(m:M2 X o "get" apos e f cpos):PE X (.Call (.Attribute o "get" apos) [e,f] [] cpos) (j34 td ty tx):=by
 intro pins s σ H Q I h
 refine wpAny_Call_method m.base m.few m.line PySem.F.plainAttrs_dict PySem.F.slot_dict_get PySem.F.type_dict_get (thn (ho pins s σ H _ I h) fun u s1 hh0=>?_)
 obtain⟨x,H1,I1,rx,a,ex,d,q1⟩:=hh0
 subst ex
 obtain rfl:u=Value.ref a:=rx
 obtain⟨t1,t2,_⟩:=j58 I1 d
 refine⟨t1,t2,?_⟩
 rw[m.trees]
 refine Calls.callWith_builtin rfl (Calls.evalArgs_plain (Calls.spliced_cons (thn (he pins s1 σ H1 _ I1 q1) fun iv s2 ⟨y,H2,I2,ry,q2⟩=>
  Calls.spliced_cons (thn (hf pins s2 σ H2 _ I2 q2) fun fv s3 ⟨z,H3,I3,rz,ov,g,q3⟩=>Calls.spliced_nil ?_))))
 exact j35 hu I3 g ry rz fun w' s4 I4 rw'=>⟨_,H3,I4,rw',q3⟩
end
theorem y5u{R:Result->Shared->Prop}{target:Expr}{it acc:Value}(I:Nat->Shared->Prop)
  (turn:∀ n s,I n s->wpAny (model prog w) A (pyNext it) (fun r s₁=>match r with
    | none=>R (.ok .next) s₁
    | some v=>wpAny (model prog w) A (letOwnedTupleGo target it v) (fun _ s₁'=>wpAny (model prog w) A (assign target env v) (fun _ s₂=>
      wpAny (model prog w) A (forIn ifs true fun c r=>if r=true then do let ok <- isTrue c env (eval c env);pure (ForInStep.yield ok)else pure (ForInStep.yield r)) (fun ok s₃=>
       if ok=true then wpAny (model prog w) A (eval elt env) (fun x s₄=>
        wpAny (model prog w) A (call (.builtin "list.append") [acc,x]) (fun _ s₅=>∃ m,m<n/\I m s₅) (fun _ _=>False) s₄) (fun _ _=>False) s₃
       else ∃ m,m<n/\I m s₃) (fun _ _=>False) s₂) (fun _ _=>False) s₁') (fun _ _=>False) s₁) (fun _ _=>False) s)
  (n:Nat) (h:I n s):codeAny (model prog w) A (.compLoop (.ListComp elt [⟨target,iter,ifs,0⟩] scope pos) 0 it acc env) R s:=by
 refine codeAny_loop rfl I (fun n s hI=>?_) n h
 show wpAny _ A ((compTurn (.ListComp elt [⟨target,iter,ifs,0⟩] scope pos) 0 it acc env).onRaise (fun x=>do noteFrame x env;theTreesLotGoes x)) _ _ s
 refine wpAny_noted ?_
 rw[compTurn_list]
 refine wpAny_bind (wpAny_standAt (wpAny_bind (wpAny_mono (turn n s hI) (fun r s₁ h₁=>?_) fun _ _ h'=>h'.elim)))
 cases r with
 | none=>exact wpAny_pure h₁
 | some v=>
  refine wpAny_bind (wpAny_mono h₁ (fun _ s₁' h₁'=>?_) fun _ _ h'=>h'.elim)
  refine wpAny_bind (wpAny_mono h₁' (fun _ s₂ h₂=>wpAny_bind (wpAny_mono h₂ (fun ok s₃ h₃=>?_) fun _ _ h'=>h'.elim)) fun _ _ h'=>h'.elim)
  cases ok with
  | false=>exact wpAny_pure ⟨rfl,h₃⟩
  | true=>
   exact wpAny_bind (wpAny_bind (wpAny_mono h₃ (fun x s₄ h₄=>wpAny_bind (wpAny_mono h₄ (fun _ s₅ h₅=>wpAny_pure (wpAny_pure ⟨rfl,h₅⟩)) fun _ _ h'=>h'.elim)) fun _ _ h'=>h'.elim))
theorem y73{M:Model}{A:Around}{E:Value->Shared->Prop}{globals:Addr}{cl:List (Str×Addr)}{outer:Env}{Q:Env->Shared->Prop}
  (hQ:Q (newEnv scope s.heap.objs.size globals (cellsFrom (s.heap.objs.size+1) scope.names cl) qual none .none (some outer) builtinsNs)
    { s with heap:=pushCells (s.heap.push { cls:=.type "dict",data:=.dict #[] }) scope.names }) :
  wpAny M A (newFunctionEnv scope globals cl [] qual none .none (some outer)) Q E s:=by
 simp only[newFunctionEnv,Option.isSome_some,if_true]
 refine wpAny_bind (wpAny_alloc ?_)
 refine wpAny_bind (wpAny_layCells _ (fun name kind cells=>by cases hkc:kind==NameKind.cell<;>simp[hkc]) _ _ _ _ ?_)
 rw[show({ s with heap:=s.heap.push { cls:=.type "dict",data:=.dict #[] } }:Shared).heap.objs.size=s.heap.objs.size+1 from Heap.size_push ..]
 refine wpAny_bind ?_
 rw[List.forIn_nil]
 exact wpAny_pure (wpAny_pure hQ)
def x2f (cells:List (Str×Addr)):List (Str×NameKind)->List (Str×Addr)->List (Str×Addr)
 | [],acc=>acc
 | (n,k)::r,acc=>if k == .free then(match cells.lookup n with
   | some c=>x2f cells r ((n,c)::acc)
   | none=>x2f cells r acc)else x2f cells r acc
theorem x9h(h:∀ y∈scope.names,y.2=.free->∃ c,env.cells.lookup y.1=some c):closureFor scope env=pure (x2f env.cells scope.names []):=by
 unfold closureFor
 have key:∀ (names:List (Str×NameKind)) (acc:List (Str×Addr)),(∀ y∈names,y.2=.free->∃ c,env.cells.lookup y.1=some c)->
   (forIn names acc (fun(x:Str×NameKind) (r:List (Str×Addr))=>(match x with
     | (name,kind)=>if(kind==NameKind.free)=true then do
       let c <- cellOf env name
       pure (ForInStep.yield ((name,c)::r))
      else pure (ForInStep.yield r):Sem (ForInStep (List (Str×Addr))))))=(pure (x2f env.cells names acc):Sem (List (Str×Addr))):=by
  intro names
  induction names with
  | nil=>intro acc _;rfl
  | cons y r ih=>
   intro acc hh
   obtain⟨n,kd⟩:=y
   rw[List.forIn_cons]
   unfold x2f
   by_cases hk:(kd==NameKind.free)=true
   ·obtain⟨c,hc⟩:=hh (n,kd) List.mem_cons_self (by simpa using hk)
    have hc':env.cells.lookup n=some c:=hc
    simp only[hk,if_true,hc']
    have e:cellOf env n=pure c:=by unfold cellOf;rw[hc']
    rw[e]
    exact ih ((n,c)::acc) fun z hz=>hh z (List.mem_cons_of_mem _ hz)
   ·simp only[hk]
    exact ih acc fun z hz=>hh z (List.mem_cons_of_mem _ hz)
 exact(congrArg (fun m=>m >>= fun cs=>(pure cs:Sem (List (Str×Addr)))) (key scope.names [] h)).trans rfl
theorem x61:∀ {names:List (Str×NameKind)} {acc:List (Str×Addr)},(∀ y c,(y,c)∈acc->cells.lookup y=some c)->∀ y c,(y,c)∈x2f cells names acc->cells.lookup y=some c
 | [],_,h,y,c,m=>h y c m
 | (n,k)::r,acc,h,y,c,m=>by
  unfold x2f at m
  split at m
  ·split at m
   ·rename_i c' e
    refine x61 (acc:=(n,c')::acc) (fun z d hz=>?_) y c m
    rcases List.mem_cons.mp hz with q|q
    ·cases q;exact e
    ·exact h z d q
   ·exact x61 h y c m
  ·exact x61 h y c m
theorem x5x:∀ {names:List (Str×NameKind)} {acc:List (Str×Addr)} {y:Str},(acc.lookup y).isSome=true->((x2f cells names acc).lookup y).isSome=true
 | [],_,_,h=>h
 | (n,k)::r,acc,y,h=>by
  unfold x2f
  split
  ·split
   ·refine x5x ?_
    rw[List.lookup_cons]
    split
    ·rfl
    ·exact h
   ·exact x5x h
  ·exact x5x h
theorem x4x(hc:cells.lookup y=some c):∀ {names:List (Str×NameKind)} {acc:List (Str×Addr)},(y,NameKind.free)∈names->((x2f cells names acc).lookup y).isSome=true
 | (n,k)::r,acc,h=>by
  unfold x2f
  rcases List.mem_cons.mp h with q|q
  ·cases q
   simp only[hc]
   rw[if_pos (by rfl)]
   refine x5x ?_
   rw[List.lookup_cons,beq_self_eq_true]
   rfl
  ·split
   ·split
    ·exact x4x hc q
    ·exact x4x hc q
   ·exact x4x hc q
theorem x64:∀ {names:List (Str×NameKind)} {h:Heap} {acc:List (Str×Addr)} {y:Str} {c:Addr},(y,c)∈cellsFrom h.objs.size names acc->(y,c)∈acc\/(h.objs.size<=c/\(pushCells h names).IsCell c none)
 | [],_,_,_,_,m=>.inl m
 | (n,k)::r,h,acc,y,c,m=>by
  unfold cellsFrom at m
  unfold pushCells
  split at m
  ·rename_i hk
   rw[if_pos hk]
   have m':(y,c)∈cellsFrom (h.push { cls:=.type "cell",data:=.cell none }).objs.size r ((n,h.objs.size)::acc):=by rw[Heap.size_push];exact m
   rcases x64 m' with q|⟨q1,q2⟩
   ·rcases List.mem_cons.mp q with e|q
    ·cases e
     refine .inr ⟨Nat.le_refl _,_,pushCells_keeps _ _ _ _ (Heap.get?_push_size _ rfl),rfl⟩
    ·exact .inl q
   ·rw[Heap.size_push]at q1
    exact .inr ⟨by omega,q2⟩
  ·rename_i hk
   rw[if_neg hk]
   exact x64 m
theorem x5w:∀ {names:List (Str×NameKind)} {n:Nat} {acc:List (Str×Addr)},(∀ y c,(y,c)∈acc->c<n)->(∀ x y c,(x,c)∈acc->(y,c)∈acc->x=y)->∀ x y c,(x,c)∈cellsFrom n names acc->(y,c)∈cellsFrom n names acc->x=y
 | [],_,_,_,h=>h
 | (nm,k)::r,n,acc,hlt,h=>by
  unfold cellsFrom
  split
  ·refine x5w (n:=n+1) (acc:=(nm,n)::acc) (fun y c m=>?_) (fun x y c m1 m2=>?_)
   ·rcases List.mem_cons.mp m with e|m
    ·cases e;exact Nat.lt_succ_self _
    ·exact Nat.lt_succ_of_lt (hlt y c m)
   ·rcases List.mem_cons.mp m1 with e1|m1<;>rcases List.mem_cons.mp m2 with e2|m2
    ·cases e1;cases e2;rfl
    ·cases e1;exact absurd (hlt y _ m2) (Nat.lt_irrefl _)
    ·cases e2;exact absurd (hlt x _ m1) (Nat.lt_irrefl _)
    ·exact h x y c m1 m2
  ·exact x5w hlt h
theorem x6a:∀ {names:List (Str×NameKind)} {n:Nat} {acc:List (Str×Addr)},lo<=n->(∀ c,acc.lookup y=some c->lo<=c)->∀ c,(cellsFrom n names acc).lookup y=some c->lo<=c
 | [],_,_,_,h=>h
 | (nm,k)::r,n,acc,hn,h=>by
  unfold cellsFrom
  split
  ·refine x6a (n:=n+1) (by omega) fun c e=>?_
   rw[List.lookup_cons]at e
   split at e
   ·cases e;exact hn
   ·exact h c e
  ·exact x6a hn h
theorem x74:∀ {names:List (Str×NameKind)} {n:Nat} {acc:List (Str×Addr)},lo<=n->(y,NameKind.cell)∈names->∀ c,(cellsFrom n names acc).lookup y=some c->lo<=c
 | (nm,k)::r,n,acc,hn,h=>by
  unfold cellsFrom
  rcases List.mem_cons.mp h with q|q
  ·cases q
   rw[if_pos (by rfl)]
   refine x6a (n:=n+1) (by omega) fun c e=>?_
   rw[List.lookup_cons,beq_self_eq_true]at e
   cases e;exact hn
  ·split
   ·exact x74 (n:=n+1) (by omega) q
   ·exact x74 hn q
theorem x4n:∀ {names:List (Str×NameKind)} {n:Nat} {acc:List (Str×Addr)},(y,NameKind.cell) ∉ names->(cellsFrom n names acc).lookup y=acc.lookup y
 | [],_,_,_=>rfl
 | (nm,k)::r,n,acc,h=>by
  unfold cellsFrom
  split
  ·rename_i hk
   rw[x4n (fun z=>h (List.mem_cons_of_mem _ z)),List.lookup_cons]
   have hne:(y==nm)=false:=by
    cases e:y==nm with
    | false=>rfl
    | true=>
     have e1:y=nm:=beq_iff_eq.mp e
     have e2:k=NameKind.cell:=by simpa using hk
     exact absurd (by rw[e1,<- e2];exact List.mem_cons_self) h
   rw[hne]
  ·exact x4n fun z=>h (List.mem_cons_of_mem _ z)
def y6k (env:Env)(y:Str)(k:NameKind):NameKind:=if(k==NameKind.free&&env.scope.kind == .function&&env.kindOf y==some .cell)then .cell else k
theorem x5h{env:Env}{y:Str}:∀ (names:List (Str×NameKind)),(names.map fun(n,k)=>if(k==NameKind.free&&env.scope.kind == .function&&env.kindOf n==some .cell)then(n,NameKind.cell)else(n,k)).lookup y=(names.lookup y).map (y6k env y)
 | []=>rfl
 | (n,k)::r=>by
  have ih:=x5h (env:=env) (y:=y) r
  show List.lookup y ((if(k==NameKind.free&&env.scope.kind == .function&&env.kindOf n==some .cell)=true then(n,NameKind.cell)else(n,k))::_)=_
  cases hx:y==n with
  | true=>
   have e:=beq_iff_eq.mp hx
   subst e
   rw[List.lookup_cons,List.lookup_cons]
   by_cases hc:(k==NameKind.free&&env.scope.kind == .function&&env.kindOf y==some .cell)=true
   ·simp only[y6k,hc,if_true,beq_self_eq_true,Option.map_some]
   ·simp only[y6k,hc,beq_self_eq_true,Option.map_some]
    simp
  | false=>
   by_cases hc:(k==NameKind.free&&env.scope.kind == .function&&env.kindOf n==some .cell)=true
   ·rw[if_pos hc,List.lookup_cons,List.lookup_cons];simp only[hx];exact ih
   ·rw[if_neg hc,List.lookup_cons,List.lookup_cons];simp only[hx];exact ih
theorem y5p{l:List (Str×NameKind)}(hn:(l.map (·.1)).Nodup){k:NameKind}(h:(y,k)∈l):l.lookup y=some k:=by
 induction l with
 | nil=>cases h
 | cons p r ih=>
  rw[List.lookup_cons]
  rcases List.mem_cons.mp h with e|h
  ·rw[<- e,beq_self_eq_true]
  ·have hne:y≠p.1:=fun e=>by
    have:=(List.nodup_cons.mp hn).1
    exact this (by show p.1∈_;rw[<- e];exact List.mem_map.mpr ⟨(y,k),h,rfl⟩)
   have:(y==p.1)=false:=by simpa using hne
   rw[this]
   exact ih (List.nodup_cons.mp hn).2 h
def z27 (scope:Scope)(env:Env)(C:Addr):Env:=
 { newEnv scope C env.globals (cellsFrom (C+1) scope.names (x2f env.cells scope.names [])) env.qual none .none (some env) builtinsNs with scope:=relabel scope env }
def x24 (X:Cx)(N':List Str)(scope:Scope)(C:Addr)(s:Shared)(H:Hp)(fp:List Addr):Cx where
 prog:=X.prog
 w:=X.w
 K:=X.K
 mg:=X.mg
 base:=X.base
 A:=X.A
 N:=N'
 s₀:=s
 H₀:=H
 env:=z27 scope X.env C
 outer:=X.stack
 stack:=X.stack
 ex:=fp
 fn:=fun y=>scope.names.lookup y==some .cell
 calm:=X.calm
 pn:=[]
 xe:=fun _ _=>False
structure CompOk (X:Cx) (k:Nat) (N':List Str) (scope:Scope):Prop where
 kind:scope.kind=.function
 names:(scope.names.map (·.1)).Nodup
 len:N'.length=X.N.length+k
 frees:(scope.names.all fun y=>y.2 != .free||X.env.kindOf y.1==some .cell||X.env.kindOf y.1==some .free)=true
 outs:((N'.zip X.N).all fun p=>(p.1==p.2&&scope.names.lookup p.1==some .free)||scope.names.lookup p.1==none||scope.names.lookup p.1==some .globalImplicit)=true
theorem CompOk.free{k:Nat}(S:CompOk X k N' scope)(h:(y,NameKind.free)∈scope.names):X.env.kindOf y=some .cell\/X.env.kindOf y=some .free:=by
 have:=List.all_eq_true.mp S.frees (y,NameKind.free) h
 simp only[Bool.or_eq_true,bne_iff_ne,ne_eq,beq_iff_eq]at this
 rcases this with(h1|h1)|h1
 ·exact absurd trivial h1
 ·exact .inl h1
 ·exact .inr h1
theorem CompOk.out{k:Nat}(S:CompOk X k N' scope)(hi':i<X.N.length)(h:N'[i]? = some y)(hv:Vis (relabel scope X.env) y):X.N[i]? = some y/\scope.names.lookup y=some .free:=by
 have e2:X.N[i]? = some X.N[i]:=by simp[hi']
 have m:(y,X.N[i])∈N'.zip X.N:=List.mem_of_getElem? (i:=i) (by rw[List.getElem?_zip_eq_some];exact⟨h,e2⟩)
 have:=List.all_eq_true.mp S.outs _ m
 simp only[Bool.or_eq_true,Bool.and_eq_true,beq_iff_eq]at this
 have hl:(relabel scope X.env).names.lookup y=(scope.names.lookup y).map (y6k X.env y):=x5h _
 rcases this with(⟨h1,h2⟩|h1)|h1
 ·exact⟨by rw[e2,<- h1],h2⟩
 ·rw[h1]at hl
  rcases hv with z|z|z<;>(rw[hl]at z;cases z)
 ·rw[h1]at hl
  have hr:y6k X.env y .globalImplicit=.globalImplicit:=rfl
  rw[Option.map_some,hr]at hl
  rcases hv with z|z|z<;>(rw[hl]at z;cases z)
theorem Un.updNew{fs ex:List Addr}{D:Addr}{o:HO}(u:Un fs ex H H' h h')(hok:HOk P w H h)(hD:h.objs.size<=D):Un fs ex H (upd H' D o) h h':=by
 have ne:∀ b ob,h.get? b=some ob->b≠D:=fun b ob e z=>absurd (Nat.lt_of_lt_of_le (Heap.lt_size e) hD) (by rw[z];exact Nat.lt_irrefl _)
 have ne':∀ b x,H b=some x->b≠D:=fun b x e z=>absurd (Nat.lt_of_lt_of_le (hok.lt e) hD) (by rw[z];exact Nat.lt_irrefl _)
 refine⟨u.keep,u.slot,fun b ob e n hx=>?_,u.there,fun b xs e=>?_,fun b ob x e=>?_,fun b ps e=>?_⟩
 ·rw[x0h (ne b ob e)];exact u.free b ob e n hx
 ·rw[x0h (ne' b _ e)];exact u.tups b xs e
 ·rw[x0h (ne' b _ e)];exact u.frzs b ob x e
 ·rw[x0h (ne' b _ e)];exact u.tbls b ps e
theorem HOk.add{D:Addr}{o:HO}(x:HOk P w H h)(hn:H D=none)(new:x29 P w (upd H D o) h D o):HOk P w (upd H D o) h:=fun b u e=>by
 by_cases hb:b=D
 ·subst hb;rw[x0t]at e;cases e;exact new
 ·rw[x0h hb]at e
  exact(x b u e).stay (fun c v _ q=>q) (fun c q=>by rw[x0h (x0r q hn)];exact q) fun c xs q=>by rw[x0h (x0r q hn)];exact q
def PTs (X:Cx)(ifs:List Expr)(t:TT):Prop:=
 ∀ (pins:List (Addr×Obj)) (s:Shared) (σ:St) (H:Hp) (Q:Bool->Hp->Prop),Inv X pins σ H s->t σ H Q->
  wpAny (model X.prog X.w) X.A (forIn ifs true fun c r=>if r=true then do let ok <- isTrue c X.env (eval c X.env);pure (ForInStep.yield ok)else pure (ForInStep.yield r)) (TP X pins σ Q) X.xe s
def j78:TT:=fun _ H Q=>Q true H
theorem z2m:PTs X [] j78:=fun pins s σ H Q I h=>wpAny_tests_nil ⟨H,I,h⟩
theorem j0d{c:Expr}{t:TT}(h:PT X c t):PTs X [c] t:=fun pins s σ H Q I q=>wpAny_tests_one (h pins s σ H Q I q)
def j28 (k:Nat)(g:TG)(tt:TT)(te:TE)(σ:St)(J:It)(H:Hp)(Fin:List V->Hp->Prop):Prop:=
 ∃ W:Nat->Nat->List V->Hp->Prop,(∃ m,W 0 m [] H)/\∀ i m ys H2,W i m ys H2->ys.length<=sizeLine /\
  ((J.stop i H2/\Fin ys H2)\/(J.go i H2/\ys.length<sizeLine/\∀ x H3,J.yld i H2 x H3->g x (σ++List.replicate k none) H3 fun σ4 H4=>(∃ τ,σ4=σ++τ/\τ.length=k) /\
    tt σ4 H4 fun b H5=>if b=true then te σ4 H5 fun v H6=>∃ m',m'<m/\W (i+1) m' (ys++[v]) H6 else ∃ m',m'<m/\W (i+1) m' ys H5))
def z30 (k:Nat)(wi:TI)(g:TG)(tt:TT)(te:TE):TE:=fun σ H Q=>wi σ H fun J H1=>j28 k g tt te σ J H1 fun ys H2=>∀ p,H2 p=none->Q (.ref p) (upd H2 p (.lst ys))
def lsO (us:List Value)(n:Nat):Obj:={ cls:=.type "list",data:=.seq us.toArray n }
theorem j4a{τ:St}(I:Inv X pins (σ++τ) H s):Inv X pins (σ++List.replicate τ.length none) H s:=
 I.weak (by simp) fun i v e=>by
  by_cases hi:i<σ.length
  ·rw[List.getElem?_append_left hi]at e ⊢
   exact e
  ·rw[List.getElem?_append_right (by omega),List.getElem?_replicate]at e
   split at e<;>cases e
section
variable {X:Cx}{k:Nat}{N':List Str}{scope:Scope}{pins:List (Addr×Obj)}{σ:St}{H2:Hp}{s2:Shared}{fp:List Addr}
abbrev x8q (scope:Scope)(s2:Shared):Heap:=pushCells ((s2.heap.push (lsO [] 0)).push { cls:=.type "dict",data:=.dict #[] }) scope.names
theorem z60(S:CompOk X k N' scope)(I2:Inv X pins σ H2 s2)(f2:∀ b∈fp,z44 X pins H2 b)(hfp:∀ b∈fp,b<s2.heap.objs.size) :
  Inv (x24 X N' scope (s2.heap.objs.size+1) s2 H2 fp) [(s2.heap.objs.size,lsO [] 0)] (σ++List.replicate k none) H2 { s2 with heap:=x8q scope s2 }:=by
 have e1:(s2.heap.push (lsO [] 0)).objs.size=s2.heap.objs.size+1:=Heap.size_push ..
 have e2:((s2.heap.push (lsO [] 0)).push { cls:=.type "dict",data:=.dict #[] }).objs.size=s2.heap.objs.size+1+1:=by rw[Heap.size_push,e1]
 have keep:∀ b o,s2.heap.get? b=some o->(x8q scope s2).get? b=some o:=fun b o e=>pushCells_keeps _ _ b o (Heap.get?_push_of_some _ (Heap.get?_push_of_some _ e))
 have hsub:∀ y c,(y,c)∈x2f X.env.cells scope.names []->X.env.cells.lookup y=some c:=x61 (fun _ _ m=>nomatch m)
 have cmem:∀ y c,(y,c)∈cellsFrom (s2.heap.objs.size+1+1) scope.names (x2f X.env.cells scope.names [])->X.env.cells.lookup y=some c\/(s2.heap.objs.size+1+1<=c/\(x8q scope s2).IsCell c none):=fun y c m=>by
  have m':(y,c)∈cellsFrom ((s2.heap.push (lsO [] 0)).push { cls:=.type "dict",data:=.dict #[] }).objs.size scope.names (x2f X.env.cells scope.names []):=by rw[e2];exact m
  rcases x64 m' with q|⟨q1,q2⟩
  ·exact .inl (hsub y c q)
  ·rw[e2]at q1;exact .inr ⟨q1,q2⟩
 have clt:∀ y c,X.env.cells.lookup y=some c->c<s2.heap.objs.size:=fun y c e=>by obtain⟨v,z⟩:=I2.cell y c e;exact z.lt
 have hl:∀ y,(relabel scope X.env).names.lookup y=(scope.names.lookup y).map (y6k X.env y):=fun y=>x5h _
 have ok:(x24 X N' scope (s2.heap.objs.size+1) s2 H2 fp).Ok:=by
  refine⟨I2.ok.mod,S.kind,I2.ok.glob,I2.ok.blt,Nat.le_succ _,fun x y c h1 h2=>?_,fun x hx=>?_,fun x c hf h=>?_,I2.ok.hd,I2.ok.frames,.inl rfl,fun b hb=>⟨?_,fun x c h z=>?_⟩,I2.bs,Nat.le_trans I2.ok.bsz I2.sz,fun b o e hb=>?_,fun b hb z=>?_,I2.stack,I2.stkFree⟩
  ·refine x5w (n:=s2.heap.objs.size+1+1) (names:=scope.names) (acc:=x2f X.env.cells scope.names []) (fun y c m=>?_) (fun x y c m1 m2=>?_) x y c (PySem.mem_of_lookup h1) (PySem.mem_of_lookup h2)
   ·exact Nat.lt_of_lt_of_le (clt y c (hsub y c m)) (by omega)
   ·exact I2.ok.inj x y c (hsub x c m1) (hsub y c m2)
  ·have hx':(relabel scope X.env).names.lookup x=some .cell\/(relabel scope X.env).names.lookup x=some .free:=hx
   rw[hl x]at hx'
   have:scope.names.lookup x=some .cell\/scope.names.lookup x=some .free:=by
    cases e:scope.names.lookup x with
    | none=>rw[e]at hx';rcases hx' with z|z<;>cases z
    | some kd=>
     rw[e,Option.map_some]at hx'
     cases kd<;>first
      | exact .inl rfl
      | exact .inr rfl
      | (rcases hx' with z|z<;>(have z':=Option.some.inj z;unfold y6k at z';simp at z'))
   rcases this with q|q
   ·exact Option.isSome_iff_exists.mp (PySem.W.cellsFrom_some scope.names (s2.heap.objs.size+1+1) _ (.inl q))
   ·have qm:=PySem.mem_of_lookup q
    have hk:=S.free qm
    obtain⟨c,hc⟩:=I2.ok.has x hk
    exact Option.isSome_iff_exists.mp (PySem.W.cellsFrom_some scope.names (s2.heap.objs.size+1+1) _ (.inr (x4x hc qm)))
  ·have hf':(scope.names.lookup x==some .cell)=true:=hf
   have:=x74 (lo:=s2.heap.objs.size) (n:=s2.heap.objs.size+1+1) (acc:=x2f X.env.cells scope.names []) (by omega) (PySem.mem_of_lookup (beq_iff_eq.mp hf')) c h
   exact this
  ·have:=hfp b hb
   show b≠s2.heap.objs.size+1
   exact Nat.ne_of_lt (Nat.lt_of_lt_of_le this (Nat.le_succ _))
  ·have q:=hfp b hb
   rcases cmem x c (PySem.mem_of_lookup h)with w|⟨w,_⟩
   ·exact(f2 b hb).2.2.2.2.1 x c w z
   ·subst z;exact absurd (Nat.lt_of_lt_of_le q (Nat.le_trans (by omega) w)) (Nat.lt_irrefl _)
  ·rcases(f2 b hb).2.2.2.1 with z|z
   ·exact I2.ok.noex b o e z
   ·have:=Heap.lt_size e
    have:=I2.ok.bsz
    exact absurd (Nat.lt_of_lt_of_le (Heap.lt_size e) (Nat.le_trans I2.ok.bsz z)) (Nat.lt_irrefl _)
  ·rcases List.mem_cons.mp (I2.stkSub b z)with q|q
   ·exact(f2 b hb).2.1 q
   ·exact(f2 b hb).2.2.1 q
 obtain⟨m,hn,hloc⟩:=id I2.loc
 refine⟨ok,rfl,I2.bare,Un.kept keep,⟨fun _=>none,?_,fun i y v h1 h2 h3=>?_⟩,fun y c h=>?_,I2.hok.fresh (Nat.le_succ _),fun y c h=>?_,fun p hp=>?_,I2.hok.kept keep,?_⟩
 ·have:=(Heap.Ns.new (s2.heap.push (lsO [] 0)) (.type "dict")).keeps (pushCells_keeps scope.names _)
  rw[e1]at this
  exact this
 ·by_cases hi:i<σ.length
  ·have h3':Vis (relabel scope X.env) y:=h3
   obtain⟨o1,o2⟩:=S.out (by rw[<- I2.len];exact hi) h1 h3'
   have hk:=S.free (PySem.mem_of_lookup o2)
   have hs:σ[i]? = some (some v):=by
    rw[List.getElem?_append_left hi]at h2
    exact h2
   obtain⟨u,r,l⟩:=hloc i y v o1 hs (.inr hk)
   refine⟨u,r,?_⟩
   rcases l with⟨l,_⟩|⟨_,c,hc,hcell⟩
   ·rcases hk with z|z<;>(rw[l]at z;cases z)
   ·refine .inr ⟨?_,c,?_,hcell.keeps keep⟩
    ·show(relabel scope X.env).names.lookup y=some .cell\/(relabel scope X.env).names.lookup y=some .free
     rw[hl y,o2,Option.map_some]
     unfold y6k
     split
     ·exact .inl rfl
     ·exact .inr rfl
    ·show(cellsFrom (s2.heap.objs.size+1+1) scope.names (x2f X.env.cells scope.names [])).lookup y=some c
     rw[x4n (fun z=>by have:=y5p S.names z;rw[o2]at this;cases this)]
     obtain⟨c',hc'⟩:=Option.isSome_iff_exists.mp (x4x (acc:=[]) hc (PySem.mem_of_lookup o2))
     have:=hsub y c' (PySem.mem_of_lookup hc')
     rw[hc]at this;cases this
     exact hc'
  ·rw[List.getElem?_append_right (by omega),List.getElem?_replicate]at h2
   split at h2<;>cases h2
 ·rcases cmem y c (PySem.mem_of_lookup h)with w|⟨_,w⟩
  ·obtain⟨v,z⟩:=I2.cell y c w
   exact⟨v,z.keeps keep⟩
  ·exact⟨_,w⟩
 ·rcases cmem y c (PySem.mem_of_lookup h)with w|⟨w,_⟩
  ·exact I2.freeC y c w
  ·exact I2.hok.fresh (by omega)
 ·have e:p=(s2.heap.objs.size,lsO [] 0):=by
   have:p ∈ [(s2.heap.objs.size,lsO [] 0)]:=hp
   simpa using this
  subst e
  refine⟨pushCells_keeps _ _ _ _ (Heap.get?_push_of_some _ (Heap.get?_push_size _ rfl)),I2.hok.fresh (Nat.le_refl _),?_,fun z=>?_,fun v z=>nomatch z⟩
  ·show s2.heap.objs.size≠s2.heap.objs.size+1
   omega
  ·have z':s2.heap.objs.size∈frs X.stack:=z
   rcases List.mem_cons.mp (I2.stkSub _ z')with q|q
   ·exact absurd I2.lt (by rw[<- q];exact Nat.lt_irrefl _)
   ·exact I2.nofs (Nat.le_refl _) q
 ·rw[List.length_append,List.length_replicate,I2.len]
  exact S.len.symm
theorem z5r{us:List Value}{ys:List V}{s':Shared}{σ':St}(I2:Inv X pins σ H2 s2)(f2:∀ b∈fp,z44 X pins H2 b)
  (I3:Inv (x24 X N' scope C s2 H2 fp) [(s2.heap.objs.size,lsO us n)] σ' H' s') (r:x28 ys us) (hz:ys.length<=sizeLine):Inv X pins σ (upd H' s2.heap.objs.size (.lst ys)) s':=by
 obtain⟨e,hn,_⟩:=I3.pin (s2.heap.objs.size,lsO us n) (List.mem_append_right _ (List.mem_singleton.mpr rfl))
 have u:Un (frs X.stack) fp H2 H' s2.heap s'.heap:=I3.base
 exact I2.call' (ch:=fp) I3.os (u.updNew I2.hok (Nat.le_refl _)) (I3.hok.add hn ⟨hz,us,n,r,e⟩) I3.bare fun b hb=>⟨(f2 b hb).2.2.2.1,(f2 b hb).2.1,(f2 b hb).2.2.2.2⟩
end
theorem y9j{k:Nat}{H2:Hp}{s2:Shared}{fp:List Addr}{tg:Expr}{it:Addr}{tn:Nat->Heap->Prop}{J:It}{g:TG}{tt:TT}{te:TE}{Fin:List V->Hp->Prop}{E:Value->Shared->Prop}{RR:Value->Addr->Result->Shared->Prop}
  (hc:X.calm=true) (S:CompOk X k N' scope) (hg:∀ C s H fp,PG (x24 X N' scope C s H fp) tg g) (ht:∀ C s H fp,PTs (x24 X N' scope C s H fp) ifs tt) (he:∀ C s H fp,PE (x24 X N' scope C s H fp) elt te)
  (I2:Inv X pins σ H2 s2) (T:Turn X.prog X.w X.K tg J fp it tn) (st2:tn 0 s2.heap) (f2:∀ b∈fp,z44 X pins H2 b) (R:j28 k g tt te σ J H2 Fin)
  (hRR:∀ C ys H' s' m',Inv X pins σ (upd H' s2.heap.objs.size (.lst ys)) s'->s'.heap.Ns C m'->H' s2.heap.objs.size=none->upd H' s2.heap.objs.size (.lst ys) C=none->C≠X.env.locals->X.s₀.heap.objs.size<=C->s2.heap.objs.size<C->
    Fin ys H'->RR (.ref s2.heap.objs.size) C (.ok .next) s') :
  wpAny (model X.prog X.w) X.A (newList []) (fun acc s₃=>wpAny (model X.prog X.w) X.A (newFunctionEnv scope X.env.globals (x2f X.env.cells scope.names []) [] X.env.qual none .none (some X.env)) (fun cenv s₄=>
   codeAny (model X.prog X.w) X.A (.compStart (.ListComp elt [⟨tg,iter,ifs,0⟩] scope pos) 0 (.ref it) acc { cenv with scope:=relabel scope X.env }) (RR acc cenv.locals) s₄) E s₃) E s2:=by
 refine wpAny_newObj_type (y73 ?_)
 have e1:(s2.heap.push (lsO [] 0)).objs.size=s2.heap.objs.size+1:=Heap.size_push ..
 have hfp:∀ b∈fp,b<s2.heap.objs.size:=fun b hb=>by obtain⟨o,e,_⟩:=T.obj _ _ st2 b hb;exact Heap.lt_size e
 obtain⟨W,⟨m0,w0⟩,turn⟩:=R
 have I3:=z60 S I2 f2 hfp
 have st3:tn 0 (x8q scope s2):=T.keep _ _ _ st2 fun b hb o e=>pushCells_keeps _ _ b o (Heap.get?_push_of_some _ (Heap.get?_push_of_some _ e))
 have hDC:s2.heap.objs.size≠s2.heap.objs.size+1:=by omega
 -- what stays true of the iterator's objects
 have stat:∀ {H':Hp} {us:List Value} {n:Nat},(∀ b∈fp,H' b=none)->∀ b∈fp,z44 (x24 X N' scope (s2.heap.objs.size+1) s2 H2 fp) [(s2.heap.objs.size,lsO us n)] H' b:=fun {H' us n} hn b hb=>by
  have q:=I3.ok.exf b hb
  refine⟨hn b hb,q.1,I3.ok.exfs b hb,.inl hb,q.2,fun p hp z=>?_⟩
  have hp':p ∈ [(s2.heap.objs.size,lsO us n)]:=hp
  have e:p=(s2.heap.objs.size,lsO us n):=by simpa using hp'
  subst e
  have:=hfp b hb
  have z':s2.heap.objs.size=b:=z
  exact absurd this (by rw[z'];exact Nat.lt_irrefl _)
 have loop:∀ it',it'=Value.ref it->codeAny (model X.prog X.w) X.A (.compLoop (.ListComp elt [⟨tg,iter,ifs,0⟩] scope pos) 0 it' (.ref s2.heap.objs.size) (z27 scope X.env (s2.heap.objs.size+1))) (RR (.ref s2.heap.objs.size) (s2.heap.objs.size+1)) { s2 with heap:=x8q scope s2 }:=by
  rintro _ rfl
  refine y5u (fun n s'=>∃ i ys us cnt H',Inv (x24 X N' scope (s2.heap.objs.size+1) s2 H2 fp) [(s2.heap.objs.size,lsO us cnt)] (σ++List.replicate k none) H' s'/\tn i s'.heap/\(∀ b∈fp,H' b=none)/\x28 ys us/\W i n ys H') ?_ m0
   ⟨0,[],[],0,H2,I3,st3,fun b hb=>(f2 b hb).1,.nil,w0⟩
  rintro n s3 ⟨i,ys,us,cnt,H3,J3,st,fr,r3,w3⟩
  obtain⟨hz,hw⟩:=turn i n ys H3 w3
  rcases hw with⟨stop,fin⟩|⟨go,hlt,step⟩
  ·refine thn (T.done (x24 X N' scope (s2.heap.objs.size+1) s2 H2 fp) rfl rfl rfl hc i _ s3 _ H3 _ J3 (stat fr) st stop) fun rr s4 ⟨hr,I4⟩=>?_
   subst hr
   obtain⟨m',hn',_⟩:=id I4.loc
   obtain⟨eD,nD,_⟩:=I4.pin (s2.heap.objs.size,lsO us cnt) (List.mem_append_right _ (List.mem_singleton.mpr rfl))
   refine hRR (s2.heap.objs.size+1) ys H3 s4 m' (z5r I2 f2 I4 r3 hz) hn' nD ?_ ?_ ?_ (Nat.lt_succ_self _) fin
   ·rw[x0h (Ne.symm hDC)];exact I4.free
   ·exact Ne.symm (Nat.ne_of_lt (Nat.lt_of_lt_of_le I2.lt (Nat.le_succ _)))
   ·have:=I2.sz;omega
  ·refine thn (T.item (x24 X N' scope (s2.heap.objs.size+1) s2 H2 fp) rfl rfl rfl hc i _ s3 _ H3 _ J3 (stat fr) st go) fun rr s4 ⟨u,hr,h4⟩=>?_
   subst hr
   refine thn h4 fun _ s5 hh0=>?_
   obtain⟨x,H5,I5,r5,y5,st5,fr5⟩:=hh0
   have I5':=I5.pinned (stat fr5) (T.obj _ _ st5)
   refine thn (hg _ _ _ _ _ s5 _ H5 x u _ I5' r5 (step x H5 y5)) fun _ s6 ⟨σ6,H6,I6,⟨τ,e6,l6⟩,q6⟩=>?_
   subst e6
   refine thn (ht _ _ _ _ _ s6 _ H6 _ I6 q6) fun ok s7 hh0=>?_
   obtain⟨H7,I7,q7⟩:=hh0
   have kept:∀ {s':Shared} {H':Hp} {σ':St},Inv (x24 X N' scope (s2.heap.objs.size+1) s2 H2 fp) ([(s2.heap.objs.size,lsO us cnt)]++y0o fp s5.heap) σ' H' s'->tn (i+1) s'.heap/\∀ b∈fp,H' b=none:=fun {s' H' σ'} I'=>by
    refine⟨T.keep _ _ _ st5 fun b hb o e=>(I'.pin (b,o) (List.mem_append_right _ (List.mem_append_right _ (x7i hb e)))).1,fun b hb=>?_⟩
    obtain⟨o,e,d⟩:=T.obj _ _ st5 b hb
    exact(I'.pin (b,o) (List.mem_append_right _ (List.mem_append_right _ (x7i hb e)))).2.1
   cases ok with
   | false=>
    rw[if_neg (by decide)]at q7 ⊢
    obtain⟨m',hm,w7⟩:=q7
    have:=j4a I7.unpinned
    rw[l6]at this
    exact⟨m',hm,i+1,ys,us,cnt,H7,this,(kept I7).1,(kept I7).2,r3,w7⟩
   | true=>
    rw[if_pos rfl]at q7 ⊢
    refine thn (he _ _ _ _ _ s7 _ H7 _ I7 q7) fun u8 s8 hh0=>?_
    obtain⟨v,H8,I8,r8,m',hm,w8⟩:=hh0
    obtain⟨eD,nD,neD,nfD,dD⟩:=I8.pin (s2.heap.objs.size,lsO us cnt) (List.mem_append_right _ (List.mem_append_left _ (List.mem_singleton.mpr rfl)))
    refine append_at eD (fun h9 hs9 hD9=>?_) (hsz:=by rw[List.size_toArray,<- r3.length];exact Nat.le_of_lt hlt)
    have Ia:=I8.pins_of (pins':=y0o fp s5.heap) fun p hp=>I8.pin p (List.mem_append_right _ (List.mem_append_right _ hp))
    have nfp:∀ p∈y0o fp s5.heap,p.1≠s2.heap.objs.size:=fun p hp z=>by
     have:=hfp p.1 (y5i hp).1
     exact absurd this (by rw[z];exact Nat.lt_irrefl _)
    have Ib:=Ia.turned (h':=h9) (t':=s8.toks) (it:=s2.heap.objs.size) (fun b o hb e=>hs9.extBut b o hb e) nD neD (.inr (Nat.le_refl _)) (fun y c h z=>by
      obtain⟨vv,o,ho,hd⟩:=I8.cell y c h
      rw[z,eD]at ho
      cases ho
      cases hd) (fun p hp=>nfp p (by
      have hp':p ∈ []++y0o fp s5.heap:=hp
      simpa using hp'))
    have Ic:=Ib.pins_of (pins':=[(s2.heap.objs.size,lsO (us++[u8]) (cnt+1))]) fun p hp=>by
     have e:p=(s2.heap.objs.size,lsO (us++[u8]) (cnt+1)):=by simpa using hp
     subst e
     refine⟨?_,nD,neD,nfD,fun v z=>nomatch z⟩
     show h9.get? s2.heap.objs.size=_
     rw[hD9]
     unfold lsO
     simp
    have Id:=j4a Ic
    rw[l6]at Id
    have kp:=kept I8
    refine⟨m',hm,i+1,ys++[v],us++[u8],cnt+1,H8,Id,T.keep _ _ _ kp.1 fun b hb o e=>hs9.extBut b o (fun z=>by
     have:=hfp b hb
     have z':b=s2.heap.objs.size:=z
     exact absurd this (by rw[z'];exact Nat.lt_irrefl _)) e,kp.2,x28.append r3 (.cons r8 .nil),w8⟩
 have hC:(s2.heap.push { cls:=.type "list",dict:=none,data:=.seq ([]:List Value).toArray }).objs.size=s2.heap.objs.size+1:=Heap.size_push ..
 have fin:=codeAny_compStart_list (loop _ rfl) (T.self X.A 0 _ _ _ st3 (loop _ rfl))
 dsimp only at fin ⊢
 rw[hC]
 exact fin
theorem CompOk.locs{k:Nat}(S:CompOk X k N' scope):∀ y∈scope.names,y.2=.local->scope.names.lookup y.1=some .local:=fun y hy e=>by
 obtain⟨n,kd⟩:=y
 have e':kd=.local:=e
 subst e'
 exact y5p S.names hy
theorem y01{m:Str->Option Value}{v:Option Value}(hn:h.Ns C m)(hc:h.IsCell c v):c≠C:=fun z=>by
 obtain⟨o,es,ep,ho,hd,_⟩:=hn
 obtain⟨o',ho',hd'⟩:=hc
 rw[z,ho]at ho'
 cases ho'
 rw[hd]at hd'
 cases hd'
section
variable {X:Cx}{k:Nat}{N':List Str}{scope:Scope}{elt tg iter:Expr}{ifs:List Expr}{pos:Pos}{wi:TI}{g:TG}{tt:TT}{te:TE}
theorem z1n(hc:X.calm=true)(S:CompOk X k N' scope)(hi:PI X tg iter wi)(hg:∀ C s H fp,PG (x24 X N' scope C s H fp) tg g)(ht:∀ C s H fp,PTs (x24 X N' scope C s H fp) ifs tt)(he:∀ C s H fp,PE (x24 X N' scope C s H fp) elt te)
  (hs:∀ x,foldedSetIterable iter X.env x=pure x:=by intro _;rfl):PE X (.ListComp elt [⟨tg,iter,ifs,0⟩] scope pos) (z30 k wi g tt te):=by
 intro pins s σ H Q I h
 rw[eval_ListComp]
 refine wpAny_comprehension_free (use:=none) rfl hs (x9h fun y hy e=>?_) S.kind S.locs (thn (hi pins s σ H _ I h) fun v s1 h1=>thn h1 fun itv s2 h2=>?_)
 ·obtain⟨n,kd⟩:=y
  have e':kd=.free:=e
  subst e'
  exact I.ok.has n (S.free hy)
 ·obtain⟨it,fp,tn,J,H2,e,I2,T,st2,f2,R⟩:=h2
  subst e
  refine y9j hc S hg ht he I2 T st2 f2 R ?_
  intro C ys H' s' m' I' hn hD hCn hCL hCs hCD fin
  refine⟨m',hn,fun h' hs'=>⟨.ref s2.heap.objs.size,_,I'.turned (h':=h') (t':=s'.toks) (it:=C) (fun b o hb e=>hs'.extBut b o hb e) hCn hCL (.inr hCs) (fun x c h=>?_) (fun p hp z=>?_),rfl,fin _ hD⟩⟩
  ·obtain⟨v,q⟩:=I'.cell x c h
   exact y01 hn q
  ·have:=Heap.lt_size (I2.pin p hp).1
   exact absurd (Nat.lt_trans this hCD) (by rw[z];exact Nat.lt_irrefl _)
theorem j0b{py spos:Pos}(hN:X.N.Nodup)(hy:X.N[i]? = some y)(hx:Loc X.env.scope y)(hsw:swapsWith (.ListComp elt [⟨tg,iter,ifs,0⟩] scope pos) (some (.Name y py)) spos.line X.env=pure true)
  (hc:X.calm=true) (S:CompOk X k N' scope) (hi:PI X tg iter wi) (hg:∀ C s H fp,PG (x24 X N' scope C s H fp) tg g) (ht:∀ C s H fp,PTs (x24 X N' scope C s H fp) ifs tt) (he:∀ C s H fp,PE (x24 X N' scope C s H fp) elt te)
  (hs:∀ x,foldedSetIterable iter X.env x=pure x:=by intro _;rfl) (hf:X.fn y=true\/X.env.scope.names.lookup y=some .local:=by first|exact .inl rfl|exact .inr rfl|assumption) :
  PS X (.Assign [.Name y py] (.ListComp elt [⟨tg,iter,ifs,0⟩] scope pos) spos) (j64 (z30 k wi g tt te) (y78 i)):=by
 intro pins s σ H D I h
 rw[exec_Assign_Name_used _ _ _ _ hsw]
 refine wpAny_bind (wpAny_standAt (wpAny_bind ?_))
 show wpAny _ X.A (do let _ <- comprehension (.ListComp elt [⟨tg,iter,ifs,0⟩] scope pos) scope X.env _ (newList []) false (eval iter X.env) (some (assign (.Name y py) X.env))) _ _ s
 refine wpAny_bind (wpAny_mono (wpAny_comprehension_free (use:=some (assign (.Name y py) X.env)) (Q:=fun _ s'=>SP X pins D .next s') rfl hs (x9h fun z hz e=>?_) S.kind S.locs
  (thn (hi pins s σ H _ I h) fun v s1 h1=>thn h1 fun itv s2 h2=>?_)) (fun _ s' hq=>wpAny_pure (wpAny_pure hq)) fun _ _ e=>e)
 ·obtain⟨n,kd⟩:=z
  have e':kd=.free:=e
  subst e'
  exact I.ok.has n (S.free hz)
 ·obtain⟨it,fp,tn,J,H2,e,I2,T,st2,f2,R⟩:=h2
  subst e
  refine y9j hc S hg ht he I2 T st2 f2 R ?_
  intro C ys H' s' m' I' hn hD hCn hCL hCs hCD fin
  show wpAny _ X.A (assign (.Name y py) X.env (.ref s2.heap.objs.size)) _ _ _
  refine wpAny_assign_Name (y57 I' hN hy hx (v:=.ref s2.heap.objs.size) rfl (fun s'' I'' ⟨a,sb,ha⟩=>?_) hf)
  have hCa:C≠a:=fun z=>by
   rcases ha with q|q
   ·exact hCL (z.trans q)
   ·obtain⟨v,w⟩:=I'.cell y a q
    exact y01 hn w z.symm
  have hn2:=hn.sameBut sb hCa
  refine⟨m',hn2,fun h' hs'=>⟨_,_,I''.turned (h':=h') (t':=s''.toks) (it:=C) (fun b o hb e=>hs'.extBut b o hb e) hCn hCL (.inr hCs) (fun x c h=>?_) (fun p hp z=>?_),fin _ hD⟩⟩
  ·obtain⟨v,q⟩:=I''.cell x c h
   exact y01 hn2 q
  ·have:=Heap.lt_size (I2.pin p hp).1
   exact absurd (Nat.lt_trans this hCD) (by rw[z];exact Nat.lt_irrefl _)
end
end L2
namespace L3
open PySem PySem.Spec PyProof.Rows PySem.W L2
variable {M:Model}{Q:Value->Shared->Prop}{R:Result->Shared->Prop}{T:String}{h:Heap}
section
variable {prog:Program}{w:World}{A:Around}{E:Value->Shared->Prop}{s:Shared}{K:Frag}{x C:Addr}{ox:Obj}
structure XAt (h:Heap) (x:Addr) (ox:Obj) (C:Addr):Prop where
 at_:h.get? x=some ox
 cls:ox.cls=.ref C
theorem XAt.type(I:XAt h x ox C):Looks M h (typeOf (.ref x)) (.ref C):=I.cls ▸ (Looks.ld I.at_).andThen .now
structure XCls (K:Frag) (C:Addr):Prop where
 ci:(clsIn K C).isSome=true
 ga:findIn K (.ref C) "__getattribute__" = some (some (.builtin "BaseException.__getattribute__"))
 gt:findIn K (.ref C) "__getattr__" = some none
 cl:findIn K (.ref C) "__class__" = some (some (.builtin "object.__class__"))
 cg:specialIn K (.builtin "object.__class__") "__get__" = some (some (.builtin "getset_descriptor.__get__"))
 ct:takesIn K (.builtin "object.__class__")=some true
 mo:mroIn K C (.type "object")=some true
 mb:mroIn K C (.type "BaseException")=some true
theorem j10(X:K.In h)(I:XAt h x ox C)(XC:XCls K C):Looks M h (Builtin.ObjectAttr.find (.ref x) (.ref C) "__class__") (.bind (.builtin "getset_descriptor.__get__") (.builtin "object.__class__")):=by
 have L1:=looks_findIn (M:=M) X XC.cl
 have L2:Looks M h (Builtin.ObjectAttr.getOf (some (.builtin "object.__class__"))) _:=looks_specialIn (M:=M) X XC.cg
 have L3:=looks_takesIn (M:=M) X XC.ct
 exact L1.andThen (L2.andThen ((show Looks M h (Builtin.ObjectAttr.dataDescriptor? (some (.builtin "object.__class__")) (some (.builtin "getset_descriptor.__get__"))) (some ((.builtin "getset_descriptor.__get__"),(.builtin "object.__class__")))from L3.andThen .now).andThen (Looks.tag .now)))
theorem y8e{tp:Value}(X:K.In s.heap)(I:XAt s.heap x ox C)(hm:mroIn K C (.type "object")=some true)
  (h:R (.ok (.ret (.ref C))) s):codeAny (model prog w) A (.call (.builtin "getset_descriptor.__get__") ⟨[.builtin "object.__class__",.ref x,tp],[]⟩) R s:=by
 obtain⟨hh,g,dr,t,os⟩:=s
 have L0:=I.type (M:=model prog w)
 have L1:=looks_mroIn (M:=model prog w) X hm
 refine codeAny_call_builtin KF.slot_gs.plain KF.entry_gs (KF.slot_gs.check _ _ _ _ _ _ _ _ KF.type_class (KF.args_gs _ _ _) ?_)
 unfold Builtin.«getset_descriptor.__get__» Builtin.Getset_descriptor.descrGet
 rw[dga_obj]
 refine wpAny_bind (wpAny_pure ?_)
 unfold Builtin.Getset_descriptor.descrGetter Builtin.Getset_descriptor.descrCheckInstance Builtin.Getset_descriptor.descrNameAndClass isInstance
 simp only[KF.owner_class]
 repeat lk
 refine⟨Code.quiet_builtin _ (by decide +kernel),codeAny_builtin KF.entry_class ?_⟩
 unfold Builtin.«object.__class__» shownTypeOf
 repeat lk
 exact h
theorem z50{nameV:Value}{Q:Unit->Shared->Prop}(X:K.In s.heap)(I:XAt s.heap x ox C)(XC:XCls K C)(hq:Q () s):wpAny M A (checkBuiltinCall "BaseException.__getattribute__" ⟨[.ref x,nameV],[]⟩) Q E s:=by
 obtain⟨hh,g,d,t,os⟩:=s
 have L0:=I.type (M:=M)
 have L1:=looks_mroIn (M:=M) X XC.mb
 have hk:builtinKind "BaseException.__getattribute__" = some .slot:=by decide +kernel
 have hsplit:splitId "BaseException.__getattribute__" = some ("BaseException","__getattribute__"):=by decide +kernel
 have ha:=PySem.F.args_bexc_ga (.ref x) nameV
 simp only[checkBuiltinCall,hk,hsplit]
 unfold isInstance
 repeat lk
 exact hq
theorem j7p{tk:Tok}(X:K.In s.heap)(I:XAt s.heap x ox C)(XC:XCls K C)(h:R (.ok (.ret (.ref C))) s) :
  codeAny (model prog w) A (.call (.builtin "BaseException.__getattribute__") ⟨[.ref x,.str "__class__" tk],[]⟩) R s:=by
 refine codeAny_call_builtin PySem.F.excAttr_ValueError.ga.plain PySem.F.entry_bexc_ga (z50 X I XC ?_)
 obtain⟨hh,g,d,t,os⟩:=s
 have L0:=I.type (M:=model prog w)
 have L1:=j10 (M:=model prog w) X I XC
 show wpAny _ _ (Builtin.«object.__getattribute__» ⟨[.ref x,.str "__class__" tk],[]⟩) _ _ _
 refine wpAny_bind (wpAny_pure ?_)
 refine wpAny_bind (wpAny_pure ?_)
 refine wpAny_bind (L0.at (wpAny_bind (L1.at ?_)))
 show wpAny _ _ (holding [.builtin "object.__class__"] (call (.builtin "getset_descriptor.__get__") [.builtin "object.__class__",.ref x,.ref C]) >>= ret) _ _ _
 exact wpAny_bind (wpAny_holding (wpAny_call (y8e X I XC.mo (wpAny_pure h))))
theorem z4m{Q:Option Value->Shared->Prop}(X:K.In s.heap)(I:XAt s.heap x ox C)(XC:XCls K C)(h:Q (some (.ref C)) { s with toks:=s.toks+1 }):wpAny (model prog w) A (getAttr? (.ref x) "__class__") Q E s:=by
 obtain⟨hh,g,d,t,os⟩:=s
 have L0:=I.type (M:=model prog w)
 have L1:=looks_findIn (M:=model prog w) X XC.ga
 have L2:=looks_findIn (M:=model prog w) X XC.gt
 have f3:=PySem.F.excAttr_ValueError.ga.bind (.ref x)
 unfold getAttr? getAttrBy? getAttrBy
 refine wpAny_bind (wpAny_mkText (wpAny_bind (wpAny_attempt (wpAny_holding (wpAny_bind (L0.at (wpAny_bind (L1.at ?_))))))))
 show wpAny _ _ (getAttrByItsOwn _ _ _ _ _ _) _ _ _
 unfold getAttrByItsOwn
 refine wpAny_bind (L2.at ?_)
 refine wpAny_bind (wpAny_attempt (wpAny_holding ?_))
 show wpAny _ _ (boundAndCalled _ _ _) _ _ _
 unfold boundAndCalled
 rw[f3]
 refine wpAny_bind (wpAny_pure ?_)
 show wpAny _ _ (call (.builtin "BaseException.__getattribute__") [.ref x,.str "__class__" t]) _ _ _
 refine wpAny_call (j7p (s:=⟨hh,g,d,t+1,os⟩) X I XC ?_)
 exact handed_on rfl (wpAny_pure h)
theorem x6o{D:Addr}(X:K.In h)(e:(clsIn K D).isSome=true):Looks M h (isType (.ref D)) true:=by
 unfold clsIn at e
 split at e
 ·rename_i c' d' cd' sl' ho
  intro A' Q' E' s' k q
  unfold isType loadHead
  exact wpAny_bind (wpAny_loadPart (k _ _ (X _ _ ho)) (wpAny_pure q))
 ·cases e
theorem y5h{c:Value}{dep:Int}{tk:Tok}{Q:Fin->Shared->Prop}(X:K.In s.heap)(I:XAt s.heap x ox C)(XC:XCls K C)(hty:Looks (model prog w) s.heap (typeOf c) (.type "type"))(his:Looks (model prog w) s.heap (isType c) true)
  (hne:(Value.ref C==c)=false) (hsub:Looks (model prog w) s.heap (isSubtype (.ref C) c) false) (h:Q (.done (.ret (.bool false))) { s with toks:=s.toks+1 }) :
  wpAny (model prog w) A (Builtin.«isinstance.nested» ⟨[.ref x,c,.int dep tk],[]⟩) Q E s:=by
 have hisD:=x6o (M:=model prog w) X XC.ci
 obtain⟨h0,g,d,tt,os⟩:=s
 have L0:=I.type (M:=model prog w)
 have LI:Looks (model prog w) h0 (isInstance (.ref x) c) false:=L0.andThen hsub
 unfold Builtin.«isinstance.nested»
 refine wpAny_bind (L0.at ?_)
 rw[if_neg (fun q=>by rw[hne]at q;exact Bool.noConfusion q)]
 refine wpAny_bind (hty.at ?_)
 rw[if_pos (by decide)]
 k_delta "plainIsInstance"
 refine wpAny_bind (wpAny_bind (his.at ?_))
 simp only[Bool.not_true,Bool.false_eq_true,if_false]
 refine wpAny_bind (LI.at ?_)
 simp only[Bool.false_eq_true,if_false]
 refine wpAny_bind (z4m X I XC ?_)
 refine wpAny_bind (hisD.at ?_)
 simp only[Bool.not_true,Bool.false_eq_true,if_false]
 refine wpAny_bind (wpAny_rule ?_)
 refine hsub.at ?_
 first
  | exact wpAny_pure h
  | exact wpAny_pure (wpAny_pure h)
  | exact wpAny_bind (wpAny_pure (wpAny_pure h))
theorem j6h{D:Addr}(X:K.In s.heap)(I:XAt s.heap x ox C)(XC:XCls K C)(e:kin_not K C D=true)(h:Q (.bool false) { s with toks:=s.toks+1 }):wpAny (model prog w) A (call (.builtin "isinstance") [.ref x,.ref D]) Q E s:=by
 unfold kin_not at e
 rw[Bool.and_eq_true,Bool.and_eq_true,Bool.and_eq_true]at e
 obtain⟨⟨⟨e0,e1⟩,e2⟩,e3⟩:=e
 have hne:(Value.ref C==Value.ref D)=false:=Bool.eq_false_iff.mpr fun q=>of_decide_eq_true e0 (Value.ref.inj (beq_iff_eq.mp q))
 exact call_isinstance (S:=fun _ R s=>(K.In s.heap/\XAt s.heap x ox C)/\R (.ok (.ret (.bool false))) { s with toks:=s.toks+1 })
  (fun _ _ _ _ _ hs=>isinstance_outer (y5h hs.1.1 hs.1.2 XC (looks_typeIn hs.1.1 (beq_iff_eq.mp e2)) (x6o hs.1.1 e1) hne (looks_subIn hs.1.1 (beq_iff_eq.mp e3)) hs.2) (by intro q;cases q)) ⟨⟨X,I⟩,h⟩
theorem j36{D:Addr}(X:K.In s.heap)(I:XAt s.heap x ox C)(e:isIn K (.ref C) D=true)(h:Q (.bool true) s):wpAny (model prog w) A (call (.builtin "isinstance") [.ref x,.ref D]) Q E s:=
 isi_call X (fun M=>I.type) e (by intro q;cases q) h
theorem j17(X:K.In s.heap)(I:XAt s.heap x ox C)(hty:typeOf (.type T)=pure (.type "type"))(e:subIn K (.ref C) (.type T)=some true)(h:Q (.bool true) s):wpAny (model prog w) A (call (.builtin "isinstance") [.ref x,.type T]) Q E s:=
 call_isinstance (S:=fun _ R s=>(K.In s.heap/\XAt s.heap x ox C)/\R (.ok (.ret (.bool true))) s) (fun prog w A R s hs=>isinstance_outer (by
  obtain⟨⟨X,I⟩,h⟩:=hs
  obtain⟨h0,g,d,tt,os⟩:=s
  have L0:=I.type (M:=model prog w)
  have LI:Looks (model prog w) h0 (isInstance (.ref x) (.type T)) true:=L0.andThen (looks_subIn X e)
  have hT:Looks (model prog w) h0 (typeOf (.type T)) (.type "type"):=Looks.of_pure hty
  have hI:Looks (model prog w) h0 (isType (.type T)) true:=Looks.of_pure rfl
  unfold Builtin.«isinstance.nested»
  refine wpAny_bind (L0.at ?_)
  rw[if_neg (fun q=>by cases beq_iff_eq.mp q)]
  refine wpAny_bind (hT.at ?_)
  rw[if_pos (by decide)]
  k_delta "plainIsInstance"
  refine wpAny_bind (wpAny_bind (hI.at ?_))
  simp only[Bool.not_true,Bool.false_eq_true,if_false]
  refine wpAny_bind (LI.at ?_)
  simp only[if_true]
  exact wpAny_pure (wpAny_pure h)) (by intro q;cases q)) ⟨⟨X,I⟩,h⟩
theorem j3c(X:K.In s.heap)(I:XAt s.heap x ox C)(XC:XCls K C)(hty:typeOf (.type T)=pure (.type "type"))(e:subIn K (.ref C) (.type T)=some false)(h:Q (.bool false) { s with toks:=s.toks+1 }):wpAny (model prog w) A (call (.builtin "isinstance") [.ref x,.type T]) Q E s:=
 call_isinstance (S:=fun _ R s=>(K.In s.heap/\XAt s.heap x ox C)/\R (.ok (.ret (.bool false))) { s with toks:=s.toks+1 })
  (fun _ _ _ _ _ hs=>isinstance_outer (y5h hs.1.1 hs.1.2 XC (Looks.of_pure hty) (Looks.of_pure rfl) (Bool.eq_false_iff.mpr fun q=>by cases beq_iff_eq.mp q) (looks_subIn hs.1.1 e) hs.2) (by intro q;cases q)) ⟨⟨X,I⟩,h⟩
end
def bmV:List Value:=[.type "ValueError",.type "Exception",.type "BaseException",.type "object"]
structure XKls (K:Frag) (nm:Str) (C:Addr):Prop where
 ns:nsIn K mainGlobals nm=some (some (.ref C))
 xc:XCls K C
 ex:excIn K C bmV "ValueError.__new__" = true
 ve:subIn K (.ref C) (.type "ValueError")=some true
 no:∀ T ∈ ["int","bool","tuple","list","str"],subIn K (.ref C) (.type T)=some false
def XO (K:Frag)(nm:Str)(ob:Obj):Prop:=∃ C,ob.cls=.ref C/\XKls K nm C
end L3
namespace L3
open PySem PySem.Spec PyProof.Rows L2
variable {A:Around}{E:XK}{F:List Addr}{H H' H1 H2:Hp}{K:PySem.W.Frag}{N ps:List Str}{X:Cx}{a p:Addr}{b c:Int}{deep:Bool}{es:List Expr}{fd:FuncData}{h:Int->Int->V}{i n t t':Nat}{op:CmpOp}{r:R2}{te:TE}{tg:Expr}{u:Tok}{v:V}{vs xs:List V}{x:Str}{y:Option HO}
theorem y4p:Slot "function" "__getattribute__" "object.__getattribute__" :=
 .of (owner:="object") (n:="__getattribute__") (by rw[typeLookup_type,builtinLookup_eq_fast];kernel_rfl) (by decide +kernel) (by decide +kernel) (by decide +kernel)
  (by first|exact .inl (by decide +kernel)|exact .inr (by decide +kernel)) (by rw[isSubtype_type];kernel_rfl)
theorem j0e:typeLookup (.type "function") "__class__" = pure (some (.builtin "object.__class__")):=by rw[typeLookup_type,builtinLookup_eq_fast];kernel_rfl
theorem j3r:isSubtype (.type "function") (.type (".".intercalate ("object.__class__".cutAt '.').dropLast))=pure true:=by
 rw[PySem.F.owner_object_class,isSubtype_type];kernel_rfl
theorem z4s:entryFor table "object.__getattribute__" = some Builtin.«object.__getattribute__»:=entryFor_of_tree (by kernel_rfl)
theorem z8z(a b:Value):argsOk "object.__getattribute__" ⟨[a,b],[]⟩:=by unfold argsOk;kernel_rfl
section
variable {prog:Program}{w:World}{A:Around}{E:Value->Shared->Prop}{s:Shared}{a:Addr}
theorem j2w{R:Result->Shared->Prop}(hT:s.TypeIs (.ref a) "function")(hq:R (.ok (.ret (.type "function"))) s) :
  codeAny (model prog w) A (.call (.builtin "getset_descriptor.__get__") ⟨[.builtin "object.__class__",.ref a,.type "function"],[]⟩) R s:=by
 obtain⟨h,g,d,t,os⟩:=s
 have h5:(⟨h,g,d,t,os⟩:Shared).TypeIs (.builtin "object.__class__") "getset_descriptor":=PySem.F.typeOf_object_class
 have f8:=j3r
 refine codeAny_call_builtin PySem.F.slot_gs_get.plain PySem.F.entry_gs_get (PySem.F.slot_gs_get.check _ _ _ _ _ _ _ _ h5 (PySem.F.args_gs_get _ _ _) ?_)
 repeat (any_goals (first|assumption|wp_step))
 refine⟨Code.quiet_builtin _ (by decide +kernel),codeAny_builtin PySem.F.entry_object_class ?_⟩
 repeat (any_goals (first|assumption|wp_step))
theorem z4u{Q:Option Value->Shared->Prop}(hT:s.TypeIs (.ref a) "function")(hq:Q (some (.type "function")) { s with toks:=s.toks+1 }):wpAny (model prog w) A (getAttr? (.ref a) "__class__") Q E s:=by
 obtain⟨h,g,d,t,os⟩:=s
 have hT1:∀ t',(⟨h,g,d,t',os⟩:Shared).TypeIs (.ref a) "function":=fun _=>hT
 have en:∀ {tk:Tok} {t':Nat} {Q:Fin->Shared->Prop} {E:Value->Shared->Prop} {A:Around},Q (.done (.ret (.type "function"))) ⟨h,g,d,t',os⟩->
   wpAny (model prog w) A (Builtin.«object.__getattribute__» ⟨[.ref a,.str "__class__" tk],[]⟩) Q E ⟨h,g,d,t',os⟩:=by
  intro tk t' Q E A hq
  have hT:=hT1 t'
  have h5:(⟨h,g,d,t',os⟩:Shared).TypeIs (.builtin "object.__class__") "getset_descriptor":=PySem.F.typeOf_object_class
  have f4:=j0e
  have f5:=PySem.F.typeOf_object_class
  have f6:=PySem.F.slot_gs_get.lookup
  have f7:=PySem.F.slot_gs_set.lookup
  repeat (any_goals (first|assumption|wp_step))
  refine j2w hT ?_
  repeat (any_goals (first|assumption|wp_step))
 have by':∀ {tk:Tok} {t':Nat} {Q:Value->Shared->Prop} {E:Value->Shared->Prop} {A:Around},Q (.type "function") ⟨h,g,d,t',os⟩->wpAny (model prog w) A (getAttrBy (.ref a) (.str "__class__" tk) false) Q E ⟨h,g,d,t',os⟩:=by
  intro tk t' Q E A hq
  have hT:=hT1 t'
  have f2:=y4p.lookup
  have f3:=y4p.bind (.ref a)
  repeat (any_goals (first|assumption|wp_step))
  refine codeAny_call_builtin y4p.plain z4s (y4p.check _ _ _ _ _ _ _ _ hT (z8z _ _) (en ?_))
  repeat (any_goals (first|assumption|wp_step))
 unfold getAttr? getAttrBy?
 repeat (any_goals (first|assumption|with_reducible apply by' | wp_step))
theorem z5x:PySem.W.KitX K (.ref a) (.type "function") (PySem.W.KitAt a "function"):=PySem.W.kitx_of PySem.W.kitAt_ty (fun {_ _ _ _ _ s} p k=>z4u (by obtain⟨o,h1,h2⟩:=p;exact⟨o,h1,h2⟩) k)
end
inductive D where
 | non|bl (b:Bool)|int (i:Int)|str (x:Str)|tup (ds:List D)|lst (ds:List D)
 /-- a dict that is not changed,its keys texts -/
 | dic (ks:List Str) (ds:List D)
 /-- an exception,by its class's name -/
 | exc (nm:Str)
 /-- a function made here: its place,its object,what it keeps of the names around it -/
 | ob (f:Addr) (fo:Obj) (vs:List V) (ds:List D)
abbrev St:=L2.St
inductive Ow where
 | s (i:Nat)|t (i:Nat)|f
 deriving DecidableEq
abbrev Wn:=Addr->Option Ow
def KL (K:PySem.W.Frag)(a:Addr)(xs:List V):Prop:=
 ∃ (o:Obj) (its:Array Value) (n:Nat),K.lookup a=some o/\o.cls=.type "list" /\ o.dict=none/\o.data=.seq its n/\its.size<=sizeLine/\x28 xs its.toList
theorem SqL.cases(h:SqL K H a xs):Rd H a (.lst xs)\/KL K a xs:=h
theorem KL.sq(h:KL K a xs):SqL K H a xs:=.inr h
def kvL (ks:List Str)(vs:List V):List (Key×V):=(ks.map fun x=>(Sum.inr x:Key)).zip vs
def Clo (fo:Obj)(c:Addr)(oc:Obj):Prop:=fo.cls=.type "function" /\ (∃ fd,fo.data=.func fd/\fd.code=.ref c)/\∃ fs q t,oc.data=.fields fs/\fs[1]? = some (.str q t)
mutual
/-- q: how deep the lists are owned -/
inductive Rep (K:PySem.W.Frag) (H:Hp) (w:Wn) (o:Ow):Nat->D->V->List Addr->Prop
 | non {q}:Rep K H w o q .non .non []
 | bl {q} (b:Bool):Rep K H w o q (.bl b) (.bl b) []
 | int {q} (i:Int):Rep K H w o q (.int i) (.int i) []
 | str {q} (x:Str):Rep K H w o q (.str x) (.str x) []
 | tup {q} {a:Addr} {vs:List V} {ds:List D}:H a=some (.tup vs)->Reps K H w o 0 ds vs []->Rep K H w o q (.tup ds) (.ref a) []
 | dic {q} {a:Addr} {ks:List Str} {vs:List V} {ds:List D}:H a=some (.dK (kvL ks vs))->Reps K H w o 0 ds vs []->Rep K H w o q (.dic ks ds) (.ref a) []
 | exc {q} {a:Addr} {nm:Str} {ob:Obj} {u:HO}:H a=some (.frz ob u)->XO K nm ob->(∀ xs,u ≠ .lst xs)->Rep K H w o q (.exc nm) (.ref a) []
 | ob {q} {f c:Addr} {fo oc:Obj} {u u':HO} {vs:List V} {ds:List D}:H f=some (.frz fo u)->H c=some (.frz oc u')->Clo fo c oc->Reps K H w o 0 ds vs []->Rep K H w o q (.ob f fo vs ds) (.ref f) []
 | kl {a:Addr} {vs:List V} {ds:List D}:KL K a vs->Reps K H w o 0 ds vs []->Rep K H w o 0 (.lst ds) (.ref a) []
 | shr {a:Addr} {vs:List V} {ds:List D}:Rd H a (.lst vs)->w a=none->Reps K H w o 0 ds vs []->Rep K H w o 0 (.lst ds) (.ref a) []
 | own {q} {a:Addr} {vs:List V} {ds:List D} {F:List Addr}:H a=some (.lst vs)->w a=some o->Reps K H w o q ds vs F->a ∉ F->Rep K H w o (q+1) (.lst ds) (.ref a) (a::F)
inductive Reps (K:PySem.W.Frag) (H:Hp) (w:Wn) (o:Ow):Nat->List D->List V->List Addr->Prop
 | nil {q}:Reps K H w o q [] [] []
 | cons {q} {d:D} {v:V} {ds:List D} {vs:List V} {F G:List Addr}:Rep K H w o q d v F->Reps K H w o q ds vs G->(∀ a∈F,a ∉ G)->Reps K H w o q (d::ds) (v::vs) (F++G)
end
def j22:HO->Bool
 | .tbl _=>true
 | _=>false
def Sm (x:HO)(y:Option HO):Prop:=match x with
 | .tbl _=>∃ ps,y=some (.tbl ps)
 | x=>y=some x
theorem sm{x:HO}(h:y=some x):Sm x y:=by cases x<;>first|exact h|exact⟨_,h⟩
theorem Sm.is{x:HO}(h:Sm x y):∃ z,y=some z/\j22 z=j22 x:=by
 cases x<;>first|exact⟨_,h,rfl⟩|(obtain⟨ps,e⟩:=h;exact⟨_,e,rfl⟩)
theorem Sm.eq{x:HO}(h:Sm x y)(n:j22 x=false):y=some x:=by cases x<;>first|exact h|cases n
def x8k:List Str:=["turned","chain_ladder","flat_ladder","paired","height_of","_law_high"]
structure TB (K:PySem.W.Frag) (H:Hp):Prop where
 tr:∀ P ps,H P=some (.tbl ps)->PySem.TriplesOk ps.toList
 cd:∀ P ps,H P=some (.tbl ps)->∀ pos cv,PySem.codeAmong pos ps.toList=some cv->∃ c oc u vs q t,cv=.ref c/\H c=some (.frz oc u)/\oc.data=.fields vs/\vs[1]? = some (.str q t)/\∀ xs,u ≠ .lst xs
 is:∀ x∈x8k,∀ c P,PySem.W.tabIn K x=some (c,P)->∃ ps,H P=some (.tbl ps)
structure WL (K:PySem.W.Frag) (w:Wn) (H:Hp):Prop where
 own:∀ a o,w a=some o->∃ vs,H a=some (.lst vs)
 tb:TB K H
instance {K:PySem.W.Frag} {w:Wn} {H:Hp}:CoeFun (WL K w H) (fun _=>∀ a o,w a=some o->∃ vs,H a=some (.lst vs)):=⟨WL.own⟩
theorem TB.upd(t:TB K H){x:HO}(hx:j22 x=false)(hp:H p=none\/∃ vs,H p=some (.lst vs)):TB K (L2.upd H p x):=by
 have ne:∀ a y,H a=some y->(∀ vs,y ≠ .lst vs)->a≠p:=fun a y e h z=>by
  subst z
  rcases hp with q|⟨vs,q⟩
  ·rw[e]at q;cases q
  ·rw[e]at q;cases q;exact h _ rfl
 refine⟨fun P ps e=>?_,fun P ps e pos cv hc=>?_,fun x hx c P hP=>by
  obtain⟨ps,e⟩:=t.is x hx c P hP
  exact⟨ps,by rw[x0h (ne P _ e fun _ z=>nomatch z)];exact e⟩⟩
 ·by_cases hP:P=p
  ·subst hP;rw[x0t]at e;cases e;cases hx
  ·rw[x0h hP]at e;exact t.tr P ps e
 ·by_cases hP:P=p
  ·subst hP;rw[x0t]at e;cases e;cases hx
  ·rw[x0h hP]at e
   obtain⟨c,oc,u,vs,q,tt,h1,h2,h3,h4,h5⟩:=t.cd P ps e pos cv hc
   exact⟨c,oc,u,vs,q,tt,h1,by rw[x0h (ne c _ h2 fun _ z=>nomatch z)];exact h2,h3,h4,h5⟩
def x84 (H:Hp)(w:Wn)(H':Hp)(w':Wn):Prop:=∀ a x,H a=some x->w a=none->Sm x (H' a)/\w' a=none
theorem x84.trans{w w1 w2:Wn}(a:x84 H w H1 w1)(b:x84 H1 w1 H2 w2):x84 H w H2 w2:=fun c x h n=>by
 obtain⟨s1,n1⟩:=a c x h n
 cases ht:j22 x with
 | false=>exact b c x (s1.eq ht) n1
 | true=>
  obtain⟨y,e,hy⟩:=s1.is
  obtain⟨s2,n2⟩:=b c y e n1
  refine⟨?_,n2⟩
  rw[ht]at hy
  cases x with
  | tbl ps=>
   cases y with
   | tbl ps'=>exact s2
   | _=>cases hy
  | _=>cases ht
theorem WL.rdT{w:Wn}(wl:WL K w H){x:HO}(e:H a=some x)(h:∀ vs,x ≠ .lst vs):w a=none:=by
 cases q:w a with
 | none=>rfl
 | some o=>
  obtain⟨vs,e'⟩:=wl a o q
  rw[e]at e'
  exact absurd (Option.some.inj e') (h vs)
theorem SqT.go{w w':Wn}(wl:WL K w H)(st:x84 H w H' w')(h:SqT K H a vs):SqT K H' a vs:=by
 rcases h with(h|⟨o,h⟩)|h
 ·exact .inl (.inl (st a _ h (wl.rdT h (fun _ z=>nomatch z))).1)
 ·exact .inl (.inr ⟨o,(st a _ h (wl.rdT h (fun _ z=>nomatch z))).1⟩)
 ·exact .inr h
theorem RdL.go{w w':Wn}(st:x84 H w H' w')(n:w a=none)(h:Rd H a (.lst vs)):Rd H' a (.lst vs)/\w' a=none:=by
 rcases h with h|⟨o,h⟩
 ·exact⟨.inl (st a _ h n).1,(st a _ h n).2⟩
 ·exact⟨.inr ⟨o,(st a _ h n).1⟩,(st a _ h n).2⟩
theorem Rep.go{w w':Wn}{o o':Ow}(wl:WL K w H)(st:x84 H w H' w'):∀ {q:Nat} {d:D} {v:V} {F:List Addr},Rep K H w o q d v F->(∀ a∈F,H' a=H a/\w' a=some o')->Rep K H' w' o' q d v F:=by
 intro q d v F r
 refine Rep.rec (motive_1:=fun q d v F _=>(∀ a∈F,H' a=H a/\w' a=some o')->Rep K H' w' o' q d v F) (motive_2:=fun q ds vs F _=>(∀ a∈F,H' a=H a/\w' a=some o')->Reps K H' w' o' q ds vs F) ?_ ?_ ?_ ?_ ?_ ?_ ?_ ?_ ?_ ?_ ?_ ?_ ?_ r
 ·intro q _;exact .non
 ·intro q b _;exact .bl b
 ·intro q i _;exact .int i
 ·intro q x _;exact .str x
 ·intro q a vs ds h r ih _;exact .tup (st _ _ h (wl.rdT h (fun _ z=>by cases z))).1 (ih (fun _ z=>(List.not_mem_nil z).elim))
 ·intro q a ks vs ds h r ih _;exact .dic (st _ _ h (wl.rdT h (fun _ z=>by cases z))).1 (ih (fun _ z=>(List.not_mem_nil z).elim))
 ·intro q a nm ob u h x n _;exact .exc (st _ _ h (wl.rdT h (fun _ z=>by cases z))).1 x n
 ·intro q f c fo oc u u' vs ds h1 h2 x r ih _;exact .ob (st _ _ h1 (wl.rdT h1 (fun _ z=>by cases z))).1 (st _ _ h2 (wl.rdT h2 (fun _ z=>by cases z))).1 x (ih (fun _ z=>(List.not_mem_nil z).elim))
 ·intro a vs ds h r ih _;exact .kl h (ih (fun _ z=>(List.not_mem_nil z).elim))
 ·intro a vs ds h n r ih _;exact .shr (RdL.go st n h).1 (RdL.go st n h).2 (ih (fun _ z=>(List.not_mem_nil z).elim))
 ·intro q a vs ds F h e r ne ih k;exact .own ((k _ List.mem_cons_self).1.trans h) (k _ List.mem_cons_self).2 (ih fun a m=>k a (List.mem_cons_of_mem _ m)) ne
 ·intro q _;exact .nil
 ·intro q d v ds vs F G r s ne ih1 ih2 k;exact .cons (ih1 fun a m=>k a (List.mem_append_left _ m)) (ih2 fun a m=>k a (List.mem_append_right _ m)) ne
theorem Reps.go{w w':Wn}{o o':Ow}(wl:WL K w H)(st:x84 H w H' w'):∀ {q:Nat} {ds:List D} {vs:List V} {F:List Addr},Reps K H w o q ds vs F->(∀ a∈F,H' a=H a/\w' a=some o')->Reps K H' w' o' q ds vs F:=by
 intro q ds vs F r
 refine Reps.rec (motive_1:=fun q d v F _=>(∀ a∈F,H' a=H a/\w' a=some o')->Rep K H' w' o' q d v F) (motive_2:=fun q ds vs F _=>(∀ a∈F,H' a=H a/\w' a=some o')->Reps K H' w' o' q ds vs F) ?_ ?_ ?_ ?_ ?_ ?_ ?_ ?_ ?_ ?_ ?_ ?_ ?_ r
 ·intro q _;exact .non
 ·intro q b _;exact .bl b
 ·intro q i _;exact .int i
 ·intro q x _;exact .str x
 ·intro q a vs ds h r ih _;exact .tup (st _ _ h (wl.rdT h (fun _ z=>by cases z))).1 (ih (fun _ z=>(List.not_mem_nil z).elim))
 ·intro q a ks vs ds h r ih _;exact .dic (st _ _ h (wl.rdT h (fun _ z=>by cases z))).1 (ih (fun _ z=>(List.not_mem_nil z).elim))
 ·intro q a nm ob u h x n _;exact .exc (st _ _ h (wl.rdT h (fun _ z=>by cases z))).1 x n
 ·intro q f c fo oc u u' vs ds h1 h2 x r ih _;exact .ob (st _ _ h1 (wl.rdT h1 (fun _ z=>by cases z))).1 (st _ _ h2 (wl.rdT h2 (fun _ z=>by cases z))).1 x (ih (fun _ z=>(List.not_mem_nil z).elim))
 ·intro a vs ds h r ih _;exact .kl h (ih (fun _ z=>(List.not_mem_nil z).elim))
 ·intro a vs ds h n r ih _;exact .shr (RdL.go st n h).1 (RdL.go st n h).2 (ih (fun _ z=>(List.not_mem_nil z).elim))
 ·intro q a vs ds F h e r ne ih k;exact .own ((k _ List.mem_cons_self).1.trans h) (k _ List.mem_cons_self).2 (ih fun a m=>k a (List.mem_cons_of_mem _ m)) ne
 ·intro q _;exact .nil
 ·intro q d v ds vs F G r s ne ih1 ih2 k;exact .cons (ih1 fun a m=>k a (List.mem_append_left _ m)) (ih2 fun a m=>k a (List.mem_append_right _ m)) ne
theorem Rep.freeze{w w':Wn}{o o':Ow}(n:∀ a,w a=none->w' a=none):∀ {q:Nat} {d:D} {v:V} {F:List Addr},Rep K H w o q d v F->(∀ a∈F,w' a=none)->Rep K H w' o' 0 d v []:=by
 intro q d v F r
 refine Rep.rec (motive_1:=fun q d v F _=>(∀ a∈F,w' a=none)->Rep K H w' o' 0 d v []) (motive_2:=fun q ds vs F _=>(∀ a∈F,w' a=none)->Reps K H w' o' 0 ds vs []) ?_ ?_ ?_ ?_ ?_ ?_ ?_ ?_ ?_ ?_ ?_ ?_ ?_ r
 ·intro q _;exact .non
 ·intro q b _;exact .bl b
 ·intro q i _;exact .int i
 ·intro q x _;exact .str x
 ·intro q a vs ds h r ih _;exact .tup h (ih (fun _ z=>(List.not_mem_nil z).elim))
 ·intro q a ks vs ds h r ih _;exact .dic h (ih (fun _ z=>(List.not_mem_nil z).elim))
 ·intro q a nm ob u h x n _;exact .exc h x n
 ·intro q f c fo oc u u' vs ds h1 h2 x r ih _;exact .ob h1 h2 x (ih (fun _ z=>(List.not_mem_nil z).elim))
 ·intro a vs ds h r ih _;exact .kl h (ih (fun _ z=>(List.not_mem_nil z).elim))
 ·intro a vs ds h e r ih _;exact .shr h (n _ e) (ih (fun _ z=>(List.not_mem_nil z).elim))
 ·intro q a vs ds F h e r ne ih k;exact .shr (Rd.of h) (k _ List.mem_cons_self) (ih fun a m=>k a (List.mem_cons_of_mem _ m))
 ·intro q _;exact .nil
 ·intro q d v ds vs F G r s ne ih1 ih2 k;exact .cons (F:=[]) (G:=[]) (ih1 fun a m=>k a (List.mem_append_left _ m)) (ih2 fun a m=>k a (List.mem_append_right _ m)) (fun _ z=>(List.not_mem_nil z).elim)
theorem Reps.freeze{w w':Wn}{o o':Ow}(n:∀ a,w a=none->w' a=none):∀ {q:Nat} {ds:List D} {vs:List V} {F:List Addr},Reps K H w o q ds vs F->(∀ a∈F,w' a=none)->Reps K H w' o' 0 ds vs []:=by
 intro q ds vs F r
 refine Reps.rec (motive_1:=fun q d v F _=>(∀ a∈F,w' a=none)->Rep K H w' o' 0 d v []) (motive_2:=fun q ds vs F _=>(∀ a∈F,w' a=none)->Reps K H w' o' 0 ds vs []) ?_ ?_ ?_ ?_ ?_ ?_ ?_ ?_ ?_ ?_ ?_ ?_ ?_ r
 ·intro q _;exact .non
 ·intro q b _;exact .bl b
 ·intro q i _;exact .int i
 ·intro q x _;exact .str x
 ·intro q a vs ds h r ih _;exact .tup h (ih (fun _ z=>(List.not_mem_nil z).elim))
 ·intro q a ks vs ds h r ih _;exact .dic h (ih (fun _ z=>(List.not_mem_nil z).elim))
 ·intro q a nm ob u h x n _;exact .exc h x n
 ·intro q f c fo oc u u' vs ds h1 h2 x r ih _;exact .ob h1 h2 x (ih (fun _ z=>(List.not_mem_nil z).elim))
 ·intro a vs ds h r ih _;exact .kl h (ih (fun _ z=>(List.not_mem_nil z).elim))
 ·intro a vs ds h e r ih _;exact .shr h (n _ e) (ih (fun _ z=>(List.not_mem_nil z).elim))
 ·intro q a vs ds F h e r ne ih k;exact .shr (Rd.of h) (k _ List.mem_cons_self) (ih fun a m=>k a (List.mem_cons_of_mem _ m))
 ·intro q _;exact .nil
 ·intro q d v ds vs F G r s ne ih1 ih2 k;exact .cons (F:=[]) (G:=[]) (ih1 fun a m=>k a (List.mem_append_left _ m)) (ih2 fun a m=>k a (List.mem_append_right _ m)) (fun _ z=>(List.not_mem_nil z).elim)
theorem Rep.owns{w:Wn}{o:Ow}:∀ {q:Nat} {d:D} {v:V} {F:List Addr},Rep K H w o q d v F->∀ a∈F,w a=some o:=by
 intro q d v F r
 refine Rep.rec (motive_1:=fun q d v F _=>∀ a∈F,w a=some o) (motive_2:=fun q ds vs F _=>∀ a∈F,w a=some o) ?_ ?_ ?_ ?_ ?_ ?_ ?_ ?_ ?_ ?_ ?_ ?_ ?_ r
 ·intro q a m;exact(List.not_mem_nil m).elim
 ·intro q b a m;exact(List.not_mem_nil m).elim
 ·intro q i a m;exact(List.not_mem_nil m).elim
 ·intro q x a m;exact(List.not_mem_nil m).elim
 ·intro q a vs ds h r ih b m;exact(List.not_mem_nil m).elim
 ·intro q a ks vs ds h r ih b m;exact(List.not_mem_nil m).elim
 ·intro q a nm ob u h x n b m;exact(List.not_mem_nil m).elim
 ·intro q f c fo oc u u' vs ds h1 h2 x r ih b m;exact(List.not_mem_nil m).elim
 ·intro a vs ds h r ih b m;exact(List.not_mem_nil m).elim
 ·intro a vs ds h e r ih b m;exact(List.not_mem_nil m).elim
 ·intro q a vs ds F h e r ne ih b m
  rcases List.mem_cons.mp m with z|z
  ·rw[z];exact e
  ·exact ih b z
 ·intro q a m;exact(List.not_mem_nil m).elim
 ·intro q d v ds vs F G r s ne ih1 ih2 a m
  rcases List.mem_append.mp m with z|z
  ·exact ih1 a z
  ·exact ih2 a z
theorem Reps.owns{w:Wn}{o:Ow}:∀ {q:Nat} {ds:List D} {vs:List V} {F:List Addr},Reps K H w o q ds vs F->∀ a∈F,w a=some o:=by
 intro q ds vs F r
 refine Reps.rec (motive_1:=fun q d v F _=>∀ a∈F,w a=some o) (motive_2:=fun q ds vs F _=>∀ a∈F,w a=some o) ?_ ?_ ?_ ?_ ?_ ?_ ?_ ?_ ?_ ?_ ?_ ?_ ?_ r
 ·intro q a m;exact(List.not_mem_nil m).elim
 ·intro q b a m;exact(List.not_mem_nil m).elim
 ·intro q i a m;exact(List.not_mem_nil m).elim
 ·intro q x a m;exact(List.not_mem_nil m).elim
 ·intro q a vs ds h r ih b m;exact(List.not_mem_nil m).elim
 ·intro q a ks vs ds h r ih b m;exact(List.not_mem_nil m).elim
 ·intro q a nm ob u h x n b m;exact(List.not_mem_nil m).elim
 ·intro q f c fo oc u u' vs ds h1 h2 x r ih b m;exact(List.not_mem_nil m).elim
 ·intro a vs ds h r ih b m;exact(List.not_mem_nil m).elim
 ·intro a vs ds h e r ih b m;exact(List.not_mem_nil m).elim
 ·intro q a vs ds F h e r ne ih b m
  rcases List.mem_cons.mp m with z|z
  ·rw[z];exact e
  ·exact ih b z
 ·intro q a m;exact(List.not_mem_nil m).elim
 ·intro q d v ds vs F G r s ne ih1 ih2 a m
  rcases List.mem_append.mp m with z|z
  ·exact ih1 a z
  ·exact ih2 a z
def D.isL:D->Bool
 | .lst _=>true
 | _=>false
@[simp] theorem D.isL_non:D.isL .non=false:=rfl
@[simp] theorem D.isL_bl(b:Bool):D.isL (.bl b)=false:=rfl
@[simp] theorem D.isL_int(i:Int):D.isL (.int i)=false:=rfl
@[simp] theorem D.isL_str(x:Str):D.isL (.str x)=false:=rfl
@[simp] theorem D.isL_tup(ds:List D):D.isL (.tup ds)=false:=rfl
@[simp] theorem D.isL_dic(ks:List Str)(ds:List D):D.isL (.dic ks ds)=false:=rfl
@[simp] theorem D.isL_exc(nm:Str):D.isL (.exc nm)=false:=rfl
@[simp] theorem D.isL_ob(f:Addr)(fo:Obj)(vs:List V)(ds:List D):D.isL (.ob f fo vs ds)=false:=rfl
@[simp] theorem D.isL_lst(ds:List D):D.isL (.lst ds)=true:=rfl
theorem Rep.nolist{w:Wn}{o:Ow}{q:Nat}{d:D}(r:Rep K H w o q d v F)(h:d.isL=false):F=[]/\∀ q',Rep K H w o q' d v []:=by
 cases r with
 | non=>exact⟨rfl,fun _=>.non⟩
 | bl b=>exact⟨rfl,fun _=>.bl b⟩
 | int i=>exact⟨rfl,fun _=>.int i⟩
 | str x=>exact⟨rfl,fun _=>.str x⟩
 | tup h' r'=>exact⟨rfl,fun _=>.tup h' r'⟩
 | dic h' r'=>exact⟨rfl,fun _=>.dic h' r'⟩
 | exc h' x n=>exact⟨rfl,fun _=>.exc h' x n⟩
 | ob h1 h2 x r=>exact⟨rfl,fun _=>.ob h1 h2 x r⟩
 | kl=>cases h
 | shr=>cases h
 | own=>cases h
theorem Rep.zero{w:Wn}{o:Ow}{d:D}(r:Rep K H w o 0 d v F):F=[]:=by
 cases r<;>rfl
theorem Reps.zero{w:Wn}{o:Ow}:∀ {ds:List D} {vs:List V} {F:List Addr},Reps K H w o 0 ds vs F->F=[]
 | _,_,_,.nil=>rfl
 | _,_,_,.cons r s _=>by rw[r.zero,s.zero];rfl
theorem Reps.length{w:Wn}{o:Ow}{q:Nat}:∀ {ds:List D} {vs:List V} {F:List Addr},Reps K H w o q ds vs F->ds.length=vs.length
 | _,_,_,.nil=>rfl
 | _,_,_,.cons _ s _=>by simp[s.length]
theorem Rep.any{w:Wn}{o o':Ow}{q:Nat}{d:D}(r:Rep K H w o q d v [])(wl:WL K w H):Rep K H w o' q d v []:=
 Rep.go wl (fun a x h n=>⟨sm h,n⟩) r (fun _ z=>nomatch z)
theorem Reps.any{w:Wn}{o o':Ow}{q:Nat}{d:List D}{v:List V}(r:Reps K H w o q d v [])(wl:WL K w H):Reps K H w o' q d v []:=
 Reps.go wl (fun a x h n=>⟨sm h,n⟩) r (fun _ z=>nomatch z)
theorem Reps.get{w:Wn}{o:Ow}:∀ {ds:List D} {vs:List V} {i:Nat} {d:D},Reps K H w o 0 ds vs []->ds[i]? = some d->∃ v,vs[i]? = some v/\Rep K H w o 0 d v []
 | ds,vs,i,d,r,e=>by
  generalize hF:([]:List Addr)=F at r
  cases r with
  | nil=>simp at e
  | @cons _ d' v' ds' vs' F' G' r s _=>
   have h1:F'=[]:=r.zero
   have h2:G'=[]:=s.zero
   subst h1 h2
   cases i with
   | zero=>simp at e;subst e;exact⟨v',rfl,r⟩
   | succ j=>
    obtain⟨v,h1,h2⟩:=Reps.get (i:=j) (d:=d) s (by simpa using e)
    exact⟨v,by simpa using h1,h2⟩
theorem Reps.snoc{w:Wn}{o:Ow}{q:Nat}{d:D}{G:List Addr}(r':Rep K H w o q d v G):∀ {ds:List D} {vs:List V} {F:List Addr},Reps K H w o q ds vs F->(∀ a∈F,a ∉ G)->Reps K H w o q (ds++[d]) (vs++[v]) (F++G)
 | _,_,_,.nil,_=>by
  have:Reps K H w o q [d] [v] (G++[]):=.cons r' .nil (fun a _ z=>nomatch z)
  simpa using this
 | _,_,_,.cons (F:=F) (G:=F') r s ne,k=>by
  rw[List.append_assoc]
  refine .cons r (Reps.snoc r' s fun a m=>k a (List.mem_append_right _ m)) fun a m z=>?_
  rcases List.mem_append.mp z with z|z
  ·exact ne a m z
  ·exact k a (List.mem_append_left _ m) z
abbrev OD:=Option (D×Nat)
abbrev Rho:=List (OD)
structure Good (K:PySem.W.Frag) (ρ:Rho) (σ:St) (H:Hp) (w:Wn) (t:Nat):Prop where
 wl:WL K w H
 ws:∀ a i,w a=some (.s i)->i<σ.length
 wt:∀ a i,w a=some (.t i)->i<t
 len:ρ.length=σ.length
 slot:∀ (i:Nat) d q,ρ[i]? = some (some (d,q))->∃ v F,σ[i]? = some (some v)/\Rep K H w (.s i) q d v F
structure Go (H:Hp) (w:Wn) (H':Hp) (w':Wn):Prop where
 stab:x84 H w H' w'
 keep:∀ a o,w a=some o->(∀ i,o ≠ .s i)->H' a=H a/\w' a=some o
theorem Go.refl{w:Wn}:Go H w H w:=⟨fun a x h n=>⟨sm h,n⟩,fun a o e _=>⟨rfl,e⟩⟩
theorem Go.trans{w w1 w2:Wn}(a:Go H w H1 w1)(b:Go H1 w1 H2 w2):Go H w H2 w2:=
 ⟨a.stab.trans b.stab,fun c o e h=>by
   obtain⟨h1,w1⟩:=a.keep c o e h
   obtain⟨h2,w2⟩:=b.keep c o w1 h
   exact⟨h2.trans h1,w2⟩⟩
theorem Rep.gone{w w':Wn}{q:Nat}{d:D}(r:Rep K H w (.t i) q d v F)(wl:WL K w H)(g:Go H w H' w'):Rep K H' w' (.t i) q d v F:=
 Rep.go wl g.stab r fun a m=>g.keep a _ (r.owns a m) (fun _ z=>nomatch z)
theorem Reps.gone{w w':Wn}{q:Nat}{d:List D}{v:List V}(r:Reps K H w (.t i) q d v F)(wl:WL K w H)(g:Go H w H' w'):Reps K H' w' (.t i) q d v F:=
 Reps.go wl g.stab r fun a m=>g.keep a _ (r.owns a m) (fun _ z=>nomatch z)
def x1o (t:Nat)(w:Wn):Wn:=fun a=>match w a with
 | some (.t i)=>if t<=i then none else some (.t i)
 | x=>x
theorem x7h{w:Wn}(h:w a=none):x1o t w a=none:=by unfold x1o;rw[h]
theorem j0t{w:Wn}(h:w a=some (.s i)):x1o t w a=some (.s i):=by unfold x1o;rw[h]
theorem j0x{w:Wn}(h:w a=some .f):x1o t w a=some .f:=by unfold x1o;rw[h]
theorem z69{w:Wn}(h:w a=some (.t i))(hi:i<t):x1o t w a=some (.t i):=by unfold x1o;rw[h];exact if_neg (by omega)
theorem z5b{w:Wn}(h:w a=some (.t i))(hi:t<=i):x1o t w a=none:=by unfold x1o;rw[h];exact if_pos hi
theorem x9u{w:Wn}{o:Ow}(h:x1o t w a=some o):w a=some o/\∀ i,o=.t i->i<t:=by
 unfold x1o at h
 cases e:w a with
 | none=>rw[e]at h;cases h
 | some o'=>
  rw[e]at h
  cases o' with
  | s i=>cases h;exact⟨rfl,fun i z=>nomatch z⟩
  | f=>cases h;exact⟨rfl,fun i z=>nomatch z⟩
  | t i=>
   dsimp only at h
   split at h
   ·cases h
   ·cases h;exact⟨rfl,fun j z=>by cases z;omega⟩
theorem Good.drop{ρ:Rho}{σ:St}{w:Wn}(g:Good K ρ σ H w t):Good K ρ σ H (x1o t' w) t':=by
 refine⟨⟨fun a o e=>g.wl a o (x9u e).1,g.wl.tb⟩,fun a i e=>g.ws a i (x9u e).1,fun a i e=>(x9u e).2 i rfl,g.len,fun i d q e=>?_⟩
 obtain⟨v,F,h1,h2⟩:=g.slot i d q e
 exact⟨v,F,h1,Rep.go g.wl (fun a x h n=>⟨sm h,x7h n⟩) h2 fun a m=>⟨rfl,j0t (h2.owns a m)⟩⟩
theorem Go.drop{w w':Wn}(g:Go H w H' w')(wt:∀ a i,w a=some (.t i)->i<t):Go H w H' (x1o t w'):=
 ⟨fun a x h n=>⟨(g.stab a x h n).1,x7h (g.stab a x h n).2⟩,fun a o e h=>by
   obtain⟨h1,h2⟩:=g.keep a o e h
   refine⟨h1,?_⟩
   cases o with
   | s i=>exact absurd rfl (h i)
   | f=>exact j0x h2
   | t i=>exact z69 h2 (wt a i e)⟩
theorem Rep.drop{w:Wn}{q:Nat}{d:D}{o:Ow}(r:Rep K H w (.t t) q d v F)(h:t'<=t):Rep K H (x1o t' w) o 0 d v []:=
 Rep.freeze (fun a n=>x7h n) r fun a m=>z5b (r.owns a m) h
abbrev Den:=Rho->Option (D×Nat×Rho)
def tD (K:PySem.W.Frag)(f:Den):TE:=fun σ H Q=>∃ ρ w t r q ρ',Good K ρ σ H w t/\f ρ=some (r,q,ρ')/\∀ v H' w' F,Good K ρ' σ H' w' (t+1)->Go H w H' w'->Rep K H' w' (.t t) q r v F->Q v H'
theorem PE.imp{e:Expr}{t t':TE}(h:PE X e t)(i:∀ σ H Q,t' σ H Q->t σ H Q):PE X e t':=fun pins s σ H Q I q=>h pins s σ H Q I (i σ H Q q)
abbrev PD (X:Cx)(e:Expr)(f:Den):Prop:=PE X e (tD X.K f)
theorem Good.up{ρ:Rho}{σ:St}{w:Wn}(g:Good K ρ σ H w t):Good K ρ σ H w (t+1):=⟨g.wl,g.ws,fun a i e=>Nat.lt_succ_of_lt (g.wt a i e),g.len,g.slot⟩
@[simp] def x9m (d:D):Nat:=if d.isL then 0 else 9
theorem Rep.dep{w:Wn}{o:Ow}{d:D}(r:Rep K H w o 0 d v []):Rep K H w o (x9m d) d v []:=by
 unfold x9m
 cases e:d.isL with
 | true=>exact r
 | false=>exact(r.nolist e).2 9
section
variable {K:PySem.W.Frag}{σ:St}{H:Hp}{ρ ρ' ρ1 ρ2:Rho}{w:Wn}{t:Nat}{Q:VK}
theorem j0k{fa fb:Den}{R:V->V->Hp->Prop}(g:Good K ρ σ H w t){d1 d2:D}{q1 q2:Nat}(e1:fa ρ=some (d1,q1,ρ1))(e2:fb ρ1=some (d2,q2,ρ2))
  (k:∀ x y H2 w2 F1 F2,Good K ρ2 σ H2 w2 (t+2)->Go H w H2 w2->Rep K H2 w2 (.t t) q1 d1 x F1->Rep K H2 w2 (.t (t+1)) q2 d2 y F2->R x y H2) :
  tD K fa σ H fun x H1=>tD K fb σ H1 fun y H2=>R x y H2:=
 ⟨ρ,w,t,d1,q1,ρ1,g,e1,fun x H1 w1 F1 g1 go1 r1=>⟨ρ1,w1,t+1,d2,q2,ρ2,g1,e2,fun y H2 w2 F2 g2 go2 r2=>k x y H2 w2 F1 F2 g2 (go1.trans go2) (r1.gone g1.wl go2) r2⟩⟩
theorem j0q{r:D}{q:Nat}{w2:Wn}{t2:Nat}(k:∀ v H' w' F,Good K ρ' σ H' w' (t+1)->Go H w H' w'->Rep K H' w' (.t t) q r v F->Q v H')(g:Good K ρ σ H w t)(g2:Good K ρ' σ H2 w2 t2)(go:Go H w H2 w2)
  (rr:Rep K H2 (x1o t w2) (.t t) q r v []):Q v H2:=k v H2 (x1o t w2) [] g2.drop.up (go.drop g.wt) rr
def z45 (p:Addr)(o:Ow)(w:Wn):Wn:=fun a=>if a=p then some o else w a
theorem x5m{o:Ow}{w:Wn}:z45 p o w p=some o:=if_pos rfl
theorem x42{o:Ow}{w:Wn}(h:a≠p):z45 p o w a=w a:=if_neg h
theorem alloc{ds:List D}{w1:Wn}(g:Good K ρ σ H1 w1 t)(hp:H1 p=none)(r:Reps K H1 w1 .f 0 ds vs []) :
  Good K ρ σ (upd H1 p (.lst vs)) (z45 p (.t t) w1) (t+1)/\Go H1 w1 (upd H1 p (.lst vs)) (z45 p (.t t) w1)/\Rep K (upd H1 p (.lst vs)) (z45 p (.t t) w1) (.t t) 1 (.lst ds) (.ref p) [p]:=by
 have ne:∀ a x,H1 a=some x->a≠p:=fun a x e=>x0r e hp
 have nw:∀ a o,w1 a=some o->a≠p:=fun a o e=>by obtain⟨vs,q⟩:=g.wl a o e;exact ne a _ q
 have st:x84 H1 w1 (upd H1 p (.lst vs)) (z45 p (.t t) w1):=fun a x e n=>⟨sm (by rw[x0h (ne a x e)];exact e),by rw[x42 (ne a x e)];exact n⟩
 refine⟨⟨⟨fun a o e=>?_,g.wl.tb.upd rfl (.inl hp)⟩,fun a i e=>?_,fun a i e=>?_,g.len,fun i d q e=>?_⟩,⟨st,fun a o e _=>⟨x0h (nw a o e),(x42 (nw a o e)).trans e⟩⟩,?_⟩
 ·by_cases h:a=p
  ·subst h;exact⟨vs,x0t⟩
  ·rw[x42 h]at e
   obtain⟨us,q⟩:=g.wl a o e
   exact⟨us,by rw[x0h h];exact q⟩
 ·by_cases h:a=p
  ·subst h;rw[x5m]at e;cases e
  ·rw[x42 h]at e;exact g.ws a i e
 ·by_cases h:a=p
  ·subst h;rw[x5m]at e;cases e;exact Nat.lt_succ_self _
  ·rw[x42 h]at e;exact Nat.lt_succ_of_lt (g.wt a i e)
 ·obtain⟨v,F,h1,h2⟩:=g.slot i d q e
  exact⟨v,F,h1,Rep.go g.wl st h2 fun a m=>⟨x0h (nw a _ (h2.owns a m)),(x42 (nw a _ (h2.owns a m))).trans (h2.owns a m)⟩⟩
 ·exact .own x0t x5m (Reps.go g.wl st r (fun _ z=>nomatch z)) (fun z=>nomatch z)
theorem y34{ds:List D}{w1:Wn}(g:Good K ρ σ H1 w1 t)(hp:H1 p=none)(r:Reps K H1 w1 .f 0 ds vs []) :
  Good K ρ σ (upd H1 p (.tup vs)) w1 (t+1)/\Go H1 w1 (upd H1 p (.tup vs)) w1/\Rep K (upd H1 p (.tup vs)) w1 (.t t) 9 (.tup ds) (.ref p) []:=by
 have ne:∀ a x,H1 a=some x->a≠p:=fun a x e=>x0r e hp
 have nw:∀ a o,w1 a=some o->a≠p:=fun a o e=>by obtain⟨vs,q⟩:=g.wl a o e;exact ne a _ q
 have st:x84 H1 w1 (upd H1 p (.tup vs)) w1:=fun a x e n=>⟨sm (by rw[x0h (ne a x e)];exact e),n⟩
 refine⟨⟨⟨fun a o e=>?_,g.wl.tb.upd rfl (.inl hp)⟩,g.ws,fun a i e=>Nat.lt_succ_of_lt (g.wt a i e),g.len,fun i d q e=>?_⟩,⟨st,fun a o e _=>⟨x0h (nw a o e),e⟩⟩,?_⟩
 ·obtain⟨us,q⟩:=g.wl a o e
  exact⟨us,by rw[x0h (nw a o e)];exact q⟩
 ·obtain⟨v,F,h1,h2⟩:=g.slot i d q e
  exact⟨v,F,h1,Rep.go g.wl st h2 fun a m=>⟨x0h (nw a _ (h2.owns a m)),h2.owns a m⟩⟩
 ·exact .tup x0t (Reps.go g.wl st r (fun _ z=>nomatch z))
end
@[simp] def eC (d:D):Den:=fun ρ=>some (d,9,ρ)
@[simp] def x05 (i:Nat):Den:=fun ρ=>match ρ[i]? with
 | some (some (d,q))=>if d.isL=false then some (d,9,ρ)else if q=0 then some (d,0,ρ)else some (d,0,ρ.set i (some (d,0)))
 | _=>none
section
variable {X:Cx}{a b c e:Expr}{fa fb fc f:Den}{pos:Pos}
theorem y12{d:D}(h:PE X e (tC v))(r:∀ K H w o q,Rep K H w o q d v []):PD X e (eC d):=PE.imp h fun σ H Q hh0=>by
 obtain⟨ρ,w,t,r',q,ρ',g,ee,k⟩:=hh0
 cases ee
 exact k v H w [] g.up Go.refl (r _ _ _ _ _)
theorem j50{i j}:PD X (.Constant (.int i) j pos) (eC (.int i)):=y12 y5v fun _ _ _ _ _=>.int i
theorem j7e{i j}:PD X (.Constant (.bool i) j pos) (eC (.bl i)):=y12 j6q fun _ _ _ _ _=>.bl i
theorem j3a{j}:PD X (.Constant .none j pos) (eC .non):=y12 j2z fun _ _ _ _ _=>.non
theorem j48{x j}:PD X (.Constant (.str x) j pos) (eC (.str x)):=y12 y8k fun _ _ _ _ _=>.str x
def x60 (i:Nat)(w:Wn):Wn:=fun a=>if w a=some (.s i)then none else w a
theorem x5n{w:Wn}{a:Addr}(h:w a=none):x60 i w a=none:=by unfold x60;rw[h];rfl
theorem y3b{w:Wn}{a:Addr}(h:w a=some (.s i)):x60 i w a=none:=by unfold x60;rw[if_pos h]
theorem x7b{w:Wn}{a:Addr}{o:Ow}(h:w a=some o)(n:o ≠ .s i):x60 i w a=some o:=by unfold x60;rw[if_neg (by rw[h];exact fun z=>n (Option.some.inj z))];exact h
theorem x3a{w:Wn}{a:Addr}{o:Ow}(h:x60 i w a=some o):w a=some o/\o ≠ .s i:=by
 unfold x60 at h
 split at h
 ·cases h
 ·rename_i n;exact⟨h,fun z=>n (by rw[h,z])⟩
theorem Good.give{ρ:Rho}{σ:St}{w:Wn}{d:D}{q:Nat}(g:Good K ρ σ H w t)(e:ρ[i]? = some (some (d,q))):Good K (ρ.set i (some (d,0))) σ H (x60 i w) t/\Go H w H (x60 i w):=by
 have st:x84 H w H (x60 i w):=fun a x h n=>⟨sm h,x5n n⟩
 refine⟨⟨⟨fun a o h=>g.wl a o (x3a h).1,g.wl.tb⟩,fun a j h=>g.ws a j (x3a h).1,fun a j h=>g.wt a j (x3a h).1,by rw[List.length_set];exact g.len,fun j d' q' e'=>?_⟩,⟨st,fun a o h n=>⟨rfl,x7b h (n i)⟩⟩⟩
 by_cases hj:i=j
 ·subst hj
  rw[List.getElem?_set_self (List.getElem?_eq_some_iff.mp e).1]at e'
  cases e'
  obtain⟨v,F,h1,h2⟩:=g.slot i d q e
  exact⟨v,[],h1,Rep.freeze (fun a n=>x5n n) h2 fun a m=>y3b (h2.owns a m)⟩
 ·rw[List.getElem?_set_ne hj]at e'
  obtain⟨v,F,h1,h2⟩:=g.slot j d' q' e'
  exact⟨v,F,h1,Rep.go g.wl st h2 fun a m=>⟨rfl,x7b (h2.owns a m) (fun z=>hj (by cases z;rfl))⟩⟩
theorem j27(h:PE X (.Name x pos) (x7j i)):PD X (.Name x pos) (x05 i):=PE.imp h fun σ H Q hh0=>by
 obtain⟨ρ,w,t,r',q,ρ',g,ee,k⟩:=hh0
 unfold x05 at ee
 split at ee
 ·rename_i d q0 e0
  obtain⟨v,F,h1,h2⟩:=g.slot i d q0 e0
  refine⟨v,h1,?_⟩
  split at ee
  ·rename_i hl
   cases ee
   obtain⟨hF,hr⟩:=h2.nolist hl
   exact k v H w [] g.up Go.refl ((hr 9).any g.wl)
  ·split at ee
   ·rename_i hq
    subst hq
    cases ee
    have:=h2.zero
    subst this
    exact k v H w [] g.up Go.refl (h2.any g.wl)
   ·cases ee
    obtain⟨g',go'⟩:=g.give e0
    refine k v H (x60 i w) [] g'.up go' ?_
    exact Rep.freeze (fun a n=>x5n n) h2 fun a m=>y3b (h2.owns a m)
 ·cases ee
def y4c:D->Option V
 | .non=>some .non
 | .bl b=>some (.bl b)
 | .int i=>some (.int i)
 | .str x=>some (.str x)
 | _=>none
theorem y4u{w:Wn}{o:Ow}{q:Nat}{d:D}(h:y4c d=some v):Rep K H w o q d v []:=by
 cases d<;>cases h
 ·exact .non
 ·exact .bl _
 ·exact .int _
 ·exact .str _
@[simp] def e2 (g:D->D->Option D)(fa fb:Den):Den:=fun ρ=>match fa ρ with
 | some (x,_,ρ1)=>match fb ρ1 with
  | some (y,_,ρ2)=>match g x y with
   | some d=>some (d,9,ρ2)
   | none=>none
  | none=>none
 | none=>none
theorem j1h{g:D->D->Option D}{ρ ρ':Rho}{r:D}{q:Nat}(h:e2 g fa fb ρ=some (r,q,ρ')):∃ x q1 ρ1 y q2,fa ρ=some (x,q1,ρ1)/\fb ρ1=some (y,q2,ρ')/\g x y=some r/\q=9:=by
 unfold e2 at h
 split at h
 ·rename_i x q1 ρ1 h1
  split at h
  ·rename_i y q2 ρ2 h2
   split at h
   ·rename_i d hd
    cases h
    exact⟨x,q1,ρ1,y,q2,h1,h2,hd,rfl⟩
   ·cases h
  ·cases h
 ·cases h
theorem x8i{g:D->D->Option D}(hg:∀ x y d,g x y=some d->∃ v,y4c d=some v/\∀ H w o o' q q' u u' F F',Rep K H w o q x u F->Rep K H w o' q' y u' F'->WL K w H->∀ Q:VK,Q v H->r u u' H Q) :
  ∀ σ H Q,tD K (e2 g fa fb) σ H Q->tOp r (tD K fa) (tD K fb) σ H Q:=fun σ H Q hh0=>by
 obtain⟨ρ,w,t,r',q,ρ',gd,ee,k⟩:=hh0
 obtain⟨x,q1,ρ1,y,q2,h1,h2,h3,rfl⟩:=j1h ee
 obtain⟨v,hv,hr⟩:=hg x y r' h3
 exact j0k gd h1 h2 fun u u' H2 w2 F1 F2 g2 go r1 r2=>hr H2 w2 _ _ _ _ u u' F1 F2 r1 r2 g2.wl Q (j0q k gd g2 go (y4u hv))
@[simp] def gI (f:Int->Int->Option D):D->D->Option D
 | .int i,.int j=>f i j
 | _,_=>none
theorem y29{f:Int->Int->Option D}{x y d:D}(h:gI f x y=some d):∃ i j,x=.int i/\y=.int j/\f i j=some d:=by
 unfold gI at h
 split at h
 ·exact⟨_,_,rfl,rfl,h⟩
 ·cases h
theorem x4u{w:Wn}{o:Ow}{q:Nat}{i:Int}(r:Rep K H w o q (.int i) v F):v=.int i:=by cases r;rfl
theorem y74{f:Int->Int->Option D}{C:Int->Int->Prop}(hf:∀ i j d,f i j=some d->C i j/\y4c d=some (h i j)) :
  ∀ σ H Q,tD K (e2 (gI f) fa fb) σ H Q->tOp (rI C h) (tD K fa) (tD K fb) σ H Q:=
 x8i fun x y d e=>by
  obtain⟨i,j,rfl,rfl,e⟩:=y29 e
  obtain⟨c,s⟩:=hf i j d e
  exact⟨_,s,fun H w o o' q q' u u' F F' r1 r2 _ Q hq=>⟨i,j,x4u r1,x4u r2,c,hq⟩⟩
theorem y4r{f:Int->Int->Option D}(hf:∀ i j d,f i j=some d->y4c d=some (h i j)) :
  ∀ σ H Q,tD K (e2 (gI f) fa fb) σ H Q->tOp (rI0 h) (tD K fa) (tD K fb) σ H Q:=
 x8i fun x y d e=>by
  obtain⟨i,j,rfl,rfl,e⟩:=y29 e
  exact⟨_,hf i j d e,fun H w o o' q q' u u' F F' r1 r2 _ Q hq=>⟨i,j,x4u r1,x4u r2,hq⟩⟩
@[simp] def x31:D->D->Option D:=gI fun i j=>some (.int (i+j))
@[simp] def y0x:D->D->Option D:=gI fun i j=>if(-(2 ^ 64)<i/\i<2 ^ 64)\/(-(2 ^ 64)<j/\j<2 ^ 64)then some (.int (i*j))else none
@[simp] def j42:D->D->Option D:=gI fun i j=>if 0<j/\j<1073741824 then some (.int (i / j))else none
@[simp] def z85:D->D->Option D:=gI fun i j=>if 0<j then some (.int (i % j))else none
theorem j4w(ha:PD X a fa)(hb:PD X b fb):PD X (.BinOp a .Add b pos) (e2 x31 fa fb):=PE.imp (y49 z7s ha hb) (y4r fun i j d h=>by cases h;rfl)
theorem j2o(ha:PD X a fa)(hb:PD X b fb):PD X (.BinOp a .Mult b pos) (e2 y0x fa fb):=PE.imp (y49 j4u ha hb) (y74 fun i j d h=>by
 split at h
 ·cases h;exact⟨by assumption,rfl⟩
 ·cases h)
theorem j3m(ha:PD X a fa)(hb:PD X b fb):PD X (.BinOp a .FloorDiv b pos) (e2 j42 fa fb):=PE.imp (y49 z9c ha hb) (y74 fun i j d h=>by
 split at h
 ·cases h;exact⟨by assumption,rfl⟩
 ·cases h)
theorem j32(ha:PD X a fa)(hb:PD X b fb):PD X (.BinOp a .Mod b pos) (e2 z85 fa fb):=PE.imp (y49 j55 ha hb) (y74 fun i j d h=>by
 split at h
 ·cases h;exact⟨by assumption,rfl⟩
 ·cases h)
def atD:D->Int->Option D
 | .lst ds,i=>atI ds i
 | .tup ds,i=>atI ds i
 | _,_=>none
@[simp] def eIx (fa fb:Den):Den:=fun ρ=>match fa ρ with
 | some (x,_,ρ1)=>match fb ρ1 with
  | some (.int i,_,ρ2)=>match atD x i with
   | some d=>some (d,x9m d,ρ2)
   | none=>none
  | _=>none
 | none=>none
theorem Rep.seqL{w:Wn}{o:Ow}{q:Nat}{ds:List D}(r:Rep K H w o q (.lst ds) v F):∃ a vs q' G,v=.ref a/\SqL K H a vs/\Reps K H w o q' ds vs G:=by
 cases r with
 | kl h r=>exact⟨_,_,_,_,rfl,h.sq,r⟩
 | shr h n r=>exact⟨_,_,_,_,rfl,.inl h,r⟩
 | own h n r _=>exact⟨_,_,_,_,rfl,SqL.of h,r⟩
theorem Rep.seqL0{w:Wn}{o:Ow}{ds:List D}(r:Rep K H w o 0 (.lst ds) v F):∃ a vs,v=.ref a/\SqL K H a vs/\Reps K H w o 0 ds vs []:=by
 cases r with
 | kl h r=>exact⟨_,_,rfl,h.sq,r⟩
 | shr h n r=>exact⟨_,_,rfl,.inl h,r⟩
theorem Rep.seqT{w:Wn}{o:Ow}{q:Nat}{ds:List D}(r:Rep K H w o q (.tup ds) v F):∃ a vs,v=.ref a/\SqT K H a vs/\Reps K H w o 0 ds vs []:=by
 cases r with
 | tup h r=>exact⟨_,_,rfl,SqT.of h,r⟩
theorem Rep.tupAt{w:Wn}{o:Ow}{q:Nat}{ds:List D}(r:Rep K H w o q (.tup ds) v F):∃ a vs,v=.ref a/\H a=some (.tup vs)/\Reps K H w o 0 ds vs []:=by
 cases r with
 | tup h r=>exact⟨_,_,rfl,h,r⟩
theorem Reps.atI{w:Wn}{o:Ow}{ds:List D}{i:Int}{d:D}(r:Reps K H w o 0 ds vs [])(h:L2.atI ds i=some d):∃ v,L2.atI vs i=some v/\Rep K H w o 0 d v []:=by
 unfold L2.atI at h ⊢
 rw[<- r.length]
 cases e:ixN ds.length i with
 | none=>rw[e]at h;cases h
 | some j=>
  rw[e]at h
  exact r.get h
theorem j6l(ha:PD X a fa)(hb:PD X b fb)(hs:x4m b:=by exact fun _ _=>rfl):PD X (.Subscript a b pos) (eIx fa fb):=PE.imp (z21 y5g ha hb hs) fun σ H Q hh0=>by
 obtain⟨ρ,w,t,r',q,ρ',gd,ee,k⟩:=hh0
 unfold eIx at ee
 split at ee
 ·rename_i x q1 ρ1 h1
  split at ee
  ·rename_i i q2 ρ2 h2
   split at ee
   ·rename_i d hd
    cases ee
    refine j0k gd h1 h2 fun u u' H2 w2 F1 F2 g2 go r1 r2=>?_
    have hu':=x4u r2
    subst hu'
    have r0:=r1.drop (o:=.t t) (Nat.le_refl t)
    cases x with
    | lst ds=>
     obtain⟨p,vs,rfl,hq,rs⟩:=r0.seqL0
     obtain⟨v,hv,rv⟩:=rs.atI hd
     exact .inl ⟨p,vs,i,v,rfl,rfl,hq,hv,j0q k gd g2 go rv.dep⟩
    | tup ds=>
     obtain⟨p,vs,rfl,hq,rs⟩:=r0.seqT
     obtain⟨v,hv,rv⟩:=rs.atI hd
     exact .inr (.inl ⟨p,vs,i,v,rfl,rfl,hq,hv,j0q k gd g2 go rv.dep⟩)
    | _=>cases hd
   ·cases ee
  ·cases ee
 ·cases ee
abbrev x1q:=Rho->Option (List D×Rho)
def tDA (K:PySem.W.Frag)(f:x1q):TA:=fun σ H Q=>∃ ρ w t ds ρ',Good K ρ σ H w t/\f ρ=some (ds,ρ')/\∀ vs H' w',Good K ρ' σ H' w' t->Go H w H' w'->Reps K H' w' .f 0 ds vs []->Q vs H'
abbrev PDA (X:Cx)(es:List Expr)(f:x1q):Prop:=PA X es (tDA X.K f)
theorem PA.imp{X:Cx}{e:List Expr}{t t':TA}(h:PA X e t)(i:∀ σ H Q,t' σ H Q->t σ H Q):PA X e t':=fun pos pins s σ H Q I q=>h pos pins s σ H Q I (i σ H Q q)
@[simp] def x0i:x1q:=fun ρ=>some ([],ρ)
@[simp] def x02 (f:Den)(g:x1q):x1q:=fun ρ=>match f ρ with
 | some (d,_,ρ1)=>match g ρ1 with
  | some (ds,ρ2)=>some (d::ds,ρ2)
  | none=>none
 | none=>none
theorem j1a:PDA X [] x0i:=PA.imp x6h fun σ H Q hh0=>by
 obtain⟨ρ,w,t,ds,ρ',gd,ee,k⟩:=hh0
 cases ee
 exact k [] H w gd Go.refl .nil
theorem z6b{g:x1q}(ha:PD X e f)(hr:PDA X es g)(hs:starEach (e::es) X.env=(false,eval e X.env)::starEach es X.env:=by rfl):PDA X (e::es) (x02 f g):=PA.imp (x3i ha hr hs) fun σ H Q hh0=>by
 obtain⟨ρ,w,t,ds,ρ',gd,ee,k⟩:=hh0
 unfold x02 at ee
 split at ee
 ·rename_i d q ρ1 h1
  split at ee
  ·rename_i ds' ρ2 h2
   cases ee
   refine⟨ρ,w,t,d,q,ρ1,gd,h1,fun x H1 w1 F1 g1 go1 r1=>⟨ρ1,x1o t w1,t,ds',_,g1.drop,h2,fun vs H2 w2 g2 go2 r2=>?_⟩⟩
   have gl:=(g1.drop (t':=t)).wl
   have r0:Rep X.K H2 w2 .f 0 d x []:=Rep.go gl go2.stab (r1.drop (o:=.f) (Nat.le_refl t)) (fun _ z=>nomatch z)
   exact k (x::vs) H2 w2 g2 ((go1.drop gd.wt).trans go2) (.cons (F:=[]) (G:=[]) r0 r2 (fun _ z=>nomatch z))
  ·cases ee
 ·cases ee
@[simp] def x5c (g:x1q):Den:=fun ρ=>match g ρ with
 | some (ds,ρ1)=>if ds.length<=1000 then some (.lst ds,1,ρ1)else none
 | none=>none
@[simp] def x8a (g:x1q):Den:=fun ρ=>match g ρ with
 | some (ds,ρ1)=>if ds.length<=1000 then some (.tup ds,9,ρ1)else none
 | none=>none
theorem y07(h:n<=1000):n<=sizeLine:=Nat.le_of_lt (x4p h)
theorem j41{g:x1q}(h:PDA X es g):PD X (.List es pos) (x5c g):=PE.imp (j5g h) fun σ H Q hh0=>by
 obtain⟨ρ,w,t,r',q,ρ',gd,ee,k⟩:=hh0
 unfold x5c at ee
 split at ee
 ·rename_i ds ρ1 h1
  split at ee
  ·rename_i hl
   cases ee
   refine⟨ρ,w,t,ds,_,gd,h1,fun vs H1 w1 g1 go1 r1=>⟨by rw[<- r1.length];exact y07 hl,fun p hp=>?_⟩⟩
   obtain⟨a1,a2,a3⟩:=alloc g1 hp r1
   exact k _ _ _ _ a1 (go1.trans a2) a3
  ·cases ee
 ·cases ee
theorem j49{g:x1q}{x1}(h:PDA X es g):PD X (.Tuple es x1 pos) (x8a g):=PE.imp (j2b h) fun σ H Q hh0=>by
 obtain⟨ρ,w,t,r',q,ρ',gd,ee,k⟩:=hh0
 unfold x8a at ee
 split at ee
 ·rename_i ds ρ1 h1
  split at ee
  ·rename_i hl
   cases ee
   refine⟨ρ,w,t,ds,_,gd,h1,fun vs H1 w1 g1 go1 r1=>⟨by rw[<- r1.length];exact y07 hl,fun p hp=>?_⟩⟩
   obtain⟨a1,a2,a3⟩:=y34 g1 hp r1
   exact k _ _ _ _ a1 (go1.trans a2) a3
  ·cases ee
 ·cases ee
def spD (K:PySem.W.Frag)(n:Nat)(F:List D->OD):Sp:=fun vs H Q _=>vs.length=n/\∃ ds w r q,(∀ a o,w a=some o->o=.f)/\WL K w H/\Reps K H w .f 0 ds vs []/\F ds=some (r,q) /\
 ∀ v H' w' Fo,Go H w H' w'->WL K w' H'->Rep K H' w' (.t 0) q r v Fo->Q v H'
@[simp] def x0j (F:List D->OD)(n:Nat)(g:x1q):Den:=fun ρ=>match g ρ with
 | some (ds,ρ1)=>if ds.length=n then match F ds with
  | some (r,q)=>some (r,q,ρ1)
  | none=>none
  else none
 | none=>none
theorem j7v{ρ:Rho}{σ:St}{w w':Wn}{q:Nat}{d:D}{Fo:List Addr}(g:Good K ρ σ H w t)
  (go:Go H (fun a=>(w a).map fun _=>Ow.f) H' w') (wl':WL K w' H') (r:Rep K H' w' (.t 0) q d v Fo) :
  Good K ρ σ H' (fun a=>if a∈Fo then some (.t t)else w a) (t+1)/\Go H w H' (fun a=>if a∈Fo then some (.t t)else w a)/\Rep K H' (fun a=>if a∈Fo then some (.t t)else w a) (.t t) q d v Fo:=by
 have kf:∀ a o,w a=some o->H' a=H a/\w' a=some .f:=fun a o e=>go.keep a .f (by show(w a).map _=_;rw[e];rfl) (fun _ z=>nomatch z)
 have nf:∀ a x,H a=some x->a ∉ Fo:=fun a x e m=>by
  have h1:=r.owns a m
  cases ew:w a with
  | none=>
   have:=(go.stab a x e (by show(w a).map _=_;rw[ew];rfl)).2
   rw[h1]at this;cases this
  | some o=>rw[(kf a o ew).2]at h1;cases h1
 have nw:∀ a o,w a=some o->a ∉ Fo:=fun a o e=>by obtain⟨vs,q⟩:=g.wl a o e;exact nf a _ q
 have st:x84 H w H' (fun a=>if a∈Fo then some (.t t)else w a):=fun a x e n=>⟨(go.stab a x e (by show(w a).map _=_;rw[n];rfl)).1,by show(if a∈Fo then _ else _)=_;rw[if_neg (nf a x e)];exact n⟩
 have wv:∀ a o,(if a∈Fo then some (Ow.t t)else w a)=some o->(a∈Fo/\o=.t t)\/w a=some o:=fun a o e=>by
  split at e
  ·cases e;exact .inl ⟨by assumption,rfl⟩
  ·exact .inr e
 refine⟨⟨⟨fun a o e=>?_,wl'.tb⟩,fun a i e=>?_,fun a i e=>?_,g.len,fun i d q e=>?_⟩,⟨st,fun a o e _=>⟨(kf a o e).1,by show(if a∈Fo then _ else _)=_;rw[if_neg (nw a o e)];exact e⟩⟩,?_⟩
 ·rcases wv a o e with⟨m,_⟩|z
  ·exact wl' a _ (r.owns a m)
  ·obtain⟨vs,h⟩:=g.wl a o z
   exact⟨vs,(kf a o z).1.trans h⟩
 ·rcases wv a _ e with⟨_,z⟩|z
  ·cases z
  ·exact g.ws a i z
 ·rcases wv a _ e with⟨_,z⟩|z
  ·cases z;exact Nat.lt_succ_self _
  ·exact Nat.lt_succ_of_lt (g.wt a i z)
 ·obtain⟨v,F,h1,h2⟩:=g.slot i d q e
  refine⟨v,F,h1,Rep.go g.wl st h2 fun a m=>⟨(kf a _ (h2.owns a m)).1,?_⟩⟩
  show(if a∈Fo then _ else _)=_
  rw[if_neg (nw a _ (h2.owns a m))]
  exact h2.owns a m
 ·refine Rep.go wl' (fun a x e n=>⟨sm e,?_⟩) r fun a m=>⟨rfl,if_pos m⟩
  show(if a∈Fo then _ else _)=_
  rw[if_neg (fun m=>by have:=r.owns a m;rw[n]at this;cases this)]
  cases ew:w a with
  | none=>rfl
  | some o=>have:=(kf a o ew).2;rw[n]at this;cases this
theorem z66{CX:CXT}{k:Nat}{fn:Addr}{p:Pos}{F:List D->OD}{g:x1q}(Fk:FnOk X.prog X.w X.K X.mg X.base CX k fn fd ps (spD X.K n F))(hr:Room k X.A)(hm:X.mg x=some (.ref fn))(hk:PySem.W.keepIn X.K (.ref fn)=true)(hb:y4b X.K fd ps [])
  (hx:y8n CX X E) (ha:PDA X (e::es) g) (hg:Gl X x:=by rfl) (hdb:(x==("__debug__":Str))=false:=by decide) (he:starEach (e::es) X.env=(false,eval e X.env)::starEach es X.env:=by rfl) (hpl:(backTo pos (starEach es X.env)).any (·.1)=false:=by rfl) :
  PD X (.Call (.Name x p) (e::es) [] pos) (x0j F n g):=PE.imp (z3l Fk hr hg hm hk hb .nil hx ha hdb he hpl) fun σ H Q hh0=>by
 obtain⟨ρ,w,t,r',q,ρ',gd,ee,k⟩:=hh0
 unfold x0j at ee
 split at ee
 ·rename_i ds ρ1 h1
  split at ee
  ·rename_i hn
   split at ee
   ·rename_i r0 q0 h2
    cases ee
    refine⟨ρ,w,t,ds,_,gd,h1,fun vs H1 w1 g1 go1 r1=>?_⟩
    show spD X.K n F (vs++[]) H1 Q E
    rw[List.append_nil]
    refine⟨by rw[<- r1.length];exact hn,ds,fun a=>(w1 a).map fun _=>Ow.f,r',q,fun a o e=>?_,⟨fun a o e=>?_,g1.wl.tb⟩,?_,h2,fun v H2 w2 Fo go2 wl2 rr=>?_⟩
    ·dsimp only at e
     cases ew:w1 a with
     | none=>rw[ew]at e;cases e
     | some o'=>rw[ew]at e;cases e;rfl
    ·try dsimp only at e
     cases ew:w1 a with
     | none=>rw[ew]at e;cases e
     | some o'=>exact g1.wl a o' ew
    ·exact Reps.freeze (fun a n=>by show(w1 a).map _=_;rw[n];rfl) r1 (fun _ z=>nomatch z)
    ·obtain⟨b1,b2,b3⟩:=j7v g1 go2 wl2 rr
     exact k _ _ _ _ b1 (go1.trans b2) b3
   ·cases ee
  ·cases ee
 ·cases ee
end
abbrev x1u:=Rho->Option (Bool×Rho)
def tDT (K:PySem.W.Frag)(f:x1u):TT:=fun σ H Q=>∃ ρ w t b ρ',Good K ρ σ H w t/\f ρ=some (b,ρ')/\∀ H' w',Good K ρ' σ H' w' t->Go H w H' w'->Q b H'
theorem PT.imp{e:Expr}{t t':TT}(h:PT X e t)(i:∀ σ H Q,t' σ H Q->t σ H Q):PT X e t':=fun pins s σ H Q I q=>h pins s σ H Q I (i σ H Q q)
theorem PW.imp{e:Expr}{t t':TT}(h:PW X e t)(i:∀ σ H Q,t' σ H Q->t σ H Q):PW X e t':=fun whole pins s σ H Q I q=>h whole pins s σ H Q I (i σ H Q q)
abbrev PDT (X:Cx)(e:Expr)(f:x1u):Prop:=PT X e (tDT X.K f)
abbrev PDW (X:Cx)(e:Expr)(f:x1u):Prop:=PW X e (tDT X.K f)
@[simp] def j85:D->Option Bool
 | .non=>some false
 | .bl b=>some b
 | .int i=>some (i != 0)
 | .tup ds=>some (!ds.isEmpty)
 | .lst ds=>some (!ds.isEmpty)
 | .str _=>none
 | .dic _ _=>none
 | .exc _=>none
 | .ob _ _ _ _=>none
@[simp] def x7x (f:Den):x1u:=fun ρ=>match f ρ with
 | some (d,_,ρ1)=>match j85 d with
  | some b=>some (b,ρ1)
  | none=>none
 | none=>none
section
variable {X:Cx}{a b c e:Expr}{fa fb fc f:Den}{ga gb gc:x1u}{pos:Pos}
theorem y17{α β:Type}{l:List α}{l':List β}(h:l.length=l'.length):(!l.isEmpty) = !l'.isEmpty:=by
 cases l<;>cases l'<;>first|rfl|cases h
theorem j1i(ha:PD X a fa)(he:∀ whole,isTrue a X.env whole=(do let v <- whole;standAt a.pos;holding [v] (truthy v)):=by exact fun _=>rfl):PDT X a (x7x fa):=PT.imp (z5v ha he) fun σ H Q hh0=>by
 obtain⟨ρ,w,t,b,ρ',gd,ee,k⟩:=hh0
 unfold x7x at ee
 split at ee
 ·rename_i d q ρ1 h1
  split at ee
  ·rename_i b' hb
   cases ee
   refine⟨ρ,w,t,d,q,_,gd,h1,fun v H1 w1 F g1 go1 r1=>⟨b,?_,k H1 (x1o t w1) g1.drop (go1.drop gd.wt)⟩⟩
   cases r1 with
   | non=>cases hb;rfl
   | bl x=>cases hb;rfl
   | int i=>cases hb;rfl
   | str x=>cases hb
   | tup h r=>cases hb;exact .inr (.inl ⟨_,SqT.of h,y17 r.length⟩)
   | dic h r=>cases hb
   | exc h x n=>cases hb
   | ob h1 h2 x r=>cases hb
   | kl h r=>cases hb;exact .inl ⟨_,h.sq,y17 r.length⟩
   | shr h _ r=>cases hb;exact .inl ⟨_,.inl h,y17 r.length⟩
   | own h _ r _=>cases hb;exact .inl ⟨_,SqL.of h,y17 r.length⟩
  ·cases ee
 ·cases ee
@[simp] def x3d (f:Den):x1u:=fun ρ=>match f ρ with
 | some (.bl b,_,ρ1)=>some (b,ρ1)
 | _=>none
theorem z63(h:∀ σ H Q,tD K f σ H Q->te σ H Q):∀ σ H Q,tDT K (x3d f) σ H Q->j45 te σ H Q:=fun σ H Q hh0=>by
 obtain⟨ρ,w,t,b,ρ',gd,ee,k⟩:=hh0
 unfold x3d at ee
 split at ee
 ·rename_i b' q ρ1 h1
  cases ee
  refine h σ H _ ⟨ρ,w,t,.bl b,q,_,gd,h1,fun v H1 w1 F g1 go1 r1=>?_⟩
  cases r1
  exact⟨b,rfl,k H1 (x1o t w1) g1.drop (go1.drop gd.wt)⟩
 ·cases ee
theorem x6y{g:D->D->Option D}(ho:OpR X (compareOp op) r)(hr:∀ σ H Q,tD X.K (e2 g fa fb) σ H Q->tOp r (tD X.K fa) (tD X.K fb) σ H Q)(ha:PD X a fa)(hb:PD X b fb)(hm:behindInMarks op b=false) :
  PDT X (.Compare a [op] [b] pos) (x3d (e2 g fa fb)):=PT.imp (z8x ho ha hb hm) (z63 hr)
theorem z7y{g:D->D->Option D}(ho:OpR X (compareOp op) r)(hr:∀ σ H Q,tD X.K (e2 g fa fb) σ H Q->tOp r (tD X.K fa) (tD X.K fb) σ H Q)(ha:PD X a fa)(hb:PD X b fb)(hm:behindInMarks op b=false) :
  PD X (.Compare a [op] [b] pos) (e2 g fa fb):=PE.imp (j0f ho ha hb hm) hr
@[simp] def dLt:D->D->Option D:=gI fun i j=>some (.bl (decide (i<j)))
@[simp] def dLe:D->D->Option D:=gI fun i j=>some (.bl (decide (i<=j)))
@[simp] def dGt:D->D->Option D:=gI fun i j=>some (.bl (decide (j<i)))
theorem hLt:∀ σ H Q,tD K (e2 dLt fa fb) σ H Q->tOp (rI0 fun i j=>.bl (decide (i<j))) (tD K fa) (tD K fb) σ H Q:=y4r fun i j d h=>by cases h;rfl
theorem hGt:∀ σ H Q,tD K (e2 dGt fa fb) σ H Q->tOp (rI0 fun i j=>.bl (decide (j<i))) (tD K fa) (tD K fb) σ H Q:=y4r fun i j d h=>by cases h;rfl
theorem j59(ha:PD X a fa)(hb:PD X b fb):PDT X (.Compare a [.Lt] [b] pos) (x3d (e2 dLt fa fb)):=x6y j40 hLt ha hb (y09 _)
theorem j2e(ha:PD X a fa)(hb:PD X b fb):PDT X (.Compare a [.Gt] [b] pos) (x3d (e2 dGt fa fb)):=x6y j6z hGt ha hb (y09 _)
@[simp] def x4d (g:x1u):x1u:=fun ρ=>match g ρ with
 | some (b,ρ1)=>some (!b,ρ1)
 | none=>none
theorem z8w(ha:PDT X a ga):PDT X (.UnaryOp .Not a pos) (x4d ga):=PT.imp (j2t ha) fun σ H Q hh0=>by
 obtain⟨ρ,w,t,b,ρ',gd,ee,k⟩:=hh0
 unfold x4d at ee
 split at ee
 ·rename_i b' ρ1 h1
  cases ee
  exact⟨ρ,w,t,b',_,gd,h1,fun H1 w1 g1 go1=>k H1 w1 g1 go1⟩
 ·cases ee
@[simp] def z0b (g h:x1u):x1u:=fun ρ=>match g ρ with
 | some (b,ρ1)=>if b=true then h ρ1 else some (false,ρ1)
 | none=>none
@[simp] def y6o (g h:x1u):x1u:=fun ρ=>match g ρ with
 | some (b,ρ1)=>if b=true then some (true,ρ1)else h ρ1
 | none=>none
variable {x21:List Expr}
theorem z6o(ha:PDT X a ga):PDW X (.BoolOp .And [a] pos) ga:=j0a ha
theorem j13(ha:PDT X a ga):PDW X (.BoolOp .Or [a] pos) ga:=j2n ha
theorem z8k(ha:PDT X a ga)(hb:PDW X (.BoolOp .And (b::x21) pos) gb):PDW X (.BoolOp .And (a::b::x21) pos) (z0b ga gb):=PW.imp (j2y ha hb) fun σ H Q hh0=>by
 obtain⟨ρ,w,t,b,ρ',gd,ee,k⟩:=hh0
 unfold z0b at ee
 split at ee
 ·rename_i b' ρ1 h1
  refine⟨ρ,w,t,b',ρ1,gd,h1,fun H1 w1 g1 go1=>?_⟩
  split at ee
  ·rename_i hb;rw[if_pos hb]
   exact⟨ρ1,w1,t,b,ρ',g1,ee,fun H2 w2 g2 go2=>k H2 w2 g2 (go1.trans go2)⟩
  ·rename_i hb;rw[if_neg hb]
   cases ee
   exact k H1 w1 g1 go1
 ·cases ee
theorem j5e(ha:PDT X a ga)(hb:PDW X (.BoolOp .Or (b::x21) pos) gb):PDW X (.BoolOp .Or (a::b::x21) pos) (y6o ga gb):=PW.imp (j7m ha hb) fun σ H Q hh0=>by
 obtain⟨ρ,w,t,b,ρ',gd,ee,k⟩:=hh0
 unfold y6o at ee
 split at ee
 ·rename_i b' ρ1 h1
  refine⟨ρ,w,t,b',ρ1,gd,h1,fun H1 w1 g1 go1=>?_⟩
  split at ee
  ·rename_i hb;rw[if_pos hb]
   cases ee
   exact k H1 w1 g1 go1
  ·rename_i hb;rw[if_neg hb]
   exact⟨ρ1,w1,t,b,ρ',g1,ee,fun H2 w2 g2 go2=>k H2 w2 g2 (go1.trans go2)⟩
 ·cases ee
@[simp] def eIf (g:x1u)(fa fb:Den):Den:=fun ρ=>match g ρ with
 | some (b,ρ1)=>if b=true then fa ρ1 else fb ρ1
 | none=>none
theorem z5i(hc:PDT X c gc)(ha:PD X a fa)(hb:PD X b fb):PD X (.IfExp c a b pos) (eIf gc fa fb):=PE.imp (z53 hc ha hb) fun σ H Q hh0=>by
 obtain⟨ρ,w,t,r',q,ρ',gd,ee,k⟩:=hh0
 unfold eIf at ee
 split at ee
 ·rename_i b' ρ1 h1
  refine⟨ρ,w,t,b',ρ1,gd,h1,fun H1 w1 g1 go1=>?_⟩
  split at ee
  ·rename_i hb;rw[if_pos hb]
   exact⟨ρ1,w1,t,r',q,ρ',g1,ee,fun v H2 w2 F g2 go2=>k v H2 w2 F g2 (go1.trans go2)⟩
  ·rename_i hb;rw[if_neg hb]
   exact⟨ρ1,w1,t,r',q,ρ',g1,ee,fun v H2 w2 F g2 go2=>k v H2 w2 F g2 (go1.trans go2)⟩
 ·cases ee
end
inductive Out where
 | nx (ρ:Rho)|rt (d:D) (q:Nat)|bk (ρ:Rho)|ct (ρ:Rho)
abbrev x13:=Rho->Option Out
def y2m (K:PySem.W.Frag)(Dn:Ends)(n:Nat)(H:Hp)(w:Wn):Out->Prop
 | .nx ρ'=>∀ σ' H' w',σ'.length=n->Good K ρ' σ' H' w' 0->Go H w H' w'->Dn.nx σ' H'
 | .bk ρ'=>∀ σ' H' w',σ'.length=n->Good K ρ' σ' H' w' 0->Go H w H' w'->Dn.bk σ' H'
 | .ct ρ'=>∀ σ' H' w',σ'.length=n->Good K ρ' σ' H' w' 0->Go H w H' w'->Dn.ct σ' H'
 | .rt d q=>∀ v H' w' F,WL K w' H'->Go H w H' w'->Rep K H' w' (.t 0) q d v F->Dn.rt v H'
def tDS (K:PySem.W.Frag)(f:x13):TS:=fun Dn σ H=>∃ ρ w o,Good K ρ σ H w 0/\f ρ=some o/\y2m K Dn σ.length H w o
theorem PS.imp{e:Stmt}{t t':TS}(h:PS X e t)(i:∀ D σ H,t' D σ H->t D σ H):PS X e t':=fun pins s σ H D I q=>h pins s σ H D I (i D σ H q)
theorem PSs.imp{e:List Stmt}{t t':TS}(h:PSs X e t)(i:∀ D σ H,t' D σ H->t D σ H):PSs X e t':=fun pins s σ H D I q=>h pins s σ H D I (i D σ H q)
abbrev PDS (X:Cx)(st:Stmt)(f:x13):Prop:=PS X st (tDS X.K f)
abbrev y8q (X:Cx)(st:List Stmt)(f:x13):Prop:=PSs X st (tDS X.K f)
@[simp] def x5t:x13:=fun ρ=>some (.nx ρ)
@[simp] def x0y (f g:x13):x13:=fun ρ=>match f ρ with
 | some (.nx ρ1)=>g ρ1
 | o=>o
theorem y2m.trans{Dn:Ends}{w w1:Wn}(go:Go H w H1 w1):∀ {o:Out},y2m K Dn n H w o->y2m K Dn n H1 w1 o
 | .nx _,h=>fun σ' H' w' e g go'=>h σ' H' w' e g (go.trans go')
 | .bk _,h=>fun σ' H' w' e g go'=>h σ' H' w' e g (go.trans go')
 | .ct _,h=>fun σ' H' w' e g go'=>h σ' H' w' e g (go.trans go')
 | .rt _ _,h=>fun v H' w' F wl go'=>h v H' w' F wl (go.trans go')
section
variable {X:Cx}{a b c e:Expr}{fa fb fc f:Den}{ga gb gc:x1u}{pos:Pos}{st:Stmt}{x21 sa sb:List Stmt}{s s':x13}
theorem z9u:y8q X [] x5t:=PSs.imp z96 fun D σ H hh0=>by
 obtain⟨ρ,w,o,g,ee,k⟩:=hh0
 cases ee
 exact k σ H w rfl g Go.refl
theorem z4z(h1:PDS X st s)(h2:y8q X x21 s'):y8q X (st::x21) (x0y s s'):=PSs.imp (y3r h1 h2) fun D σ H hh0=>by
 obtain⟨ρ,w,o,g,ee,k⟩:=hh0
 unfold x0y at ee
 split at ee
 ·rename_i ρ1 h1
  exact⟨ρ,w,.nx ρ1,g,h1,fun σ' H' w' e g' go'=>⟨ρ1,w',o,g',ee,by rw[e];exact k.trans go'⟩⟩
 ·rename_i hne
  refine⟨ρ,w,o,g,ee,?_⟩
  cases o with
  | nx ρ1=>exact absurd ee (hne ρ1)
  | bk ρ1=>exact k
  | ct ρ1=>exact k
  | rt d q=>exact k
theorem j1f(h1:PDS X st s):y8q X [st] s:=y4j h1
@[simp] def x2g (f:Den):x13:=fun ρ=>match f ρ with
 | some (d,q,_)=>some (.rt d q)
 | none=>none
theorem z9v(h:PD X e f):PDS X (.Return (some e) pos) (x2g f):=PS.imp (z7r h) fun D σ H hh0=>by
 obtain⟨ρ,w,o,g,ee,k⟩:=hh0
 unfold x2g at ee
 split at ee
 ·rename_i d q ρ1 h1
  cases ee
  exact⟨ρ,w,0,d,q,ρ1,g,h1,fun v H' w' F g' go' r=>k v H' w' F g'.wl go' r⟩
 ·cases ee
@[simp] def sIf (g:x1u)(s s':x13):x13:=fun ρ=>match g ρ with
 | some (b,ρ1)=>if b=true then s ρ1 else s' ρ1
 | none=>none
theorem j46(hc:PDT X c gc)(ha:y8q X sa s)(hb:y8q X sb s'):PDS X (.If c sa sb pos) (sIf gc s s'):=PS.imp (j5l hc ha hb) fun D σ H hh0=>by
 obtain⟨ρ,w,o,g,ee,k⟩:=hh0
 unfold sIf at ee
 split at ee
 ·rename_i b' ρ1 h1
  refine⟨ρ,w,0,b',ρ1,g,h1,fun H1 w1 g1 go1=>?_⟩
  split at ee
  ·rename_i hb;rw[if_pos hb]
   exact⟨ρ1,w1,o,g1,ee,k.trans go1⟩
  ·rename_i hb;rw[if_neg hb]
   exact⟨ρ1,w1,o,g1,ee,k.trans go1⟩
 ·cases ee
@[simp] def y8r:x13:=fun ρ=>some (.bk ρ)
theorem z1k:PDS X (.Break pos) y8r:=PS.imp z5w fun D σ H hh0=>by
 obtain⟨ρ,w,o,g,ee,k⟩:=hh0
 cases ee
 exact k σ H w rfl g Go.refl
def y04 (t i:Nat)(w:Wn):Wn:=fun a=>if w a=some (.t t)then some (.s i)else if w a=some (.s i)then none else w a
theorem Good.set{ρ:Rho}{σ:St}{w:Wn}{q:Nat}{d:D}(g:Good K ρ σ H w 1)(hi:i<σ.length)(r:Rep K H w (.t 0) q d v F) :
  Good K (ρ.set i (some (d,q))) (σ.set i (some v)) H (y04 0 i w) 0/\∀ H₀ w₀,Go H₀ w₀ H w->(∀ a j,w₀ a=some (.t j)->j<0)->Go H₀ w₀ H (y04 0 i w):=by
 have mN:∀ a,w a=none->y04 0 i w a=none:=fun a e=>by unfold y04;rw[e];rfl
 have mT:∀ a,w a=some (.t 0)->y04 0 i w a=some (.s i):=fun a e=>by unfold y04;rw[if_pos e]
 have mS:∀ a j,w a=some (.s j)->j≠i->y04 0 i w a=some (.s j):=fun a j e n=>by
  unfold y04
  rw[if_neg (by rw[e];exact fun z=>nomatch z),if_neg (by rw[e];intro z;cases z;exact n rfl)]
  exact e
 have mF:∀ a,w a=some .f->y04 0 i w a=some .f:=fun a e=>by
  unfold y04
  rw[if_neg (by rw[e];exact fun z=>nomatch z),if_neg (by rw[e];exact fun z=>nomatch z)]
  exact e
 have mI:∀ a o,y04 0 i w a=some o->(w a=some (.t 0)/\o=.s i)\/(w a=some o/\o ≠ .s i/\o ≠ .t 0):=fun a o e=>by
  unfold y04 at e
  split at e
  ·cases e;exact .inl ⟨by assumption,rfl⟩
  ·rename_i n1
   split at e
   ·cases e
   ·rename_i n2;exact .inr ⟨e,fun z=>n2 (by rw[e,z]),fun z=>n1 (by rw[e,z])⟩
 have st:x84 H w H (y04 0 i w):=fun a x h n=>⟨sm h,mN a n⟩
 refine⟨⟨⟨fun a o e=>?_,g.wl.tb⟩,fun a j e=>?_,fun a j e=>?_,by rw[List.length_set,List.length_set];exact g.len,fun j d' q' e'=>?_⟩,fun H₀ w₀ go hw=>⟨fun a x h n=>⟨(go.stab a x h n).1,mN a (go.stab a x h n).2⟩,fun a o e n=>?_⟩⟩
 ·rcases mI a o e with⟨z,_⟩|⟨z,_⟩
  ·exact g.wl a _ z
  ·exact g.wl a _ z
 ·rw[List.length_set]
  rcases mI a _ e with⟨_,z⟩|⟨z,_⟩
  ·cases z;exact hi
  ·exact g.ws a j z
 ·rcases mI a _ e with⟨_,z⟩|⟨z,_,n⟩
  ·cases z
  ·have:=g.wt a j z
   have:j=0:=by omega
   subst this
   exact absurd rfl n
 ·by_cases hj:i=j
  ·subst hj
   rw[List.getElem?_set_self (by rw[g.len];exact hi)]at e'
   cases e'
   exact⟨v,F,List.getElem?_set_self hi,Rep.go g.wl st r fun a m=>⟨rfl,mT a (r.owns a m)⟩⟩
  ·rw[List.getElem?_set_ne hj]at e'
   obtain⟨v',F',h1,h2⟩:=g.slot j d' q' e'
   exact⟨v',F',by rw[List.getElem?_set_ne hj];exact h1,Rep.go g.wl st h2 fun a m=>⟨rfl,mS a j (h2.owns a m) (fun z=>hj z.symm)⟩⟩
 ·obtain⟨h1,h2⟩:=go.keep a o e n
  refine⟨h1,?_⟩
  cases o with
  | s j=>exact absurd rfl (n j)
  | f=>exact mF a h2
  | t j=>exact absurd (hw a j e) (Nat.not_lt_zero _)
@[simp] def x1n (i:Nat)(f:Den):x13:=fun ρ=>match f ρ with
 | some (d,q,ρ1)=>some (.nx (ρ1.set i (some (d,q))))
 | none=>none
theorem z3f{D:Ends}{σ:St}(hi:i<σ.length)(he:∀ Q,tD K f σ H Q->te σ H Q)(h:tDS K (x1n i f) D σ H):te σ H fun x H1=>D.nx (σ.set i (some x)) H1:=by
 obtain⟨ρ,w,o,g,ee,k⟩:=h
 unfold x1n at ee
 split at ee
 ·rename_i d q ρ1 h1
  cases ee
  refine he _ ⟨ρ,w,0,d,q,ρ1,g,h1,fun v H' w' F g' go' r=>?_⟩
  obtain⟨a1,a2⟩:=g'.set hi r
  exact k _ _ _ (by rw[List.length_set]) a1 (a2 _ _ go' g.wt)
 ·cases ee
theorem z8m{pos':Pos}(hN:X.N.Nodup)(hi:X.N[i]? = some x)(hx:Loc X.env.scope x)(he:PD X e f)(hs:swapsWith e (some (.Name x pos')) pos.line X.env=pure false:=by rfl)(hf:X.fn x=true\/X.env.scope.names.lookup x=some .local:=by first|exact .inl rfl|exact .inr rfl) :
  PDS X (.Assign [.Name x pos'] e pos) (x1n i f):=by
 intro pins s σ H D I h
 have hl:i<σ.length:=by rw[I.len];exact(List.getElem?_eq_some_iff.mp hi).1
 exact z2r (te:=tD X.K f) hN hi hx he hs hf pins s σ H D I (z3f hl (fun _ z=>z) h)
@[simp] def x3p (f:Den):x13:=fun ρ=>match f ρ with
 | some (_,_,ρ1)=>some (.nx ρ1)
 | none=>none
theorem z6e(he:PD X e f)(hs:swapsWith e none pos.line X.env=pure false:=by rfl):PDS X (.Expr e pos) (x3p f):=PS.imp (z14 he hs) fun D σ H hh0=>by
 obtain⟨ρ,w,o,g,ee,k⟩:=hh0
 unfold x3p at ee
 split at ee
 ·rename_i d q ρ1 h1
  cases ee
  exact⟨ρ,w,0,d,q,ρ1,g,h1,fun v H' w' F g' go' r=>k σ H' (x1o 0 w') rfl g'.drop (go'.drop g.wt)⟩
 ·cases ee
end
structure Mo (K:PySem.W.Frag) (H H':Hp):Prop where
 mo:∀ a o,H a=some o->H' a=some o
 tb:TB K H->TB K H'
theorem Mo.rfl':Mo K H H:=⟨fun _ _ e=>e,fun t=>t⟩
structure ItOk (K:PySem.W.Frag) (J:It) (ds:List D) (P:Hp->Wn->Prop):Prop where
 go:∀ i H w,P H w->i<ds.length->J.go i H
 yld:∀ i H w x H' d,P H w->WL K w H->ds[i]? = some d->J.yld i H x H'->Mo K H H'/\Rep K H' w .f 0 d x []/\P H' w
 stop:∀ H w,P H w->J.stop ds.length H
 st:∀ H w H' w',P H w->WL K w H->x84 H w H' w'->P H' w'
abbrev y4g:=Rho->Option (List D×Rho)
def tDI (K:PySem.W.Frag)(f:y4g):TI:=fun σ H R=>∃ ρ w t ds ρ',Good K ρ σ H w t/\f ρ=some (ds,ρ') /\
 ∀ J P H' w',Good K ρ' σ H' w' t->Go H w H' w'->ItOk K J ds P->P H' w'->ds.length<sizeLine->R J H'
theorem PI.imp{e:Expr}{t t':TI}(h:PI X tg e t)(i:∀ σ H R,t' σ H R->t σ H R):PI X tg e t':=fun pins s σ H R I q=>h pins s σ H R I (i σ H R q)
abbrev PDI (X:Cx)(tg e:Expr)(f:y4g):Prop:=PI X tg e (tDI X.K f)
theorem It.list{K:PySem.W.Frag}{a:Addr}{vs:List V}{ds:List D}(hl:ds.length=vs.length):ItOk K (Itl K a) ds fun H w=>(KL K a vs\/(Rd H a (.lst vs)/\w a=none))/\Reps K H w .f 0 ds vs []:=by
 have sq:∀ {H:Hp} {w:Wn},KL K a vs\/(Rd H a (.lst vs)/\w a=none)->SqL K H a vs:=fun h=>h.elim (fun z=>z.sq) fun z=>.inl z.1
 refine⟨fun i H w p hi=>⟨vs,vs[i],sq p.1,by simp[hl ▸ hi]⟩,fun i H w x H' d p wl hd y=>?_,fun H w p=>⟨vs,sq p.1,by omega⟩,fun H w H' w' p wl st=>?_⟩
 ·obtain⟨rfl,hx⟩:=y
  obtain⟨v,hv,rv⟩:=p.2.get hd
  have:=hx vs (sq p.1)
  rw[hv]at this
  cases this
  exact⟨Mo.rfl',rv,p⟩
 ·refine⟨?_,Reps.go wl st p.2 (fun _ z=>nomatch z)⟩
  rcases p.1 with p|⟨p,n⟩
  ·exact .inl p
  ·exact .inr (RdL.go st n p)
theorem It.tup{K:PySem.W.Frag}{a:Addr}{vs:List V}{ds:List D}(hl:ds.length=vs.length):ItOk K (Itt K a) ds fun H w=>SqT K H a vs/\Reps K H w .f 0 ds vs []:=
 ⟨fun i H w p hi=>⟨vs,vs[i],p.1,by simp[hl ▸ hi]⟩,fun i H w x H' d p wl hd y=>by
   obtain⟨rfl,hx⟩:=y
   obtain⟨v,hv,rv⟩:=p.2.get hd
   have:=hx vs p.1
   rw[hv]at this
   cases this
   exact⟨Mo.rfl',rv,p⟩,fun H w p=>⟨vs,p.1,by omega⟩,fun H w H' w' p wl st=>⟨SqT.go wl st p.1,Reps.go wl st p.2 (fun _ z=>nomatch z)⟩⟩
def x8l (n:Nat):List V:=(List.range n).map fun i=>.int (Int.ofNat i)
def x19 (n:Nat):List D:=(List.range n).map fun i=>.int (Int.ofNat i)
theorem x0z(n:Nat):(x19 n).length=n:=by simp[x19]
theorem y39(n:Nat):(x8l n).length=n:=by simp[x8l]
theorem It.range:ItOk K (Itr 0 n) (x19 n) fun _ _=>True:=by
 refine⟨fun i H w _ hi=>by rw[x0z]at hi;exact hi,fun i H w x H' d _ _ hd y=>?_,fun H w _=>by rw[x0z];exact Nat.le_refl _,fun _ _ _ _ _ _ _=>trivial⟩
 have hi:i<n:=by have:=(List.getElem?_eq_some_iff.mp hd).1;rw[x0z]at this;exact this
 have e:x=.int (0+(i:Int)):=y.2
 have ed:d=.int (Int.ofNat i):=by
  have:(x19 n)[i]? = some (.int (Int.ofNat i)):=by simp[x19,hi]
  rw[hd]at this
  exact Option.some.inj this
 obtain⟨rfl,_⟩:=y
 subst ed
 rw[e,Int.zero_add]
 exact⟨Mo.rfl',.int _,trivial⟩
theorem x9b{w:Wn}{o:Ow}:∀ (ns:List Int),Reps K H w o 0 (ns.map D.int) (ns.map V.int) []
 | []=>.nil
 | n::r=>.cons (F:=[]) (G:=[]) (.int n) (x9b r) (fun _ z=>nomatch z)
theorem z0l{w:Wn}{o:Ow}(n:Nat):Reps K H w o 0 (x19 n) (x8l n) []:=by
 have:=x9b (K:=K) (H:=H) (w:=w) (o:=o) ((List.range n).map Int.ofNat)
 rw[List.map_map,List.map_map]at this
 exact this
section
variable {X:Cx}{tg a b c e:Expr}{fa fb fc f:Den}{ga gb gc:x1u}{pos p:Pos}
@[simp] def x17 (g:x1q):y4g:=fun ρ=>match g ρ with
 | some ([.int n],ρ1)=>if -1000<=n/\n<=1000 then some (x19 n.toNat,ρ1)else none
 | _=>none
theorem z07{g:x1q}(hm:X.mg "range" = none)(ha:PDA X [a] g)(hg:Gl X "range":=by rfl)(hs:starEach [a] X.env=[(false,eval a X.env)]:=by rfl):PDI X tg (.Call (.Name "range" p) [a] [] pos) (x17 g):=PI.imp (z2q hg hm ha hs) fun σ H R hh0=>by
 obtain⟨ρ,w,t,ds,ρ',gd,ee,k⟩:=hh0
 unfold x17 at ee
 split at ee
 ·rename_i n ρ1 h1
  split at ee
  ·rename_i hn
   cases ee
   refine⟨ρ,w,t,[.int n],_,gd,h1,fun vs H1 w1 g1 go1 r1=>?_⟩
   have hv:vs=[.int n]:=by
    have l:=r1.length
    match vs,l with
    | [v],_=>
     obtain⟨v',h1,h2⟩:=r1.get (i:=0) rfl
     cases h1
     rw[x4u h2]
   subst hv
   refine⟨n,rfl,by omega,by omega,k _ _ H1 w1 g1 go1 It.range trivial ?_⟩
   rw[x0z]
   exact x4p (by omega)
  ·cases ee
 ·cases ee
def j75 (K:PySem.W.Frag)(tl:TE):TI:=fun σ H R=>tl σ H fun x H1=>∃ a,x=.ref a/\(((∃ xs,SqL K H1 a xs)/\R (Itl K a) H1)\/((∃ xs,SqT K H1 a xs)/\R (Itt K a) H1))
theorem z7t{l:Expr}{tl:TE}(hl:PE X l tl):PI X tg l (j75 X.K tl):=by
 intro pins s σ H R I h
 refine thn (hl pins s σ H _ I h) fun v s1 ⟨x,H1,I1,r1,q1⟩=>?_
 obtain⟨a,e,q⟩:=q1
 subst e
 cases r1
 rcases q with⟨⟨xs,hq⟩,q⟩|⟨⟨xs,hq⟩,q⟩
 ·obtain⟨its,rv,p,hz⟩:=I1.list hq
  refine wpAny_pyIter_list p.isList ?_
  refine⟨s1.heap.objs.size,[s1.heap.objs.size],_,_,H1,rfl,I1.kept (t':=s1.toks) fun b o e=>Heap.get?_push_of_some _ e,z3k a _,⟨_,Heap.get?_push_size _ rfl,rfl,rfl⟩,fun b hb=>?_,q⟩
  have e:b=s1.heap.objs.size:=by simpa using hb
  subst e
  exact I1.fpOk (Nat.le_refl _) (I1.hok.fresh (Nat.le_refl _))
 ·obtain⟨its,rv,p,hz⟩:=I1.tuple hq
  refine wpAny_pyIter_tuple (show s1.heap.IsTuple a its.toArray from p) ?_
  refine⟨s1.heap.objs.size,[s1.heap.objs.size],_,_,H1,rfl,I1.kept (t':=s1.toks) fun b o e=>Heap.get?_push_of_some _ e,z0m a _,⟨_,Heap.get?_push_size _ rfl,rfl,rfl⟩,fun b hb=>?_,q⟩
  have e:b=s1.heap.objs.size:=by simpa using hb
  subst e
  exact I1.fpOk (Nat.le_refl _) (I1.hok.fresh (Nat.le_refl _))
@[simp] def x50 (f:Den):y4g:=fun ρ=>match f ρ with
 | some (.lst ds,_,ρ1)=>if ds.length<=1000 then some (ds,ρ1)else none
 | some (.tup ds,_,ρ1)=>if ds.length<=1000 then some (ds,ρ1)else none
 | _=>none
theorem j06(ha:PD X a fa):PDI X tg a (x50 fa):=PI.imp (z7t ha) fun σ H R hh0=>by
 obtain⟨ρ,w,t,ds,ρ',gd,ee,k⟩:=hh0
 unfold x50 at ee
 split at ee
 ·rename_i ds' q ρ1 h1
  split at ee
  ·rename_i hl
   cases ee
   refine⟨ρ,w,t,.lst ds,q,ρ',gd,h1,fun v H1 w1 F g1 go1 r1=>?_⟩
   have r0:=r1.drop (o:=.f) (Nat.le_refl t)
   cases r0 with
   | kl h r=>exact⟨_,rfl,.inl ⟨⟨_,h.sq⟩,k _ _ H1 (x1o t w1) g1.drop (go1.drop gd.wt) (It.list r.length) ⟨.inl h,r⟩ (x4p hl)⟩⟩
   | shr h n r=>exact⟨_,rfl,.inl ⟨⟨_,.inl h⟩,k _ _ H1 (x1o t w1) g1.drop (go1.drop gd.wt) (It.list r.length) ⟨.inr ⟨h,n⟩,r⟩ (x4p hl)⟩⟩
  ·cases ee
 ·rename_i ds' q ρ1 h1
  split at ee
  ·rename_i hl
   cases ee
   refine⟨ρ,w,t,.tup ds,q,ρ',gd,h1,fun v H1 w1 F g1 go1 r1=>?_⟩
   have r0:=r1.drop (o:=.f) (Nat.le_refl t)
   cases r0 with
   | tup h r=>exact⟨_,rfl,.inr ⟨⟨_,SqT.of h⟩,k _ _ H1 (x1o t w1) g1.drop (go1.drop gd.wt) (It.tup r.length) ⟨SqT.of h,r⟩ (x4p hl)⟩⟩
  ·cases ee
 ·cases ee
end
abbrev x6m:=D->Rho->Option Rho
def tDG (K:PySem.W.Frag)(b:Nat)(pt:x6m):TG:=fun v σ H Q=>∃ d ρ w t ρ',Good K ρ σ H w t/\Rep K H w .f 0 d v []/\pt d ρ=some ρ'/\∀ σ' H' w',σ'.length=σ.length->(∀ i,i<b->σ'[i]? = σ[i]?)->Good K ρ' σ' H' w' t->Go H w H' w'->Q σ' H'
theorem PG.imp{t t':TG}(h:PG X tg t)(i:∀ v σ H Q,t' v σ H Q->t v σ H Q):PG X tg t':=fun pins s σ H v u Q I r q=>h pins s σ H v u Q I r (i v σ H Q q)
abbrev PDG (X:Cx)(b:Nat)(tg:Expr)(pt:x6m):Prop:=PG X tg (tDG X.K b pt)
@[simp] def x0o (i:Nat):x6m:=fun d ρ=>if i<ρ.length then some (ρ.set i (some (d,x9m d)))else none
theorem Good.setV{ρ:Rho}{σ:St}{w:Wn}{d:D}(g:Good K ρ σ H w t)(hi:i<σ.length)(r:Rep K H w .f 0 d v []) :
  Good K (ρ.set i (some (d,x9m d))) (σ.set i (some v)) H (x60 i w) t/\Go H w H (x60 i w):=by
 have st:x84 H w H (x60 i w):=fun a x h n=>⟨sm h,x5n n⟩
 refine⟨⟨⟨fun a o h=>g.wl a o (x3a h).1,g.wl.tb⟩,fun a j h=>by rw[List.length_set];exact g.ws a j (x3a h).1,fun a j h=>g.wt a j (x3a h).1,by rw[List.length_set,List.length_set];exact g.len,fun j d' q' e'=>?_⟩,⟨st,fun a o h n=>⟨rfl,x7b h (n i)⟩⟩⟩
 by_cases hj:i=j
 ·subst hj
  rw[List.getElem?_set_self (by rw[g.len];exact hi)]at e'
  cases e'
  exact⟨v,[],List.getElem?_set_self hi,(Rep.go g.wl st r (fun _ z=>nomatch z):Rep K H (x60 i w) (.s i) 0 d v []).dep⟩
 ·rw[List.getElem?_set_ne hj]at e'
  obtain⟨v',F,h1,h2⟩:=g.slot j d' q' e'
  exact⟨v',F,by rw[List.getElem?_set_ne hj];exact h1,Rep.go g.wl st h2 fun a m=>⟨rfl,x7b (h2.owns a m) (fun z=>hj (by cases z;rfl))⟩⟩
theorem z4x{b:Nat}{pos:Pos}(hb:b<=i)(hN:X.N.Nodup)(hi:X.N[i]? = some x)(hx:Loc X.env.scope x)(hf:X.fn x=true\/X.env.scope.names.lookup x=some .local:=by first|exact .inl rfl|exact .inr rfl):PDG X b (.Name x pos) (x0o i):=PG.imp (y7t hN hi hx hf) fun v σ H Q hh0=>by
 obtain⟨d,ρ,w,t,ρ',g,r,e,k⟩:=hh0
 unfold x0o at e
 split at e
 ·rename_i hl
  cases e
  obtain⟨a1,a2⟩:=g.setV (by rw[<- g.len];exact hl) r
  exact k _ _ _ (by rw[List.length_set]) (fun j hj=>List.getElem?_set_ne (by omega)) a1 a2
 ·cases e
def x8f (pt:x6m)(body:x13):List D->Rho->Option Out
 | [],ρ=>some (.nx ρ)
 | d::ds,ρ=>match pt d ρ with
  | none=>none
  | some ρ1=>match body ρ1 with
   | some (.nx ρ2)=>x8f pt body ds ρ2
   | some (.ct ρ2)=>x8f pt body ds ρ2
   | some (.bk ρ2)=>some (.nx ρ2)
   | o=>o
@[simp] def x7l (it:y4g)(pt:x6m)(body:x13):x13:=fun ρ=>match it ρ with
 | some (ds,ρ1)=>x8f pt body ds ρ1
 | none=>none
theorem Reps.go0{w w':Wn}{ds:List D}(r:Reps K H w .f 0 ds vs [])(wl:WL K w H)(st:x84 H w H' w'):Reps K H' w' .f 0 ds vs []:=Reps.go wl st r (fun _ z=>nomatch z)
theorem Rep.go0{w w':Wn}{ds:D}{vs:V}(r:Rep K H w .f 0 ds vs [])(wl:WL K w H)(st:x84 H w H' w'):Rep K H' w' .f 0 ds vs []:=Rep.go wl st r (fun _ z=>nomatch z)
theorem Reps.drop0{w:Wn}:∀ {ds:List D} {vs:List V} (i:Nat),Reps K H w .f 0 ds vs []->Reps K H w .f 0 (ds.drop i) (vs.drop i) []
 | _,_,0,r=>r
 | ds,vs,i+1,r=>by
  generalize hF:([]:List Addr)=F at r
  cases r with
  | nil=>exact .nil
  | cons r s _=>
   have h2:=s.zero
   have h1:=r.zero
   subst h2
   subst h1
   exact Reps.drop0 i s
theorem Good.more{ρ:Rho}{σ:St}{w:Wn}(g:Good K ρ σ H w t)(hm:Mo K H H'):Good K ρ σ H' w t/\Go H w H' w:=by
 have h:=hm.mo
 have st:x84 H w H' w:=fun a x e n=>⟨sm (h a x e),n⟩
 have kp:∀ a o,w a=some o->H' a=H a:=fun a o e=>by
  obtain⟨vs,q⟩:=g.wl a o e
  rw[q,h a _ q]
 refine⟨⟨⟨fun a o e=>?_,hm.tb g.wl.tb⟩,g.ws,g.wt,g.len,fun i d q e=>?_⟩,st,fun a o e _=>⟨kp a o e,e⟩⟩
 ·obtain⟨vs,q⟩:=g.wl a o e
  exact⟨vs,h a _ q⟩
 ·obtain⟨v,F,h1,h2⟩:=g.slot i d q e
  exact⟨v,F,h1,Rep.go g.wl st h2 fun a m=>⟨kp a _ (h2.owns a m),h2.owns a m⟩⟩
theorem z97{iter:Expr}{body:List Stmt}{it:y4g}{pt:x6m}{s:x13}{pos:Pos}(hp:PassesOwn (model X.prog X.w) X.A X.env X.xe)(hc:X.calm=true)(hi:PDI X tg iter it)(hg:PDG X 0 tg pt)(hb:y8q X body s)
  (hs:∀ x,foldedSetIterable iter X.env x=pure x:=by intro _;rfl):PDS X (.For tg iter body [] pos) (x7l it pt s):=PS.imp (z81 hp hc hi hg hb hs) fun D σ H hh0=>by
 obtain⟨ρ,w,o,g,ee,k⟩:=hh0
 unfold x7l at ee
 split at ee
 ·rename_i ds ρ1 h1
  refine⟨ρ,w,0,ds,ρ1,g,h1,fun J P H1 w1 g1 go1 ok p1 hl=>?_⟩
  refine⟨fun i m σ' H'=>m=ds.length-i/\i<=ds.length/\σ'.length=σ.length/\∃ ρ' w',Good X.K ρ' σ' H' w' 0/\P H' w'/\x8f pt s (ds.drop i) ρ'=some o/\y2m X.K D σ.length H' w' o,
   ⟨ds.length,by simp,Nat.zero_le _,rfl,ρ1,w1,g1,p1,ee,k.trans go1⟩,?_⟩
  rintro i m σ' H' ⟨rfl,hile,hσ,ρ',w',g',p',e',k'⟩
  by_cases hlt:i<ds.length
  ·refine .inr ⟨ok.go i H' w' p' hlt,fun σ2 H2=>ds.length-(i+1)=ds.length-(i+1)/\i+1<=ds.length/\σ2.length=σ.length/\∃ ρ2 w2,Good X.K ρ2 σ2 H2 w2 0/\P H2 w2/\x8f pt s (ds.drop (i+1)) ρ2=some o/\y2m X.K D σ.length H2 w2 o,
    fun σ2 H2 n2=>⟨ds.length-(i+1),by omega,n2⟩,fun x H2 hy=>?_⟩
   obtain⟨mo,rx,p2⟩:=ok.yld i H' w' x H2 ds[i] p' g'.wl (List.getElem?_eq_getElem hlt) hy
   obtain⟨g2,go2⟩:=g'.more mo
   have ed:ds.drop i=ds[i]::ds.drop (i+1):=List.drop_eq_getElem_cons hlt
   rw[ed]at e'
   unfold x8f at e'
   split at e'
   ·cases e'
   ·rename_i ρ3 h3
    refine⟨ds[i],ρ',w',0,ρ3,g2,rx,h3,fun σ4 H4 w4 l4 _ g4 go4=>?_⟩
    have p4:=ok.st _ _ _ _ p2 g2.wl go4.stab
    have nx:∀ {ρ5:Rho},x8f pt s (ds.drop (i+1)) ρ5=some o->∀ σ5 H5 w5,σ5.length=σ4.length->Good X.K ρ5 σ5 H5 w5 0->Go H4 w4 H5 w5->ds.length-(i+1)=ds.length-(i+1)/\i+1<=ds.length/\σ5.length=σ.length/\∃ ρ2 w2,Good X.K ρ2 σ5 H5 w2 0/\P H5 w2/\x8f pt s (ds.drop (i+1)) ρ2=some o/\y2m X.K D σ.length H5 w2 o:=fun {ρ5} e5 σ5 H5 w5 l5 g5 go5=>
     ⟨rfl,hlt,by rw[l5,l4,hσ],ρ5,w5,g5,ok.st _ _ _ _ p4 g4.wl go5.stab,e5,k'.trans ((go2.trans go4).trans go5)⟩
    cases h6:s ρ3 with
    | none=>rw[h6]at e';cases e'
    | some o6=>
     rw[h6]at e'
     refine⟨ρ3,w4,o6,g4,h6,?_⟩
     cases o6 with
     | nx ρ5=>exact nx e'
     | ct ρ5=>exact nx e'
     | bk ρ5=>
      cases e'
      exact fun σ5 H5 w5 l5 g5 go5=>k' σ5 H5 w5 (by rw[l5,l4,hσ]) g5 ((go2.trans go4).trans go5)
     | rt d q=>
      cases e'
      exact fun v H5 w5 F wl5 go5 r5=>k' v H5 w5 F wl5 ((go2.trans go4).trans go5) r5
  ·have hi':i=ds.length:=Nat.le_antisymm hile (Nat.not_lt.mp hlt)
   subst hi'
   refine .inl ⟨ok.stop H' w' p',?_⟩
   have ed:ds.drop ds.length=[]:=by simp
   rw[ed]at e'
   cases e'
   exact k' σ' H' w' hσ g' Go.refl
 ·cases ee
@[simp] def x5v (n:Nat)(ds:List D):Rho:=ds.map (fun d=>some (d,x9m d))++List.replicate (n-ds.length) none
@[simp] def fnD (n:Nat)(body:x13):List D->OD:=fun ds=>match body (x5v n ds)with
 | some (.rt d q)=>some (d,q)
 | some (.nx _)=>some (.non,9)
 | _=>none
theorem x7f{w:Wn}{ds:List D}(hw:∀ a o,w a=some o->o=.f)(wl:WL K w H)(r:Reps K H w .f 0 ds vs []):Good K (x5v N.length ds) (start N vs) H w 0:=by
 refine⟨wl,(fun a i e=>by cases (hw a _ e)),(fun a i e=>by cases (hw a _ e)),?_,fun i d q e=>?_⟩
 ·unfold x5v L2.start
  rw[List.length_append,List.length_append,List.length_map,List.length_map,List.length_replicate,List.length_replicate,r.length]
 ·unfold x5v at e
  by_cases hi:i<ds.length
  ·rw[List.getElem?_append_left (by simpa using hi),List.getElem?_map]at e
   cases h:ds[i]? with
   | none=>rw[h]at e;cases e
   | some d'=>
    rw[h]at e
    cases e
    obtain⟨v,hv,rv⟩:=r.get h
    refine⟨v,[],?_,(rv.any wl:Rep K H w (.s i) 0 d v []).dep⟩
    unfold L2.start
    rw[List.getElem?_append_left (by rw[List.length_map,<- r.length];exact hi),List.getElem?_map,hv]
    rfl
  ·rw[List.getElem?_append_right (by simpa using hi),List.getElem?_replicate]at e
   split at e<;>cases e
theorem y9b{body:x13}{Q:VK}(h:spD K n (fnD N.length body) vs H Q E):tDS K body { nx:=fun _ H'=>Q .non H',rt:=Q } (start N vs) H:=by
 obtain⟨hn,ds,w,r,q,hw,wl,rs,e,k⟩:=h
 unfold fnD at e
 split at e
 ·rename_i d q' h1
  cases e
  exact⟨_,w,_,x7f hw wl rs,h1,fun v H' w' F wl' go' r'=>k v H' w' F go' wl' r'⟩
 ·rename_i ρ' h1
  cases e
  exact⟨_,w,_,x7f hw wl rs,h1,fun σ' H' w' _ g' go'=>k .non H' w' [] go' g'.wl .non⟩
 ·cases e
theorem j3v{P:Program}{wd:World}{mg:Str->Option Value}{base:Heap}{qual:Str}{st:Stmt}{f:Addr}{k:Nat}{body:x13}(F:Fun K x qual st f fd)(S:FnScope N ps (x0b st))
  (h:∀ (cdv:Value) (A:Around) (outer:List Env) (s:Shared) (H:Hp) (E:XK),Room k (A.deeper (envOfC qual (x0b st) s.heap.objs.size f cdv))->y8q (z0k CX0 P wd K mg base N qual (x0b st) f cdv A outer s H E).nox (x35 st) body) :
  FnOk P wd K mg base CX0 (k+1) f fd ps (spD K ps.length (fnD N.length body)):=
 F.ok S (fun vs H Q E h=>h.1) fun cdv A outer s H vs Q E hr hsp=>⟨_,h cdv A outer s H E hr,y9b hsp⟩
def x8c (k:Nat)(pt:x6m)(tt:x1u)(te:Den)(deep:Bool):List D->Rho->Option (List D×Rho)
 | [],ρ=>some ([],ρ)
 | d::ds,ρ=>match pt d (ρ++List.replicate k none)with
  | none=>none
  | some ρ1=>match tt ρ1 with
   | none=>none
   | some (b,ρ2)=>if b=true then(match te ρ2 with
     | none=>none
     | some (v,q,ρ3)=>if deep=true/\v.isL=true/\q≠1 then none else match x8c k pt tt te deep ds (ρ3.take ρ.length)with
      | none=>none
      | some (vs,ρ4)=>some (v::vs,ρ4))
    else x8c k pt tt te deep ds (ρ2.take ρ.length)
@[simp] def x2w (k:Nat)(it:y4g)(pt:x6m)(tt:x1u)(te:Den)(deep:Bool):Den:=fun ρ=>match it ρ with
 | some (ds,ρ1)=>match x8c k pt tt te deep ds ρ1 with
  | some (vs,ρ2)=>some (.lst vs,if deep=true then 2 else 1,ρ2)
  | none=>none
 | none=>none
@[simp] def x25:x1u:=fun ρ=>some (true,ρ)
theorem Good.ext{ρ:Rho}{σ:St}{w:Wn}(g:Good K ρ σ H w t)(k:Nat):Good K (ρ++List.replicate k none) (σ++List.replicate k none) H w t:=by
 refine⟨g.wl,fun a i e=>by rw[List.length_append];exact Nat.lt_of_lt_of_le (g.ws a i e) (Nat.le_add_right _ _),g.wt,by rw[List.length_append,List.length_append,List.length_replicate,List.length_replicate,g.len],fun i d q e=>?_⟩
 by_cases hi:i<ρ.length
 ·rw[List.getElem?_append_left hi]at e
  obtain⟨v,F,h1,h2⟩:=g.slot i d q e
  exact⟨v,F,by rw[List.getElem?_append_left (by rw[<- g.len];exact hi)];exact h1,h2⟩
 ·rw[List.getElem?_append_right (by omega),List.getElem?_replicate]at e
  split at e<;>cases e
def x3o (n:Nat)(w:Wn):Wn:=fun a=>match w a with
 | some (.s i)=>if n<=i then none else some (.s i)
 | x=>x
theorem y4n{w:Wn}(h:w a=none):x3o n w a=none:=by unfold x3o;rw[h]
theorem y84{w:Wn}(h:w a=some (.s i))(hi:i<n):x3o n w a=some (.s i):=by unfold x3o;rw[h];exact if_neg (by omega)
theorem y6x{w:Wn}{o:Ow}(h:w a=some o)(hn:∀ i,o ≠ .s i):x3o n w a=some o:=by
 unfold x3o;rw[h]
 cases o with
 | s i=>exact absurd rfl (hn i)
 | t i=>rfl
 | f=>rfl
theorem x66{w:Wn}{o:Ow}(h:x3o n w a=some o):w a=some o/\∀ i,o=.s i->i<n:=by
 unfold x3o at h
 cases e:w a with
 | none=>rw[e]at h;cases h
 | some o'=>
  rw[e]at h
  cases o' with
  | t i=>cases h;exact⟨rfl,fun i z=>nomatch z⟩
  | f=>cases h;exact⟨rfl,fun i z=>nomatch z⟩
  | s i=>
   dsimp only at h
   split at h
   ·cases h
   ·cases h;exact⟨rfl,fun j z=>by cases z;omega⟩
theorem Good.cut{ρ:Rho}{σ τ:St}{w:Wn}(g:Good K ρ (σ++τ) H w t):Good K (ρ.take σ.length) σ H (x3o σ.length w) t/\Go H w H (x3o σ.length w):=by
 have st:x84 H w H (x3o σ.length w):=fun a x h n=>⟨sm h,y4n n⟩
 refine⟨⟨⟨fun a o e=>g.wl a o (x66 e).1,g.wl.tb⟩,fun a i e=>(x66 e).2 i rfl,fun a i e=>g.wt a i (x66 e).1,?_,fun i d q e=>?_⟩,⟨st,fun a o e n=>⟨rfl,y6x e n⟩⟩⟩
 ·rw[List.length_take,g.len,List.length_append]
  omega
 ·by_cases hi:i<σ.length
  ·rw[List.getElem?_take_of_lt hi]at e
   obtain⟨v,F,h1,h2⟩:=g.slot i d q e
   rw[List.getElem?_append_left hi]at h1
   exact⟨v,F,h1,Rep.go g.wl st h2 fun a m=>⟨rfl,y84 (h2.owns a m) hi⟩⟩
  ·rw[List.getElem?_take_eq_none (by omega)]at e
   cases e
theorem j7a{σ σ' τ:St}(l:σ'.length=(σ++τ).length)(h:∀ i,i<σ.length->σ'[i]? = (σ++τ)[i]?):∃ τ',σ'=σ++τ'/\τ'.length=τ.length:=by
 refine⟨σ'.drop σ.length,?_,by rw[List.length_drop,l,List.length_append];omega⟩
 have e:σ'.take σ.length=σ:=by
  apply List.ext_getElem?
  intro i
  by_cases hi:i<σ.length
  ·rw[List.getElem?_take_of_lt hi,h i hi,List.getElem?_append_left hi]
  ·rw[List.getElem?_take_eq_none (by omega),List.getElem?_eq_none (by omega)]
 conv=>lhs;rw[<- List.take_append_drop σ.length σ',e]
def dq (deep:Bool):Nat:=if deep=true then 1 else 0
def x7n (deep:Bool)(t:Nat)(w:Wn):Wn:=fun a=>if w a=some (.t (t+1))then(if deep=true then some (.t t)else none)else w a
theorem j8p{ρ:Rho}{σ:St}{w:Wn}{q:Nat}{d:D}(g:Good K ρ σ H w (t+2))(r:Rep K H w (.t (t+1)) q d v F)(hq:¬ (deep=true/\d.isL=true/\q≠1)) :
  Good K ρ σ H (x7n deep t w) (t+1)/\(∃ F',Rep K H (x7n deep t w) (.t t) (dq deep) d v F'/\∀ a∈F',w a=some (.t (t+1)))/\x84 H w H (x7n deep t w)/\(∀ a o,w a=some o->o ≠ .t (t+1)->x7n deep t w a=some o):=by
 have hN:∀ a,w a=none->x7n deep t w a=none:=fun a e=>by unfold x7n;rw[e];rfl
 have hO:∀ a o,w a=some o->o ≠ .t (t+1)->x7n deep t w a=some o:=fun a o e n=>by
  unfold x7n
  rw[if_neg (by rw[e];exact fun z=>n (Option.some.inj z))]
  exact e
 have hI:∀ a o,x7n deep t w a=some o->(w a=some (.t (t+1))/\o=.t t)\/(w a=some o/\o ≠ .t (t+1)):=fun a o e=>by
  unfold x7n at e
  split at e
  ·split at e
   ·cases e;exact .inl ⟨by assumption,rfl⟩
   ·cases e
  ·rename_i n;exact .inr ⟨e,fun z=>n (by rw[e,z])⟩
 have st:x84 H w H (x7n deep t w):=fun a x h n=>⟨sm h,hN a n⟩
 refine⟨⟨⟨fun a o e=>?_,g.wl.tb⟩,fun a i e=>?_,fun a i e=>?_,g.len,fun i d' q' e'=>?_⟩,?_,st,hO⟩
 ·rcases hI a o e with⟨z,_⟩|⟨z,_⟩<;>exact g.wl a _ z
 ·rcases hI a _ e with⟨_,z⟩|⟨z,_⟩
  ·cases z
  ·exact g.ws a i z
 ·rcases hI a _ e with⟨_,z⟩|⟨z,n⟩
  ·cases z;exact Nat.lt_succ_self _
  ·have:=g.wt a i z
   have:i≠t+1:=fun z=>n (by rw[z])
   omega
 ·obtain⟨v',F',h1,h2⟩:=g.slot i d' q' e'
  exact⟨v',F',h1,Rep.go g.wl st h2 fun a m=>⟨rfl,hO a _ (h2.owns a m) (fun z=>nomatch z)⟩⟩
 ·cases deep with
  | false=>
   refine⟨[],Rep.freeze hN r fun a m=>?_,fun _ z=>nomatch z⟩
   unfold x7n
   rw[if_pos (r.owns a m)]
   rfl
  | true=>
   have hT:∀ a,w a=some (.t (t+1))->x7n true t w a=some (.t t):=fun a e=>by unfold x7n;rw[if_pos e];rfl
   cases hl:d.isL with
   | false=>
    obtain⟨_,hr⟩:=r.nolist hl
    exact⟨[],Rep.go g.wl st (hr 1) (fun _ z=>nomatch z),fun _ z=>nomatch z⟩
   | true=>
    have:q=1:=by
     by_cases h:q=1
     ·exact h
     ·exact absurd ⟨rfl,hl,h⟩ hq
    subst this
    exact⟨F,Rep.go g.wl st r fun a m=>⟨rfl,hT a (r.owns a m)⟩,r.owns⟩
theorem j4p{ρ:Rho}{σ:St}{w1:Wn}{q:Nat}{ds:List D}(g:Good K ρ σ H1 w1 (t+1))(hp:H1 p=none)(r:Reps K H1 w1 (.t t) q ds vs F) :
  Good K ρ σ (upd H1 p (.lst vs)) (z45 p (.t t) w1) (t+1)/\Go H1 w1 (upd H1 p (.lst vs)) (z45 p (.t t) w1)/\Rep K (upd H1 p (.lst vs)) (z45 p (.t t) w1) (.t t) (q+1) (.lst ds) (.ref p) (p::F):=by
 have ne:∀ a x,H1 a=some x->a≠p:=fun a x e=>x0r e hp
 have nw:∀ a o,w1 a=some o->a≠p:=fun a o e=>by obtain⟨vs,q⟩:=g.wl a o e;exact ne a _ q
 have st:x84 H1 w1 (upd H1 p (.lst vs)) (z45 p (.t t) w1):=fun a x e n=>⟨sm (by rw[x0h (ne a x e)];exact e),by rw[x42 (ne a x e)];exact n⟩
 refine⟨⟨⟨fun a o e=>?_,g.wl.tb.upd rfl (.inl hp)⟩,fun a i e=>?_,fun a i e=>?_,g.len,fun i d q e=>?_⟩,⟨st,fun a o e _=>⟨x0h (nw a o e),(x42 (nw a o e)).trans e⟩⟩,?_⟩
 ·by_cases h:a=p
  ·subst h;exact⟨vs,x0t⟩
  ·rw[x42 h]at e
   obtain⟨us,q⟩:=g.wl a o e
   exact⟨us,by rw[x0h h];exact q⟩
 ·by_cases h:a=p
  ·subst h;rw[x5m]at e;cases e
  ·rw[x42 h]at e;exact g.ws a i e
 ·by_cases h:a=p
  ·subst h;rw[x5m]at e;cases e;exact Nat.lt_succ_self _
  ·rw[x42 h]at e;exact g.wt a i e
 ·obtain⟨v,F,h1,h2⟩:=g.slot i d q e
  exact⟨v,F,h1,Rep.go g.wl st h2 fun a m=>⟨x0h (nw a _ (h2.owns a m)),(x42 (nw a _ (h2.owns a m))).trans (h2.owns a m)⟩⟩
 ·exact .own x0t x5m (Reps.go g.wl st r fun a m=>⟨x0h (nw a _ (r.owns a m)),(x42 (nw a _ (r.owns a m))).trans (r.owns a m)⟩) fun m=>absurd rfl (nw p _ (r.owns p m))
theorem y3a{k:Nat}{it:y4g}{pt:x6m}{tt:x1u}{te:Den}:∀ σ H Q,tD K (x2w k it pt tt te deep) σ H Q->z30 k (tDI K it) (tDG K σ.length pt) (tDT K tt) (tD K te) σ H Q:=fun σ H Q hh0=>by
 obtain⟨ρ,w,t,r',q,ρ',g,ee,kk⟩:=hh0
 unfold x2w at ee
 split at ee
 ·rename_i ds ρ1 h1
  split at ee
  ·rename_i all ρ2 h2
   cases ee
   refine⟨ρ,w,t,ds,ρ1,g,h1,fun J P H1 w1 g1 go1 ok p1 hl=>?_⟩
   refine⟨fun i m ys H'=>m=ds.length-i/\i<=ds.length/\ys.length<=i/\∃ ρ3 w3 zs F x21,Good K ρ3 σ H' w3 (t+1)/\Go H w H' w3/\P H' w3/\Reps K H' w3 (.t t) (dq deep) zs ys F /\
     x8c k pt tt te deep (ds.drop i) ρ3=some (x21,ρ')/\zs++x21=all,
    ⟨ds.length,by simp,Nat.zero_le _,Nat.le_refl _,ρ1,w1,[],[],all,g1.up,go1,p1,.nil,h2,rfl⟩,?_⟩
   rintro i m ys H' ⟨rfl,hile,hys,ρ3,w3,zs,F,x21,g0,go0,p0,rz0,e3,ez⟩
   have hsz:ys.length<sizeLine:=by omega
   refine⟨Nat.le_of_lt hsz,?_⟩
   by_cases hlt:i<ds.length
   ·refine .inr ⟨ok.go i H' w3 p0 hlt,hsz,fun x H2 hy=>?_⟩
    obtain⟨mo,rx,p3⟩:=ok.yld i H' w3 x H2 ds[i] p0 g0.wl (List.getElem?_eq_getElem hlt) hy
    obtain⟨g3,go2⟩:=g0.more mo
    have go3:=go0.trans go2
    have rz:=rz0.gone g0.wl go2
    have ed:ds.drop i=ds[i]::ds.drop (i+1):=List.drop_eq_getElem_cons hlt
    rw[ed]at e3
    unfold x8c at e3
    split at e3
    ·cases e3
    ·rename_i ρ4 h4
     split at e3
     ·cases e3
     ·rename_i b ρ5 h5
      have gx:=g3.ext k
      have lρ:ρ3.length=σ.length:=g3.len
      refine⟨ds[i],_,w3,t+1,ρ4,gx,rx,h4,fun σ4 H4 w4 l4 s4 g4 go4=>?_⟩
      obtain⟨τ,rfl,lτ⟩:=j7a l4 s4
      refine⟨⟨τ,rfl,by rw[lτ,List.length_replicate]⟩,ρ4,w4,t+1,b,ρ5,g4,h5,fun H5 w5 g5 go5=>?_⟩
      have p5:=ok.st _ _ _ _ (ok.st _ _ _ _ p3 g3.wl go4.stab) g4.wl go5.stab
      have z5:Reps K H5 w5 (.t t) (dq deep) zs ys F:=(rz.gone g3.wl go4).gone g4.wl go5
      cases b with
      | false=>
       rw[if_neg (by decide)]at e3
       dsimp only
       rw[if_neg (by decide)]
       obtain⟨gc,goc⟩:=g5.cut
       rw[lρ]at e3
       refine⟨ds.length-(i+1),by omega,rfl,hlt,by omega,_,_,zs,F,x21,gc,(go3.trans go4).trans (go5.trans goc),ok.st _ _ _ _ p5 g5.wl goc.stab,z5.gone g5.wl goc,e3,ez⟩
      | true=>
       rw[if_pos rfl]at e3
       dsimp only
       rw[if_pos rfl]
       split at e3
       ·cases e3
       ·rename_i d6 q6 ρ6 h6
        split at e3
        ·cases e3
        ·rename_i hq6
         split at e3
         ·cases e3
         ·rename_i vs7 ρ7 h7
          cases e3
          refine⟨ρ5,w5,t+1,d6,q6,ρ6,g5,h6,fun v H6 w6 F6 g6 go6 r6=>?_⟩
          obtain⟨gs,⟨F',rs,hF'⟩,sts,hOs⟩:=j8p g6 r6 hq6
          obtain⟨gc,goc⟩:=gs.cut
          rw[lρ]at h7
          have zs6:=z5.gone g5.wl go6
          have zF:∀ a∈F,w6 a=some (.t t):=zs6.owns
          have zs7:Reps K H6 (x7n deep t w6) (.t t) (dq deep) zs ys F:=Reps.go g6.wl sts zs6 fun a m=>⟨rfl,hOs a _ (zF a m) (by intro z;cases z)⟩
          have gos:Go H w H6 (x7n deep t w6):=by
           have go:Go H w H6 w6:=(go3.trans go4).trans (go5.trans go6)
           refine⟨go.stab.trans sts,fun a o h n=>⟨(go.keep a o h n).1,hOs a o (go.keep a o h n).2 fun z=>?_⟩⟩
           subst z
           have:=g.wt a _ h
           omega
          refine⟨ds.length-(i+1),by omega,rfl,hlt,by rw[List.length_append];simp;omega,_,_,zs++[d6],F++F',vs7,gc,gos.trans goc,ok.st _ _ _ _ (ok.st _ _ _ _ p5 g5.wl go6.stab |> fun q=>ok.st _ _ _ _ q g6.wl sts) gs.wl goc.stab,
           ?_,h7,by rw[List.append_assoc];exact ez⟩
          refine(Reps.snoc rs zs7 fun a m m'=>?_).gone gs.wl goc
          have h1:=zF a m
          rw[hF' a m']at h1
          cases h1
   ·have hi':i=ds.length:=Nat.le_antisymm hile (Nat.not_lt.mp hlt)
    subst hi'
    refine .inl ⟨ok.stop H' w3 p0,fun p hp=>?_⟩
    have ed:ds.drop ds.length=[]:=by simp
    rw[ed]at e3
    cases e3
    rw[List.append_nil]at ez
    subst ez
    obtain⟨a1,a2,a3⟩:=j4p g0 hp rz0
    refine kk _ _ _ (p::F) a1 (go0.trans a2) ?_
    cases deep<;>exact a3
  ·cases ee
 ·cases ee
section
variable {X:Cx}{k:Nat}{N':List Str}{scope:Scope}{elt tg iter:Expr}{ifs:List Expr}{pos:Pos}{it:y4g}{pt:x6m}{tt:x1u}{te:Den}
abbrev j2d (X:Cx)(ifs:List Expr)(f:x1u):Prop:=PTs X ifs (tDT X.K f)
theorem z6k:j2d X [] x25:=fun pins s σ H Q I hh0=>by
 obtain⟨ρ,w,t,b,ρ',gd,ee,k⟩:=hh0
 cases ee
 exact z2m pins s σ H Q I (k H w gd Go.refl)
theorem z6h{c:Expr}{g:x1u}(h:PDT X c g):j2d X [c] g:=j0d h
theorem z8r(deep:Bool)(hc:X.calm=true)(S:CompOk X k N' scope)(hi:PDI X tg iter it)(hg:∀ C s H fp,PDG (x24 X N' scope C s H fp) X.N.length tg pt)(ht:∀ C s H fp,j2d (x24 X N' scope C s H fp) ifs tt)(he:∀ C s H fp,PD (x24 X N' scope C s H fp) elt te)
  (hs:∀ x,foldedSetIterable iter X.env x=pure x:=by intro _;rfl):PD X (.ListComp elt [⟨tg,iter,ifs,0⟩] scope pos) (x2w k it pt tt te deep):=by
 intro pins s σ H Q I h
 have:=y3a σ H Q h
 rw[I.len]at this
 exact z1n (N':=N') hc S hi hg ht he hs pins s σ H Q I this
theorem z6m{y:Str}{py spos:Pos}(deep:Bool)(hN:X.N.Nodup)(hy:X.N[i]? = some y)(hx:Loc X.env.scope y)(hsw:swapsWith (.ListComp elt [⟨tg,iter,ifs,0⟩] scope pos) (some (.Name y py)) spos.line X.env=pure true)
  (hc:X.calm=true) (S:CompOk X k N' scope) (hi:PDI X tg iter it) (hg:∀ C s H fp,PDG (x24 X N' scope C s H fp) X.N.length tg pt) (ht:∀ C s H fp,j2d (x24 X N' scope C s H fp) ifs tt) (he:∀ C s H fp,PD (x24 X N' scope C s H fp) elt te)
  (hs:∀ x,foldedSetIterable iter X.env x=pure x:=by intro _;rfl) (hf:X.fn y=true\/X.env.scope.names.lookup y=some .local:=by first|exact .inl rfl|exact .inr rfl|assumption) :
  PDS X (.Assign [.Name y py] (.ListComp elt [⟨tg,iter,ifs,0⟩] scope pos) spos) (x1n i (x2w k it pt tt te deep)):=by
 intro pins s σ H D I h
 have hl:i<σ.length:=by rw[I.len];exact(List.getElem?_eq_some_iff.mp hy).1
 refine j0b (N':=N') (te:=tD X.K te) (tt:=tDT X.K tt) (g:=tDG X.K X.N.length pt) (wi:=tDI X.K it) hN hy hx hsw hc S hi hg ht he hs hf pins s σ H D I ?_
 have z:=z3f (te:=z30 k (tDI X.K it) (tDG X.K σ.length pt) (tDT X.K tt) (tD X.K te)) hl (fun Q q=>y3a σ H Q q) h
 rw[I.len]at z
 exact z
end
mutual
def toP:D->PyData
 | .non=>.none
 | .bl b=>.bool b
 | .int i=>.int i
 | .str x=>.str x
 | .tup ds=>.tuple (x6t ds)
 | .lst ds=>.list (x6t ds)
 | .dic _ _=>.none
 | .exc _=>.none
 | .ob _ _ _ _=>.none
def x6t:List D->List PyData
 | []=>[]
 | d::ds=>toP d::x6t ds
end
mutual
def x9d:D->Bool
 | .dic _ _=>false
 | .exc _=>false
 | .ob _ _ _ _=>false
 | .tup ds=>y1o ds
 | .lst ds=>y1o ds
 | _=>true
def y1o:List D->Bool
 | []=>true
 | d::ds=>x9d d&&y1o ds
end
def okD (d:D):Bool:=x9d d&&SeqAt.shaped (toP d)
theorem x92{d:D}(h:okD d=true):x9d d=true:=(Bool.and_eq_true_iff.mp h).1
theorem x8j{d:D}(h:okD d=true):SeqAt.shaped (toP d)=true:=(Bool.and_eq_true_iff.mp h).2
def eqD (d e:D):Bool:=PyData.eqv (toP d) (toP e)
section
variable {X:Cx}{pins:List (Addr×Obj)}{σ:St}{H:Hp}{s:Shared}
theorem Rep.reads(I:Inv X pins σ H s){w:Wn}{o:Ow}:∀ {q:Nat} {d:D} {v:V} {F:List Addr} {u:Value},Rep X.K H w o q d v F->x39 v u->x9d d=true->∃ as,Reads s.heap u (toP d) as:=by
 intro q d v F u r
 refine(Rep.rec (motive_1:=fun q d v F _=>∀ u,x39 v u->x9d d=true->∃ as,Reads s.heap u (toP d) as) (motive_2:=fun q ds vs F _=>∀ us,x28 vs us->y1o ds=true->∃ as,ReadsAll s.heap us (x6t ds) as) ?_ ?_ ?_ ?_ ?_ ?_ ?_ ?_ ?_ ?_ ?_ ?_ ?_ r:∀ u,x39 v u->x9d d=true->∃ as,Reads s.heap u (toP d) as) u
 ·intro q u ru hn;cases ru;exact⟨_,by unfold toP;exact .none⟩
 ·intro q b u ru hn;cases ru;exact⟨_,by unfold toP;exact .bool b⟩
 ·intro q i u ru hn;obtain⟨t,rfl⟩:=ru;exact⟨_,by unfold toP;exact .int i t⟩
 ·intro q x u ru hn;obtain⟨t,rfl⟩:=ru;exact⟨_,by unfold toP;exact .str x t⟩
 ·intro q a vs ds h r ih u ru hn
  cases ru
  obtain⟨its,rv,p,hz⟩:=I.tuple (SqT.of h)
  obtain⟨as,ra⟩:=ih its rv (by unfold x9d at hn;exact hn)
  obtain⟨ob,ho,hc,n,hd⟩:=p
  exact⟨_,by unfold toP;exact .tuple ho hc hd ra⟩
 ·intro q a ks vs ds h r ih u ru hn;cases hn
 ·intro q a nm ob v h x n u ru hn;cases hn
 ·intro q f c fo oc u1 u2 vs ds h1 h2 x r ih u ru hn;cases hn
 ·intro a vs ds h r ih u ru hn
  cases ru
  obtain⟨its,rv,p,hz⟩:=I.list h.sq
  obtain⟨as,ra⟩:=ih its rv (by unfold x9d at hn;exact hn)
  obtain⟨ob,ho,hc,n,hd⟩:=p.isList
  exact⟨_,by unfold toP;exact .list ho hc hd ra⟩
 ·intro a vs ds h n0 r ih u ru hn
  cases ru
  obtain⟨its,rv,p,hz⟩:=I.list (.inl h)
  obtain⟨as,ra⟩:=ih its rv (by unfold x9d at hn;exact hn)
  obtain⟨ob,ho,hc,n,hd⟩:=p.isList
  exact⟨_,by unfold toP;exact .list ho hc hd ra⟩
 ·intro q a vs ds F h e r ne ih u ru hn
  cases ru
  obtain⟨its,rv,p,hz⟩:=I.list (SqL.of h)
  obtain⟨as,ra⟩:=ih its rv (by unfold x9d at hn;exact hn)
  obtain⟨ob,ho,hc,n,hd⟩:=p.isList
  exact⟨_,by unfold toP;exact .list ho hc hd ra⟩
 ·intro q us ru hn;cases ru;exact⟨_,by unfold x6t;exact .nil⟩
 ·intro q d v ds vs F G r s' ne ih1 ih2 us ru hn
  cases ru with
  | cons rv rvs=>
   unfold y1o at hn
   obtain⟨as,ra⟩:=ih1 _ rv (Bool.and_eq_true_iff.mp hn).1
   obtain⟨bs,rb⟩:=ih2 _ rvs (Bool.and_eq_true_iff.mp hn).2
   exact⟨_,by unfold x6t;exact .cons ra rb⟩
end
def Is (K:PySem.W.Frag)(H:Hp)(d:D)(v:V):Prop:=∃ w o q F,Rep K H w o q d v F
def j80 (K:PySem.W.Frag):R2:=fun x y H Q=>∃ d e,Is K H d x/\Is K H e y/\okD d=true/\okD e=true/\Q (.bl (eqD d e)) H
def j7w (K:PySem.W.Frag):R2:=fun x y H Q=>∃ d e,Is K H d x/\Is K H e y/\okD d=true/\okD e=true/\Q (.bl (!eqD d e)) H
def inD (d:D):D->Option Bool
 | .lst ds=>some ((x6t ds).any fun y=>PyData.eqv y (toP d))
 | .tup ds=>some ((x6t ds).any fun y=>PyData.eqv y (toP d))
 | _=>none
def j5v (K:PySem.W.Frag)(neg:Bool):R2:=fun x y H Q=>∃ d e b,Is K H d x/\Is K H e y/\okD d=true/\okD e=true/\inD d e=some b/\Q (.bl (if neg then !b else b)) H
section
variable {X:Cx}{a b c e:Expr}{fa fb fc f:Den}{pos:Pos}
theorem z7i(hu:X.A.units+64<cLine):OpR X (compareOp .Eq) (j80 X.K):=by
 intro pins s σ H x y v u Q I rx ry ⟨d,e,⟨w,o,q,F,h1⟩,⟨w',o',q',F',h2⟩,k1,k2,hq⟩
 obtain⟨as,ra⟩:=h1.reads I rx (x92 k1)
 obtain⟨bs,rb⟩:=h2.reads I ry (x92 k2)
 exact eq_dataH ra rb (x8j k1) (x8j k2) hu ⟨.bl _,H,I,rfl,hq⟩
theorem j4r(hu:X.A.units+64<cLine):OpR X (compareOp .NotEq) (j7w X.K):=by
 intro pins s σ H x y v u Q I rx ry ⟨d,e,⟨w,o,q,F,h1⟩,⟨w',o',q',F',h2⟩,k1,k2,hq⟩
 obtain⟨as,ra⟩:=h1.reads I rx (x92 k1)
 obtain⟨bs,rb⟩:=h2.reads I ry (x92 k2)
 exact ne_dataH ra rb (x8j k1) (x8j k2) hu ⟨.bl _,H,I,rfl,hq⟩
theorem j4t(hu:X.A.units+65<cLine):OpR X (compareOp .In) (j5v X.K false):=by
 intro pins s σ H x y v u Q I rx ry ⟨d,e,b,⟨w,o,q,F,h1⟩,⟨w',o',q',F',h2⟩,k1,k2,hb,hq⟩
 obtain⟨as,ra⟩:=h1.reads I rx (x92 k1)
 obtain⟨bs,rb⟩:=h2.reads I ry (x92 k2)
 replace k1:=x8j k1
 replace k2:=x8j k2
 cases e with
 | lst ds=>
  cases hb
  unfold toP at rb k2
  exact SeqAt.in_list_reads rb ra (SeqAt.canLay_of_shaped k2) (SeqAt.canLay_of_shaped k1) (room_in_shaped k1 hu) ⟨.bl _,H,I,rfl,hq⟩
 | tup ds=>
  cases hb
  unfold toP at rb k2
  exact SeqAt.in_tuple_reads rb ra (SeqAt.canLay_of_shaped k2) (SeqAt.canLay_of_shaped k1) (room_in_shaped k1 hu) ⟨.bl _,H,I,rfl,hq⟩
 | _=>cases hb
theorem z3r(hu:X.A.units+65<cLine):OpR X (compareOp .NotIn) (j5v X.K true):=by
 intro pins s σ H x y v u Q I rx ry ⟨d,e,b,⟨w,o,q,F,h1⟩,⟨w',o',q',F',h2⟩,k1,k2,hb,hq⟩
 obtain⟨as,ra⟩:=h1.reads I rx (x92 k1)
 obtain⟨bs,rb⟩:=h2.reads I ry (x92 k2)
 replace k1:=x8j k1
 replace k2:=x8j k2
 cases e with
 | lst ds=>
  cases hb
  unfold toP at rb k2
  exact SeqAt.notIn_list_reads rb ra (SeqAt.canLay_of_shaped k2) (SeqAt.canLay_of_shaped k1) (room_in_shaped k1 hu) ⟨.bl _,H,I,rfl,hq⟩
 | tup ds=>
  cases hb
  unfold toP at rb k2
  exact SeqAt.notIn_tuple_reads rb ra (SeqAt.canLay_of_shaped k2) (SeqAt.canLay_of_shaped k1) (room_in_shaped k1 hu) ⟨.bl _,H,I,rfl,hq⟩
 | _=>cases hb
def dEq (x y:D):Option D:=if okD x=true/\okD y=true then some (.bl (eqD x y))else none
def dNe (x y:D):Option D:=if okD x=true/\okD y=true then some (.bl (!eqD x y))else none
def dIn (x y:D):Option D:=if okD x=true/\okD y=true then(inD x y).map fun b=>.bl b else none
def x8y (x y:D):Option D:=if okD x=true/\okD y=true then(inD x y).map fun b=>.bl (!b)else none
theorem hEq:∀ σ H Q,tD K (e2 dEq fa fb) σ H Q->tOp (j80 K) (tD K fa) (tD K fb) σ H Q:=x8i fun x y d h=>by
 unfold dEq at h
 split at h
 ·rename_i hk
  cases h
  exact⟨_,rfl,fun H w o o' q q' u u' F F' r1 r2 _ Q hq=>⟨x,y,⟨_,_,_,_,r1⟩,⟨_,_,_,_,r2⟩,hk.1,hk.2,hq⟩⟩
 ·cases h
theorem hNe:∀ σ H Q,tD K (e2 dNe fa fb) σ H Q->tOp (j7w K) (tD K fa) (tD K fb) σ H Q:=x8i fun x y d h=>by
 unfold dNe at h
 split at h
 ·rename_i hk
  cases h
  exact⟨_,rfl,fun H w o o' q q' u u' F F' r1 r2 _ Q hq=>⟨x,y,⟨_,_,_,_,r1⟩,⟨_,_,_,_,r2⟩,hk.1,hk.2,hq⟩⟩
 ·cases h
theorem hIn:∀ σ H Q,tD K (e2 dIn fa fb) σ H Q->tOp (j5v K false) (tD K fa) (tD K fb) σ H Q:=x8i fun x y d h=>by
 unfold dIn at h
 split at h
 ·rename_i hk
  cases hi:inD x y with
  | none=>rw[hi]at h;cases h
  | some b=>
   rw[hi]at h
   cases h
   exact⟨_,rfl,fun H w o o' q q' u u' F F' r1 r2 _ Q hq=>⟨x,y,b,⟨_,_,_,_,r1⟩,⟨_,_,_,_,r2⟩,hk.1,hk.2,hi,hq⟩⟩
 ·cases h
theorem j3e:∀ σ H Q,tD K (e2 x8y fa fb) σ H Q->tOp (j5v K true) (tD K fa) (tD K fb) σ H Q:=x8i fun x y d h=>by
 unfold x8y at h
 split at h
 ·rename_i hk
  cases hi:inD x y with
  | none=>rw[hi]at h;cases h
  | some b=>
   rw[hi]at h
   cases h
   exact⟨_,rfl,fun H w o o' q q' u u' F F' r1 r2 _ Q hq=>⟨x,y,b,⟨_,_,_,_,r1⟩,⟨_,_,_,_,r2⟩,hk.1,hk.2,hi,hq⟩⟩
 ·cases h
theorem j6m{k:Nat}(hr:Room k X.A)(ha:PD X a fa)(hb:PD X b fb):PD X (.Compare a [.Eq] [b] pos) (e2 dEq fa fb):=z7y (z7i hr.units) hEq ha hb (y09 _)
theorem j3w{k:Nat}(hr:Room k X.A)(ha:PD X a fa)(hb:PD X b fb):PDT X (.Compare a [.Eq] [b] pos) (x3d (e2 dEq fa fb)):=x6y (z7i hr.units) hEq ha hb (y09 _)
theorem j2k{k:Nat}(hr:Room k X.A)(ha:PD X a fa)(hb:PD X b fb):PDT X (.Compare a [.NotEq] [b] pos) (x3d (e2 dNe fa fb)):=x6y (j4r hr.units) hNe ha hb (y09 _)
theorem u65{k:Nat}(r:Room k A):A.units+65<cLine:=by have:=r.un;omega
theorem j2c{k:Nat}(hr:Room k X.A)(ha:PD X a fa)(hb:PD X b fb)(hm:behindInMarks .In b=false:=by with_unfolding_all rfl):PDT X (.Compare a [.In] [b] pos) (x3d (e2 dIn fa fb)):=x6y (j4t (u65 hr)) hIn ha hb hm
theorem z1o{k:Nat}(hr:Room k X.A)(ha:PD X a fa)(hb:PD X b fb)(hm:behindInMarks .NotIn b=false:=by with_unfolding_all rfl):PDT X (.Compare a [.NotIn] [b] pos) (x3d (e2 x8y fa fb)):=x6y (z3r (u65 hr)) j3e ha hb hm
end
@[simp] def eB (h:List D->Option D)(g:x1q):Den:=fun ρ=>match g ρ with
 | some (ds,ρ1)=>match h ds with
  | some d=>some (d,9,ρ1)
  | none=>none
 | none=>none
section
variable {X:Cx}{a b c e:Expr}{es:List Expr}{fa fb fc f:Den}{g:x1q}{pos p p1 p2:Pos}
theorem z1r{h:List D->Option D}{r:List V->Hp->VK->Prop}(hh:∀ ds d,h ds=some d->∃ v,y4c d=some v/\∀ H w vs,WL K w H->Reps K H w .f 0 ds vs []->∀ Q:VK,Q v H->r vs H Q) :
  ∀ σ H Q,tD K (eB h g) σ H Q->tCB r (tDA K g) σ H Q:=fun σ H Q hh0=>by
 obtain⟨ρ,w,t,r',q,ρ',gd,ee,k⟩:=hh0
 unfold eB at ee
 split at ee
 ·rename_i ds ρ1 h1
  split at ee
  ·rename_i d hd
   cases ee
   obtain⟨v,hv,hr⟩:=hh ds _ hd
   exact⟨ρ,w,t,ds,_,gd,h1,fun vs H1 w1 g1 go1 r1=>hr H1 w1 vs g1.wl r1 Q (k v H1 w1 [] g1.up go1 (y4u hv))⟩
  ·cases ee
 ·cases ee
theorem one{w:Wn}{o:Ow}{d:D}(r:Reps K H w o 0 [d] vs []):∃ v,vs=[v]/\Rep K H w o 0 d v []:=by
 have l:=r.length
 match vs,l with
 | [v],_=>
  obtain⟨v',h1,h2⟩:=r.get (i:=0) rfl
  cases h1
  exact⟨v,rfl,h2⟩
theorem two{w:Wn}{o:Ow}{d d':D}(r:Reps K H w o 0 [d,d'] vs []):∃ v v',vs=[v,v']/\Rep K H w o 0 d v []/\Rep K H w o 0 d' v' []:=by
 have l:=r.length
 match vs,l with
 | [v,v'],_=>
  obtain⟨u,h1,h2⟩:=r.get (i:=0) rfl
  obtain⟨u',h3,h4⟩:=r.get (i:=1) rfl
  cases h1
  cases h3
  exact⟨v,v',rfl,h2,h4⟩
def x7m:D->Option Nat
 | .lst ds=>some ds.length
 | .tup ds=>some ds.length
 | _=>none
@[simp] def y7h:List D->Option D
 | [d]=>(x7m d).map fun n=>.int (Int.ofNat n)
 | _=>none
theorem Rep.len{w:Wn}{o:Ow}{q:Nat}{d:D}(r:Rep K H w o q d v F)(h:x7m d=some n):∃ p ys,v=.ref p/\(SqL K H p ys\/SqT K H p ys)/\ys.length=n:=by
 cases d with
 | lst ds=>
  cases h
  obtain⟨p,vs,q',G,rfl,hq,rs⟩:=r.seqL
  exact⟨p,vs,rfl,.inl hq,rs.length.symm⟩
 | tup ds=>
  cases h
  obtain⟨p,vs,rfl,hq,rs⟩:=r.seqT
  exact⟨p,vs,rfl,.inr hq,rs.length.symm⟩
 | _=>cases h
theorem j3j(hm:X.mg "len" = none)(ha:PDA X [a] g)(hg:Gl X "len":=by rfl)(he:starEach [a] X.env=(false,eval a X.env)::starEach [] X.env:=by rfl)(hpl:(backTo pos (starEach [] X.env)).any (·.1)=false:=by rfl):PD X (.Call (.Name "len" p) [a] [] pos) (eB y7h g):=
 PE.imp (x59 x6x hg hm PySem.boot_len ha (by decide) (by decide) he hpl) (z1r fun ds d h=>by
  match ds,h with
  | [d0],h=>
   cases hl:x7m d0 with
   | none=>simp only[y7h,hl,Option.map_none]at h;cases h
   | some n=>
    simp only[y7h,hl,Option.map_some,Option.some.injEq]at h
    subst h
    refine⟨_,rfl,fun H w vs wl r Q hq=>?_⟩
    obtain⟨v,rfl,rv⟩:=one r
    obtain⟨p,ys,rfl,hs,hn⟩:=rv.len hl
    exact⟨p,ys,rfl,hs,by rw[hn];exact hq⟩)
@[simp] def x1g (i:Nat):Den:=fun ρ=>match ρ[i]? with
 | some (some (d,_))=>match x7m d with
  | some n=>some (.int (Int.ofNat n),9,ρ)
  | none=>none
 | _=>none
theorem j1u(hm:X.mg "len" = none)(h:PE X (.Name x p1) (x7j i))(hg:Gl X "len":=by rfl)(he:starEach [.Name x p1] X.env=(false,eval (.Name x p1) X.env)::starEach [] X.env:=by rfl)(hpl:(backTo pos (starEach [] X.env)).any (·.1)=false:=by rfl):PD X (.Call (.Name "len" p) [.Name x p1] [] pos) (x1g i):=
 PE.imp (x59 x6x hg hm PySem.boot_len (x3i h x6h he) (by decide) (by decide) he hpl) fun σ H Q hh0=>by
 obtain⟨ρ,w,t,r',q,ρ',gd,ee,k⟩:=hh0
 unfold x1g at ee
 split at ee
 ·rename_i d q0 e0
  split at ee
  ·rename_i n hn
   cases ee
   obtain⟨v,F,h1,h2⟩:=gd.slot i d q0 e0
   obtain⟨p,ys,rfl,hs,hl⟩:=h2.len hn
   exact⟨_,h1,p,ys,rfl,hs,by rw[hl];exact k _ H w [] gd.up Go.refl (.int _)⟩
  ·cases ee
 ·cases ee
@[simp] def j2f:List D->Option D
 | [.int i,.int j]=>some (.int (if j > i then j else i))
 | _=>none
theorem z8n(hc:X.calm=true)(hm:X.mg "max" = none)(hb:bootBuiltins "max" = some (.builtin "max"))(ha:PDA X (a::es) g)(hg:Gl X "max":=by rfl)(he:starEach (a::es) X.env=(false,eval a X.env)::starEach es X.env:=by rfl)(hpl:(backTo pos (starEach es X.env)).any (·.1)=false:=by rfl):PD X (.Call (.Name "max" p) (a::es) [] pos) (eB j2f g):=
 PE.imp (x59 (z3y hc) hg hm hb ha (by decide) (by decide) he hpl) (z1r fun ds d h=>by
  unfold j2f at h
  split at h
  ·rename_i i j
   cases h
   refine⟨_,rfl,fun H w vs wl r Q hq=>?_⟩
   obtain⟨v,v',rfl,r1,r2⟩:=two r
   exact⟨i,j,by rw[x4u r1,x4u r2],hq⟩
  ·cases h)
@[simp] def x86 (g:x1q):Den:=fun ρ=>match g ρ with
 | some ([.lst ds],ρ1)=>some (.lst ds,1,ρ1)
 | some ([.tup ds],ρ1)=>some (.lst ds,1,ρ1)
 | _=>none
theorem z3q(hm:X.mg "list" = none)(hb:bootBuiltins "list" = some (.type "list"))(ha:PDA X [a] g)(hg:Gl X "list":=by rfl)(he:starEach [a] X.env=(false,eval a X.env)::starEach [] X.env:=by rfl)(hpl:(backTo pos (starEach [] X.env)).any (·.1)=false:=by rfl):PD X (.Call (.Name "list" p) [a] [] pos) (x86 g):=
 PE.imp (x6n y05 hg hm hb ha (by decide) (by decide) he hpl) fun σ H Q hh0=>by
 obtain⟨ρ,w,t,r',q,ρ',gd,ee,k⟩:=hh0
 unfold x86 at ee
 split at ee
 ·rename_i ds ρ1 h1
  cases ee
  refine⟨ρ,w,t,_,_,gd,h1,fun vs H1 w1 g1 go1 r1=>?_⟩
  obtain⟨v,rfl,rv⟩:=one r1
  obtain⟨p,ys,rfl,hs,rs⟩:=rv.seqL0
  refine⟨p,ys,rfl,.inl hs,fun l hl=>?_⟩
  obtain⟨a1,a2,a3⟩:=alloc g1 hl rs
  exact k _ _ _ _ a1 (go1.trans a2) a3
 ·rename_i ds ρ1 h1
  cases ee
  refine⟨ρ,w,t,_,_,gd,h1,fun vs H1 w1 g1 go1 r1=>?_⟩
  obtain⟨v,rfl,rv⟩:=one r1
  obtain⟨p,ys,rfl,hs,rs⟩:=rv.seqT
  refine⟨p,ys,rfl,.inr hs,fun l hl=>?_⟩
  obtain⟨a1,a2,a3⟩:=alloc g1 hl rs
  exact k _ _ _ _ a1 (go1.trans a2) a3
 ·cases ee
@[simp] def x3t (g:x1q):Den:=fun ρ=>match g ρ with
 | some ([.lst ds],ρ1)=>some (.tup ds,9,ρ1)
 | some ([.tup ds],ρ1)=>some (.tup ds,9,ρ1)
 | _=>none
theorem z6w(hm:X.mg "tuple" = none)(hb:bootBuiltins "tuple" = some (.type "tuple"))(ha:PDA X [a] g)(hg:Gl X "tuple":=by rfl)(he:starEach [a] X.env=(false,eval a X.env)::starEach [] X.env:=by rfl)(hpl:(backTo pos (starEach [] X.env)).any (·.1)=false:=by rfl):PD X (.Call (.Name "tuple" p) [a] [] pos) (x3t g):=
 PE.imp (x6n y3p hg hm hb ha (by decide) (by decide) he hpl) fun σ H Q hh0=>by
 obtain⟨ρ,w,t,r',q,ρ',gd,ee,k⟩:=hh0
 unfold x3t at ee
 split at ee
 ·rename_i ds ρ1 h1
  cases ee
  refine⟨ρ,w,t,_,_,gd,h1,fun vs H1 w1 g1 go1 r1=>?_⟩
  obtain⟨v,rfl,rv⟩:=one r1
  obtain⟨p,ys,rfl,hs,rs⟩:=rv.seqL0
  refine⟨p,ys,rfl,.inl ⟨hs,fun l hl=>?_⟩⟩
  obtain⟨a1,a2,a3⟩:=y34 g1 hl rs
  exact k _ _ _ _ a1 (go1.trans a2) a3
 ·rename_i ds ρ1 h1
  cases ee
  refine⟨ρ,w,t,_,_,gd,h1,fun vs H1 w1 g1 go1 r1=>?_⟩
  obtain⟨v,rfl,rv⟩:=one r1
  have rr:=rv
  obtain⟨p,ys,rfl,hs,rs⟩:=rv.seqT
  refine⟨p,ys,rfl,.inr ⟨hs,?_⟩⟩
  exact k _ H1 w1 [] g1.up go1 (((rr.nolist rfl).2 9).any g1.wl)
 ·cases ee
def z3o (ta:TA):TE:=fun σ H Q=>ta σ H fun vs H1=>∃ j:Int,vs=[.int j] /\ -(2 ^ 62)<=j/\j<2 ^ 62/\∀ p,H1 p=none->Q (.ref p) (upd H1 p (.rng 0 j))
theorem y4w{ta:TA}(hg:Gl X "range")(hm:X.mg "range" = none)(ha:PA X [a] ta)(hs:starEach [a] X.env=[(false,eval a X.env)]:=by rfl):PE X (.Call (.Name "range" p) [a] [] pos) (z3o ta):=by
 intro pins s σ H Q I h
 refine Call_ (y1a I hg hm boot_range (PyProof.Rows.callWith_type1 (thn (ha pos pins s σ H _ I h) fun us s1 ⟨vs,H1,I1,r1,q1⟩=>?_) hs rfl))
 obtain⟨j,e,q1,q2,q⟩:=q1
 subst e
 cases r1 with
 | cons r rr=>
  cases rr
  obtain⟨t,rfl⟩:=r
  refine call_range_1 ?_
  exact⟨.ref s1.heap.objs.size,upd H1 s1.heap.objs.size (.rng 0 j),I1.laid (fun b u e=>Heap.get?_push_of_some _ e) (Nat.le_refl _) ⟨_,_,_,Heap.get?_push_size _ rfl⟩,rfl,q _ (I1.hok.fresh (Nat.le_refl _))⟩
end
theorem x89{j:Int}(h1:-(2 ^ 62)<=j)(h2:j<2 ^ 62):Builtin.Range.small 0 j 1=true:=by
 have hs:Builtin.Range.rangeSize 0 j 1=((j.toNat:Nat):Int):=by
  simp[Builtin.Range.rangeSize]<;>split<;>omega
 simp only[Builtin.Range.small,hs,Builtin.Range.rangeFitsLong]
 simp
 omega
theorem x9n(j:Int):Builtin.Range.rangeSize 0 j 1=((j.toNat:Nat):Int):=by
 simp[Builtin.Range.rangeSize]<;>split<;>omega
theorem y02{acc:Array Value}(h:ItemsOf (fun i v=>∃ t,v=Value.int (0+(i:Nat)*1) t) acc n):x28 (x8l n) acc.toList:=by
 have key:∀ (us:List Value) (k:Nat),(∀ j v,us[j]? = some v->∃ t,v=Value.int (((k+j:Nat)):Int) t)->x28 ((List.range' k us.length).map fun i=>V.int (Int.ofNat i)) us:=by
  intro us
  induction us with
  | nil=>intro k _;exact .nil
  | cons u r ih=>
   intro k hk
   obtain⟨t,e⟩:=hk 0 u rfl
   refine .cons ⟨t,by rw[e];rfl⟩ (ih (k+1) fun j v hv=>?_)
   obtain⟨t',e'⟩:=hk (j+1) v (by simpa using hv)
   exact⟨t',by rw[e'];congr 2;omega⟩
 have:=key acc.toList 0 fun j v hv=>by
  obtain⟨t,e⟩:=h.2 j v (by simpa using hv)
  exact⟨t,by rw[e];congr 1;omega⟩
 have hl:acc.toList.length=n:=by simpa using h.1
 rw[hl]at this
 unfold x8l
 rw[List.range_eq_range']
 exact this
section
variable {prog:Program}{w:World}{A:Around}{E:Value->Shared->Prop}{s:Shared}
open AutoSeq1 (wpAny_loadPart')
theorem x8p{Q:List Value->Shared->Prop}{r:Addr}{a:Int}{t v:Tok}(hh:A.handled=none)(hr:IsRange s.heap r a b c t u v)(hsmall:Builtin.Range.small a b c=true)(hn:Builtin.Range.rangeSize a b c=n)(hlen:n<=2 ^ 24)
  (hQ:∀ h' tk acc',(∀ b o',s.heap.get? b=some o'->h'.get? b=some o')->ItemsOf (fun i v=>∃ t,v=.int (a+i*c) t) acc' n->Q acc'.toList { s with heap:=h',toks:=tk }) :
  wpAny (model prog w) A (collect (.ref r)) Q E s:=by
 unfold collect
 refine wpAny_bind (wpAny_runValue (codeAny_builtin F.entry_proto_collect ?_))
 rw[Around.under_plainId F.plain_proto_collect _]
 show wpAny _ A.in1 (newList [] >>= fun l=>again (.builtin "list.__iadd__" ⟨[l,.ref r],[]⟩)) _ _ s
 refine wpAny_bind (wpAny_newObj_type ?_)
 refine wpAny_pure ⟨plainId_quiet F.plain_list_iadd _,codeAny_builtin F.entry_list_iadd ?_⟩
 rw[Around.under_plainId F.plain_list_iadd _]
 show wpAny _ A.in1 (Builtin.List.listExtendWith (.ref s.heap.objs.size) (.ref r) (.ref s.heap.objs.size)) _ _ _
 have hS:(s.heap.push { cls:=.type "list",data:=.seq ([]:List Value).toArray }).get? s.heap.objs.size=some { cls:=.type "list",data:=.seq #[] 0 }:=Heap.get?_push_size _ rfl
 have fin':∀ (h':Heap) (tk:Nat) (acc':Array Value) (c':Nat),(∀ b o,b≠s.heap.objs.size->(s.heap.push { cls:=.type "list",data:=.seq ([]:List Value).toArray }).get? b=some o->h'.get? b=some o)->
   h'.get? s.heap.objs.size=some { cls:=.type "list",dict:=none,data:=.seq acc' c',slots:=#[] }->ItemsOf (fun i v=>∃ t,v=.int (a+i*c) t) acc' n->wpAny (model prog w) A (match Value.ref s.heap.objs.size with
   | Value.ref a=>do
    match (<- load a).data with
     | Data.seq xs _=>pure xs.toList
     | _=>unsupported "internal:collect"
   | _=>unsupported "internal:collect") Q E { s with heap:=h',toks:=tk }:=fun h' tk acc' c' hk hS' hacc=>by
  show wpAny _ A (load s.heap.objs.size >>= _) _ _ _
  refine wpAny_bind (wpAny_load hS' ?_)
  refine wpAny_pure (hQ h' tk acc' (fun b o' hb=>?_) hacc)
  exact hk b o' (Nat.ne_of_lt (Heap.lt_size hb)) (Heap.get?_push_of_some _ hb)
 refine wpAny_mono (wpAny_extend_range (A:=A) (R:=fun rs s'=>rs=.ok (.ret (.ref s.heap.objs.size))/\∃ h' tk acc' c',s'={ s with heap:=h',toks:=tk }/\(∀ b o,b≠s.heap.objs.size->(s.heap.push { cls:=.type "list",data:=.seq ([]:List Value).toArray }).get? b=some o->h'.get? b=some o) /\
   h'.get? s.heap.objs.size=some { cls:=.type "list",dict:=none,data:=.seq acc' c',slots:=#[] }/\ItemsOf (fun i v=>∃ t,v=.int (a+i*c) t) acc' n)
  (s:={ s with heap:=s.heap.push { cls:=.type "list",data:=.seq ([]:List Value).toArray } }) hh (Heap.get?_push_of_some _ hr) hsmall hn hlen s.heap.objs.size (.ref s.heap.objs.size) 0 hS (fun h' tk acc' c' hk hS' hacc=>⟨rfl,h',tk,acc',c',rfl,hk,hS',hacc⟩)) (fun fin s' h=>?_) (fun e s' h=>?_)
 ·cases fin with
  | done f=>
   obtain⟨e,h',tk,acc',c',rfl,hk,hS',hacc⟩:=h
   cases e
   exact fin' h' tk acc' c' hk hS' hacc
  | again c'=>exact⟨h.1,codeAny_mono h.2 fun r s'' hr=>by
    obtain⟨rfl,h',tk,acc',c',rfl,hk,hS',hacc⟩:=hr
    exact fin' h' tk acc' c' hk hS' hacc⟩
 ·exact absurd h.1 (by simp)
end
theorem x6p(r:Addr)(a b c:Int)(t u v:Tok)(n:Nat)(hsmall:Builtin.Range.small a b c=true)(hn:Builtin.Range.rangeSize a b c=n)(hlen:n<=2 ^ 24) :
  Meets (Builtin.«tuple.__new__» ⟨[.type "tuple",.ref r],[]⟩)
   (fun A R s=>A.handled=none/\IsRange s.heap r a b c t u v/\∀ (h':Heap) tk acc',(∀ b o',s.heap.get? b=some o'->h'.get? b=some o')->ItemsOf (fun i v=>∃ t,v=.int (a+i*c) t) acc' n->R (.ok (.ret (.ref h'.objs.size))) { s with heap:=h'.push { cls:=.type "tuple",data:=.seq acc' },toks:=tk }):=
 .of_wp fun prog w A R s h=>by
  obtain⟨hp,g,d,tk,os⟩:=s;obtain⟨hh,hr,h⟩:=h
  have hsub:=sub_tuple_self
  have hinit:=init_tuple_lookup
  have hmh:=madeHere_tuple
  have hT:Shared.TypeIs ⟨hp,g,d,tk,os⟩ (.ref r) "range":=⟨_,hr,rfl⟩
  have hh1:A.in1.handled=none:=hh
  wp_walk using AutoSeq1.wpAny_loadPart' hr,wpAny_typeOf hT,x8p hh1 hr hsmall hn hlen
  intro h' tk' acc' hk hacc
  show wpAny _ _ (Builtin.Tuple.tupleExact acc'.toList.toArray >>= fun v=>ret v) _ _ _
  unfold Builtin.Tuple.tupleExact
  have hsz:acc'.size<=sizeLine:=by rw[hacc.1];exact hlen
  refine wpAny_bind (wpAny_newObj_type ?_ (by show acc'.toList.toArray.size<=sizeLine;simpa using hsz))
  refine wpAny_pure ⟨_,rfl,?_⟩
  have e:acc'.toList.toArray=acc':=by simp
  rw[e]
  exact h h' tk' acc' hk hacc
theorem y0r{prog:Program}{w:World}{E:Value->Shared->Prop}{s:Shared}{r:Addr}{a:Int}{t v:Tok}{Q:Value->Shared->Prop}(hh:A.handled=none)(hr:IsRange s.heap r a b c t u v)(hsmall:Builtin.Range.small a b c=true)(hn:Builtin.Range.rangeSize a b c=n)(hlen:n<=2 ^ 24)
  (h:∀ (h':Heap) tk acc',(∀ b o',s.heap.get? b=some o'->h'.get? b=some o')->ItemsOf (fun i v=>∃ t,v=.int (a+i*c) t) acc' n->Q (.ref h'.objs.size) { s with heap:=h'.push { cls:=.type "tuple",data:=.seq acc' },toks:=tk }) :
  wpAny (model prog w) A (call (.type "tuple") [.ref r]) Q E s:=
 callType_new F.called_tuple (by decide) (F.typeCall_tuple_1 _) (F.newCall_tuple_1 _) (fun obj=>F.args_object_init_2 obj _) F.entry_tuple_new
  (x6p r a b c t u v n hsmall hn hlen) ⟨hh,hr,fun h' tk acc' hk hacc=>⟨⟨_,Heap.get?_push_size _ rfl,rfl⟩,h h' tk acc' hk hacc⟩⟩
section
variable {X:Cx}
def j6t (mk:List V->HO):List V->Hp->VK->Prop:=fun xs H Q=>∃ a j,xs=[.ref a]/\H a=some (.rng 0 j) /\ -1000<=j/\j<=1000/\∀ p,H p=none->Q (.ref p) (upd H p (mk (x8l j.toNat)))
theorem y3z(hc:X.calm=true):y0s X (.type "list") (j6t .lst):=by
 intro pins s σ H xs us Q I r h
 obtain⟨a,j,rfl,hr,j1,j2,q⟩:=h
 obtain⟨u,rfl,rx⟩:=x9r r
 cases rx
 obtain⟨t,u,v,ho⟩:=(show x29 X.prog X.w H s.heap a (.rng 0 j)from I.hok a _ hr)
 refine call_list_range (I.ok.hd hc) ho (x89 (by omega) (by omega)) (x9n j) (by omega) fun h' tk acc' c' hk hS' hacc=>?_
 refine⟨.ref s.heap.objs.size,_,I.laid (t':=tk) (o:=.lst (x8l j.toNat)) hk (Nat.le_refl _) ⟨by rw[y39];exact Nat.le_trans (by omega:j.toNat<=1000) (by decide),acc'.toList,c',y02 hacc,by simpa using hS'⟩,rfl,q _ (I.hok.fresh (Nat.le_refl _))⟩
theorem y2q(hc:X.calm=true):y0s X (.type "tuple") (j6t .tup):=by
 intro pins s σ H xs us Q I r h
 obtain⟨a,j,rfl,hr,j1,j2,q⟩:=h
 obtain⟨u,rfl,rx⟩:=x9r r
 cases rx
 obtain⟨t,u,v,ho⟩:=(show x29 X.prog X.w H s.heap a (.rng 0 j)from I.hok a _ hr)
 refine y0r (I.ok.hd hc) ho (x89 (by omega) (by omega)) (x9n j) (by omega) fun h' tk acc' hk hacc=>?_
 have I1:Inv X pins σ H { s with heap:=h',toks:=tk }:=I.kept hk
 have I2:Inv X pins σ (upd H h'.objs.size (.tup (x8l j.toNat))) { s with heap:=h'.push { cls:=.type "tuple",data:=.seq acc' },toks:=tk }:=
  I1.laid (t':=tk) (fun b o e=>Heap.get?_push_of_some _ e) (Nat.le_refl _) (show x29 X.prog X.w _ _ _ (.tup _)from⟨by rw[y39];exact Nat.le_trans (by omega:j.toNat<=1000) (by decide),acc'.toList,y02 hacc,by simpa using x6f.new h' acc'⟩)
 exact⟨.ref h'.objs.size,_,I2,rfl,q _ (I1.hok.fresh (Nat.le_refl _))⟩
variable {a:Expr}{g:x1q}{pos p p1 pos1:Pos}
@[simp] def x7y (g:x1q):Den:=fun ρ=>match x17 g ρ with
 | some (ds,ρ1)=>some (.lst ds,1,ρ1)
 | none=>none
@[simp] def z9n (g:x1q):Den:=fun ρ=>match x17 g ρ with
 | some (ds,ρ1)=>some (.tup ds,9,ρ1)
 | none=>none
theorem y6c{mk:List V->HO}{q0:Nat}{md:List D->D}(al:∀ {ρ:Rho} {σ:St} {H1:Hp} {w1:Wn} {t:Nat} {p:Addr} {vs:List V} {ds:List D},Good K ρ σ H1 w1 t->H1 p=none->Reps K H1 w1 .f 0 ds vs []->∃ w' F,Good K ρ σ (upd H1 p (mk vs)) w' (t+1)/\Go H1 w1 (upd H1 p (mk vs)) w'/\Rep K (upd H1 p (mk vs)) w' (.t t) q0 (md ds) (.ref p) F) :
  ∀ σ H Q,tD K (fun ρ=>match x17 g ρ with
   | some (ds,ρ1)=>some (md ds,q0,ρ1)
   | none=>none) σ H Q->tCB (j6t mk) (y7e (z3o (tDA K g)) z7f) σ H Q:=fun σ H Q hh0=>by
 obtain⟨ρ,w,t,r',q,ρ',gd,ee,k⟩:=hh0
 dsimp only at ee
 split at ee
 ·rename_i ds ρ1 h1
  cases ee
  unfold x17 at h1
  split at h1
  ·rename_i n ρ2 h2
   split at h1
   ·rename_i hn
    cases h1
    refine⟨ρ,w,t,_,_,gd,h2,fun vs H1 w1 g1 go1 r1=>?_⟩
    obtain⟨v,rfl,rv⟩:=one r1
    have hv:=x4u rv
    subst hv
    refine⟨n,rfl,by omega,by omega,fun p hp=>⟨p,n,rfl,x0t,hn.1,hn.2,fun l hl=>?_⟩⟩
    have ne:∀ a x,H1 a=some x->a≠p:=fun a x e=>x0r e hp
    have st:x84 H1 w1 (upd H1 p (.rng 0 n)) w1:=fun a x e nn=>⟨sm (by rw[x0h (ne a x e)];exact e),nn⟩
    have nw:∀ a o,w1 a=some o->a≠p:=fun a o e=>by obtain⟨vs,q⟩:=g1.wl a o e;exact ne a _ q
    have g2:Good K ρ' σ (upd H1 p (.rng 0 n)) w1 t:=⟨⟨fun a o e=>by
     obtain⟨us,q⟩:=g1.wl a o e
     exact⟨us,by rw[x0h (nw a o e)];exact q⟩,g1.wl.tb.upd rfl (.inl hp)⟩,g1.ws,g1.wt,g1.len,fun i d q e=>by
     obtain⟨v,F,h1,h2⟩:=g1.slot i d q e
     exact⟨v,F,h1,Rep.go g1.wl st h2 fun a m=>⟨x0h (nw a _ (h2.owns a m)),h2.owns a m⟩⟩⟩
    have go2:Go H1 w1 (upd H1 p (.rng 0 n)) w1:=⟨st,fun a o e _=>⟨x0h (nw a o e),e⟩⟩
    obtain⟨w',F,a1,a2,a3⟩:=al g2 hl (z0l n.toNat)
    exact k _ _ _ _ a1 ((go1.trans go2).trans a2) a3
   ·cases h1
  ·cases h1
 ·cases ee
theorem z4h(hc:X.calm=true)(hm:X.mg "list" = none)(hb:bootBuiltins "list" = some (.type "list"))(hmr:X.mg "range" = none)(ha:PDA X [a] g)(hg:Gl X "list":=by rfl)(hgr:Gl X "range":=by rfl)(hs:starEach [a] X.env=[(false,eval a X.env)]:=by rfl)
  (he:starEach [.Call (.Name "range" p1) [a] [] pos1] X.env=(false,eval (.Call (.Name "range" p1) [a] [] pos1) X.env)::starEach [] X.env:=by rfl) (hpl:(backTo pos (starEach [] X.env)).any (·.1)=false:=by rfl):PD X (.Call (.Name "list" p) [.Call (.Name "range" p1) [a] [] pos1] [] pos) (x7y g):=
 PE.imp (x6n (y3z hc) hg hm hb (x3i (y4w hgr hmr ha hs) x6h he) (by decide) (by decide) he hpl) (y6c fun g hp r=>by
  obtain⟨a1,a2,a3⟩:=alloc g hp r
  exact⟨_,_,a1,a2,a3⟩)
theorem z8b(hc:X.calm=true)(hm:X.mg "tuple" = none)(hb:bootBuiltins "tuple" = some (.type "tuple"))(hmr:X.mg "range" = none)(ha:PDA X [a] g)(hg:Gl X "tuple":=by rfl)(hgr:Gl X "range":=by rfl)(hs:starEach [a] X.env=[(false,eval a X.env)]:=by rfl)
  (he:starEach [.Call (.Name "range" p1) [a] [] pos1] X.env=(false,eval (.Call (.Name "range" p1) [a] [] pos1) X.env)::starEach [] X.env:=by rfl) (hpl:(backTo pos (starEach [] X.env)).any (·.1)=false:=by rfl):PD X (.Call (.Name "tuple" p) [.Call (.Name "range" p1) [a] [] pos1] [] pos) (z9n g):=
 PE.imp (x6n (y2q hc) hg hm hb (x3i (y4w hgr hmr ha hs) x6h he) (by decide) (by decide) he hpl) (y6c fun g hp r=>by
  obtain⟨a1,a2,a3⟩:=y34 g hp r
  exact⟨_,_,a1,a2,a3⟩)
end
end L3
namespace L3
open PySem PySem.Spec PyProof.Rows L2
theorem y0w{M:Model}{A:Around}{E:Value->Shared->Prop}{s:Shared}{β:Type}{n:Nat}(f:Nat->β->Sem (ForInStep β))(I:List Nat->β->Shared->Prop)(Q:β->Shared->Prop)(b:β)
  (turn:∀ x x21 b s,I (x::x21) b s->wpAny M A (f x b) (fun r s'=>match r with|.yield b'=>I x21 b' s' | .done b'=>Q b' s') E s)
  (fin:∀ b s,I [] b s->Q b s) (h:I (List.range' 0 n 1) b s):wpAny M A (forIn [0:n] b f) Q E s:=by
 rw[Std.Legacy.Range.forIn_eq_forIn_range']
 refine wpAny_forIn_list f I Q turn fin _ b ?_
 have e:(Std.Legacy.Range.size [0:n])=n:=by simp[Std.Legacy.Range.size]
 show I (List.range' 0 (Std.Legacy.Range.size [0:n]) 1) b s
 rw[e]
 exact h
open AutoSeq1 (wpAny_loadPart') in
theorem y4z(l:Addr)(items:Array Value)(n:Nat)(dd:Option Addr)(sl:Array (Option Value))(x:Value)(e:Value->Bool)(j:Nat)(hj:j<items.size)(hit:e items[j]=true)(hno:∀ m (hm:m<items.size),m<j->e items[m]=false) :
  Meets (Builtin.«tuple.index» ⟨[.ref l,x],[]⟩)
   (fun A R s=>s.heap.get? l=some { cls:=.type "tuple",dict:=dd,data:=.seq items n,slots:=sl }/\(∀ y,y∈items->SeqAt.EqAt A.in1 s y x (e y))/\R (.ok (.ret (.int j s.toks))) { s with toks:=s.toks+1 }):=
 .of_wp fun prog w A R s h=>by
  obtain⟨hp,g,d,tk,os⟩:=s;obtain⟨hl,he,h⟩:=h
  wp_walk using wpAny_loadPart' hl,y0w _ (fun x21 b s'=>b.1=none/\s'=⟨hp,g,d,tk,os⟩/\∃ i k,x21=List.range' i k 1/\i+k=items.size/\i<=j) _
  case turn=>
   rintro y x21 b s' ⟨hb,rfl,i,k,hr,hik,hij⟩
   cases k with
   | zero=>simp at hr
   | succ k=>
    rw[List.range'_succ]at hr
    obtain⟨rfl,rfl⟩:=List.cons.inj hr
    have hlt:y<items.size:=by omega
    have hget:items[y]? = some items[y]:=by simp[hlt]
    rw[hget]
    refine wpAny_bind (he _ (Array.getElem_mem hlt) prog w _ _ ?_)
    by_cases hyj:y=j
    ·subst hyj
     rw[hit]
     wp_walk
     exact⟨_,rfl,h⟩
    ·rw[hno y hlt (by omega)]
     wp_walk
     exact⟨rfl,rfl,y+1,k,rfl,by omega,by omega⟩
  case fin=>
   rintro ⟨b1,b2⟩ s' ⟨hb,rfl,i,k,hr,hik,hij⟩
   cases k with
   | zero=>omega
   | succ k=>simp[List.range'_succ]at hr
  case h=>
   exact⟨rfl,rfl,0,items.size,by simp,by omega,by omega⟩
end L3
namespace L3
open PySem PySem.Spec PyProof.Rows L2
variable {F:List Addr}{H:Hp}{K:PySem.W.Frag}{N ps:List Str}{P:Program}{Q:Value->Shared->Prop}{base:Heap}{body:x13}{d:D}{ds:List D}{i j n q t:Nat}{mg:Str->Option Value}{o:Ow}{p:x6m}{p3 p4:Pos}{st:Stmt}{vs:List V}{w:Wn}{x:Str}{ρ:Rho}{σ:St}
def j23 (d:D)(ds:List D):Option Nat:=(x6t ds).findIdx? fun y=>PyData.eqv y (toP d)
def j1r (K:PySem.W.Frag):V->List V->Hp->VK->Prop:=fun x xs H Q=>∃ ds d y j,xs=[y]/\Is K H (.tup ds) x/\Is K H d y/\okD (.tup ds)=true/\okD d=true/\j23 d ds=some j/\Q (.int (Int.ofNat j)) H
section
variable {X:Cx}{a b c e:Expr}{es:List Expr}{fa fb fc f:Den}{g:x1q}{pos p p1 p2 cpos apos:Pos}
theorem z32(hu:X.A.units+65<cLine):MtR X "tuple.index" (j1r X.K):=by
 intro pins s σ H x xs v us Q I rx rs ⟨ds,d,y,j,e,⟨w,o,q,F,h1⟩,⟨w',o',q',F',h2⟩,k1,k2,hj,hq⟩
 subst e
 obtain⟨u,rfl,ru⟩:=x9r rs
 obtain⟨as,ra⟩:=h1.reads I rx (x92 k1)
 obtain⟨bs,rb⟩:=h2.reads I ru (x92 k2)
 replace k1:=x8j k1
 replace k2:=x8j k2
 unfold toP at ra k1
 have hc1:PyData.canLayAll0 (x6t ds)=true:=SeqAt.canLay_of_shaped k1
 have hc2:=SeqAt.canLay_of_shaped k2
 cases ra with
 | @tuple a ob vs n _ _ ho hcl hd hrs=>
  obtain⟨cls,dd,data,sl⟩:=ob
  simp only at hcl hd
  subst hcl hd
  have hmap:=SeqAt.readsAll_map _ _ _ hc1 hrs
  have hfi:=List.findIdx?_eq_some_iff_getElem.mp hj
  obtain⟨hjl,hjt,hjf⟩:=hfi
  have hlen:vs.size=(x6t ds).length:=by rw[<- hmap];simp
  have hat:∀ m (hm:m<vs.size) (hm':m<(x6t ds).length),SeqAt.readOf s.heap vs[m]=(x6t ds)[m]:=fun m hm hm'=>by
   have:(vs.toList.map (SeqAt.readOf s.heap))[m]? = (x6t ds)[m]?:=by rw[hmap]
   simpa [hm,hm']using this
  refine call_meets PySem.F.slot_tuple_index ⟨_,ho,rfl⟩ PySem.F.entry_tuple_index (PySem.F.args_tuple_index_2 _ _)
   (y4z a vs n dd sl u (fun y=>PyData.eqv (SeqAt.readOf s.heap y) (toP d)) j (by omega) (by rw[hat j (by omega) hjl];simpa using hjt) (fun m hm hmj=>by rw[hat m hm (by omega)];simpa using hjf m hmj)) ⟨ho,SeqAt.items_eqAt hrs rb hc1 hc2 (room_in_shaped k2 hu),?_⟩
  exact⟨.int (Int.ofNat j),H,I.tok _,⟨_,rfl⟩,hq⟩
@[simp] def y8l (fo:Den)(g:x1q):Den:=fun ρ=>match fo ρ with
 | some (.tup ds,_,ρ1)=>match g ρ1 with
  | some ([d],ρ2)=>if okD (.tup ds)=true/\okD d=true then match j23 d ds with
   | some j=>some (.int (Int.ofNat j),9,ρ2)
   | none=>none
   else none
  | _=>none
 | _=>none
theorem z78{k:Nat}(hr:Room k X.A)(ho:PD X a fa)(ha:PDA X [e] g)
  (hbase:attributeBase a "index" X.env (eval a X.env)=eval a X.env:=by rfl)
  (hfew:((backTo cpos (starEach [e] X.env)).all (fun x=>!x.1)&&(backToKw cpos (keywordEach [] X.env)).all (fun x=>x.1.isSome)
    && decide ([e].length+([]:List Keyword).length+(if([]:List Keyword).isEmpty then 0 else 1)<30))=true:=by rfl)
  (hline:(apos.endLine==cpos.line)=true:=by rfl) (hs:starEach [e] X.env=(false,eval e X.env)::starEach [] X.env:=by rfl) (hplain:(backTo cpos (starEach [] X.env)).any (·.1)=false:=by rfl) :
  PD X (.Call (.Attribute a "index" apos) [e] [] cpos) (y8l fa g):=
 PE.imp (z0h PySem.F.plainAttrs_tuple PySem.F.slot_tuple_index PySem.F.type_tuple_index (z32 (u65 hr)) ho ha hbase hfew hline hs hplain) fun σ H Q hh0=>by
 obtain⟨ρ,w,t,r',q,ρ',gd,ee,k⟩:=hh0
 unfold y8l at ee
 split at ee
 ·rename_i ds q1 ρ1 h1
  split at ee
  ·rename_i d ρ2 h2
   split at ee
   ·rename_i hok
    split at ee
    ·rename_i j hj
     cases ee
     refine⟨ρ,w,t,_,_,_,gd,h1,fun v H1 w1 F1 g1 go1 r1=>?_⟩
     have r0:=r1.drop (o:=.f) (Nat.le_refl t)
     have gg:=g1.drop (t':=t)
     obtain⟨p0,vs,rfl,hq,rs⟩:=r0.tupAt
     refine⟨?_,ρ1,x1o t w1,t,_,_,gg,h2,fun vs2 H2 w2 g2 go2 r2=>?_⟩
     ·exact .inr (.inl ⟨rfl,.inr ⟨_,hq⟩⟩)
     ·obtain⟨v2,rfl,rv2⟩:=one r2
      have r3:Rep X.K H2 w2 .f 0 (.tup ds) (.ref p0) []:=r0.go0 gg.wl go2.stab
      exact⟨ds,d,v2,j,rfl,⟨_,_,_,_,r3⟩,⟨_,_,_,_,rv2⟩,hok.1,hok.2,hj,k _ H2 w2 [] g2.up ((go1.drop gd.wt).trans go2) (.int _)⟩
    ·cases ee
   ·cases ee
  ·cases ee
 ·cases ee
theorem Good.mut(g:Good K ρ σ H w t)(e:ρ[i]? = some (some (.lst ds,1))) :
  ∃ l vs,σ[i]? = some (some (.ref l))/\H l=some (.lst vs)/\Reps K H w .f 0 ds vs []/\∀ ds' vs',Reps K H w .f 0 ds' vs' []->
   Good K (ρ.set i (some (.lst ds',1))) σ (upd H l (.lst vs')) w t/\Go H w (upd H l (.lst vs')) w:=by
 obtain⟨v,F,h1,h2⟩:=g.slot i _ _ e
 cases h2 with
 | @own _ l vs _ F' hl hw rs ne=>
  have hF:=rs.zero
  subst hF
  refine⟨l,vs,h1,hl,rs.any g.wl,fun ds' vs' r'=>?_⟩
  have nl:∀ a o,w a=some o->o ≠ .s i->a≠l:=fun a o e n z=>by subst z;rw[hw]at e;exact n (Option.some.inj e).symm
  have nn:∀ a,w a=none->a≠l:=fun a e z=>by subst z;rw[hw]at e;cases e
  have st:x84 H w (upd H l (.lst vs')) w:=fun a x h n=>⟨sm (by rw[x0h (nn a n)];exact h),n⟩
  refine⟨⟨⟨fun a o h=>?_,g.wl.tb.upd rfl (.inr (g.wl l _ hw))⟩,g.ws,g.wt,by rw[List.length_set];exact g.len,fun j d' q' e'=>?_⟩,⟨st,fun a o h n=>⟨x0h (nl a o h (n i)),h⟩⟩⟩
  ·by_cases z:a=l
   ·subst z;exact⟨_,x0t⟩
   ·obtain⟨us,q⟩:=g.wl a o h
    exact⟨us,by rw[x0h z];exact q⟩
  ·by_cases hj:i=j
   ·subst hj
    rw[List.getElem?_set_self (List.getElem?_eq_some_iff.mp e).1]at e'
    cases e'
    exact⟨_,_,h1,.own x0t hw (Reps.go g.wl st r' (fun _ z=>nomatch z)) (fun z=>nomatch z)⟩
   ·rw[List.getElem?_set_ne hj]at e'
    obtain⟨v',F',h1',h2'⟩:=g.slot j d' q' e'
    exact⟨v',F',h1',Rep.go g.wl st h2' fun a m=>⟨x0h (nl a _ (h2'.owns a m) (fun z=>hj (by cases z;rfl))),h2'.owns a m⟩⟩
@[simp] def y7x:Option (OD)->Bool
 | some (some (.lst _,_))=>true
 | _=>false
theorem Good.isL(g:Good K ρ σ H w t)(h:y7x ρ[i]? = true):∃ l,σ[i]? = some (some (.ref l))/\∃ vs,SqL K H l vs:=by
 unfold y7x at h
 split at h
 ·rename_i ds q e
  obtain⟨v,F,h1,h2⟩:=g.slot i _ _ e
  obtain⟨p,vs,_,_,rfl,hq,_⟩:=h2.seqL
  exact⟨p,h1,vs,hq⟩
 ·cases h
@[simp] def y1i (i:Nat)(g:x1q):Den:=fun ρ=>if y7x ρ[i]? = true then match g ρ with
 | some ([d],ρ1)=>match ρ1[i]? with
  | some (some (.lst ds,1))=>if ds.length<=1000 then some (.non,9,ρ1.set i (some (.lst (ds++[d]),1)))else none
  | _=>none
 | _=>none
 else none
theorem z40(h:PE X (.Name x p1) (x7j i))(ha:PDA X [e] g)
  (hbase:attributeBase (.Name x p1) "append" X.env (eval (.Name x p1) X.env)=eval (.Name x p1) X.env:=by rfl)
  (hfew:((backTo cpos (starEach [e] X.env)).all (fun x=>!x.1)&&(backToKw cpos (keywordEach [] X.env)).all (fun x=>x.1.isSome)
    && decide ([e].length+([]:List Keyword).length+(if([]:List Keyword).isEmpty then 0 else 1)<30))=true:=by rfl)
  (hline:(apos.endLine==cpos.line)=true:=by rfl) (hs:starEach [e] X.env=(false,eval e X.env)::starEach [] X.env:=by rfl) (hplain:(backTo cpos (starEach [] X.env)).any (·.1)=false:=by rfl) :
  PD X (.Call (.Attribute (.Name x p1) "append" apos) [e] [] cpos) (y1i i g):=
 PE.imp (z0h PySem.F.plainAttrs_list PySem.F.slot_list_append PySem.F.type_list_append z38 h ha hbase hfew hline hs hplain) fun σ H Q hh0=>by
 obtain⟨ρ,w,t,r',q,ρ',gd,ee,k⟩:=hh0
 unfold y1i at ee
 split at ee
 ·rename_i hl
  obtain⟨l,hσ,us,hq⟩:=gd.isL hl
  split at ee
  ·rename_i d ρ1 h1
   split at ee
   ·rename_i ds e1
    split at ee
    ·rename_i hlen
     cases ee
     refine⟨_,hσ,.inl ⟨rfl,us,hq⟩,ρ,w,t,_,_,gd,h1,fun vs H1 w1 g1 go1 r1=>?_⟩
     obtain⟨v,rfl,rv⟩:=one r1
     obtain⟨l',ws,hσ',hH,rs,mk⟩:=g1.mut e1
     rw[hσ]at hσ'
     cases hσ'
     have r2:Reps X.K H1 w1 .f 0 (ds++[d]) (ws++[v]) []:=Reps.snoc (F:=[]) (G:=[]) rv rs (fun _ z=>nomatch z)
     obtain⟨m1,m2⟩:=mk _ _ r2
     refine⟨l,ws,v,rfl,rfl,hH,by rw[<- rs.length];exact x4p hlen,?_⟩
     exact k .non _ w1 [] m1.up (go1.trans m2) .non
    ·cases ee
   ·cases ee
  ·cases ee
 ·cases ee
theorem Reps.eraseIdx:∀ {ds:List D} {vs:List V} (i:Nat),Reps K H w .f 0 ds vs []->Reps K H w .f 0 (ds.eraseIdx i) (vs.eraseIdx i) []
 | ds,vs,i,r=>by
  generalize hF:([]:List Addr)=F at r
  cases r with
  | nil=>exact .nil
  | @cons _ d v ds vs F G r s _=>
   have h1:F=[]:=r.zero
   have h2:G=[]:=s.zero
   subst h1 h2
   cases i with
   | zero=>exact s
   | succ j=>exact .cons (F:=[]) (G:=[]) r (Reps.eraseIdx j s) (fun _ z=>nomatch z)
@[simp] def j20 (i:Nat)(g:x1q):Den:=fun ρ=>if y7x ρ[i]? = true then match g ρ with
 | some ([.int n],ρ1)=>match ρ1[i]? with
  | some (some (.lst ds,1))=>if -1000<=n/\n<=1000 then match seqIndex? n ds.length with
   | some j=>match ds[j]? with
    | some d=>some (d,x9m d,ρ1.set i (some (.lst (ds.eraseIdx j),1)))
    | none=>none
   | none=>none
   else none
  | _=>none
 | _=>none
 else none
theorem j3s(h:PE X (.Name x p1) (x7j i))(ha:PDA X [e] g)
  (hbase:attributeBase (.Name x p1) "pop" X.env (eval (.Name x p1) X.env)=eval (.Name x p1) X.env:=by rfl)
  (hfew:((backTo cpos (starEach [e] X.env)).all (fun x=>!x.1)&&(backToKw cpos (keywordEach [] X.env)).all (fun x=>x.1.isSome)
    && decide ([e].length+([]:List Keyword).length+(if([]:List Keyword).isEmpty then 0 else 1)<30))=true:=by rfl)
  (hline:(apos.endLine==cpos.line)=true:=by rfl) (hs:starEach [e] X.env=(false,eval e X.env)::starEach [] X.env:=by rfl) (hplain:(backTo cpos (starEach [] X.env)).any (·.1)=false:=by rfl) :
  PD X (.Call (.Attribute (.Name x p1) "pop" apos) [e] [] cpos) (j20 i g):=
 PE.imp (z0h PySem.F.plainAttrs_list PySem.F.slot_list_pop PySem.F.type_list_pop z6c h ha hbase hfew hline hs hplain) fun σ H Q hh0=>by
 obtain⟨ρ,w,t,r',q,ρ',gd,ee,k⟩:=hh0
 unfold j20 at ee
 split at ee
 ·rename_i hl
  obtain⟨l,hσ,us,hq⟩:=gd.isL hl
  split at ee
  ·rename_i n ρ1 h1
   split at ee
   ·rename_i ds e1
    split at ee
    ·rename_i hn
     split at ee
     ·rename_i j hj
      split at ee
      ·rename_i d hd
       cases ee
       refine⟨_,hσ,.inl ⟨rfl,us,hq⟩,ρ,w,t,_,_,gd,h1,fun vs H1 w1 g1 go1 r1=>?_⟩
       obtain⟨v,rfl,rv⟩:=one r1
       have hv:=x4u rv
       subst hv
       obtain⟨l',ws,hσ',hH,rs,mk⟩:=g1.mut e1
       rw[hσ]at hσ'
       cases hσ'
       obtain⟨y,hy,ry⟩:=rs.get hd
       obtain⟨m1,m2⟩:=mk _ _ (rs.eraseIdx j)
       refine⟨l,ws,n,j,y,rfl,rfl,hH,by omega,by omega,by rw[<- rs.length];exact hj,hy,?_⟩
       have ry':Rep X.K _ w1 (.t t) 0 r' y []:=Rep.go g1.wl m2.stab ry (fun _ z=>nomatch z)
       exact k y _ w1 [] m1.up (go1.trans m2) ry'.dep
      ·cases ee
     ·cases ee
    ·cases ee
   ·cases ee
  ·cases ee
 ·cases ee
end
theorem Reps.getQ:∀ {ds:List D} {vs:List V} {F:List Addr} {i:Nat} {d:D},Reps K H w o q ds vs F->ds[i]? = some d->∃ v G,vs[i]? = some v/\Rep K H w o q d v G/\∀ a∈G,a∈F
 | _,_,_,_,_,.nil,e=>by simp at e
 | _,_,_,0,_,.cons r _ _,e=>by
  simp at e;subst e;exact⟨_,_,rfl,r,fun a m=>List.mem_append_left _ m⟩
 | _,_,_,i+1,d,.cons _ s _,e=>by
  obtain⟨v,G,h1,h2,h3⟩:=Reps.getQ (i:=i) (d:=d) s (by simpa using e)
  exact⟨v,G,by simpa using h1,h2,fun a m=>List.mem_append_right _ (h3 a m)⟩
theorem Reps.atQ{i:Int}(r:Reps K H w o q ds vs F)(h:L2.atI ds i=some d):∃ v G,L2.atI vs i=some v/\Rep K H w o q d v G/\∀ a∈G,a∈F:=by
 unfold L2.atI at h ⊢
 rw[<- r.length]
 cases e:ixN ds.length i with
 | none=>rw[e]at h;cases h
 | some j=>
  rw[e]at h
  exact r.getQ h
@[simp] def x1e (n:Nat)(fb:Den):Den:=fun ρ=>match ρ[n]? with
 | some (some _)=>match fb ρ with
  | some (.int i,_,ρ2)=>match ρ2[n]? with
   | some (some (x,q))=>match atD x i with
    | some d=>if d.isL=true/\1<q/\x.isL=true then none else some (d,x9m d,ρ2)
    | none=>none
   | _=>none
  | _=>none
 | _=>none
section
variable {X:Cx}{a b c e:Expr}{es:List Expr}{fa fb fc f:Den}{g:x1q}{pos p p1 p2 cpos apos:Pos}
theorem j2g(h:PE X (.Name x p1) (x7j n))(hb:PD X b fb)(hs:x4m b:=by exact fun _ _=>rfl):PD X (.Subscript (.Name x p1) b pos) (x1e n fb):=PE.imp (z21 y5g h hb hs) fun σ H Q hh0=>by
 obtain⟨ρ,w,t,r',q,ρ',gd,ee,k⟩:=hh0
 unfold x1e at ee
 split at ee
 ·rename_i z0 e0
  obtain⟨d0,q0⟩:=z0
  obtain⟨v,F,hσ,_⟩:=gd.slot n d0 q0 e0
  split at ee
  ·rename_i i q2 ρ2 h2
   split at ee
   ·rename_i x q e2
    split at ee
    ·rename_i d hd
     split at ee
     ·cases ee
     ·rename_i hn
      cases ee
      refine⟨v,hσ,ρ,w,t,_,_,_,gd,h2,fun y H2 w2 F2 g2 go r2=>?_⟩
      have hy:=x4u r2
      subst hy
      have gg:=g2.drop (t':=t)
      obtain⟨v',F',hσ',rr⟩:=gg.slot n x q e2
      rw[hσ]at hσ'
      cases hσ'
      have fin:∀ u,Rep X.K H2 (x1o t w2) (.t t) 0 r' u []->Q u H2:=fun u ru=>k u H2 (x1o t w2) [] gg.up (go.drop gd.wt) ru.dep
      cases x with
      | lst ds=>
       by_cases hq0:q=0
       ·subst hq0
        obtain⟨p0,vs,rfl,hq,rs⟩:=rr.seqL0
        obtain⟨u,hu,ru⟩:=rs.atI hd
        exact .inl ⟨p0,vs,i,u,rfl,rfl,hq,hu,fin u (ru.any gg.wl)⟩
       ·by_cases hq1:q=1
        ·subst hq1
         cases rr with
         | own h0 _ rs _=>
          have z0:=rs.zero
          subst z0
          obtain⟨u,hu,ru⟩:=rs.atI hd
          exact .inl ⟨_,_,i,u,rfl,rfl,SqL.of h0,hu,fin u (ru.any gg.wl)⟩
        ·obtain⟨p0,vs,q',G,rfl,hq,rs⟩:=rr.seqL
         obtain⟨u,G',hu,ru,_⟩:=rs.atQ hd
         refine .inl ⟨p0,vs,i,u,rfl,rfl,hq,hu,fin u ?_⟩
         cases hL:r'.isL with
         | false=>exact((ru.nolist hL).2 0).any gg.wl
         | true=>exact absurd ⟨hL,by omega,rfl⟩ hn
      | tup ds=>
       obtain⟨p0,vs,rfl,hq,rs⟩:=rr.seqT
       obtain⟨u,hu,ru⟩:=rs.atI hd
       exact .inr (.inl ⟨p0,vs,i,u,rfl,rfl,hq,hu,fin u (ru.any gg.wl)⟩)
      | _=>cases hd
    ·cases ee
   ·cases ee
  ·cases ee
 ·cases ee
@[simp] def y70 (fa fb:Den):Den:=fun ρ=>match fa ρ with
 | some (.lst ds,1,ρ1)=>match fb ρ1 with
  | some (.int n,_,ρ2)=>if -1000<=n/\n<=1000/\ds.length*n.toNat<=1000 then some (.lst (List.replicate n.toNat ds).flatten,1,ρ2)else none
  | _=>none
 | _=>none
theorem Reps.app{es:List D}{us:List V}(s:Reps K H w .f 0 es us []):∀ {ds:List D} {vs:List V},Reps K H w .f 0 ds vs []->Reps K H w .f 0 (ds++es) (vs++us) []
 | ds,vs,r=>by
  generalize hF:([]:List Addr)=F at r
  cases r with
  | nil=>rw[<- hF];exact s
  | @cons _ d v ds vs F G r t _=>
   have h1:F=[]:=r.zero
   have h2:G=[]:=t.zero
   subst h1 h2
   exact .cons (F:=[]) (G:=[]) r (Reps.app s t) (fun _ z=>nomatch z)
theorem Reps.times(r:Reps K H w .f 0 ds vs []):∀ n:Nat,Reps K H w .f 0 (List.replicate n ds).flatten (List.replicate n vs).flatten []
 | 0=>.nil
 | n+1=>by
  rw[List.replicate_succ,List.replicate_succ,List.flatten_cons,List.flatten_cons]
  exact Reps.app (Reps.times r n) r
theorem z9l(ha:PD X a fa)(hb:PD X b fb):PD X (.BinOp a .Mult b pos) (y70 fa fb):=PE.imp (y49 j2h ha hb) fun σ H Q hh0=>by
 obtain⟨ρ,w,t,r',q,ρ',gd,ee,k⟩:=hh0
 unfold y70 at ee
 split at ee
 ·rename_i ds ρ1 h1
  split at ee
  ·rename_i n q2 ρ2 h2
   split at ee
   ·rename_i hn
    cases ee
    refine j0k gd h1 h2 fun u u' H2 w2 F1 F2 g2 go r1 r2=>?_
    have hu':=x4u r2
    subst hu'
    cases r1 with
    | @own _ l vs _ F hl hw rs ne=>
     have hF:=rs.zero
     subst hF
     have gg:=g2.drop (t':=t)
     have rs':Reps X.K H2 (x1o t w2) .f 0 ds vs []:=Reps.go g2.wl (fun a x h n=>⟨sm h,x7h n⟩) rs (fun _ z=>nomatch z)
     refine⟨l,n,vs,rfl,rfl,hl,by omega,by omega,?_,fun p hp=>?_⟩
     ·rw[<- rs.length];exact y07 hn.2.2
     ·obtain⟨a1,a2,a3⟩:=alloc gg hp (rs'.times n.toNat)
      exact k _ _ _ _ a1 ((go.drop gd.wt).trans a2) a3
   ·cases ee
  ·cases ee
 ·cases ee
@[simp] def j0w (fa:Den):Den:=fun ρ=>match fa ρ with
 | some (.lst ds,_,ρ1)=>some (.lst ds.reverse,1,ρ1)
 | _=>none
theorem Reps.rev:∀ {ds:List D} {vs:List V},Reps K H w .f 0 ds vs []->Reps K H w .f 0 ds.reverse vs.reverse []
 | ds,vs,r=>by
  generalize hF:([]:List Addr)=F at r
  cases r with
  | nil=>rw[<- hF];exact .nil
  | @cons _ d v ds vs F G r t _=>
   have h1:F=[]:=r.zero
   have h2:G=[]:=t.zero
   subst h1 h2
   rw[List.reverse_cons,List.reverse_cons]
   exact Reps.snoc (F:=[]) (G:=[]) r (Reps.rev t) (fun _ z=>nomatch z)
def j8x (K:PySem.W.Frag)(te:TE):TE:=fun σ H Q=>te σ H fun x H1=>∃ a xs,x=.ref a/\SqL K H1 a xs/\∀ p,H1 p=none->Q (.ref p) (upd H1 p (.lst xs.reverse))
theorem j5b{te:TE}(he:PE X e te):PE X (.Subscript e (.Slice none none (some (.UnaryOp .USub (.Constant (.int 1) j p3) p4)) p2) pos) (j8x X.K te):=by
 intro pins s σ H Q I h
 refine Subscript_ (thn (he pins s σ H _ I h) fun v s1 ⟨x,H1,I1,r1,q1⟩=>?_)
 have hst:PE X (.UnaryOp .USub (.Constant (.int 1) j p3) p4) (tUn (rU fun i=>.int (-i)) (tC (.int 1))):=j6d j33 y5v
 refine wpAny_Slice ?_
 rw[evalPart_none]
 refine wpAny_pure ?_
 refine wpAny_pure ?_
 rw[evalPart_some]
 refine thn (hst pins s1 σ H1 (fun y H2=>y=.int (-1)/\H2=H1) I1 ⟨1,rfl,rfl,rfl⟩) fun vk s2 ⟨y,H2,I2,r2,e2,e3⟩=>?_
 subst e2 e3
 obtain⟨tk,rfl⟩:=r2
 obtain⟨a0,xs,rfl,hx,q⟩:=q1
 cases r1
 obtain⟨its,r,ht,hz⟩:=I2.list hx
 have hlen:=r.length
 have I4:L2.Inv X pins σ H2 { s2 with heap:=s2.heap.push { cls:=.type "slice",data:=.fields #[.none,.none,.int (-1) tk] } }:=I2.kept (t':=s2.toks) fun b ob q=>Heap.get?_push_of_some _ q
 show wpAny (model X.prog X.w) X.A (subscriptTail e _ (.ref a0) (.ref s2.heap.objs.size)) (EP X pins σ Q) X.xe { s2 with heap:=s2.heap.push { cls:=.type "slice",data:=.fields #[.none,.none,.int (-1) tk] } }
 have hl':Heap.IsList (s2.heap.push { cls:=.type "slice",data:=.fields #[.none,.none,.int (-1) tk] }) a0 its.toArray:=ht.isList.push _
 refine tail_any (ops:=[.ref a0,.ref s2.heap.objs.size]) (T:="list") (Heap.IsList.typeIs (s:={ s2 with heap:=s2.heap.push { cls:=.type "slice",data:=.fields #[.none,.none,.int (-1) tk] } }) hl') slot_list_getitem.lookup ?_ (by with_unfolding_all rfl)
 refine wpAny_getItem_list_slice hl' (Heap.IsSliceOf.new ..) .none .none (.int (-1) tk) (by decide) ?_ (by rw[List.size_toArray];omega)
 rw[PySem.W.krv_pick]
 refine⟨.ref _,_,I4.laid (t':=s2.toks) (o:=.lst xs.reverse) (fun b ob q=>Heap.get?_push_of_some _ q) (Nat.le_refl _) ?_,rfl,q _ (I4.hok.fresh (Nat.le_refl _))⟩
 exact⟨by rw[List.length_reverse];exact hz,its.reverse,0,r.reverse,Heap.get?_push_size _ rfl⟩
theorem j47(ha:PD X a fa):PD X (.Subscript a (.Slice none none (some (.UnaryOp .USub (.Constant (.int 1) j p3) p4)) p2) pos) (j0w fa):=PE.imp (j5b ha) fun σ H Q hh0=>by
 obtain⟨ρ,w,t,r',q,ρ',gd,ee,k⟩:=hh0
 unfold j0w at ee
 split at ee
 ·rename_i ds q1 ρ1 h1
  cases ee
  refine⟨ρ,w,t,_,_,_,gd,h1,fun v H1 w1 F1 g1 go1 r1=>?_⟩
  have r0:=r1.drop (o:=.f) (Nat.le_refl t)
  obtain⟨p0,vs,rfl,hq,rs⟩:=r0.seqL0
  refine⟨p0,vs,rfl,hq,fun l hl=>?_⟩
  obtain⟨a1,a2,a3⟩:=alloc (g1.drop (t':=t)) hl rs.rev
  exact k _ _ _ _ a1 ((go1.drop gd.wt).trans a2) a3
 ·cases ee
end
theorem Reps.row(wl:WL K w H):∀ {rows:List D} {vs:List V} {F:List Addr} {i:Nat} {row:List D},Reps K H w o 1 rows vs F->rows[i]? = some (.lst row)->
  ∃ b ws,vs[i]? = some (.ref b)/\H b=some (.lst ws)/\w b=some o/\b∈F/\Reps K H w .f 0 row ws [] /\
   ∀ row' ws',Reps K H w .f 0 row' ws' []->Reps K (upd H b (.lst ws')) w o 1 (rows.set i (.lst row')) vs F
 | _,_,_,_,_,.nil,e=>by simp at e
 | _,_,_,0,row,.cons r s ne,e=>by
  simp at e
  subst e
  cases r with
  | @own _ b ws _ F' hb hw rs nb=>
   have hF:=rs.zero
   subst hF
   refine⟨b,ws,rfl,hb,hw,by simp,rs.any wl,fun row' ws' r'=>?_⟩
   have nn:∀ a,w a=none->a≠b:=fun a e z=>by subst z;rw[hw]at e;cases e
   have st:x84 H w (upd H b (.lst ws')) w:=fun a x h n=>⟨sm (by rw[x0h (nn a n)];exact h),n⟩
   refine .cons (.own x0t hw (Reps.go wl st r' (fun _ z=>nomatch z)) (fun z=>nomatch z)) (Reps.go wl st s fun a m=>⟨x0h fun z=>?_,s.owns a m⟩) ne
   subst z
   exact ne a (by simp) m
 | _,_,_,i+1,row,.cons (d:=d) (v:=v) (F:=F) (G:=G) r s ne,e=>by
  obtain⟨b,ws,h1,h2,h3,h4,h5,mk⟩:=Reps.row wl (i:=i) (row:=row) s (by simpa using e)
  refine⟨b,ws,by simpa using h1,h2,h3,List.mem_append_right _ h4,h5,fun row' ws' r'=>?_⟩
  have nn:∀ a,w a=none->a≠b:=fun a e z=>by subst z;rw[h3]at e;cases e
  have st:x84 H w (upd H b (.lst ws')) w:=fun a x h n=>⟨sm (by rw[x0h (nn a n)];exact h),n⟩
  refine .cons (Rep.go wl st r fun a m=>⟨x0h fun z=>?_,r.owns a m⟩) (mk row' ws' r') ne
  subst z
  exact ne a m h4
theorem Good.mut2{m:Nat}{rows row:List D}(g:Good K ρ σ H w t)(e:ρ[i]? = some (some (.lst rows,2)))(em:rows[m]? = some (.lst row)) :
  ∃ l vs b ws,σ[i]? = some (some (.ref l))/\SqL K H l vs/\vs.length=rows.length/\vs[m]? = some (.ref b)/\H b=some (.lst ws)/\Reps K H w .f 0 row ws []/\∀ row' ws',Reps K H w .f 0 row' ws' []->
   Good K (ρ.set i (some (.lst (rows.set m (.lst row')),2))) σ (upd H b (.lst ws')) w t/\Go H w (upd H b (.lst ws')) w:=by
 obtain⟨v,F,h1,h2⟩:=g.slot i _ _ e
 cases h2 with
 | @own _ l vs _ F' hl hw rs nl=>
  obtain⟨b,ws,b1,b2,b3,b4,b5,mk⟩:=Reps.row g.wl rs em
  have hbl:l≠b:=fun z=>by subst z;exact nl b4
  refine⟨l,vs,b,ws,h1,SqL.of hl,rs.length.symm,b1,b2,b5,fun row' ws' r'=>?_⟩
  have nl':∀ a o,w a=some o->o ≠ .s i->a≠b:=fun a o e n z=>by subst z;rw[b3]at e;exact n (Option.some.inj e).symm
  have nn:∀ a,w a=none->a≠b:=fun a e z=>by subst z;rw[b3]at e;cases e
  have st:x84 H w (upd H b (.lst ws')) w:=fun a x h n=>⟨sm (by rw[x0h (nn a n)];exact h),n⟩
  refine⟨⟨⟨fun a o h=>?_,g.wl.tb.upd rfl (.inr (g.wl b _ b3))⟩,g.ws,g.wt,by rw[List.length_set];exact g.len,fun j d' q' e'=>?_⟩,⟨st,fun a o h n=>⟨x0h (nl' a o h (n i)),h⟩⟩⟩
  ·by_cases z:a=b
   ·subst z;exact⟨_,x0t⟩
   ·obtain⟨us,q⟩:=g.wl a o h
    exact⟨us,by rw[x0h z];exact q⟩
  ·by_cases hj:i=j
   ·subst hj
    rw[List.getElem?_set_self (List.getElem?_eq_some_iff.mp e).1]at e'
    cases e'
    exact⟨_,_,h1,.own (by rw[x0h hbl];exact hl) hw (mk row' ws' r') nl⟩
   ·rw[List.getElem?_set_ne hj]at e'
    obtain⟨v',F',h1',h2'⟩:=g.slot j d' q' e'
    exact⟨v',F',h1',Rep.go g.wl st h2' fun a m=>⟨x0h (nl' a _ (h2'.owns a m) (fun z=>hj (by cases z;rfl))),h2'.owns a m⟩⟩
theorem Reps.set0{v:V}(rv:Rep K H w .f 0 d v []):∀ {ds:List D} {vs:List V} (i:Nat),Reps K H w .f 0 ds vs []->Reps K H w .f 0 (ds.set i d) (vs.set i v) []
 | ds,vs,i,r=>by
  generalize hF:([]:List Addr)=F at r
  cases r with
  | nil=>rw[<- hF];exact .nil
  | @cons _ d' v' ds vs F G r s _=>
   have h1:F=[]:=r.zero
   have h2:G=[]:=s.zero
   subst h1 h2
   cases i with
   | zero=>exact .cons (F:=[]) (G:=[]) rv s (fun _ z=>nomatch z)
   | succ j=>exact .cons (F:=[]) (G:=[]) r (Reps.set0 rv j s) (fun _ z=>nomatch z)
abbrev y2b:=Rho->Option Int
def tQ (K:PySem.W.Frag)(f:y2b):TE:=fun σ H Q=>∃ ρ w t i,Good K ρ σ H w t/\f ρ=some i/\Q (.int i) H
abbrev PQ (X:Cx)(e:Expr)(f:y2b):Prop:=PE X e (tQ X.K f)
@[simp] def z0x (n:Nat):y2b:=fun ρ=>match ρ[n]? with
 | some (some (.int i,_))=>some i
 | _=>none
@[simp] def qIx (n:Nat)(f:y2b):y2b:=fun ρ=>match f ρ with
 | some i=>match ρ[n]? with
  | some (some (x,_))=>match atD x i with
   | some (.int j)=>some j
   | _=>none
  | _=>none
 | none=>none
section
variable {X:Cx}{a b c e:Expr}{es:List Expr}{fa fb fc f:Den}{qa qb:y2b}{g:x1q}{pos p p1 p2 cpos apos:Pos}
theorem j3d(h:PE X (.Name x p1) (x7j n)):PQ X (.Name x p1) (z0x n):=PE.imp h fun σ H Q hh0=>by
 obtain⟨ρ,w,t,i,gd,ee,k⟩:=hh0
 unfold z0x at ee
 split at ee
 ·rename_i j q e0
  cases ee
  obtain⟨v,F,h1,h2⟩:=gd.slot n _ _ e0
  rw[x4u h2]at h1
  exact⟨_,h1,k⟩
 ·cases ee
theorem j7f(h:PE X (.Name x p1) (x7j n))(hb:PQ X b qb)(hs:x4m b:=by exact fun _ _=>rfl):PQ X (.Subscript (.Name x p1) b pos) (qIx n qb):=PE.imp (z21 y5g h hb hs) fun σ H Q hh0=>by
 obtain⟨ρ,w,t,i,gd,ee,k⟩:=hh0
 unfold qIx at ee
 split at ee
 ·rename_i i0 h0
  split at ee
  ·rename_i x q e0
   split at ee
   ·rename_i j hj
    cases ee
    obtain⟨v,F,h1,h2⟩:=gd.slot n _ _ e0
    refine⟨v,h1,ρ,w,t,i0,gd,h0,?_⟩
    cases x with
    | lst ds=>
     obtain⟨p0,vs,q',G,rfl,hq,rs⟩:=h2.seqL
     obtain⟨u,G',hu,ru,_⟩:=rs.atQ hj
     rw[x4u ru]at hu
     exact .inl ⟨p0,vs,i0,_,rfl,rfl,hq,hu,k⟩
    | tup ds=>
     obtain⟨p0,vs,rfl,hq,rs⟩:=h2.seqT
     obtain⟨u,hu,ru⟩:=rs.atI hj
     rw[x4u ru]at hu
     exact .inr (.inl ⟨p0,vs,i0,_,rfl,rfl,hq,hu,k⟩)
    | _=>cases hj
   ·cases ee
  ·cases ee
 ·cases ee
@[simp] def z0o (n:Nat)(qi qj:y2b)(fe:Den):x13:=fun ρ=>match fe ρ with
 | some (d,_,ρ1)=>match qi ρ1,qj ρ1,ρ1[n]? with
  | some i,some j,some (some (.lst rows,2))=>match ixN rows.length i with
   | some m=>match rows[m]? with
    | some (.lst row)=>match ixN row.length j with
     | some k=>some (.nx (ρ1.set n (some (.lst (rows.set m (.lst (row.set k d))),2))))
     | none=>none
    | _=>none
   | none=>none
  | _,_,_=>none
 | none=>none
theorem z6q(h:PE X (.Name x p1) (x7j n))(ha:PQ X a qa)(hb:PQ X b qb)(he:PD X e f)(hi:x4m a:=by exact fun _ _=>rfl)
  (hasg:∀ v,assign (.Subscript (.Subscript (.Name x p1) a p2) b p) X.env v=(do
    let ov <- holding [v] (eval (.Subscript (.Name x p1) a p2) X.env)
    let iv <- holding [v,ov] (eval b X.env)
    standAt p
    holding [v,ov,iv] (setItem ov iv v)
    release [v,ov,iv] []):=by exact fun _=>rfl)
  (hs:swapsWithSole [.Subscript (.Subscript (.Name x p1) a p2) b p] e pos.line X.env=pure false:=by rfl) :
  PDS X (.Assign [.Subscript (.Subscript (.Name x p1) a p2) b p] e pos) (z0o n qa qb f):=by
 refine PS.imp (z2b he (z87 (z21 y5g h ha hi) hb y9t hasg) hs) fun D σ H ⟨ρ,w,o,gd,ee,k⟩=>?_
 unfold z0o at ee
 split at ee
 ·rename_i d q0 ρ1 h1
  split at ee
  ·rename_i i j rows hi hj er
   split at ee
   ·rename_i m hm
    split at ee
    ·rename_i row erow
     split at ee
     ·rename_i kk hk
      cases ee
      refine⟨ρ,w,0,d,q0,ρ1,gd,h1,fun v H1 w1 F1 g1 go1 r1=>?_⟩
      have rv:=r1.drop (o:=.f) (Nat.le_refl 0)
      have gg:=g1.drop (t':=0)
      obtain⟨l,vs,b0,ws,m1,m2,m3,m4,m5,m6,mk⟩:=gg.mut2 er erow
      refine⟨_,m1,ρ1,x1o 0 w1,0,i,gg,hi,.inl ⟨l,vs,i,.ref b0,rfl,rfl,m2,?_,ρ1,x1o 0 w1,0,j,gg,hj,b0,ws,j,kk,rfl,rfl,m5,?_,?_⟩⟩
      ·unfold atI;rw[m3,hm];exact m4
      ·rw[<- m6.length];exact hk
      ·obtain⟨n1,n2⟩:=mk _ _ (m6.set0 rv kk)
       exact k _ _ _ rfl n1 ((go1.drop gd.wt).trans n2)
     ·cases ee
    ·cases ee
   ·cases ee
  ·cases ee
 ·cases ee
end
@[simp] def z43 (fa fb:Den):Den:=fun ρ=>match fa ρ with
 | some (.bl b,_,ρ1)=>if b=true then fb ρ1 else some (.bl false,9,ρ1)
 | _=>none
@[simp] def j5s (fa:Den):Den:=fun ρ=>match fa ρ with
 | some (.bl b,_,ρ1)=>some (.bl (!b),9,ρ1)
 | _=>none
section
variable {X:Cx}{a b c e:Expr}{es x21:List Expr}{fa fb fc f:Den}{g:x1q}{pos p p1 p2 cpos apos:Pos}
theorem j5a{op}(h:PD X a fa):PD X (.BoolOp op [a] pos) fa:=j2l h
theorem j4c(ha:PD X a fa)(hb:PD X (.BoolOp .And (b::x21) pos) fb):PD X (.BoolOp .And (a::b::x21) pos) (z43 fa fb):=PE.imp (j5c ha hb) fun σ H Q hh0=>by
 obtain⟨ρ,w,t,r',q,ρ',gd,ee,k⟩:=hh0
 unfold z43 at ee
 split at ee
 ·rename_i b' q1 ρ1 h1
  refine⟨ρ,w,t,_,_,_,gd,h1,fun v H1 w1 F1 g1 go1 r1=>?_⟩
  cases r1
  refine⟨b',rfl,?_⟩
  split at ee
  ·rename_i hb;rw[if_pos hb]
   exact⟨ρ1,x1o t w1,t,r',q,ρ',g1.drop,ee,fun v H2 w2 F g2 go2=>k v H2 w2 F g2 ((go1.drop gd.wt).trans go2)⟩
  ·rename_i hb;rw[if_neg hb]
   cases ee
   exact k _ H1 w1 [] g1 go1 (.bl false)
 ·cases ee
theorem j2j(ha:PD X a fa):PD X (.UnaryOp .Not a pos) (j5s fa):=PE.imp (j3b ha) fun σ H Q hh0=>by
 obtain⟨ρ,w,t,r',q,ρ',gd,ee,k⟩:=hh0
 unfold j5s at ee
 split at ee
 ·rename_i b' q1 ρ1 h1
  cases ee
  refine⟨ρ,w,t,_,_,_,gd,h1,fun v H1 w1 F1 g1 go1 r1=>?_⟩
  cases r1
  exact⟨b',rfl,k _ H1 w1 [] g1 go1 (.bl _)⟩
 ·cases ee
end
section
variable {es x21:List Expr}{a b c e:Expr}{pos:Pos}{env:Env}
theorem x0w{op}:starEach (.BinOp a op b pos::x21) env=(false,eval (.BinOp a op b pos) env)::starEach x21 env:=by simp only[starEach]
theorem z5m:starEach (.IfExp a b c pos::x21) env=(false,eval (.IfExp a b c pos) env)::starEach x21 env:=by simp only[starEach]
theorem x2q{g sc}:starEach (.ListComp a g sc pos::x21) env=(false,eval (.ListComp a g sc pos) env)::starEach x21 env:=by simp only[starEach]
theorem x0n{k}:starEach (.Call a es k pos::x21) env=(false,eval (.Call a es k pos) env)::starEach x21 env:=by simp only[starEach]
theorem x09{v k}:starEach (.Constant v k pos::x21) env=(false,eval (.Constant v k pos) env)::starEach x21 env:=by simp only[starEach]
theorem x0v:starEach (.Subscript a b pos::x21) env=(false,eval (.Subscript a b pos) env)::starEach x21 env:=by simp only[starEach]
theorem x04{x}:starEach (.Name x pos::x21) env=(false,eval (.Name x pos) env)::starEach x21 env:=by simp only[starEach]
theorem y27:starEach (.List es pos::x21) env=(false,eval (.List es pos) env)::starEach x21 env:=by simp only[starEach]
theorem y4v{k}:starEach (.Tuple es k pos::x21) env=(false,eval (.Tuple es k pos) env)::starEach x21 env:=by simp only[starEach]
end
def At (K:PySem.W.Frag)(mg:Str->Option Value)(x:Str)(st:Stmt)(ps:List Str):Prop:=
 ∃ f fd,Fun K x x st f fd/\mg x=some (.ref f)/\y4b K fd ps []
def Cal (P:Program)(w:World)(K:PySem.W.Frag)(mg:Str->Option Value)(base:Heap)(k:Nat)(x:Str)(n:Nat)(F:List D->OD):Prop:=
 ∃ f fd ps,FnOk P w K mg base CX0 k f fd ps (spD K n F)/\mg x=some (.ref f)/\PySem.W.keepIn K (.ref f)=true/\y4b K fd ps []
theorem Cal.mk{w:World}{k:Nat}(a:At K mg x st ps)(S:FnScope N ps (x0b st))
  (h:∀ (f:Addr) (cdv:Value) (A:Around) (outer:List Env) (s:Shared) (H:Hp) (E:XK),Room k (A.deeper (envOfC x (x0b st) s.heap.objs.size f cdv))->y8q (z0k CX0 P w K mg base N x (x0b st) f cdv A outer s H E).nox (x35 st) body) :
  Cal P w K mg base (k+1) x ps.length (fnD N.length body):=by
 obtain⟨f,fd,F,m,b⟩:=a
 exact⟨f,fd,ps,j3v F S (h f),m,F.kp,b⟩
section
variable {X:Cx}{a b c e:Expr}{es x21:List Expr}{fa fb fc f:Den}{g:x1q}{pos p p1 p2 cpos apos:Pos}
theorem z6t{k:Nat}{F:List D->OD}(C:Cal X.prog X.w X.K X.mg X.base k x n F)(hr:Room j X.A)(hk:k<=j)(ha:PDA X (e::es) g)
  (hg:Gl X x:=by rfl) (hdb:(x==("__debug__":Str))=false:=by decide) (he:starEach (e::es) X.env=(false,eval e X.env)::starEach es X.env:=by rfl) (hpl:(backTo pos (starEach es X.env)).any (·.1)=false:=by rfl) :
  PD X (.Call (.Name x p) (e::es) [] pos) (x0j F n g):=by
 obtain⟨f,fd,ps,G,hm,hkp,hb⟩:=C
 exact z66 G (hr.mono hk) hm hkp hb j6k ha hg hdb he hpl
end
theorem j4d{F:List D->OD}(h:∀ ns:List Int,ns.length<=63->∃ q,F [.lst (ns.map D.int)]=some (.bl true,q)){a:Addr}{ns:List Int}(hl:ns.length<=63)(hS:SqL K H a (ns.map V.int))(tb:TB K H){E:XK} :
  spD K 1 F [.ref a] H (fun v _=>v=.bl true) E:=by
 obtain⟨q,e⟩:=h ns hl
 have r:Rep K H (fun _=>none) .f 0 (.lst (ns.map D.int)) (.ref a) []:=by
  rcases SqL.cases hS with z|z
  ·exact .shr z rfl (x9b ns)
  ·exact .kl z (x9b ns)
 exact⟨rfl,[.lst (ns.map D.int)],fun _=>none,.bl true,q,(fun a o z=>nomatch z),⟨(fun a o z=>nomatch z),tb⟩,.cons (F:=[]) (G:=[]) r .nil (fun _ z=>nomatch z),e,fun v H' w' Fo _ _ rr=>by cases rr;rfl⟩
theorem j38{w:World}{k:Nat}{f:Addr}{fd:FuncData}(F:Fun K x x st f fd)(S:FnScope N ps (x0b st))
  (h:∀ (f:Addr) (cdv:Value) (A:Around) (outer:List Env) (s:Shared) (H:Hp) (E:XK),Room k (A.deeper (envOfC x (x0b st) s.heap.objs.size f cdv))->y8q (z0k CX0 P w K mg base N x (x0b st) f cdv A outer s H E).nox (x35 st) body) :
  FnOk P w K mg base CX0 (k+1) f fd ps (spD K ps.length (fnD N.length body)):=j3v F S (h f)
section
variable {X:Cx}{a b c e:Expr}{es elts:List Expr}{fa fb fc f:Den}{g:x1q}{pos p p1 p2 tp:Pos}{kt:Nat}
@[simp] def j8z (g:x1q):y4g:=fun ρ=>match g ρ with
 | some ([.tup ds,.tup es],ρ1)=>if ds.length<=1000 then some ((ds.zip es).map fun x=>.tup [x.1,x.2],ρ1)else none
 | _=>none
end
abbrev x9s:=List D->Rho->Option Rho
def j8d (K:PySem.W.Frag)(b:Nat)(pt:x9s):TGs:=fun vs σ H Q=>∃ ds ρ w t ρ',Good K ρ σ H w t/\Reps K H w .f 0 ds vs []/\pt ds ρ=some ρ'/\∀ σ' H' w',σ'.length=σ.length->(∀ i,i<b->σ'[i]? = σ[i]?)->Good K ρ' σ' H' w' t->Go H w H' w'->Q σ' H'
theorem PGs.imp{X:Cx}{tg:List Expr}{t t':TGs}(h:PGs X tg t)(i:∀ v σ H Q,t' v σ H Q->t v σ H Q):PGs X tg t':=fun pins s σ H v u Q I r q=>h pins s σ H v u Q I r (i v σ H Q q)
abbrev j3y (X:Cx)(b:Nat)(tg:List Expr)(pt:x9s):Prop:=PGs X tg (j8d X.K b pt)
@[simp] def x63:x9s:=fun ds ρ=>match ds with
 | []=>some ρ
 | _=>none
@[simp] def x11 (pt:x6m)(ps:x9s):x9s:=fun ds ρ=>match ds with
 | []=>none
 | d::r=>match pt d ρ with
  | some ρ1=>ps r ρ1
  | none=>none
@[simp] def y5k (ps:x9s):x6m:=fun d ρ=>match d with
 | .tup ds=>ps ds ρ
 | _=>none
section
variable {X:Cx}{k b:Nat}{e:Expr}{es:List Expr}{pt:x6m}{ps:x9s}{pos:Pos}
theorem z6n:j3y X b [] x63:=PGs.imp z95 fun v σ H Q hh0=>by
 obtain⟨ds,ρ,w,t,ρ',g,r,e,k⟩:=hh0
 unfold x63 at e
 split at e
 ·cases e
  generalize hF:([]:List Addr)=F at r
  cases r
  exact⟨rfl,k σ H w rfl (fun _ _=>rfl) g Go.refl⟩
 ·cases e
theorem z1d(h1:PDG X b e pt)(h2:j3y X b es ps)(hs:(assignEach (e::es) X.env).map (·.2)=assign e X.env::(assignEach es X.env).map (·.2):=by rfl):j3y X b (e::es) (x11 pt ps):=PGs.imp (z5g h1 h2 hs) fun v σ H Q hh0=>by
 obtain⟨ds,ρ,w,t,ρ',g,r,e,k⟩:=hh0
 unfold x11 at e
 split at e
 ·cases e
 ·rename_i d x21
  split at e
  ·rename_i ρ1 h1
   generalize hF:([]:List Addr)=F at r
   cases r with
   | cons ra rb _=>
    have z1:=ra.zero
    have z2:=rb.zero
    subst z1 z2
    refine⟨_,_,rfl,d,ρ,w,t,ρ1,g,ra,h1,fun σ1 H1 w1 l1 s1 g1 go1=>⟨x21,ρ1,w1,t,ρ',g1,rb.go0 g.wl go1.stab,e,fun σ2 H2 w2 l2 s2 g2 go2=>k σ2 H2 w2 (l2.trans l1) (fun i hi=>(s2 i hi).trans (s1 i hi)) g2 (go1.trans go2)⟩⟩
  ·cases e
theorem z8q(hc:X.calm=true)(h:j3y X b es ps)(hl:∀ ds ρ ρ',ps ds ρ=some ρ'->ds.length=n)(hn:(assignEach es X.env).length=n:=by rfl)(hst:(assignEach es X.env).findIdx? (·.1)=none:=by rfl):PDG X b (.Tuple es k pos) (y5k ps):=PG.imp (j57 hc h hn hst) fun v σ H Q hh0=>by
 obtain⟨d,ρ,w,t,ρ',g,r,e,k⟩:=hh0
 unfold y5k at e
 split at e
 ·rename_i ds
  obtain⟨a,vs,rfl,hq,rs⟩:=r.seqT
  exact⟨a,vs,rfl,hq,by rw[<- rs.length];exact hl _ _ _ e,ds,ρ,w,t,ρ',g,rs,e,k⟩
 ·cases e
theorem y6u{q:x6m}:∀ ds ρ ρ',x11 p (x11 q x63) ds ρ=some ρ'->ds.length=2:=fun ds ρ ρ' h=>by
 match ds with
 | []=>cases h
 | [_]=>unfold x11 at h;simp at h;split at h<;>cases h
 | [_,_]=>rfl
 | _::_::_::_=>
  exfalso
  unfold x11 at h
  simp at h
  split at h
  ·split at h<;>cases h
  ·cases h
end
theorem y58:∀ {bs:List Bool} {us:List Value},x28 (bs.map V.bl) us->LSm.BoolsAre us bs
 | [],_,h=>by cases h;exact .nil
 | b::bs,_,h=>by
  cases h with
  | cons r rr=>
   cases r
   exact .cons b (y58 rr)
section
variable {X:Cx}{a b c e:Expr}{es:List Expr}{fa fb fc f:Den}{g:x1q}{pos p p1 p2:Pos}
theorem z4n(hc:X.calm=true):y0s X (.builtin "all") (fun xs H Q=>∃ (a:Addr) (bs:List Bool),xs=[.ref a]/\SqL X.K H a (bs.map V.bl)/\Q (.bl (bs.all id)) H):=by
 intro pins s σ H xs us Q I r h
 obtain⟨l,bs,rfl,hq,q⟩:=h
 obtain⟨u,rfl,ru⟩:=x9r r
 cases ru
 obtain⟨its,rv,pl,hz⟩:=I.list hq
 have hb:=y58 rv
 have hl:s.heap.IsList l its.toArray:=pl.isList
 have lt:l<s.heap.objs.size:=by obtain⟨_,e,_⟩:=hl;exact Heap.lt_size e
 refine call_all_walk (wpAny_pyIter_list hl ⟨s.heap.objs.size,[s.heap.objs.size,l],[s.heap.objs.size],its.toArray.size,_,_,fun i=>(bs[i]?).getD true,rfl,Walks.list (A:=X.A.in1) (I.ok.hd hc) _ l (Nat.ne_of_lt lt) its.toArray,
  ⟨⟨_,Heap.get?_push_size _ rfl,rfl,rfl⟩,hl.push _⟩,fun i v s' Q' E' hP hQ=>?_,fun h' tk hk=>?_⟩)
 ·obtain⟨b,e,rfl⟩:=hb.get i v (by simpa using hP)
  simp only[e,Option.getD_some]at hQ
  exact wpAny_truthy_bool hQ
 ·have e:((List.range its.toArray.size).all fun i=>(bs[i]?).getD true)=bs.all id:=by
   rw[List.size_toArray,hb.length];exact LSm.range_all bs
  rw[e]
  exact⟨.bl (bs.all id),H,I.kept fun b o z=>hk b o (fun m=>by rw[List.mem_singleton.mp m]at z;exact Nat.lt_irrefl _ (Heap.lt_size z)) (Heap.get?_push_of_some _ z),rfl,q⟩
def z82:List D->Option (List Bool)
 | []=>some []
 | .bl b::r=>(z82 r).map (b :: ·)
 | _=>none
def y9m:List D->Option D
 | [.lst ds]=>(z82 ds).map fun bs=>.bl (bs.all id)
 | _=>none
theorem y5y:∀ {ds:List D} {vs:List V} {bs:List Bool},Reps K H w o 0 ds vs []->z82 ds=some bs->vs=bs.map V.bl
 | ds,vs,bs,r,e=>by
  generalize hF:([]:List Addr)=F at r
  cases r with
  | nil=>cases e;rfl
  | @cons _ d v ds' vs' F' G' r1 r2 _=>
   have h2:G'=[]:=r2.zero
   subst h2
   cases r1 with
   | bl b=>
    unfold z82 at e
    cases e':z82 ds' with
    | none=>rw[e']at e;cases e
    | some bs'=>
     rw[e']at e
     cases e
     rw[y5y r2 e']
     rfl
   | _=>cases e
theorem j5n(hc:X.calm=true)(hm:X.mg "all" = none)(ha:PDA X [a] g)(hg:Gl X "all":=by rfl)(he:starEach [a] X.env=(false,eval a X.env)::starEach [] X.env:=by rfl)(hpl:(backTo pos (starEach [] X.env)).any (·.1)=false:=by rfl):PD X (.Call (.Name "all" p) [a] [] pos) (eB y9m g):=
 PE.imp (x59 (z4n hc) hg hm PyProof.Rows.boot_all ha (by decide) (by decide) he hpl) (z1r fun ds d h=>by
  unfold y9m at h
  split at h
  ·rename_i ds0
   cases e:z82 ds0 with
   | none=>rw[e]at h;cases h
   | some bs=>
    rw[e]at h
    cases h
    refine⟨_,rfl,fun H w vs wl r Q hq=>?_⟩
    obtain⟨v,rfl,rv⟩:=one r
    obtain⟨p,ys,rfl,hs,rs⟩:=rv.seqL0
    rw[y5y rs e]at hs
    exact⟨p,bs,rfl,hs,hq⟩
  ·cases h)
theorem y9l{α:Type}(l:List α)(f:α->Bool):z82 (l.map fun i=>.bl (f i))=some (l.map f):=by
 induction l with
 | nil=>rfl
 | cons a l ih=>rw[List.map_cons,z82,ih];rfl
end
inductive IT where
 | int|bool|tuple|list|str
def IT.nm:IT->String
 | .int=>"int"
 | .bool=>"bool"
 | .tuple=>"tuple"
 | .list=>"list"
 | .str=>"str"
def isD:IT->D->Bool
 | .int,.int _=>true
 | .int,.bl _=>true
 | .bool,.bl _=>true
 | .tuple,.tup _=>true
 | .list,.lst _=>true
 | .str,.str _=>true
 | _,_=>false
def tyD:D->String
 | .non=>"NoneType"
 | .bl _=>"bool"
 | .int _=>"int"
 | .str _=>"str"
 | .tup _=>"tuple"
 | .dic _ _=>"dict"
 | .exc _=>"object"
 | .ob _ _ _ _=>"function"
 | .lst _=>"list"
section
variable {X:Cx}{pins:List (Addr×Obj)}{σ:St}{H:Hp}{s:Shared}
theorem j52{x:V}{u c:Value}{b:Bool}{A:Around}{E:Value->Shared->Prop}(I:Inv X pins σ H s)(rx:x39 x u)(r:Rep X.K H w o q d x F)
  (e:PySem.W.kitOne X.K (.type (tyD d)) c=some b) (hx:∀ nm,d ≠ .exc nm) (h:∀ tk,Q (.bool b) { s with toks:=tk }):wpAny (model X.prog X.w) A (call (.builtin "isinstance") [u,c]) Q E s:=by
 cases r with
 | exc _ _ _=>exact absurd rfl (hx _)
 | ob h1 h2 x r=>
  cases rx
  obtain⟨e1,_⟩:=(show x29 X.prog X.w H s.heap _ (.frz _ _)from I.hok _ _ h1)
  exact PySem.W.kia_one z5x I.kIn ⟨_,e1,x.1⟩ e (fun z=>nomatch z) h
 | non=>exact x3w I rx .non e h
 | bl y=>exact x3w I rx (.bl y) e h
 | int i=>exact x3w I rx (.int i) e h
 | str y=>exact x3w I rx (.str y) e h
 | tup ha _=>exact x3w I rx (.tup ha) e h
 | dic ha _=>exact x3w I rx (.dK ha) e h
 | kl ha _=>
  obtain⟨ob,its,n,hk,hc,hd,_⟩:=ha
  cases rx
  exact PySem.W.kia_one PySem.W.kitx_list I.kIn ⟨ob,I.kIn _ _ hk,hc⟩ e (fun z=>nomatch z) h
 | shr ha _ _=>
  rcases ha with ha|⟨ob,ha⟩
  ·exact x3w I rx (.lst ha) e h
  ·exact x3w I rx (.frz ha) e h
 | own ha _ _ _=>exact x3w I rx (.lst ha) e h
theorem z8t(T:IT)(d:D)(hx:∀ nm,d ≠ .exc nm):PySem.W.kitOne K (.type (tyD d)) (.type T.nm)=some (isD T d):=by
 cases T<;>cases d<;>first|rfl|exact absurd rfl (hx _)
end
section
variable {X:Cx}{a b c e:Expr}{es:List Expr}{fa fb fc f:Den}{ga gb:x1u}{g:x1q}{pos p p1 p2 pT:Pos}
theorem z4q(T:IT):y0s X (.builtin "isinstance") (fun xs H Q=>∃ x w o q F d,xs=[x,.ty T.nm]/\Rep X.K H w o q d x F/\Q (.bl (isD T d)) H):=by
 intro pins s σ H xs us Q I r h
 obtain⟨x,w,o,q,F,d,rfl,rd,hq⟩:=h
 obtain⟨u,v,rfl,ru,rv⟩:=z4p r
 cases rv
 by_cases hx:∃ nm,d=.exc nm
 ·obtain⟨nm,rfl⟩:=hx
  cases rd with
  | exc ha xo _=>
   obtain⟨C,hc,k⟩:=xo
   cases ru
   obtain⟨e1,_⟩:=(show x29 X.prog X.w H s.heap _ (.frz _ _)from I.hok _ _ ha)
   have hT:isD T (.exc nm)=false:=by cases T<;>rfl
   rw[hT]at hq
   refine j3c (x:=_) I.kIn ⟨e1,hc⟩ k.xc (by cases T<;>kernel_rfl) (k.no _ (by cases T<;>simp[IT.nm])) ⟨.bl false,H,I.tok _,rfl,hq⟩
 ·exact j52 I ru rd (z8t T d fun nm z=>hx ⟨nm,z⟩) (fun nm z=>hx ⟨nm,z⟩) fun tk=>⟨.bl (isD T d),H,I.tok _,rfl,hq⟩
@[simp] def z48 (T:IT)(fa:Den):Den:=fun ρ=>match fa ρ with
 | some (d,_,ρ1)=>some (.bl (isD T d),9,ρ1)
 | none=>none
theorem j3t(T:IT){t:Str}(hm:X.mg "isinstance" = none)(hmT:X.mg t=none)(hbT:bootBuiltins t=some (.type T.nm))(ha:PD X a fa)(hg:Gl X "isinstance":=by rfl)(hgT:Gl X t:=by rfl)(hnT:t ≠ "__name__":=by decide)(hdT:(t==("__debug__":Str))=false:=by decide)
  (hs:starEach [a,.Name t pT] X.env=(false,eval a X.env)::starEach [.Name t pT] X.env:=by rfl) (hpl:(backTo pos (starEach [.Name t pT] X.env)).any (·.1)=false:=by rfl):PD X (.Call (.Name "isinstance" p) [a,.Name t pT] [] pos) (z48 T fa):=
 PE.imp (x59 (z4q T) hg hm PyProof.Rows.boot_isinstance (x3i ha (x3i (z3d (v:=.ty T.nm) hgT hmT hbT rfl hnT hdT) x6h x04) hs) (by decide) (by decide) hs hpl) fun σ H Q hh0=>by
 obtain⟨ρ,w,t,r',q,ρ',gd,ee,k⟩:=hh0
 unfold z48 at ee
 split at ee
 ·rename_i d q1 ρ1 h1
  cases ee
  refine⟨ρ,w,t,_,_,_,gd,h1,fun v H1 w1 F1 g1 go1 r1=>?_⟩
  exact⟨v,w1,_,_,F1,d,rfl,r1,k _ H1 (x1o t w1) [] g1.drop.up (go1.drop gd.wt) (.bl _)⟩
 ·cases ee
@[simp] def eCh (g1 g2:D->D->Option D)(fa fb fc:Den):Den:=fun ρ=>match fa ρ with
 | some (x,_,ρ1)=>match fb ρ1 with
  | some (y,_,ρ2)=>match g1 x y with
   | some (.bl true)=>match fc ρ2 with
    | some (z,_,ρ3)=>match g2 y z with
     | some d=>some (d,9,ρ3)
     | none=>none
    | none=>none
   | some (.bl false)=>some (.bl false,9,ρ2)
   | _=>none
  | none=>none
 | none=>none
theorem j3k{op op':CmpOp}{g1 g2:Int->Int->Option D}{h1 h2:Int->Int->V}(ho:OpR X (compareOp op) (rI0 h1))(ho':OpR X (compareOp op') (rI0 h2))(e1:∀ i j d,g1 i j=some d->y4c d=some (h1 i j))(e2':∀ i j d,g2 i j=some d->y4c d=some (h2 i j))
  (ha:PD X a fa) (hb:PD X b fb) (hc:PD X c fc) (hm:lastMarks [op,op'] [b,c]=false:=by with_unfolding_all rfl):PD X (.Compare a [op,op'] [b,c] pos) (eCh (gI g1) (gI g2) fa fb fc):=PE.imp (z5h ho ho' ha hb hc hm) fun σ H Q hh0=>by
 obtain⟨ρ,w,t,r',q,ρ',gd,ee,k⟩:=hh0
 unfold eCh at ee
 split at ee
 ·rename_i x q1 ρ1 a1
  split at ee
  ·rename_i y q2 ρ2 a2
   refine j0k gd a1 a2 fun u v H2 w2 F1 F2 g2' go2 r1 r2=>?_
   have gg:=g2'.drop (t':=t)
   split at ee
   ·rename_i hg
    obtain⟨i,j,rfl,rfl,hg'⟩:=y29 hg
    refine⟨i,j,x4u r1,x4u r2,true,by have:=e1 i j _ hg';simpa [y4c]using this.symm,?_⟩
    rw[if_pos rfl]
    split at ee
    ·rename_i z q3 ρ3 a3
     refine⟨ρ2,x1o t w2,t,z,q3,ρ3,gg,a3,fun v3 H3 w3 F3 g3 go3 r3=>?_⟩
     split at ee
     ·rename_i d hd
      cases ee
      obtain⟨j',l,ej,rfl,hd'⟩:=y29 hd
      cases ej
      exact⟨j,l,x4u r2,x4u r3,j0q k gd g3 ((go2.drop gd.wt).trans go3) (y4u (e2' j l _ hd'))⟩
     ·cases ee
    ·cases ee
   ·rename_i hg
    obtain⟨i,j,rfl,rfl,hg'⟩:=y29 hg
    cases ee
    refine⟨i,j,x4u r1,x4u r2,false,by have:=e1 i j _ hg';simpa [y4c]using this.symm,?_⟩
    rw[if_neg (by decide)]
    exact j0q k gd g2' go2 (.bl false)
   ·cases ee
  ·cases ee
 ·cases ee
theorem y83(ha:PD X a fa)(hb:PD X b fb)(hc:PD X c fc)(hm:lastMarks [.LtE,.Lt] [b,c]=false:=by with_unfolding_all rfl):PD X (.Compare a [.LtE,.Lt] [b,c] pos) (eCh dLe dLt fa fb fc):=
 j3k j73 j40 (fun i j d h=>by cases h;rfl) (fun i j d h=>by cases h;rfl) ha hb hc hm
def dIs:D->D->Option D
 | .bl x,.bl y=>some (.bl (x==y))
 | _,_=>none
def y36:D->D->Option D
 | .bl x,.bl y=>some (.bl (!(x==y)))
 | _,_=>none
theorem j4k:OpR X (compareOp .Is) (fun x y H Q=>∃ i j,x=.bl i/\y=.bl j/\Q (.bl (i==j)) H):=by
 intro pins s σ H x y v u Q I rx ry h
 obtain⟨i,j,rfl,rfl,q⟩:=h
 cases rx
 cases ry
 cases i<;>cases j
 ·exact wpAny_pure ⟨.bl true,H,I,rfl,q⟩
 ·exact wpAny_pure ⟨.bl false,H,I,rfl,q⟩
 ·exact wpAny_pure ⟨.bl false,H,I,rfl,q⟩
 ·exact wpAny_pure ⟨.bl true,H,I,rfl,q⟩
theorem z1z:OpR X (compareOp .IsNot) (fun x y H Q=>∃ i j,x=.bl i/\y=.bl j/\Q (.bl (!(i==j))) H):=by
 intro pins s σ H x y v u Q I rx ry h
 obtain⟨i,j,rfl,rfl,q⟩:=h
 cases rx
 cases ry
 cases i<;>cases j
 ·exact wpAny_pure ⟨.bl false,H,I,rfl,q⟩
 ·exact wpAny_pure ⟨.bl true,H,I,rfl,q⟩
 ·exact wpAny_pure ⟨.bl true,H,I,rfl,q⟩
 ·exact wpAny_pure ⟨.bl false,H,I,rfl,q⟩
theorem hIs:∀ σ H Q,tD K (e2 dIs fa fb) σ H Q->tOp (fun x y H Q=>∃ i j,x=.bl i/\y=.bl j/\Q (.bl (i==j)) H) (tD K fa) (tD K fb) σ H Q:=x8i fun x y d h=>by
 unfold dIs at h
 split at h
 ·cases h
  exact⟨_,rfl,fun H w o o' q q' u u' F F' r1 r2 _ Q hq=>by cases r1;cases r2;exact⟨_,_,rfl,rfl,hq⟩⟩
 ·cases h
theorem j4q:∀ σ H Q,tD K (e2 y36 fa fb) σ H Q->tOp (fun x y H Q=>∃ i j,x=.bl i/\y=.bl j/\Q (.bl (!(i==j))) H) (tD K fa) (tD K fb) σ H Q:=x8i fun x y d h=>by
 unfold y36 at h
 split at h
 ·cases h
  exact⟨_,rfl,fun H w o o' q q' u u' F F' r1 r2 _ Q hq=>by cases r1;cases r2;exact⟨_,_,rfl,rfl,hq⟩⟩
 ·cases h
theorem j7c(ha:PD X a fa)(hb:PD X b fb):PD X (.Compare a [.Is] [b] pos) (e2 dIs fa fb):=z7y j4k hIs ha hb (y09 _)
theorem z1l(ha:PD X a fa)(hb:PD X b fb):PDT X (.Compare a [.IsNot] [b] pos) (x3d (e2 y36 fa fb)):=x6y z1z j4q ha hb (y09 _)
@[simp] def j91 (fa:Den):Den:=fun ρ=>match fa ρ with
 | some (.int i,_,ρ1)=>some (.int (-i),9,ρ1)
 | _=>none
section
variable {prog:Program}{w:World}{A:Around}{E:Value->Shared->Prop}{s:Shared}
theorem z4o(l b:Addr)(us vs:Array Value)(n m:Nat)(d1 d2:Option Addr)(s1 s2:Array (Option Value))(h0:us.isEmpty=true) :
  Meets (Builtin.«tuple.__add__» ⟨[.ref l,.ref b],[]⟩) (fun _ R s=>s.heap.get? l=some { cls:=.type "tuple",dict:=d1,data:=.seq us n,slots:=s1 }/\s.heap.get? b=some { cls:=.type "tuple",dict:=d2,data:=.seq vs m,slots:=s2 }/\R (.ok (.ret (.ref b))) s):=
 .of_wp fun prog w A R s h=>by
  obtain⟨hp,g,d,tk,os⟩:=s
  obtain⟨hl,hb,h⟩:=h
  have f2:=AutoSeq1.sub_tuple_tuple
  wp_walk using wpAny_loadPart' hl,wpAny_loadPart' hb
  exact⟨_,rfl,h⟩
theorem z3u{t b:Addr}{ws:List Value}(ht:IsTup s.heap t #[])(hb:IsTup s.heap b ws.toArray)(h:Q (.ref b) s):wpAny (model prog w) A (binaryOp .Add (.ref t) (.ref b)) Q E s:=by
 obtain⟨⟨c1,d1,a1,s1⟩,e1,hc1,n1,ha1⟩:=id ht
 obtain⟨⟨c2,d2,a2,s2⟩,e2,hc2,n2,ha2⟩:=id hb
 simp only at hc1 ha1 hc2 ha2
 subst hc1 ha1 hc2 ha2
 exact concat_meets ⟨_,e1,rfl⟩ ⟨_,e2,rfl⟩ noFill_tuple_add seq_tuple_add PySem.F.slot_tuple_add PySem.F.entry_tuple_add (PySem.F.args_tuple_add_2 _ _) (z4o t b #[] ws.toArray n1 n2 d1 d2 s1 s2 rfl) ⟨e1,e2,h⟩
end
theorem z9s:OpR X (binaryOp .Add) (fun x y H Q=>∃ a b ys,x=.ref a/\y=.ref b/\SqT X.K H a []/\SqT X.K H b ys/\Q (.ref b) H):=by
 intro pins s σ H x y v u Q I rx ry h
 obtain⟨a,b,ys,rfl,rfl,ha,hb,q⟩:=h
 cases rx
 cases ry
 obtain⟨its,r1,p1,_⟩:=I.tuple ha
 obtain⟨its2,r2,p2,_⟩:=I.tuple hb
 cases r1
 exact z3u p1 p2 ⟨.ref b,H,I,rfl,q⟩
theorem OpR.or{f:Value->Value->Sem Value}{r r':R2}(h:OpR X f r)(h':OpR X f r'):OpR X f (fun x y H Q=>r x y H Q\/r' x y H Q):=fun pins s σ H x y v u Q I rx ry q=>q.elim (fun z=>h pins s σ H x y v u Q I rx ry z) fun z=>h' pins s σ H x y v u Q I rx ry z
@[simp] def j1s (fa fb:Den):Den:=fun ρ=>match fa ρ with
 | some (.tup ds,_,ρ1)=>match fb ρ1 with
  | some (.tup es,_,ρ2)=>if ds.length+es.length<=1000 then some (.tup (ds++es),9,ρ2)else none
  | _=>none
 | _=>none
theorem j3l(ha:PD X a fa)(hb:PD X b fb):PD X (.BinOp a .Add b pos) (j1s fa fb):=PE.imp (y49 (OpR.or z9s z9r) ha hb) fun σ H Q hh0=>by
 obtain⟨ρ,w,t,r',q,ρ',gd,ee,k⟩:=hh0
 unfold j1s at ee
 split at ee
 ·rename_i ds q1 ρ1 h1
  split at ee
  ·rename_i es q2 ρ2 h2
   split at ee
   ·rename_i hl
    cases ee
    refine j0k gd h1 h2 fun u u' H2 w2 F1 F2 g2 go r1 r2=>?_
    have r10:=r1.drop (o:=.f) (Nat.le_refl t)
    have r20:=r2.drop (o:=.f) (Nat.le_succ t)
    have gg:=g2.drop (t':=t)
    have gog:=go.drop gd.wt
    obtain⟨p1,vs,rfl,q1',s1⟩:=r10.seqT
    obtain⟨p2,us,rfl,q2',s2⟩:=r20.seqT
    have l1:=s1.length
    have l2:=s2.length
    cases ds with
    | nil=>
     have:vs=[]:=List.length_eq_zero_iff.mp (by rw[<- l1];rfl)
     subst this
     refine .inl ⟨p1,p2,us,rfl,rfl,q1',q2',k _ H2 (x1o t w2) [] gg.up gog ?_⟩
     exact(Rep.go gg.wl (fun a x e n=>⟨sm e,n⟩) r20 (fun _ z=>nomatch z):Rep X.K H2 (x1o t w2) (.t t) 0 _ _ []).nolist rfl |>.2 9
    | cons d ds=>
     refine .inr ⟨p1,p2,vs,us,rfl,rfl,q1',q2',(fun z=>by rw[z]at l1;cases l1),y07 (by rw[<- l1,<- l2];exact hl),fun z=>?_,fun _ p hp=>?_⟩
     ·have:es=[]:=List.length_eq_zero_iff.mp (by rw[l2,z];rfl)
      subst this
      rw[List.append_nil]at k
      exact k _ H2 (x1o t w2) [] gg.up gog ((Rep.go gg.wl (fun a x e n=>⟨sm e,n⟩) r10 (fun _ z=>nomatch z):Rep X.K H2 (x1o t w2) (.t t) 0 _ _ []).nolist rfl |>.2 9)
     ·obtain⟨a1,a2,a3⟩:=y34 gg hp (s2.app s1)
      exact k _ _ _ _ a1 (gog.trans a2) a3
   ·cases ee
  ·cases ee
 ·cases ee
abbrev z28:=Rho->Option (Option Int×Rho)
def tDO (K:PySem.W.Frag)(f:z28):TO:=fun σ H Q=>∃ ρ w t o ρ',Good K ρ σ H w t/\f ρ=some (o,ρ')/\∀ H' w',Good K ρ' σ H' w' t->Go H w H' w'->Q o H'
abbrev PDO (X:Cx)(e:Option Expr)(f:z28):Prop:=PO X e (tDO X.K f)
@[simp] def x78:z28:=fun ρ=>some (none,ρ)
@[simp] def x51 (f:Den):z28:=fun ρ=>match f ρ with
 | some (.int i,_,ρ1)=>some (some i,ρ1)
 | _=>none
theorem PO.imp{e:Option Expr}{t t':TO}(h:PO X e t)(i:∀ σ H Q,t' σ H Q->t σ H Q):PO X e t':=fun pins s σ H Q I q=>h pins s σ H Q I (i σ H Q q)
theorem z57:PDO X none x78:=PO.imp z9q fun σ H Q hh0=>by
 obtain⟨ρ,w,t,o,ρ',gd,ee,k⟩:=hh0
 cases ee
 exact k H w gd Go.refl
theorem z58(h:PD X e f):PDO X (some e) (x51 f):=PO.imp (j0u h) fun σ H Q hh0=>by
 obtain⟨ρ,w,t,o,ρ',gd,ee,k⟩:=hh0
 unfold x51 at ee
 split at ee
 ·rename_i i q1 ρ1 h1
  cases ee
  exact⟨ρ,w,t,_,_,_,gd,h1,fun v H1 w1 F1 g1 go1 r1=>⟨i,x4u r1,k H1 (x1o t w1) g1.drop (go1.drop gd.wt)⟩⟩
 ·cases ee
section
variable {prog:Program}{w:World}{A:Around}{E:Value->Shared->Prop}{s:Shared}
theorem z02{t sl:Addr}{us:Array Value}{vl vu:Value}{lo hi:Option Int}(ht:IsTup s.heap t us)(hs:s.heap.IsSliceOf sl vl vu .none)(pl:IsPart vl lo)(pu:IsPart vu hi)
  (hw:HT.sIx us.size 0 lo=0/\HT.sIx us.size us.size hi=us.size) (h:Q (.ref t) s):wpAny (model prog w) A (getItem (.ref t) (.ref sl)) Q E s:=by
 obtain⟨os,hos,hcs,hds⟩:=id hs
 have ts:s.TypeIs (.ref sl) "slice":=⟨os,hos,hcs⟩
 unfold getItem
 try with_reducible refine wpAny_holding ?_
 first|refine wpAny_bind (wpAny_pure ?_)|skip
 refine wpAny_bind (wpAny_sequenceKey ht.typeIs (by decide) (wpAny_bind (wpAny_callSpecial?_slot (name:=Str.ofString "__getitem__") ht.typeIs PyProof.Rows.slot_tuple_getitem (wpAny_call_entry PyProof.Rows.slot_tuple_getitem ht.typeIs entry_tuple_getitem ?_ (args_tuple_getitem _ _)))))
 show wpAny _ _ (Builtin.Tuple.tupleItemsOf (.ref t) >>= _) _ _ s
 refine wpAny_bind (tupleItemsOf_ ht (wpAny_bind (wpAny_typeOf ts ?_)))
 rw[if_pos (by decide)]
 refine wpAny_bind (HT.y0v hs pl pu ?_)
 have yes:(((HT.sIx us.size 0 lo:Nat):Int)==0&&(1:Int)==1&&(HT.sIx us.size us.size hi-HT.sIx us.size 0 lo)==us.size)=true:=by rw[hw.1,hw.2];simp
 show wpAny _ _ (if(((HT.sIx us.size 0 lo:Nat):Int)==0&&(1:Int)==1&&(HT.sIx us.size us.size hi-HT.sIx us.size 0 lo)==us.size)=true then _ else _) _ _ s
 rw[if_pos yes]
 refine wpAny_bind (m:=Builtin.Tuple.tupleIsExact _) ?_
 unfold Builtin.Tuple.tupleIsExact
 refine wpAny_bind (wpAny_typeOf ht.typeIs (wpAny_pure ?_))
 rw[if_pos (by decide)]
 exact wpAny_bind (wpAny_rule (wpAny_pure ⟨_,rfl,wpAny_pure h⟩))
end
def z7k (xs:List D)(lo hi:Option Int):List D:=(xs.drop (HT.sIx xs.length 0 lo)).take (HT.sIx xs.length xs.length hi-HT.sIx xs.length 0 lo)
@[simp] def eSl (fa:Den)(fl fh:z28):Den:=fun ρ=>match fa ρ with
 | some (.tup ds,_,ρ1)=>match fl ρ1 with
  | some (lo,ρ2)=>match fh ρ2 with
   | some (hi,ρ3)=>some (.tup (z7k ds lo hi),9,ρ3)
   | none=>none
  | none=>none
 | _=>none
theorem Reps.take0:∀ {ds:List D} {vs:List V} (i:Nat),Reps K H w .f 0 ds vs []->Reps K H w .f 0 (ds.take i) (vs.take i) []
 | _,_,0,_=>by rw[List.take_zero,List.take_zero];exact .nil
 | ds,vs,i+1,r=>by
  generalize hF:([]:List Addr)=F at r
  cases r with
  | nil=>exact .nil
  | cons r s _=>
   have h2:=s.zero
   have h1:=r.zero
   subst h2
   subst h1
   exact .cons (F:=[]) (G:=[]) r (Reps.take0 i s) (fun _ z=>nomatch z)
theorem z74:SlR X (fun x lo hi H Q=>∃ a xs,x=.ref a/\SqT X.K H a xs/\(HT.sIx xs.length 0 lo=0/\HT.sIx xs.length xs.length hi=xs.length)/\Q (.ref a) H):=by
 intro pins s σ H x v vl vu lo hi sl Q I rx hs pl pu h
 obtain⟨a,xs,rfl,hx,hw,q⟩:=h
 cases rx
 obtain⟨its,r,ht,hz⟩:=I.tuple hx
 have hlen:its.toArray.size=xs.length:=by rw[List.size_toArray];exact r.length.symm
 exact⟨"tuple",_,PyProof.Rows.slot_tuple_getitem.lookup,ht.typeIs,z02 ht hs pl pu (by rw[hlen];exact hw) ⟨.ref a,H,I,rfl,q⟩⟩
theorem j7o{lo hi:Option Expr}{fl fh:z28}(ha:PD X a fa)(hl:PDO X lo fl)(hh:PDO X hi fh):PD X (.Subscript a (.Slice lo hi none p2) pos) (eSl fa fl fh):=PE.imp (y8h (z74.or j51) ha hl hh) fun σ H Q hh0=>by
 obtain⟨ρ,w,t,r',q,ρ',gd,ee,k⟩:=hh0
 unfold eSl at ee
 split at ee
 ·rename_i ds q1 ρ1 h1
  split at ee
  ·rename_i lo ρ2 h2
   split at ee
   ·rename_i hi ρ3 h3
    cases ee
    refine⟨ρ,w,t,_,_,_,gd,h1,fun v H1 w1 F1 g1 go1 r1=>?_⟩
    have gg1:=g1.drop (t':=t)
    have r0:=r1.drop (o:=.f) (Nat.le_refl t)
    refine⟨ρ1,x1o t w1,t,_,_,gg1,h2,fun H2 w2 g2 go2=>⟨ρ2,w2,t,_,_,g2,h3,fun H3 w3 g3 go3=>?_⟩⟩
    have r3:=(r0.go0 gg1.wl go2.stab).go0 g2.wl go3.stab
    obtain⟨p1,vs,rfl,q1',s1⟩:=r3.seqT
    have l1:=s1.length
    by_cases hw:HT.sIx ds.length 0 lo=0/\HT.sIx ds.length ds.length hi=ds.length
    ·have ec:z7k ds lo hi=ds:=by unfold z7k;rw[hw.1,hw.2,List.drop_zero,Nat.sub_zero,List.take_length]
     rw[ec]at k
     refine .inl ⟨p1,vs,rfl,q1',by rw[<- l1];exact hw,?_⟩
     exact k _ H3 w3 [] g3.up (((go1.drop gd.wt).trans go2).trans go3) ((Rep.go g3.wl (fun a x e n=>⟨sm e,n⟩) r3 (fun _ z=>nomatch z):Rep X.K H3 w3 (.t t) 0 _ _ []).nolist rfl |>.2 9)
    ·refine .inr ⟨p1,vs,rfl,q1',by rw[<- l1];exact hw,fun p hp=>?_⟩
     have s4:Reps X.K H3 w3 .f 0 (z7k ds lo hi) (z42 vs lo hi) []:=by
      unfold z7k z42
      rw[<- l1]
      exact(s1.drop0 _).take0 _
     obtain⟨a1,a2,a3⟩:=y34 g3 hp s4
     exact k _ _ _ _ a1 ((((go1.drop gd.wt).trans go2).trans go3).trans a2) a3
   ·cases ee
  ·cases ee
 ·cases ee
end
section
variable {X:Cx}{k b n:Nat}{a c e tg:Expr}{es:List Expr}{pt:x6m}{ps:x9s}{pos:Pos}{fa fb f:Den}
theorem y79{q r:x6m}:∀ ds ρ ρ',x11 p (x11 q (x11 r x63)) ds ρ=some ρ'->ds.length=3:=fun ds ρ ρ' h=>by
 match ds with
 | []=>cases h
 | [_]=>unfold x11 at h;simp at h;split at h<;>cases h
 | [_,_]=>unfold x11 at h;simp at h;split at h;(split at h<;>cases h);cases h
 | [_,_,_]=>rfl
 | _::_::_::_::_=>
  exfalso
  unfold x11 at h
  simp at h
  split at h
  ·split at h
   ·split at h<;>cases h
   ·cases h
  ·cases h
@[simp] def z8e (f:Den)(pt:x6m):x13:=fun ρ=>match f ρ with
 | some (d,_,ρ1)=>match pt d ρ1 with
  | some ρ2=>some (.nx ρ2)
  | none=>none
 | none=>none
theorem z9z(he:PD X e f)(hg:PDG X 0 tg pt)(hs:swapsWithSole [tg] e pos.line X.env=pure false:=by rfl)(hw:swappedStores [tg] e X.env=pure none:=by rfl)(h1:(assignEach [tg] X.env).map (·.2)=[assign tg X.env]:=by rfl):PDS X (.Assign [tg] e pos) (z8e f pt):=PS.imp (z2b he hg hs hw h1) fun D σ H hh0=>by
 obtain⟨ρ,w,o,g,ee,k⟩:=hh0
 unfold z8e at ee
 split at ee
 ·rename_i d q ρ1 h1
  split at ee
  ·rename_i ρ2 h2
   cases ee
   refine⟨ρ,w,0,d,q,ρ1,g,h1,fun v H1 w1 F1 g1 go1 r1=>?_⟩
   exact⟨d,ρ1,x1o 0 w1,0,ρ2,g1.drop,r1.drop (Nat.le_refl 0),h2,fun σ' H' w' hl _ g' go'=>k σ' H' w' hl g' ((go1.drop g.wt).trans go')⟩
  ·cases ee
 ·cases ee
end
theorem z0q:fillsNumberSlot (.type "tuple") "mul" = pure false:=PySem.fillsNumberSlot_seq (id:="tuple.__mul__") (r:=some (.builtin "tuple.__rmul__")) F.slot_tuple_mul.lookup (by decide +kernel) F.slot_tuple_rmul.lookup (by decide +kernel)
theorem z0d:seqRepeat? (.type "tuple")=pure (some (.builtin "tuple.__mul__")):=by
 unfold seqRepeat?
 rw[PySem.seqSlot_of (T:="tuple") (name:="__mul__") (id:="tuple.__mul__") F.slot_tuple_mul.lookup (by decide +kernel),PySem.seqSlot_of (T:="tuple") (name:="__rmul__") (id:="tuple.__rmul__") F.slot_tuple_rmul.lookup (by decide +kernel)];rfl
theorem y6d(a:Int)(t:Tok)(l:Addr)(us:Array Value)(n:Nat)(dd:Option Addr)(sl:Array (Option Value)) :
  Meets (Builtin.«int.__rmul__» ⟨[.int a t,.ref l],[]⟩) (fun _ R s=>s.heap.get? l=some { cls:=.type "tuple",dict:=dd,data:=.seq us n,slots:=sl }/\R (.ok (.ret Value.notImplemented)) s):=.of_wp fun prog w A R s h=>by
 obtain⟨hp,g,d,tk,os⟩:=s
 obtain⟨hl,h⟩:=h
 wp_walk
 exact⟨_,rfl,h⟩
theorem z5f(t:Tok)(l:Addr)(us:Array Value)(n:Nat)(dd:Option Addr)(sl:Array (Option Value)) :
  Meets (Builtin.«tuple.__mul__» ⟨[.ref l,.int 1 t],[]⟩) (fun _ R s=>s.heap.get? l=some { cls:=.type "tuple",dict:=dd,data:=.seq us n,slots:=sl }/\R (.ok (.ret (.ref l))) s):=.of_wp fun prog w A R s h=>by
 obtain⟨hp,g,d,tk,os⟩:=s
 obtain⟨hl,h⟩:=h
 have f1:=AutoSeq1.idx_int
 wp_walk using wpAny_loadPart' hl
 exact⟨_,rfl,h⟩
theorem z4t(k:Int)(t:Tok)(l:Addr)(us:Array Value)(n:Nat)(dd:Option Addr)(sl:Array (Option Value))(h2:¬ (decide (k < -(2 ^ 63))||decide (k ≥ 2 ^ 63))=true)(h3:¬ (us.isEmpty||k==1)=true)(h4:¬ (decide (k<=0)||us.isEmpty)=true)(h5:¬ (us.size:Int)*k > (2 ^ 63-1) / 8)(h6:¬ Builtin.Tuple.tupleTooMany ((us.size:Int)*k)=true)(hsz:(List.foldl (· ++ ·) #[] (List.replicate k.toNat us)).size<=sizeLine) :
  Meets (Builtin.«tuple.__mul__» ⟨[.ref l,.int k t],[]⟩) (fun _ R s=>s.heap.get? l=some { cls:=.type "tuple",dict:=dd,data:=.seq us n,slots:=sl }/\R (.ok (.ret (.ref s.heap.objs.size))) { s with heap:=s.heap.push { cls:=.type "tuple",data:=.seq (List.foldl (· ++ ·) #[] (List.replicate k.toNat us)) } }):=.of_wp fun prog w A R s h=>by
 obtain⟨hp,g,d,tk,os⟩:=s
 obtain⟨hl,h⟩:=h
 have f1:=AutoSeq1.idx_int
 wp_walk using wpAny_loadPart' hl
 rw[if_neg h2]
 wp_walk using wpAny_loadPart' hl
 rw[if_neg h5]
 wp_walk using wpAny_loadPart' hl
 exact⟨_,rfl,h⟩
section
variable {X:Cx}{a b c e:Expr}{fa fb fc f:Den}{pos:Pos}
theorem z8d:OpR X (binaryOp .Mult) (fun x y H Q=>∃ a k xs,x=.ref a/\y=.int k/\SqT X.K H a xs/\xs ≠ []/\1<=k/\xs.length*k.toNat<=1000/\(k=1->Q (.ref a) H)/\(k≠1->∀ p,H p=none->Q (.ref p) (upd H p (.tup (List.replicate k.toNat xs).flatten)))):=by
 intro pins s σ H x y v u Q I rx ry h
 obtain⟨l,k,xs,rfl,rfl,hq,hne,h1,hz,q1,q2⟩:=h
 cases rx
 obtain⟨t,rfl⟩:=ry
 obtain⟨its,r,pt,_⟩:=I.tuple hq
 obtain⟨⟨c1,d1,a1,s1⟩,e,hc1,n1,ha1⟩:=id pt
 simp only at hc1 ha1
 subst hc1 ha1
 have hl:=r.length
 have hpos:0<its.length:=by rw[<- hl];exact List.length_pos_iff.mpr hne
 refine wpAny_binaryOp_repeat_ref (T:="tuple") (U:="int") (by decide) ⟨_,e,rfl⟩ (fun s'=>typeIs_int s' k t) z0q F.fills_int_mul F.slot_int_rmul z0d F.slot_int_index.lookup
  (call_meets F.slot_int_rmul (typeIs_int s k t) F.entry_int_rmul (F.args_int_rmul_2 _ _) (y6d k t l its.toArray n1 d1 s1) ⟨e,rfl,⟨_,e,rfl⟩,?_⟩)
 by_cases hk:k=1
 ·subst hk
  exact call_meets F.slot_tuple_mul ⟨_,e,rfl⟩ F.entry_tuple_mul (F.args_tuple_mul_2 _ _) (z5f t l its.toArray n1 d1 s1) ⟨e,⟨.ref l,H,I,rfl,q1 rfl⟩⟩
 ·have hm:its.length*k.toNat<=1000:=by rw[<- hl];exact hz
  have hk':k.toNat<=1000:=by
   have:=Nat.le_mul_of_pos_left k.toNat hpos
   omega
  have f0:List.foldl (fun x1 x2=>x1++x2) #[] (List.replicate k.toNat its.toArray)=(List.replicate k.toNat its).flatten.toArray:=by
   have:=y1h its k.toNat []
   rw[List.nil_append]at this
   exact this
  have lf:(List.replicate k.toNat its).flatten.length<=1000:=by rw[y6s,Nat.mul_comm];exact hm
  have em:((its.toArray.size:Nat):Int)*k=((its.length*k.toNat:Nat):Int):=by
   rw[List.size_toArray,Int.natCast_mul,Int.toNat_of_nonneg (by omega)]
  refine call_meets F.slot_tuple_mul ⟨_,e,rfl⟩ F.entry_tuple_mul (F.args_tuple_mul_2 _ _) (z4t k t l its.toArray n1 d1 s1 (by simp;omega) (by simp[hk];exact List.ne_nil_of_length_pos hpos) (by simp;exact⟨by omega,List.ne_nil_of_length_pos hpos⟩) (by rw[em];omega) (by
   unfold Builtin.Tuple.tupleTooMany
   rw[em]
   simp only[gt_iff_lt,decide_eq_true_eq,Int.not_lt]
   have:(1000:Nat)<=sizeLine:=by decide
   omega) (by rw[f0,List.size_toArray];exact y07 lf)) ⟨e,?_⟩
  rw[f0]
  refine⟨.ref s.heap.objs.size,_,I.laid (t':=s.toks) (o:=.tup (List.replicate k.toNat xs).flatten) (fun b ob q=>Heap.get?_push_of_some _ q) (Nat.le_refl _) ?_,rfl,q2 hk _ (I.hok.fresh (Nat.le_refl _))⟩
  exact⟨y07 (by rw[y6s,Nat.mul_comm];exact hz),_,r.rep k.toNat,x6f.new _ _⟩
@[simp] def y1d (fa fb:Den):Den:=fun ρ=>match fa ρ with
 | some (.tup ds,_,ρ1)=>match fb ρ1 with
  | some (.int n,_,ρ2)=>if ds.isEmpty=false/\1<=n/\ds.length*n.toNat<=1000 then some (.tup (List.replicate n.toNat ds).flatten,9,ρ2)else none
  | _=>none
 | _=>none
theorem j0z(ha:PD X a fa)(hb:PD X b fb):PD X (.BinOp a .Mult b pos) (y1d fa fb):=PE.imp (y49 z8d ha hb) fun σ H Q hh0=>by
 obtain⟨ρ,w,t,r',q,ρ',gd,ee,k⟩:=hh0
 unfold y1d at ee
 split at ee
 ·rename_i ds q1 ρ1 h1
  split at ee
  ·rename_i n q2 ρ2 h2
   split at ee
   ·rename_i hl
    cases ee
    obtain⟨hd,hn,hz⟩:=hl
    refine j0k gd h1 h2 fun u u' H2 w2 F1 F2 g2 go r1 r2=>?_
    have r10:=r1.drop (o:=.f) (Nat.le_refl t)
    have gg:=g2.drop (t':=t)
    have gog:=go.drop gd.wt
    obtain⟨p1,vs,rfl,q1',s1⟩:=r10.seqT
    have l1:=s1.length
    refine⟨p1,n,vs,rfl,x4u r2,q1',fun z=>?_,hn,by rw[<- l1];exact hz,fun z=>?_,fun _ p hp=>?_⟩
    ·subst z
     have:ds=[]:=List.length_eq_zero_iff.mp l1
     subst this
     cases hd
    ·subst z
     have e:(List.replicate (Int.toNat 1) ds).flatten=ds:=by show(List.replicate 1 ds).flatten=ds;simp
     rw[e]at k
     exact k _ H2 (x1o t w2) [] gg.up gog ((Rep.go gg.wl (fun a x e n=>⟨sm e,n⟩) r10 (fun _ z=>nomatch z):Rep X.K H2 (x1o t w2) (.t t) 0 _ _ []).nolist rfl |>.2 9)
    ·obtain⟨a1,a2,a3⟩:=y34 gg hp (s1.times n.toNat)
     exact k _ _ _ _ a1 (gog.trans a2) a3
   ·cases ee
  ·cases ee
 ·cases ee
end
section
variable {X:Cx}{a b c e:Expr}{es:List Expr}{fa fb fc f:Den}{ga gb:x1u}{g:x1q}{pos p p1 p2 cpos apos:Pos}
@[simp] def j1w (i:Nat)(f:Den):Den:=fun ρ=>if y7x ρ[i]? = true then match f ρ with
 | some (.lst es,1,ρ1)=>match ρ1[i]? with
  | some (some (.lst ds,1))=>if ds.length+es.length<=1000 then some (.non,9,ρ1.set i (some (.lst (ds++es),1)))else none
  | _=>none
 | _=>none
 else none
theorem z1j(h:PE X (.Name x p1) (x7j i))(ha:PD X e f)
  (hbase:attributeBase (.Name x p1) "extend" X.env (eval (.Name x p1) X.env)=eval (.Name x p1) X.env:=by rfl)
  (hfew:((backTo cpos (starEach [e] X.env)).all (fun x=>!x.1)&&(backToKw cpos (keywordEach [] X.env)).all (fun x=>x.1.isSome)
    && decide ([e].length+([]:List Keyword).length+(if([]:List Keyword).isEmpty then 0 else 1)<30))=true:=by rfl)
  (hline:(apos.endLine==cpos.line)=true:=by rfl) (hs:starEach [e] X.env=(false,eval e X.env)::starEach [] X.env:=by rfl) (hplain:(backTo cpos (starEach [] X.env)).any (·.1)=false:=by rfl) :
  PD X (.Call (.Attribute (.Name x p1) "extend" apos) [e] [] cpos) (j1w i f):=
 PE.imp (z0h PySem.F.plainAttrs_list PySem.F.slot_list_extend PySem.F.type_list_extend z2l h (x3i ha x6h hs) hbase hfew hline hs hplain) fun σ H Q hh0=>by
 obtain⟨ρ,w,t,r',q,ρ',gd,ee,k⟩:=hh0
 unfold j1w at ee
 split at ee
 ·rename_i hl
  obtain⟨l,hσ,us,hq⟩:=gd.isL hl
  split at ee
  ·rename_i es' ρ1 h1
   split at ee
   ·rename_i ds e1
    split at ee
    ·rename_i hlen
     cases ee
     refine⟨_,hσ,.inl ⟨rfl,us,hq⟩,ρ,w,t,_,_,_,gd,h1,fun v H1 w1 F1 g1 go1 r1=>?_⟩
     obtain⟨l',ws,hσ',hH,rs,mk⟩:=g1.mut e1
     rw[hσ]at hσ'
     cases hσ'
     cases r1 with
     | own hb _ rz _=>
      have z0:=rz.zero
      subst z0
      have rz':Reps X.K H1 w1 .f 0 es' _ []:=rz.any g1.wl
      obtain⟨m1,m2⟩:=mk _ _ (rz'.app rs)
      refine⟨l,_,ws,_,rfl,rfl,hH,hb,y07 (by rw[<- rs.length,<- rz'.length];exact hlen),?_⟩
      exact k .non _ w1 [] m1 (go1.trans m2) .non
    ·cases ee
   ·cases ee
  ·cases ee
 ·cases ee
end
section
variable {X:Cx}{a b c e:Expr}{es:List Expr}{fa fb fc f:Den}{ga gb gc:x1u}{g:x1q}{qa qb:y2b}{s:x13}{pos p p1 p2 cpos apos:Pos}
@[simp] def y9f:x13:=fun _=>none
theorem z1a:PDS X st y9f:=PS.imp z6s fun D σ H hh0=>by obtain⟨ρ,w,o,g,ee,k⟩:=hh0;cases ee
def x6v (c:x1u)(b:x13):Nat->Rho->Option Out
 | 0,_=>none
 | m+1,ρ=>match c ρ with
  | none=>none
  | some (t,ρ1)=>if t=true then match b ρ1 with
    | none=>none
    | some (.nx ρ2)=>x6v c b m ρ2
    | some (.ct ρ2)=>x6v c b m ρ2
    | some (.bk ρ2)=>some (.nx ρ2)
    | some (.rt d q)=>some (.rt d q)
   else some (.nx ρ1)
def y5c (c:x1u)(b:x13):x13:=x6v c b 1000
theorem z35{body:List Stmt}(hp:PassesOwn (model X.prog X.w) X.A X.env X.xe)(hc:PDT X c gc)(hb:y8q X body s):PDS X (.While c body [] pos) (y5c gc s):=
 PS.imp (z6d hp hc hb) fun D σ H hh0=>by
 obtain⟨ρ,w,o,g,ee,k⟩:=hh0
 refine⟨fun m σ' H'=>σ'.length=σ.length/\∃ ρ' w',Good X.K ρ' σ' H' w' 0/\x6v gc s m ρ'=some o/\y2m X.K D σ.length H' w' o,⟨1000,rfl,ρ,w,g,ee,k⟩,?_⟩
 rintro m σ' H' ⟨hσ,ρ',w',g',e',k'⟩
 cases m with
 | zero=>cases e'
 | succ m=>
  unfold x6v at e'
  split at e'
  ·cases e'
  ·rename_i t ρ1 h1
   refine⟨ρ',w',0,t,ρ1,g',h1,fun H1 w1 g1 go1=>?_⟩
   cases t with
   | true=>
    rw[if_pos rfl]at e' ⊢
    refine⟨fun σ2 H2=>σ2.length=σ.length/\∃ ρ2 w2,Good X.K ρ2 σ2 H2 w2 0/\x6v gc s m ρ2=some o/\y2m X.K D σ.length H2 w2 o,fun σ2 H2 n2=>⟨m,Nat.lt_succ_self m,n2⟩,?_⟩
    have nx:∀ {ρ5:Rho},x6v gc s m ρ5=some o->∀ σ5 H5 w5,σ5.length=σ'.length->Good X.K ρ5 σ5 H5 w5 0->Go H1 w1 H5 w5->σ5.length=σ.length/\∃ ρ2 w2,Good X.K ρ2 σ5 H5 w2 0/\x6v gc s m ρ2=some o/\y2m X.K D σ.length H5 w2 o:=fun {ρ5} e5 σ5 H5 w5 l5 g5 go5=>⟨by rw[l5,hσ],ρ5,w5,g5,e5,k'.trans (go1.trans go5)⟩
    cases h6:s ρ1 with
    | none=>rw[h6]at e';cases e'
    | some o6=>
     rw[h6]at e'
     refine⟨ρ1,w1,o6,g1,h6,?_⟩
     cases o6 with
     | nx ρ5=>exact nx e'
     | ct ρ5=>exact nx e'
     | bk ρ5=>
      cases e'
      exact fun σ5 H5 w5 l5 g5 go5=>k' σ5 H5 w5 (by rw[l5,hσ]) g5 (go1.trans go5)
     | rt d q=>
      cases e'
      exact fun v H5 w5 F wl5 go5 r5=>k' v H5 w5 F wl5 (go1.trans go5) r5
   | false=>
    rw[if_neg (by decide)]at e' ⊢
    cases e'
    exact k' σ' H1 w1 hσ g1 go1
@[simp] def y6y (n:Nat)(qi:y2b)(fe:Den):x13:=fun ρ=>match fe ρ with
 | some (d,_,ρ1)=>match qi ρ1,ρ1[n]? with
  | some i,some (some (.lst ds,1))=>match ixN ds.length i with
   | some m=>some (.nx (ρ1.set n (some (.lst (ds.set m d),1))))
   | none=>none
  | _,_=>none
 | none=>none
theorem z6i(h:PE X (.Name x p1) (x7j n))(ha:PQ X a qa)(he:PD X e f)
  (hasg:∀ v,assign (.Subscript (.Name x p1) a p) X.env v=(do
    let ov <- holding [v] (eval (.Name x p1) X.env)
    let iv <- holding [v,ov] (eval a X.env)
    standAt p
    holding [v,ov,iv] (setItem ov iv v)
    release [v,ov,iv] []):=by exact fun _=>rfl)
  (hs:swapsWithSole [.Subscript (.Name x p1) a p] e pos.line X.env=pure false:=by rfl) :
  PDS X (.Assign [.Subscript (.Name x p1) a p] e pos) (y6y n qa f):=by
 refine PS.imp (z2b he (z87 h ha y9t hasg) hs) fun D σ H ⟨ρ,w,o,gd,ee,k⟩=>?_
 unfold y6y at ee
 split at ee
 ·rename_i d q0 ρ1 h1
  split at ee
  ·rename_i i ds hi er
   split at ee
   ·rename_i m hm
    cases ee
    refine⟨ρ,w,0,d,q0,ρ1,gd,h1,fun v H1 w1 F1 g1 go1 r1=>?_⟩
    have rv:=r1.drop (o:=.f) (Nat.le_refl 0)
    have gg:=g1.drop (t':=0)
    obtain⟨l,vs,m1,m2,m3,mk⟩:=gg.mut er
    refine⟨_,m1,ρ1,x1o 0 w1,0,i,gg,hi,l,vs,i,m,rfl,rfl,m2,?_,?_⟩
    ·rw[<- m3.length];exact hm
    ·obtain⟨n1,n2⟩:=mk _ _ (m3.set0 rv m)
     exact k _ _ _ rfl n1 ((go1.drop gd.wt).trans n2)
   ·cases ee
  ·cases ee
 ·cases ee
def j71 (K:PySem.W.Frag):R2:=fun x y H Q=>∃ l b xs zs,x=.ref l/\y=.ref b/\SqL K H l xs/\SqL K H b zs/\xs.length+zs.length<=sizeLine/\∀ p,H p=none->Q (.ref p) (upd H p (.lst (xs++zs)))
theorem z8f:OpR X (binaryOp .Add) (j71 X.K):=by
 intro pins s σ H x y v u Q I rx ry h
 obtain⟨l,b,xs,zs,rfl,rfl,hH,hB,hz,q⟩:=h
 cases rx
 cases ry
 obtain⟨its,r,pl,z⟩:=I.list hH
 obtain⟨its2,r2,pl2,z2⟩:=I.list hB
 obtain⟨⟨cls,dd,data,sl⟩,n,ho,hc,_,hd⟩:=pl
 obtain⟨⟨cls2,dd2,data2,sl2⟩,n2,ho2,hc2,_,hd2⟩:=pl2
 simp only at hc hd hc2 hd2
 subst hc hd hc2 hd2
 have l1:=r.length
 have l2:=r2.length
 refine concat_meets ⟨_,ho,rfl⟩ ⟨_,ho2,rfl⟩ noFill_list_add seq_list_add PySem.F.slot_list_add PySem.F.entry_list_add (PySem.F.args_list_add_2 _ _) (list_addW l b its.toArray its2.toArray n n2 dd dd2 sl sl2 (by rw[List.size_toArray,List.size_toArray,<- l1,<- l2];exact hz)) ⟨ho,ho2,?_⟩
 have e:its.toArray++its2.toArray=(its++its2).toArray:=by simp
 rw[e]
 exact⟨.ref _,_,I.lnew (t':=s.toks) (r.append r2) (by rw[List.length_append];omega),rfl,q _ I.fresh⟩
@[simp] def x65 (fa fb:Den):Den:=fun ρ=>match fa ρ with
 | some (.lst ds,_,ρ1)=>match fb ρ1 with
  | some (.lst es,_,ρ2)=>if ds.length+es.length<=1000 then some (.lst (ds++es),1,ρ2)else none
  | _=>none
 | _=>none
theorem z8l(ha:PD X a fa)(hb:PD X b fb):PD X (.BinOp a .Add b pos) (x65 fa fb):=PE.imp (y49 z8f ha hb) fun σ H Q hh0=>by
 obtain⟨ρ,w,t,r',q,ρ',gd,ee,k⟩:=hh0
 unfold x65 at ee
 split at ee
 ·rename_i ds q1 ρ1 h1
  split at ee
  ·rename_i es q2 ρ2 h2
   split at ee
   ·rename_i hl
    cases ee
    refine j0k gd h1 h2 fun u u' H2 w2 F1 F2 g2 go r1 r2=>?_
    have r10:=r1.drop (o:=.f) (Nat.le_refl t)
    have r20:=r2.drop (o:=.f) (Nat.le_succ t)
    have gg:=g2.drop (t':=t)
    have gog:=go.drop gd.wt
    obtain⟨p1,vs,rfl,q1',s1⟩:=r10.seqL0
    obtain⟨p2,us,rfl,q2',s2⟩:=r20.seqL0
    refine⟨p1,p2,vs,us,rfl,rfl,q1',q2',y07 (by rw[<- s1.length,<- s2.length];exact hl),fun p hp=>?_⟩
    obtain⟨a1,a2,a3⟩:=alloc gg hp (s2.app s1)
    exact k _ _ _ _ a1 (gog.trans a2) a3
   ·cases ee
  ·cases ee
 ·cases ee
end
section
variable {X:Cx}{a b c e:Expr}{es:List Expr}{fa fb fc f:Den}{ga gb gc:x1u}{g:x1q}{qa qb:y2b}{s:x13}{pos p p1 p2 p3 cpos apos:Pos}
@[simp] def x5q (n:Nat)(c:Int):y2b:=fun ρ=>match ρ[n]? with
 | some (some (.tup es,_))=>match L2.atI es c with
  | some d=>match x7m d with
   | some m=>some (Int.ofNat m)
   | none=>none
  | none=>none
 | _=>none
theorem z7b{n j:Nat}{c:Int}(hm:X.mg "len" = none)(h:PE X (.Name x p1) (x7j n))(hg:Gl X "len":=by rfl)(hs:x4m (.Constant (.int c) j p2):=by exact fun _ _=>rfl)
  (he:starEach [.Subscript (.Name x p1) (.Constant (.int c) j p2) p3] X.env=(false,eval (.Subscript (.Name x p1) (.Constant (.int c) j p2) p3) X.env)::starEach [] X.env:=by rfl) (hpl:(backTo pos (starEach [] X.env)).any (·.1)=false:=by rfl) :
  PQ X (.Call (.Name "len" p) [.Subscript (.Name x p1) (.Constant (.int c) j p2) p3] [] pos) (x5q n c):=
 PE.imp (x59 x6x hg hm PySem.boot_len (x3i (z21 y5g h y5v hs) x6h he) (by decide) (by decide) he hpl) fun σ H Q hh0=>by
 obtain⟨ρ,w,t,i,gd,ee,k⟩:=hh0
 unfold x5q at ee
 split at ee
 ·rename_i es q e0
  split at ee
  ·rename_i d hd
   split at ee
   ·rename_i m hm'
    cases ee
    obtain⟨v,F,h1,h2⟩:=gd.slot n _ _ e0
    obtain⟨p0,vs,rfl,hq,rs⟩:=h2.seqT
    obtain⟨u,hu,ru⟩:=rs.atI hd
    obtain⟨p',ys,rfl,hs',hl⟩:=ru.len hm'
    exact⟨_,h1,.inr (.inl ⟨p0,vs,c,_,rfl,rfl,hq,hu,p',ys,rfl,hs',by rw[hl];exact k⟩)⟩
   ·cases ee
  ·cases ee
 ·cases ee
@[simp] def y6a (k l:Str)(qa qb:y2b):Den:=fun ρ=>match qa ρ,qb ρ with
 | some i,some j=>some (.dic [k,l] [.int i,.int j],9,ρ)
 | _,_=>none
theorem j2i{H1:Hp}{p:Addr}{ks:List Str}{w1:Wn}(g:Good K ρ σ H1 w1 t)(hp:H1 p=none)(r:Reps K H1 w1 .f 0 ds vs []) :
  Good K ρ σ (upd H1 p (.dK (kvL ks vs))) w1 (t+1)/\Go H1 w1 (upd H1 p (.dK (kvL ks vs))) w1/\Rep K (upd H1 p (.dK (kvL ks vs))) w1 (.t t) 9 (.dic ks ds) (.ref p) []:=by
 have ne:∀ a x,H1 a=some x->a≠p:=fun a x e=>x0r e hp
 have nw:∀ a o,w1 a=some o->a≠p:=fun a o e=>by obtain⟨vs,q⟩:=g.wl a o e;exact ne a _ q
 have st:x84 H1 w1 (upd H1 p (.dK (kvL ks vs))) w1:=fun a x e n=>⟨sm (by rw[x0h (ne a x e)];exact e),n⟩
 refine⟨⟨⟨fun a o e=>?_,g.wl.tb.upd rfl (.inl hp)⟩,g.ws,fun a i e=>Nat.lt_succ_of_lt (g.wt a i e),g.len,fun i d q e=>?_⟩,⟨st,fun a o e _=>⟨x0h (nw a o e),e⟩⟩,?_⟩
 ·obtain⟨us,q⟩:=g.wl a o e
  exact⟨us,by rw[x0h (nw a o e)];exact q⟩
 ·obtain⟨v,F,h1,h2⟩:=g.slot i d q e
  exact⟨v,F,h1,Rep.go g.wl st h2 fun a m=>⟨x0h (nw a _ (h2.owns a m)),h2.owns a m⟩⟩
 ·exact .dic x0t (Reps.go g.wl st r (fun _ z=>nomatch z))
theorem z90{k l:Str}{j1 j2:Nat}(hkl:k≠l)(ha:PQ X a qa)(hb:PQ X b qb) :
  PD X (.Dict [some (.Constant (.str k) j1 p1),some (.Constant (.str l) j2 p2)] [a,b] pos) (y6a k l qa qb):=
 PE.imp (j00 (y8i y8k ha (y8i y8k hb j1b)) rfl rfl (by simp) (by show 2<=15;decide)) fun σ H Q hh0=>by
 obtain⟨ρ,w,t,r',q,ρ',gd,ee,kk⟩:=hh0
 unfold y6a at ee
 split at ee
 ·rename_i i j hi hj
  cases ee
  intro p0 hp
  have ne:∀ a x,H a=some x->upd H p0 (.dK []) a=some x:=fun a x e=>by rw[x0h (x0r e hp)];exact e
  obtain⟨g1,go1⟩:=gd.more ⟨ne,fun t=>t.upd rfl (.inl hp)⟩
  refine⟨ρ,w,t,i,g1,hi,ρ,w,t,j,g1,hj,x0t,[(.inr k,.int i),(.inr l,.int j)],rfl,by show 2<=15;decide,?_⟩
  have e:y1x [] [((.inr k:Key),V.int i),(.inr l,.int j)]=kvL [k,l] [.int i,.int j]:=by
   have hkl':¬ ((Sum.inr k:Key)=.inr l):=fun z=>hkl (Sum.inr.inj z)
   simp[y1x,y55,kvL,hkl']
  rw[e,z8i]
  obtain⟨a1,a2,a3⟩:=j2i (ks:=[k,l]) (ds:=[.int i,.int j]) (vs:=[.int i,.int j]) gd hp (.cons (F:=[]) (G:=[]) (.int i) (.cons (F:=[]) (G:=[]) (.int j) .nil (fun _ z=>nomatch z)) (fun _ z=>nomatch z))
  exact kk _ _ _ _ a1 a2 a3
 ·cases ee
def y6p:List Str->List D->Str->Option D
 | x::ks,d::ds,k=>if x=k then some d else y6p ks ds k
 | _,_,_=>none
@[simp] def z5u (fo fe ff:Den):Den:=fun ρ=>match fo ρ with
 | some (.dic ks ds,_,ρ1)=>match fe ρ1 with
  | some (.str k,_,ρ2)=>match ff ρ2 with
   | some (z,_,ρ3)=>some ((y6p ks ds k).getD z,x9m ((y6p ks ds k).getD z),ρ3)
   | none=>none
  | _=>none
 | _=>none
theorem y8v(k:Str):∀ {ks:List Str} {ds:List D} {vs:List V},Reps K H w o 0 ds vs []->
  (∀ d,y6p ks ds k=some d->∃ v,x9v (kvL ks vs) (.inr k)=some v/\Rep K H w o 0 d v [])/\(y6p ks ds k=none->x9v (kvL ks vs) (.inr k)=none)
 | [],ds,vs,r=>by
  refine⟨fun d h=>?_,fun _=>rfl⟩
  unfold y6p at h
  cases h
 | x::ks,ds,vs,r=>by
  generalize hF:([]:List Addr)=F at r
  cases r with
  | nil=>exact⟨(fun d h=>by unfold y6p at h;cases h),fun _=>rfl⟩
  | @cons _ d' v' ds' vs' F' G' r s _=>
   have h1:F'=[]:=r.zero
   have h2:G'=[]:=s.zero
   subst h1 h2
   have ih:=y8v k (ks:=ks) s
   by_cases hx:x=k
   ·subst hx
    refine⟨fun d h=>?_,fun h=>?_⟩
    ·unfold y6p at h
     rw[if_pos rfl]at h
     cases h
     exact⟨v',x5a rfl,r⟩
    ·unfold y6p at h
     rw[if_pos rfl]at h
     cases h
   ·have hk:¬ ((Sum.inr x:Key)=.inr k):=fun z=>hx (Sum.inr.inj z)
    have e:x9v (kvL (x::ks) (v'::vs')) (.inr k)=x9v (kvL ks vs') (.inr k):=x53 hk
    rw[e]
    unfold y6p
    rw[if_neg hx]
    exact ih
theorem z8s{k:Nat}(hr:Room k X.A)(ho:PD X a fa)(he:PD X b fb)(hf:PD X c fc)
  (hbase:attributeBase a "get" X.env (eval a X.env)=eval a X.env:=by rfl)
  (hfew:((backTo cpos (starEach [b,c] X.env)).all (fun x=>!x.1)&&(backToKw cpos (keywordEach [] X.env)).all (fun x=>x.1.isSome)
    && decide (([b,c]:List Expr).length+([]:List Keyword).length+(if([]:List Keyword).isEmpty then 0 else 1)<30))=true:=by rfl)
  (hline:(apos.endLine==cpos.line)=true:=by rfl) (htr:backTo cpos (starEach [b,c] X.env)=[(false,eval b X.env),(false,eval c X.env)]:=by rfl) :
  PD X (.Call (.Attribute a "get" apos) [b,c] [] cpos) (z5u fa fb fc):=
 PE.imp (z4f (j74 hr) ho he hf ⟨hbase,hfew,hline,htr⟩) fun σ H Q hh0=>by
 obtain⟨ρ,w,t,r',q,ρ',gd,ee,kk⟩:=hh0
 unfold z5u at ee
 split at ee
 ·rename_i ks ds q1 ρ1 h1
  split at ee
  ·rename_i k0 q2 ρ2 h2
   split at ee
   ·rename_i z q3 ρ3 h3
    cases ee
    refine⟨ρ,w,t,_,_,_,gd,h1,fun x H1 w1 F1 g1 go1 r1=>?_⟩
    have r1':=r1
    cases r1' with
    | @dic _ a0 _ vs0 _ hH0 _=>
     refine⟨a0,rfl,.inl ⟨_,.inl hH0⟩,ρ1,w1,t+1,_,_,_,g1,h2,fun y H2 w2 F2 g2 go2 r2=>⟨ρ2,w2,t+2,_,_,_,g2,h3,fun zv H3 w3 F3 g3 go3 r3=>?_⟩⟩
     have hy:y=kV (.inr k0):=by cases r2;rfl
     subst hy
     have r13:=(r1.gone g1.wl (go2.trans go3)).drop (o:=.t t) (Nat.le_refl t)
     have rz:=r3.drop (o:=.t t) (t':=t) (by omega)
     have go:=(go1.trans go2).trans go3
     cases r13 with
     | @dic _ _ _ vs _ hH rs=>
      obtain⟨v1,v2⟩:=y8v (ks:=ks) k0 rs
      refine⟨_,z41.k hH,?_⟩
      cases hg:y6p ks ds k0 with
      | none=>
       rw[v2 hg]
       rw[hg]at kk
       exact j0q kk gd g3 go rz.dep
      | some d=>
       obtain⟨v,ev,rv⟩:=v1 d hg
       rw[ev]
       rw[hg]at kk
       exact j0q kk gd g3 go rv.dep
   ·cases ee
  ·cases ee
 ·cases ee
theorem z9g{x21:List Expr}{env:Env}{ks:List (Option Expr)}{vs:List Expr}:starEach (.Dict ks vs pos::x21) env=(false,eval (.Dict ks vs pos) env)::starEach x21 env:=by simp only[starEach]
end
end L3
namespace L3
open PySem PySem.Spec PyProof.Rows PySem.W L2
variable {A:Around}{C:Addr}{E:Value->Shared->Prop}{H:Hp}{K:PySem.W.Frag}{M:Model}{P:Program}{h h':Heap}{i t:Nat}{pos:Pos}{w:World}{x:Str}{ρ:Rho}{σ:St}
theorem z8y{a:Addr}{o:HO}(x:x29 P w H h a o):∃ ob,h.get? a=some ob:=by
 cases o with
 | lst xs=>obtain⟨_,_,_,_,e⟩:=x;exact⟨_,e⟩
 | tup xs=>obtain⟨_,_,_,o,e,_⟩:=x;exact⟨_,e⟩
 | dK kvs=>obtain⟨_,_,_,_,o,_,_,e,_⟩:=x;exact⟨_,e⟩
 | dT kvs=>obtain⟨_,_,_,_,o,_,_,e,_⟩:=x;exact⟨_,e⟩
 | set S n=>obtain⟨o,_,_,_,e,_⟩:=x;exact⟨_,e⟩
 | ins C dx fs=>obtain⟨_,_,_,e,_⟩:=x;exact⟨_,e⟩
 | own y=>obtain⟨_,e⟩:=x;exact⟨_,e⟩
 | xd fs=>obtain⟨_,⟨_,_,_,e,_⟩,_⟩:=x;exact⟨_,e⟩
 | rng lo hi=>obtain⟨_,_,_,e⟩:=x;exact⟨_,e⟩
 | frz ob u=>obtain⟨e,_⟩:=x;exact⟨_,e⟩
 | tbl ps=>exact⟨_,(show h.get? a=some _ from x)⟩
 | met f y=>exact⟨_,(show h.get? a=some _ from x)⟩
 | ext φ=>obtain⟨_,⟨_,e⟩,_⟩:=x;exact⟨_,e⟩
theorem y7c(x:HOk P w H h)(k:∀ b u o,H b=some u->h.get? b=some o->h'.get? b=some o):HOk P w H h':=fun b u e=>
 (x b u e).stay (fun c o hc q=>by
  rcases hc with z|z
  ·rw[z]at q ⊢;exact k b u o e q
  ·exact k c _ o z q) (fun _ q=>q) fun _ _ q=>q
structure Fly (P:Program) (w:World) (outer:List Env) (H:Hp) (s:Shared) (a C t:Addr) (B:Heap) (H':Hp) (s':Shared):Prop where
 os:s'.os=s.os
 bare:AllBare s'.gens
 un:Un (frs outer) [] H H' s.heap s'.heap
 hok:HOk P w H' s'.heap
 fl:Heap.FlyingW B outer a (.ref C) (.ref t) s'.heap
 old:∀ b o,s.heap.get? b=some o->H b=none->b ∉ frs outer->B.get? b=some o
 oldT:∀ b o,s.heap.get? b=some o->b ∉ frs outer->∃ o',B.get? b=some o'
 trk:∀ b u o,H' b=some u->s'.heap.get? b=some o->B.get? b=some o
 free:H' a=none
def CXF (P:Program)(w:World):CXT:=fun outer H s E e s'=>∃ (a C t:Addr) (B:Heap) (H':Hp),e=.ref a/\Fly P w outer H s a C t B H' s'/\E (.ref C) none H'
section
variable {P:Program}{w:World}{K:PySem.W.Frag}{mg:Str->Option Value}{base:Heap}{N:List Str}{qual:Str}{scope:Scope}{f:Addr}{cd:Value}{A:Around}{outer:List Env}{s₀:Shared}{H₀:Hp}{E:XK}{pins:List (Addr×Obj)}{σ:St}{H:Hp}{s:Shared}
abbrev cxF (P:Program)(w:World)(K:PySem.W.Frag)(mg:Str->Option Value)(base:Heap)(N:List Str)(qual:Str)(scope:Scope)(f:Addr)(cd:Value)(A:Around)(outer:List Env)(s₀:Shared)(H₀:Hp)(E:XK):Cx:=z0k (CXF P w) P w K mg base N qual scope f cd A outer s₀ H₀ E
theorem y5f(I:Inv (cxF P w K mg base N qual scope f cd A outer s₀ H₀ E) pins σ H s){b:Addr}(hb:b∈frs outer){o:Obj}(e:s.heap.get? b=some o):∀ vs,o.data ≠ .fields vs:=by
 obtain⟨_,o',ho,hd⟩:=I.funs.mem hb
 rw[e]at ho;cases ho
 exact hd
theorem y6t{e:Addr}{vs:List Value}(I:Inv (cxF P w K mg base N qual scope f cd A outer s₀ H₀ E) pins σ H s)(hm:Heap.MadeExcOf s.heap h' e (.ref C) vs)(hE:E (.ref C) none H) :
  (cxF P w K mg base N qual scope f cd A outer s₀ H₀ E).xe (.ref e) { s with heap:=h' }:=by
 have nL:∀ b o,s₀.heap.get? b=some o->b≠s₀.heap.objs.size:=fun b o q=>Nat.ne_of_lt (Heap.lt_size q)
 have hid:∀ b o,s.heap.get? b=some o->b≠s₀.heap.objs.size->b ∉ frs outer->(hideAll s.heap (frs (envOfC qual scope s₀.heap.objs.size f cd::outer))).get? b=some o:=fun b o q n1 n2=>hideAll_get _ q fun hm=>by
  rcases List.mem_cons.mp (show b∈s₀.heap.objs.size::frs outer from hm)with z|z
  ·exact n1 z
  ·exact n2 z
 have hin:∀ env∈(envOfC qual scope s₀.heap.objs.size f cd::outer),∀ b,env.frame=some b->b∈frs (envOfC qual scope s₀.heap.objs.size f cd::outer):=fun env he b hb=>List.mem_filterMap.mpr ⟨env,he,hb⟩
 have nstk:∀ b u,H b=some u->b≠s₀.heap.objs.size/\b ∉ frs outer:=fun b u q=>by
  refine⟨fun z=>?_,fun z=>?_⟩
  ·have:=I.free
   rw[z]at q
   have this':H s₀.heap.objs.size=none:=this
   rw[this']at q;cases q
  ·have:=I.stkFree b (List.mem_cons_of_mem _ z)
   rw[this]at q;cases q
 have base0:Un (frs outer) [] H₀ H s₀.heap s.heap:=I.base
 show wpAny _ _ (leaving (envOfC qual scope s₀.heap.objs.size f cd) (.ref e)) _ _ _
 refine wpAny_leaves_madeW (s:={ s with heap:=h' }) (L:=s₀.heap.objs.size) (outer:=outer) I.ok.frames rfl (fun b o q=>of_hideAll _ q) (funFrames_hide I.stack hin) hm fun h2 t fl _ _ up=>?_
 have old:∀ b o,s₀.heap.get? b=some o->H₀ b=none->b ∉ frs outer->(hideAll s.heap (frs (envOfC qual scope s₀.heap.objs.size f cd::outer))).get? b=some o:=fun b o q n hb=>hid b o (base0.keep b o q n hb (by simp)) (nL b o q) hb
 have slot:∀ b o,s.heap.get? b=some o->b∈frs outer->∃ sl,h2.get? b=some { o with slots:=sl }:=fun b o q hb=>up b o (hm.keeps b o q) (y5f I hb q)
 have trk:∀ b u o,H b=some u->s.heap.get? b=some o->(hideAll s.heap (frs (envOfC qual scope s₀.heap.objs.size f cd::outer))).get? b=some o:=fun b u o q e=>hid b o e (nstk b u q).1 (nstk b u q).2
 refine⟨e,C,t,_,H,rfl,⟨I.os,I.bare,⟨fun b o q n hb _=>fl.1 b o (old b o q n hb),fun b o q n hb _=>?_,fun b o q n _=>base0.free b o q n (by simp),fun b o q _=>?_,base0.tups,base0.frzs,base0.tbls⟩,y7c I.hok fun b u o q e=>fl.1 b o (trk b u o q e),fl,old,fun b o q hb=>?_,fun b u o q e=>?_,?_⟩,hE⟩
 ·obtain⟨sl,q1⟩:=base0.slot b o q n hb (by simp)
  obtain⟨sl',q2⟩:=slot b _ q1 hb
  exact⟨sl',q2⟩
 ·obtain⟨o',q1⟩:=base0.there b o q (by simp)
  by_cases hb:b∈frs outer
  ·obtain⟨sl,q2⟩:=slot b o' q1 hb
   exact⟨_,q2⟩
  ·exact⟨o',fl.1 b o' (hid b o' q1 (nL b o q) hb)⟩
 ·obtain⟨o',q1⟩:=base0.there b o q (by simp)
  exact⟨o',hid b o' q1 (nL b o q) hb⟩
 ·obtain⟨o1,q1⟩:=z8y (I.hok b u q)
  have q2:=trk b u o1 q q1
  have q3:=fl.1 b o1 q2
  have e':h2.get? b=some o:=e
  rw[q3]at e';cases e'
  exact q2
 ·cases q:H e with
  | none=>rfl
  | some u=>
   obtain⟨o1,q1⟩:=z8y (I.hok e u q)
   rw[hm.new]at q1;cases q1
theorem j5d{E':XK}(hE:∀ C H',E' (.ref C) none H'->E (.ref C) none H')(I:Inv (cxF P w K mg base N qual scope f cd A outer s₀ H₀ E) pins σ H s){e:Value}{s':Shared}(h:CXF P w (envOfC qual scope s₀.heap.objs.size f cd::outer) H s E' e s') :
  (cxF P w K mg base N qual scope f cd A outer s₀ H₀ E).xe e s':=by
 obtain⟨a,C,t,B,H',rfl,F,hE'⟩:=h
 have nL:∀ b o,s₀.heap.get? b=some o->b≠s₀.heap.objs.size:=fun b o q=>Nat.ne_of_lt (Heap.lt_size q)
 have base0:Un (frs outer) [] H₀ H s₀.heap s.heap:=I.base
 have nst:∀ b o,s₀.heap.get? b=some o->b ∉ frs outer->b ∉ frs (envOfC qual scope s₀.heap.objs.size f cd::outer):=fun b o q n hm=>by
  rcases List.mem_cons.mp (show b∈s₀.heap.objs.size::frs outer from hm)with z|z
  ·exact nL b o q z
  ·exact n z
 show wpAny _ _ (leaving (envOfC qual scope s₀.heap.objs.size f cd) (.ref a)) _ _ _
 refine wpAny_leaves_onW (L:=s₀.heap.objs.size) (outer:=outer) I.ok.frames rfl F.fl fun h2 fl up=>?_
 have old:∀ b o,s₀.heap.get? b=some o->H₀ b=none->b ∉ frs outer->B.get? b=some o:=fun b o q n hb=>F.old b o (base0.keep b o q n hb (by simp)) (base0.free b o q n (by simp)) (nst b o q hb)
 have slot:∀ b o,s.heap.get? b=some o->H b=none->b∈frs outer->∃ sl,h2.get? b=some { o with slots:=sl }:=fun b o q n hb=>by
  obtain⟨sl,q1⟩:=F.un.slot b o q n (List.mem_cons_of_mem _ hb) (by simp)
  obtain⟨sl',q2⟩:=up b _ q1 (fun vs z=>y5f I hb q vs z)
  exact⟨sl',q2⟩
 have fH:∀ b∈frs outer,H b=none:=fun b hb=>I.stkFree b (List.mem_cons_of_mem _ hb)
 refine⟨a,C,t,B,H',rfl,⟨F.os.trans I.os,F.bare,⟨fun b o q n hb _=>fl.1 b o (old b o q n hb),fun b o q n hb _=>?_,fun b o q n _=>?_,fun b o q _=>?_,fun b xs q=>F.un.tups b xs (base0.tups b xs q),fun b o u q=>F.un.frzs b o u (base0.frzs b o u q),fun b ps q=>?_⟩,y7c F.hok fun b u o q e=>fl.1 b o (F.trk b u o q e),fl,old,fun b o q hb=>?_,fun b u o q e=>?_,F.free⟩,hE C H' hE'⟩
 ·obtain⟨sl,q1⟩:=base0.slot b o q n hb (by simp)
  obtain⟨sl',q2⟩:=slot b _ q1 (fH b hb) hb
  exact⟨sl',q2⟩
 ·obtain⟨o',q1⟩:=base0.there b o q (by simp)
  exact F.un.free b o' q1 (base0.free b o q n (by simp)) (by simp)
 ·obtain⟨o',q1⟩:=base0.there b o q (by simp)
  by_cases hb:b∈frs outer
  ·obtain⟨sl,q2⟩:=slot b o' q1 (fH b hb) hb
   exact⟨_,q2⟩
  ·obtain⟨o2,q2⟩:=F.oldT b o' q1 (nst b o q hb)
   exact⟨o2,fl.1 b o2 q2⟩
 ·obtain⟨m1,e1⟩:=base0.tbls b ps q
  obtain⟨m2,e2⟩:=F.un.tbls b _ e1
  exact⟨m1++m2,by rw[e2,Array.append_assoc]⟩
 ·obtain⟨o',q1⟩:=base0.there b o q (by simp)
  exact F.oldT b o' q1 (nst b o q hb)
 ·obtain⟨o1,q1⟩:=z8y (F.hok b u q)
  have q2:=F.trk b u o1 q q1
  have q3:=fl.1 b o1 q2
  have e':h2.get? b=some o:=e
  rw[q3]at e';cases e'
  exact q2
end
structure XNm (K:Frag) (mg:Str->Option Value) (nm:Str) (C:Addr):Prop extends XKls K nm C where
 mg:mg nm=some (.ref C)
theorem j0h{K:Frag}{bmB:List Value}{newId:String}(X:K.In h)(q:excIn K C bmB newId=true) :
  ∃ bm N nm q bs hdct sn sub ab col dd k0 k1 k2 k3 k5 mN,h.get? C=some (excClassObj nm q C N bs bm hdct sn sub ab col dd k0 k1 k2 k3 k5 newId)/\h.Ns N mN/\mN "__init__" = none/\OwnTail h bmB bm:=by
 unfold excIn at q
 split at q
 ·rename_i dd cd sl ho
  split at q
  ·rename_i C' bm k0 k1 k2 k3 n k5 hm hs
   simp only[Bool.and_eq_true,beq_iff_eq,Bool.not_eq_true']at q
   obtain⟨⟨⟨⟨⟨rfl,rfl⟩,hdel⟩,ht⟩,hok⟩,hni⟩:=q
   obtain⟨nm,bs,mro,ns,qn,hd,sn,sub,ab,col,del⟩:=cd
   dsimp only at hm hdel hok hni
   subst hm hdel
   have hsl:sl = #[k0,k1,k2,k3,some (.builtin n),k5]:=by
    obtain⟨l⟩:=sl
    simp only at hs
    rw[hs]
   subst hsl
   exact⟨bm,ns,nm,qn,bs,hd,sn,sub,ab,col,dd,k0,k1,k2,k3,k5,_,X _ _ ho,.of_isNs (isNs_of_in X hok),nsMap_none_of_in X hok hni,tail_of_in X ht⟩
  ·cases q
 ·cases q
section
variable {P:Program}{w:World}{K:PySem.W.Frag}{mg:Str->Option Value}{base:Heap}{N:List Str}{qual:Str}{scope:Scope}{f:Addr}{cd:Value}{A:Around}{outer:List Env}{s₀:Shared}{H₀:Hp}{E:XK}{pins:List (Addr×Obj)}{σ:St}{H:Hp}{s:Shared}
theorem z6r{nm txt:Str}{j:Nat}{np cpos tpos pos:Pos}(hA:A.handled=none)(hC:XNm K mg nm C)(hg:Gl (cxF P w K mg base N qual scope f cd A outer s₀ H₀ E) nm)(hdb:(nm==("__debug__":Str))=false:=by decide) :
  PS (cxF P w K mg base N qual scope f cd A outer s₀ H₀ E) (.Raise (some (.Call (.Name nm np) [.Constant (.str txt) j tpos] [] cpos)) none pos) (fun _ _ H=>E (.ref C) none H):=by
 intro pins s σ H D I h
 obtain⟨tl,Nn,nm',q,bs,hdct,sn,sub,ab,col,dd,k0,k1,k2,k3,k5,mN,hC',hN,hni,T⟩:=j0h I.mod.kin hC.ex
 refine wpAny_Raise_call_subT (C:=C) (nm:=nm') (q:=q) (N:=Nn) (bs:=bs) (bm:=tl) (hdct:=hdct) (sn:=sn) (sub:=sub) (ab:=ab) (col:=col) (dd:=dd) (k0:=k0) (k1:=k1) (k2:=k2) (k3:=k3) (k5:=k5)
  PySem.F.excBase_ValueError (mN:=mN) (T.hasType PySem.F.excBase_ValueError.hasBase) hA rfl hni (y1u I hg hC.mg ⟨rfl,?_⟩ hdb)
 refine Calls.evalArgs_plain (Calls.spliced_cons (thn (y8k (j:=j) (pos:=tpos) pins s σ H (fun v H1=>v=.str txt/\H1=H) I ⟨rfl,rfl⟩) fun u s1 hh0=>?_))
 obtain⟨v,H1,I1,r1,e1,e2⟩:=hh0
 subst e1 e2
 refine Calls.spliced_nil ⟨rfl,by show 1<=sizeLine;decide,I1.bk _ _ hC',hN.keeps I1.bk,T.keeps I1.bk,fun h' e hm=>y6t I1 hm h⟩
end
abbrev y11:=Rho->Option Str
def tX (K:PySem.W.Frag)(x:y11)(E:XK):TS:=fun _ σ H=>∃ ρ w nm,Good K ρ σ H w 0/\x ρ=some nm/\∀ C H' w',nsIn K mainGlobals nm=some (some (.ref C))->WL K w' H'->Go H w H' w'->E (.ref C) none H'
def spX (K:PySem.W.Frag)(n:Nat)(F:List D->Option Str):Sp:=fun vs H _ E=>vs.length=n/\∃ ds w nm,(∀ a o,w a=some o->o=.f)/\WL K w H/\Reps K H w .f 0 ds vs []/\F ds=some nm /\
 ∀ C H' w',nsIn K mainGlobals nm=some (some (.ref C))->WL K w' H'->Go H w H' w'->E (.ref C) none H'
def fnX (n:Nat)(x:y11):List D->Option Str:=fun ds=>x (x5v n ds)
def y7l (P:Program)(w:World)(K:PySem.W.Frag)(mg:Str->Option Value)(base:Heap)(k:Nat)(x:Str)(n:Nat)(F:List D->Option Str):Prop:=
 ∃ f fd ps,FnOk P w K mg base (CXF P w) k f fd ps (spX K n F)/\mg x=some (.ref f)/\PySem.W.keepIn K (.ref f)=true/\y4b K fd ps []
theorem y7l.mk{mg:Str->Option Value}{base:Heap}{k:Nat}{st:Stmt}{N ps:List Str}{xb:y11}(a:At K mg x st ps)(S:FnScope N ps (x0b st))
  (h:∀ (f:Addr) (cdv:Value) (A:Around) (outer:List Env) (s:Shared) (H:Hp) (E:XK),Room k (A.deeper (envOfC x (x0b st) s.heap.objs.size f cdv))->PSs (cxF P w K mg base N x (x0b st) f cdv A outer s H E) (x35 st) (tX K xb E)) :
  y7l P w K mg base (k+1) x ps.length (fnX N.length xb):=by
 obtain⟨f,fd,F,m,b⟩:=a
 refine⟨f,fd,ps,?_,m,F.kp,b⟩
 obtain⟨oc,od,kV,doc,pm,an,cdv,ct,osl,rfl,lk,hcd⟩:=F.ex
 refine z91 lk hcd S (fun vs H Q E h=>h.1) fun A outer s H vs Q E hr hsp=>⟨_,h f cdv A outer s H E hr,?_⟩
 obtain⟨hn,ds,w,nm,hw,wl,rs,e,k⟩:=hsp
 exact⟨_,w,nm,x7f hw wl rs,e,k⟩
def z5t (F:List D->Option Str)(n:Nat)(g:x1q):y11:=fun ρ=>match g ρ with
 | some (ds,_)=>if ds.length=n then F ds else none
 | none=>none
theorem z4e{K:Frag}{s:Shared}{x R:Addr}{ox:Obj}{Q:Bool->Shared->Prop}(X:K.In s.heap)(I:XAt s.heap x ox C)(hR:XCls K R)(hty:typeIn K (.ref R)=some (.type "type"))
  (hsub:subIn K (.ref C) (.ref R)=some true) (h:Q true s):wpAny M A (excMatches (.ref x) (.ref R)) Q E s:=by
 obtain⟨h0,g,d,tt,os⟩:=s
 have L0:=I.type (M:=M)
 have L1:=looks_typeIn (M:=M) X hty
 have L2:=x6o (M:=M) X hR.ci
 have L3:=looks_mroIn (M:=M) X hR.mb
 have L4:=looks_subIn (M:=M) X hsub
 have f:=tc_notTuple
 have L5:Looks M h0 (isSubtype (.type "type") (.type "tuple")) false:=Looks.of_pure f
 unfold excMatches isInstance isExcClass
 repeat (first|lk|wp_step)
 exact h
section
variable {X:Cx}{pins:List (Addr×Obj)}{σ:St}{H H':Hp}{s s':Shared}{a C t:Addr}{B:Heap}
theorem z36{Q:Unit->Shared->Prop}(I:Inv X pins σ H s)(hN:X.N.Nodup)(hi:X.N[i]? = some x)(hx:X.env.scope.names.lookup x=some .local)
  (h:∀ s',Inv X pins (σ.set i none) H s'->Q () s'):wpAny M A (do bindName X.env x .none;unbindBehindTheSuite X.env x pos) Q E s:=by
 obtain⟨m,hn,hl⟩:=id I.loc
 have hcls:(X.env.scope.kind == .class||(X.env.scope.kind == .module&&X.env.locals != X.env.globals))=false:=by rw[I.ok.kind];rfl
 have hiσ:i<σ.length:=by rw[I.len];exact(List.getElem?_eq_some_iff.mp hi).1
 have cne:=I.cne
 refine wpAny_nameGoes_keeps hx hn hcls fun h' v hn' hs=>?_
 obtain⟨oL,_,_,hoL,_⟩:=id hn
 have tracked:HOk X.prog X.w H h':=fun b ob e=>by
  refine(I.hok b ob e).stay (fun c w' hc q=>(hs.2 c ?_).trans q) (fun _ q=>q) fun _ _ q=>q
  rintro rfl
  rcases hc with rfl|hc
  ·rw[I.free]at e;cases e
  ·rw[I.free]at hc;cases hc
 refine h _ ⟨I.ok,I.os,I.bare,⟨fun b o e n hb hx=>?_,fun b o e n hb hx=>?_,I.base.free,fun b o e hx=>?_,I.base.tups,I.base.frzs,I.base.tbls⟩,⟨_,hn',fun j y v' e1 e2 e3=>?_⟩,fun y c e=>?_,I.free,I.freeC,fun p hp=>?_,tracked,by simpa using I.len⟩
 ·exact(hs.2 b (Nat.ne_of_lt (Nat.lt_of_lt_of_le (Heap.lt_size e) I.ok.above))).trans (I.base.keep b o e n hb hx)
 ·obtain⟨sl,e1⟩:=I.base.slot b o e n hb hx
  exact⟨sl,(hs.2 b (Nat.ne_of_lt (Nat.lt_of_lt_of_le (Heap.lt_size e) I.ok.above))).trans e1⟩
 ·obtain⟨o',e1⟩:=I.base.there b o e hx
  exact⟨o',(hs.2 b (Nat.ne_of_lt (Nat.lt_of_lt_of_le (Heap.lt_size e) I.ok.above))).trans e1⟩
 ·by_cases hj:j=i
  ·subst hj
   rw[List.getElem?_set_self hiσ]at e2
   cases e2
  ·rw[List.getElem?_set_ne (Ne.symm hj)]at e2
   obtain⟨u',r',q⟩:=hl j y v' e1 e2 e3
   refine⟨u',r',?_⟩
   rcases q with⟨k,e⟩|⟨k,c,e,z⟩
   ·refine .inl ⟨k,?_⟩
    have:y≠x:=fun e=>hj (y4l hN e1 (e ▸ hi))
    simp[this,e]
   ·exact .inr ⟨k,c,e,z.sameBut hs (cne y c e)⟩
 ·obtain⟨w',z⟩:=I.cell y c e
  exact⟨w',z.sameBut hs (cne y c e)⟩
 ·obtain⟨e,n,ne,nf,d⟩:=I.pin p hp
  exact⟨(hs.2 p.1 ne).trans e,n,ne,nf,d⟩
def j1x (a:Addr)(oe:Obj):HO:=.frz oe (.ext fun h=>h.get? a=some oe)
theorem Fly.un2(I:Inv X pins σ H s)(F:Fly X.prog X.w X.stack H s a C t B H' s')(fl:Heap.FlyingW B X.stack a (.ref C) (.ref t) h')(up:s'.heap.UpToSlots h'):Un (frs X.stack) [] H H' s.heap h'/\HOk X.prog X.w H' h':=by
 have slot:∀ b o,s.heap.get? b=some o->H b=none->b∈frs X.stack->∃ sl,h'.get? b=some { o with slots:=sl }:=fun b o q n hb=>by
  obtain⟨sl,q1⟩:=F.un.slot b o q n hb (by simp)
  obtain⟨_,o',ho,hd⟩:=I.stack.mem hb
  rw[q]at ho;cases ho
  obtain⟨sl',q2⟩:=up b _ q1 hd
  exact⟨sl',q2⟩
 refine⟨⟨fun b o q n hb _=>fl.1 b o (F.old b o q n hb),fun b o q n hb _=>slot b o q n hb,F.un.free,fun b o q _=>?_,F.un.tups,F.un.frzs,F.un.tbls⟩,y7c F.hok fun b u o q e=>fl.1 b o (F.trk b u o q e)⟩
 by_cases hb:b∈frs X.stack
 ·obtain⟨sl,q2⟩:=slot b o q (I.stkFree b hb) hb
  exact⟨_,q2⟩
 ·obtain⟨o2,q2⟩:=F.oldT b o q hb
  exact⟨o2,fl.1 b o2 q2⟩
theorem Fly.inv(I:Inv X pins σ H s)(F:Fly X.prog X.w X.stack H s a C t B H' s')(fl:Heap.FlyingW B X.stack a (.ref C) (.ref t) h')(up:s'.heap.UpToSlots h'):Inv X pins σ H' { s' with heap:=h' }:=
 I.call' (s':={ s' with heap:=h' }) F.os (F.un2 I fl up).1 (F.un2 I fl up).2 F.bare (fun b hb=>nomatch hb)
theorem Fly.inv2(I:Inv X pins σ H s)(F:Fly X.prog X.w X.stack H s a C t B H' s')(fl:Heap.FlyingW B X.stack a (.ref C) (.ref t) h')(up:s'.heap.UpToSlots h'){oe:Obj}{vs:Array Value}(ho:h'.get? a=some oe)(hd:oe.data=.fields vs) :
  Inv X pins σ (upd H' a (j1x a oe)) { s' with heap:=h' }:=by
 obtain⟨u,hk⟩:=F.un2 I fl up
 have na:∀ b x,H' b=some x->upd H' a (j1x a oe) b=some x:=fun b x q=>by
  unfold upd
  rw[if_neg (fun z=>by rw[z,F.free]at q;cases q)]
  exact q
 have nfr:a ∉ frs X.stack:=fun hb=>by
  obtain⟨_,o',ho',hd'⟩:=fl.2.2.1.mem hb
  rw[ho]at ho';cases ho'
  exact hd' vs hd
 refine I.call' (s':={ s' with heap:=h' }) F.os ⟨u.keep,u.slot,fun b o q n e=>?_,u.there,fun b xs q=>na b _ (u.tups b xs q),fun b o' u' q=>na b _ (u.frzs b o' u' q),fun b ps q=>?_⟩ (fun b x q=>?_) F.bare (fun b hb=>nomatch hb)
 ·unfold upd
  rw[if_neg (fun z=>?_)]
  ·exact u.free b o q n e
  ·subst z
   obtain⟨o2,q2⟩:=F.oldT b o q nfr
   rw[fl.2.1]at q2;cases q2
 ·obtain⟨m,q1⟩:=u.tbls b ps q
  exact⟨m,na b _ q1⟩
 ·by_cases hb:b=a
  ·subst hb
   unfold upd at q
   rw[if_pos rfl]at q
   cases q
   exact⟨ho,ho,⟨_,ho⟩,fun h1 h2 q1 q2=>q2 _ q1⟩
  ·have q':=q
   unfold upd at q
   rw[if_neg hb]at q
   exact(hk b x q).stay (fun _ _ _ z=>z) (fun c z=>na c _ z) (fun c xs z=>na c _ z)
abbrev Cx.mark (X:Cx)(e:Value):Cx:={ X with A:=X.A.mark (some e),calm:=false,xe:=fun _ _=>False }
theorem Inv.mark(I:Inv X pins σ H s)(e:Value):Inv (Cx.mark X e) pins σ H s:=
 ⟨⟨I.ok.mod,I.ok.kind,I.ok.glob,I.ok.blt,I.ok.above,I.ok.inj,I.ok.has,I.ok.cab,(fun z=>by cases z),I.ok.frames,I.ok.stk,I.ok.exf,I.ok.bs,I.ok.bsz,I.ok.noex,I.ok.exfs,I.ok.funs,I.ok.frf⟩,I.os,I.bare,I.base,I.loc,I.cell,I.free,I.freeC,I.pin,I.hok,I.len⟩
theorem Inv.unmark{e:Value}(hX:X.Ok)(I:Inv (Cx.mark X e) pins σ H s):Inv X pins σ H s:=⟨hX,I.os,I.bare,I.base,I.loc,I.cell,I.free,I.freeC,I.pin,I.hok,I.len⟩
theorem z6v{R n kx:Str}{RA:Addr}{np kp vp apos:Pos}{ie ik:Nat}{Q:Flow->Shared->Prop}(I:Inv X pins σ H s)(F:Fly X.prog X.w X.stack H s a C t B H' s')(hst:X.stack=X.env::X.outer)(hfm:X.env.frame=some X.env.locals)
  (hN:X.N.Nodup) (hie:X.N[ie]? = some n) (hik:X.N[ik]? = some kx) (hne:X.env.scope.names.lookup n=some .local) (hnk:X.env.scope.names.lookup kx=some .local) (hR:XCls X.K RA) (hRt:typeIn X.K (.ref RA)=some (.type "type")) (hsub:subIn X.K (.ref C) (.ref RA)=some true) (hmg:X.mg R=some (.ref RA)) (hg:Gl X R)
  (hdb:(R==("__debug__":Str))=false) (hdn:(n==("__debug__":Str))=false) (hcn:(n==("__classdict__":Str))=false) (hsw:swapsWith (.Name n vp) (some (.Name kx kp)) apos.line X.env=pure false)
  (hQ:∀ s5 oe,oe.cls=.ref C->Inv X pins (((σ.set ie (some (.ref a))).set ik (some (.ref a))).set ie none) (upd H' a (j1x a oe)) s5->Q .next s5) :
  wpAny (model X.prog X.w) X.A (noteFrame (.ref a) X.env) (fun _ s₂=>wpAny (model X.prog X.w) X.A (setFlight (.ref a) none) (fun _ s₃=>
   wpAny (model X.prog X.w) X.A (handleBy (.ref a) X.env [.ExceptHandler (some (.Name R np)) (some n) [.Assign [.Name kx kp] (.Name n vp) apos] pos]) Q E s₃) E s₂) E s':=by
 have hiσ:ie<σ.length:=by rw[I.len];exact(List.getElem?_eq_some_iff.mp hie).1
 have fl0:=F.fl
 have hst':=hst
 rw[hst]at fl0
 refine wpAny_looks_onW (L:=X.env.locals) (outer:=X.outer) (by rw[<- hst];exact I.ok.frames) hfm fl0 fun h₄ hheld₄ up₄=>?_
 refine wpAny_landsW hheld₄ fun h₅ fl₅ up₅=>?_
 have fl₅':=fl₅
 rw[<- hst]at fl₅'
 have I5:=F.inv I fl₅' (up₄.trans up₅)
 obtain⟨ob,hob,hobc⟩:=fl₅'.there
 have J5:=Inv.mark I5 (.ref a)
 refine wpAny_handleBy_cons (codeAny_handlers_test (y1u (X:=Cx.mark X (.ref a)) J5 hg hmg ?_ hdb)) (by intro q;cases q)
 refine z4e J5.kIn ⟨hob,hobc⟩ hR hRt hsub ?_
 refine codeAny_handlers_suite_as ?_
 refine lands_againW fl₅ fun h₆ fl₆ up₆=>?_
 have fl₆':=fl₆
 rw[<- hst]at fl₆'
 obtain⟨oe,ws,hoe,hoec,hoed,hoe0⟩:=fl₆'.first
 have I6:=F.inv2 I fl₆' ((up₄.trans up₅).trans up₆) hoe hoed
 refine y47 (v:=.ref a) I6 hN hie (.inl hne) rfl (fun s7 I7=>?_) (.inr hne)
 have J7:=Inv.mark I7 (.ref a)
 have body:=y4j (z2r (X:=Cx.mark X (.ref a)) (i:=ik) (x:=kx) (pos:=apos) (pos':=kp) hN hik (.inl hnk) (pv (X:=Cx.mark X (.ref a)) ie (x:=n) (pos:=vp) hie (.inl hne) hdn hcn) hsw (.inr hnk))
 refine wpAny_mono (body pins s7 _ _ { nx:=fun σ' H1=>σ'=(σ.set ie (some (.ref a))).set ik (some (.ref a))/\H1=upd H' a (j1x a oe),rt:=fun _ _=>False } J7 ⟨.ref a,List.getElem?_set_self hiσ,rfl,rfl⟩) (fun fl s8 q=>?_) (fun _ _ z=>False.elim z)
 cases fl with
 | next=>
  obtain⟨σ8,H8,J8,rfl,rfl⟩:=q
  exact z36 (Inv.unmark I.ok J8) hN hie hne fun s9 I9=>hQ s9 oe hoec I9
 | brk=>obtain⟨_,_,_,z⟩:=q;exact z.elim
 | cont=>obtain⟨_,_,_,z⟩:=q;exact z.elim
 | ret u=>obtain⟨_,_,_,_,_,z⟩:=q;exact z.elim
end
theorem Good.unset{w:Wn}{v:Option V}(g:Good K ρ σ H w t)(hi:i<σ.length) :
  Good K (ρ.set i none) (σ.set i v) H (x60 i w) t/\Go H w H (x60 i w):=by
 have st:x84 H w H (x60 i w):=fun a x h n=>⟨sm h,x5n n⟩
 refine⟨⟨⟨fun a o h=>g.wl a o (x3a h).1,g.wl.tb⟩,fun a j h=>by rw[List.length_set];exact g.ws a j (x3a h).1,fun a j h=>g.wt a j (x3a h).1,by rw[List.length_set,List.length_set];exact g.len,fun j d' q' e'=>?_⟩,⟨st,fun a o h n=>⟨rfl,x7b h (n i)⟩⟩⟩
 by_cases hj:i=j
 ·subst hj
  rw[List.getElem?_set_self (by rw[g.len];exact hi)]at e'
  cases e'
 ·rw[List.getElem?_set_ne hj]at e'
  obtain⟨v',F,h1,h2⟩:=g.slot j d' q' e'
  exact⟨v',F,by rw[List.getElem?_set_ne hj];exact h1,Rep.go g.wl st h2 fun a m=>⟨rfl,x7b (h2.owns a m) (fun z=>hj (by cases z;rfl))⟩⟩
theorem Good.grow{H':Hp}{w:Wn}(g:Good K ρ σ H w t)(h:∀ b o,H b=some o->Sm o (H' b))(tb:TB K H'):Good K ρ σ H' w t/\Go H w H' w:=by
 have st:x84 H w H' w:=fun a x e n=>⟨h a x e,n⟩
 have kp:∀ a o,w a=some o->H' a=H a:=fun a o e=>by
  obtain⟨vs,q⟩:=g.wl a o e
  rw[q,(h a _ q).eq rfl]
 refine⟨⟨⟨fun a o e=>?_,tb⟩,g.ws,g.wt,g.len,fun i d q e=>?_⟩,st,fun a o e _=>⟨kp a o e,e⟩⟩
 ·obtain⟨vs,q⟩:=g.wl a o e
  exact⟨vs,(h a _ q).eq rfl⟩
 ·obtain⟨v,F,h1,h2⟩:=g.slot i d q e
  exact⟨v,F,h1,Rep.go g.wl st h2 fun a m=>⟨kp a _ (h2.owns a m),h2.owns a m⟩⟩
def y2s (K:Frag)(mg:Str->Option Value)(R:Str)(L:List Str):Prop:=∃ RA,XCls K RA/\typeIn K (.ref RA)=some (.type "type")/\mg R=some (.ref RA) /\
 ∀ nm∈L,∀ C,nsIn K mainGlobals nm=some (some (.ref C))->XKls K nm C/\subIn K (.ref C) (.ref RA)=some true
end L3
namespace L3
open PySem PySem.Spec PyProof.Rows PySem.W L2 PySem.SeqAt
variable {K:PySem.W.Frag}{L:List Str}
def IsC (K:Frag)(mg:Str->Option Value)(L:List Str)(nm:Str):Prop:=∃ C,mg nm=some (.ref C)/\∀ n∈L,∀ B,nsIn K mainGlobals n=some (some (.ref B))->(n=nm->isIn K (.ref B) C=true)/\(n≠nm->kin_not K B C=true)
section
variable {X:Cx}{a b c e:Expr}{es:List Expr}{fa fb fc f:Den}{ga gb:x1u}{g:x1q}{pos p p1 p2 pT cpos apos:Pos}
theorem z5o{C:Addr}{nm:Str}(h:∀ n∈L,∀ B,nsIn X.K mainGlobals n=some (some (.ref B))->(n=nm->isIn X.K (.ref B) C=true)/\(n≠nm->kin_not X.K B C=true)) :
  y0s X (.builtin "isinstance") (fun xs H Q=>∃ x w o q F n,xs=[x,.ref C]/\n∈L/\Rep X.K H w o q (.exc n) x F/\Q (.bl (n==nm)) H):=by
 intro pins s σ H xs us Q I r hh
 obtain⟨x,w,o,q,F,n,rfl,hn,rd,hq⟩:=hh
 obtain⟨u,v,rfl,ru,rv⟩:=z4p r
 cases rv
 cases rd with
 | exc ha xo _=>
  obtain⟨B,hc,k⟩:=xo
  cases ru
  obtain⟨e1,_⟩:=(show x29 X.prog X.w H s.heap _ (.frz _ _)from I.hok _ _ ha)
  obtain⟨h1,h2⟩:=h n hn B k.ns
  by_cases z:n=nm
  ·rw[beq_iff_eq.mpr z]at hq
   exact j36 I.kIn ⟨e1,hc⟩ (h1 z) ⟨.bl true,H,I,rfl,hq⟩
  ·rw[beq_eq_false_iff_ne.mpr z]at hq
   exact j6h I.kIn ⟨e1,hc⟩ k.xc (h2 z) ⟨.bl false,H,I.tok _,rfl,hq⟩
def z6z (L:List Str)(nm:Str)(fa:Den):Den:=fun ρ=>match fa ρ with
 | some (.exc n,_,ρ1)=>if n∈L then some (.bl (n==nm),9,ρ1)else none
 | _=>none
theorem j2r{nm:Str}(hC:IsC X.K X.mg L nm)(hm:X.mg "isinstance" = none)(ha:PD X a fa)(hg:Gl X "isinstance":=by rfl)(hgT:Gl X nm:=by rfl)(hdT:(nm==("__debug__":Str))=false:=by decide)
  (hs:starEach [a,.Name nm pT] X.env=(false,eval a X.env)::starEach [.Name nm pT] X.env:=by rfl) (hpl:(backTo pos (starEach [.Name nm pT] X.env)).any (·.1)=false:=by rfl):PD X (.Call (.Name "isinstance" p) [a,.Name nm pT] [] pos) (z6z L nm fa):=by
 obtain⟨C,hmC,hall⟩:=hC
 refine PE.imp (x59 (z5o hall) hg hm PyProof.Rows.boot_isinstance (x3i ha (x3i (z9x (v:=.ref C) hgT hmC rfl hdT) x6h x04) hs) (by decide) (by decide) hs hpl) fun σ H Q hh0=>?_
 obtain⟨ρ,w,t,r',q,ρ',gd,ee,k⟩:=hh0
 unfold z6z at ee
 split at ee
 ·rename_i n q1 ρ1 h1
  split at ee
  ·rename_i hL
   cases ee
   refine⟨ρ,w,t,_,_,_,gd,h1,fun v H1 w1 F1 g1 go1 r1=>?_⟩
   exact⟨v,w1,_,_,F1,n,rfl,hL,r1,k _ H1 (x1o t w1) [] g1.drop.up (go1.drop gd.wt) (.bl _)⟩
  ·cases ee
 ·cases ee
theorem z4j:y0s X (.builtin "isinstance") (fun xs H Q=>∃ x w o q F n,xs=[x,.ty "ValueError"]/\Rep X.K H w o q (.exc n) x F/\Q (.bl true) H):=by
 intro pins s σ H xs us Q I r hh
 obtain⟨x,w,o,q,F,n,rfl,rd,hq⟩:=hh
 obtain⟨u,v,rfl,ru,rv⟩:=z4p r
 cases rv
 cases rd with
 | exc ha xo _=>
  obtain⟨B,hc,k⟩:=xo
  cases ru
  obtain⟨e1,_⟩:=(show x29 X.prog X.w H s.heap _ (.frz _ _)from I.hok _ _ ha)
  exact j17 I.kIn ⟨e1,hc⟩ (by kernel_rfl) k.ve ⟨.bl true,H,I,rfl,hq⟩
def j5z (fa:Den):Den:=fun ρ=>match fa ρ with
 | some (.exc n,_,ρ1)=>some (.bl true,9,ρ1)
 | _=>none
theorem j5h(hm:X.mg "isinstance" = none)(hmT:X.mg "ValueError" = none)(ha:PD X a fa)(hg:Gl X "isinstance":=by rfl)(hgT:Gl X "ValueError":=by rfl)
  (hs:starEach [a,.Name "ValueError" pT] X.env=(false,eval a X.env)::starEach [.Name "ValueError" pT] X.env:=by rfl) (hpl:(backTo pos (starEach [.Name "ValueError" pT] X.env)).any (·.1)=false:=by rfl):PD X (.Call (.Name "isinstance" p) [a,.Name "ValueError" pT] [] pos) (j5z fa):=by
 refine PE.imp (x59 z4j hg hm PyProof.Rows.boot_isinstance (x3i ha (x3i (z3d (v:=.ty "ValueError") hgT hmT (by kernel_rfl) rfl (by decide) (by decide)) x6h x04) hs) (by decide) (by decide) hs hpl) fun σ H Q hh0=>?_
 obtain⟨ρ,w,t,r',q,ρ',gd,ee,k⟩:=hh0
 unfold j5z at ee
 split at ee
 ·rename_i n q1 ρ1 h1
  cases ee
  refine⟨ρ,w,t,_,_,_,gd,h1,fun v H1 w1 F1 g1 go1 r1=>?_⟩
  exact⟨v,w1,_,_,F1,n,rfl,r1,k _ H1 (x1o t w1) [] g1.drop.up (go1.drop gd.wt) (.bl _)⟩
 ·cases ee
def j2s:D->D->Option D
 | .non,.non=>some (.bl true)
 | .exc _,.non=>some (.bl false)
 | .int _,.non=>some (.bl false)
 | .tup _,.non=>some (.bl false)
 | .str _,.non=>some (.bl false)
 | _,_=>none
def j7q:R2:=fun x y H Q=>y=.non/\((x=.non/\Q (.bl true) H)\/((∃ i,x=.int i)\/(∃ i,x=.str i)\/(∃ i,x=.ref i))/\Q (.bl false) H)
theorem z7n:OpR X (compareOp .Is) j7q:=by
 intro pins s σ H x y v u Q I rx ry h
 obtain⟨rfl,h⟩:=h
 cases ry
 rcases h with⟨rfl,q⟩|⟨⟨i,rfl⟩|⟨i,rfl⟩|⟨i,rfl⟩,q⟩
 ·cases rx
  exact wpAny_pure ⟨.bl true,H,I,rfl,q⟩
 ·obtain⟨t,rfl⟩:=rx
  exact wpAny_pure ⟨.bl false,H,I,rfl,q⟩
 ·obtain⟨t,rfl⟩:=rx
  exact wpAny_pure ⟨.bl false,H,I,rfl,q⟩
 ·cases rx
  exact wpAny_pure ⟨.bl false,H,I,rfl,q⟩
theorem j8a:∀ σ H Q,tD K (e2 j2s fa fb) σ H Q->tOp j7q (tD K fa) (tD K fb) σ H Q:=x8i fun x y d h=>by
 unfold j2s at h
 split at h
 ·cases h
  exact⟨_,rfl,fun H w o o' q q' u u' F F' r1 r2 _ Q hq=>by cases r1;cases r2;exact⟨rfl,.inl ⟨rfl,hq⟩⟩⟩
 ·cases h
  exact⟨_,rfl,fun H w o o' q q' u u' F F' r1 r2 _ Q hq=>by cases r1;cases r2;exact⟨rfl,.inr ⟨.inr (.inr ⟨_,rfl⟩),hq⟩⟩⟩
 ·cases h
  exact⟨_,rfl,fun H w o o' q q' u u' F F' r1 r2 _ Q hq=>by cases r1;cases r2;exact⟨rfl,.inr ⟨.inl ⟨_,rfl⟩,hq⟩⟩⟩
 ·cases h
  exact⟨_,rfl,fun H w o o' q q' u u' F F' r1 r2 _ Q hq=>by cases r1;cases r2;exact⟨rfl,.inr ⟨.inr (.inr ⟨_,rfl⟩),hq⟩⟩⟩
 ·cases h
  exact⟨_,rfl,fun H w o o' q q' u u' F F' r1 r2 _ Q hq=>by cases r1;cases r2;exact⟨rfl,.inr ⟨.inr (.inl ⟨_,rfl⟩),hq⟩⟩⟩
 ·cases h
theorem j1j(ha:PD X a fa)(hb:PD X b fb):PDT X (.Compare a [.Is] [b] pos) (x3d (e2 j2s fa fb)):=x6y z7n j8a ha hb (y09 _)
def z3b (d:D)(ds:List D):Nat:=(x6t ds).countP fun y=>PyData.eqv y (toP d)
def j6n (K:PySem.W.Frag):V->List V->Hp->VK->Prop:=fun x xs H Q=>∃ ds d y,xs=[y]/\Is K H (.lst ds) x/\Is K H d y/\okD (.lst ds)=true/\okD d=true/\Q (.int (Int.ofNat (z3b d ds))) H
theorem j08(hu:X.A.units+65<cLine):MtR X "list.count" (j6n X.K):=by
 intro pins s σ H x xs v us Q I rx rs ⟨ds,d,y,e,⟨w,o,q,F,h1⟩,⟨w',o',q',F',h2⟩,k1,k2,hq⟩
 subst e
 obtain⟨u,rfl,ru⟩:=x9r rs
 obtain⟨as,ra⟩:=h1.reads I rx (x92 k1)
 obtain⟨bs,rb⟩:=h2.reads I ru (x92 k2)
 replace k1:=x8j k1
 replace k2:=x8j k2
 unfold toP at ra k1
 have hc1:PyData.canLayAll0 (x6t ds)=true:=SeqAt.canLay_of_shaped k1
 have hc2:=SeqAt.canLay_of_shaped k2
 cases ra with
 | @list a ob vs n _ _ ho hcl hd hrs=>
  obtain⟨cls,dd,data,sl⟩:=ob
  simp only at hcl hd
  subst hcl hd
  have hmap:=SeqAt.readsAll_map _ _ _ hc1 hrs
  have hcnt:vs.toList.countP (fun y=>PyData.eqv (SeqAt.readOf s.heap y) (toP d))=z3b d ds:=by
   unfold z3b
   rw[<- hmap,List.countP_map]
   rfl
  refine call_meets PySem.F.slot_list_count ⟨_,ho,rfl⟩ PySem.F.entry_list_count (PySem.F.args_list_count_2 _ _)
   (list_countAt a vs n dd sl u (fun y=>PyData.eqv (SeqAt.readOf s.heap y) (toP d))) ⟨ho,SeqAt.items_eqAt hrs rb hc1 hc2 (room_in_shaped k2 hu),?_⟩
  rw[hcnt]
  exact⟨.int (Int.ofNat (z3b d ds)),H,I.tok _,⟨_,rfl⟩,hq⟩
def j63 (fo:Den)(g:x1q):Den:=fun ρ=>match fo ρ with
 | some (.lst ds,_,ρ1)=>match g ρ1 with
  | some ([d],ρ2)=>if okD (.lst ds)=true/\okD d=true then some (.int (Int.ofNat (z3b d ds)),9,ρ2)else none
  | _=>none
 | _=>none
def j0m (K:PySem.W.Frag):V->List V->Hp->VK->Prop:=fun x xs H Q=>∃ ds d y j,xs=[y]/\Is K H (.lst ds) x/\Is K H d y/\okD (.lst ds)=true/\okD d=true/\j23 d ds=some j/\(j:Int)<1000/\Q (.int (Int.ofNat j)) H
theorem z26(hu:X.A.units+65<cLine):MtR X "list.index" (j0m X.K):=by
 intro pins s σ H x xs v us Q I rx rs ⟨ds,d,y,j,e,⟨w,o,q,F,h1⟩,⟨w',o',q',F',h2⟩,k1,k2,hj,hsm,hq⟩
 subst e
 obtain⟨u,rfl,ru⟩:=x9r rs
 obtain⟨as,ra⟩:=h1.reads I rx (x92 k1)
 obtain⟨bs,rb⟩:=h2.reads I ru (x92 k2)
 replace k1:=x8j k1
 replace k2:=x8j k2
 unfold toP at ra k1
 have hc1:PyData.canLayAll0 (x6t ds)=true:=SeqAt.canLay_of_shaped k1
 have hc2:=SeqAt.canLay_of_shaped k2
 cases ra with
 | @list a ob vs n _ _ ho hcl hd hrs=>
  obtain⟨cls,dd,data,sl⟩:=ob
  simp only at hcl hd
  subst hcl hd
  have hmap:=SeqAt.readsAll_map _ _ _ hc1 hrs
  have hfi:=List.findIdx?_eq_some_iff_getElem.mp hj
  obtain⟨hjl,hjt,hjf⟩:=hfi
  have hlen:vs.size=(x6t ds).length:=by rw[<- hmap];simp
  have hat:∀ m (hm:m<vs.size) (hm':m<(x6t ds).length),SeqAt.readOf s.heap vs[m]=(x6t ds)[m]:=fun m hm hm'=>by
   have:(vs.toList.map (SeqAt.readOf s.heap))[m]? = (x6t ds)[m]?:=by rw[hmap]
   simpa [hm,hm']using this
  refine call_meets PySem.F.slot_list_index ⟨_,ho,rfl⟩ PySem.F.entry_list_index (PySem.F.args_list_index_2 _ _)
   (list_indexAt a vs n dd sl u (fun y=>PyData.eqv (SeqAt.readOf s.heap y) (toP d)) j (by omega) (by omega) (by rw[hat j (by omega) hjl];simpa using hjt) (fun m hm hmj=>by rw[hat m hm (by omega)];simpa using hjf m hmj)) ⟨ho,SeqAt.items_eqAt hrs rb hc1 hc2 (room_in_shaped k2 hu),?_⟩
  exact⟨.int (Int.ofNat j),H,I.tok _,⟨_,rfl⟩,hq⟩
def y3q (fo:Den)(g:x1q):Den:=fun ρ=>match fo ρ with
 | some (.lst ds,_,ρ1)=>match g ρ1 with
  | some ([d],ρ2)=>if okD (.lst ds)=true/\okD d=true then match j23 d ds with
   | some j=>if(j:Int)<1000 then some (.int (Int.ofNat j),9,ρ2)else none
   | none=>none
   else none
  | _=>none
 | _=>none
theorem Rep.sqL{H:Hp}{w:Wn}{ds:List D}{v:V}{F:List Addr}(r:Rep K H w .f 0 (.lst ds) v F):∃ a us,v=.ref a/\SqL K H a us:=by
 cases r with
 | kl h _=>exact⟨_,_,rfl,.inr h⟩
 | shr h _ _=>exact⟨_,_,rfl,.inl h⟩
theorem z8c{k:Nat}(hr:Room k X.A)(ho:PD X a fa)(ha:PDA X [e] g)
  (hbase:attributeBase a "count" X.env (eval a X.env)=eval a X.env:=by rfl)
  (hfew:((backTo cpos (starEach [e] X.env)).all (fun x=>!x.1)&&(backToKw cpos (keywordEach [] X.env)).all (fun x=>x.1.isSome)
    && decide ([e].length+([]:List Keyword).length+(if([]:List Keyword).isEmpty then 0 else 1)<30))=true:=by rfl)
  (hline:(apos.endLine==cpos.line)=true:=by rfl) (hs:starEach [e] X.env=(false,eval e X.env)::starEach [] X.env:=by rfl) (hplain:(backTo cpos (starEach [] X.env)).any (·.1)=false:=by rfl) :
  PD X (.Call (.Attribute a "count" apos) [e] [] cpos) (j63 fa g):=
 PE.imp (z0h PySem.F.plainAttrs_list PySem.F.slot_list_count PySem.F.type_list_count (j08 (u65 hr)) ho ha hbase hfew hline hs hplain) fun σ H Q hh0=>by
 obtain⟨ρ,w,t,r',q,ρ',gd,ee,k⟩:=hh0
 unfold j63 at ee
 split at ee
 ·rename_i ds q1 ρ1 h1
  split at ee
  ·rename_i d ρ2 h2
   split at ee
   ·rename_i hok
    cases ee
    refine⟨ρ,w,t,_,_,_,gd,h1,fun v H1 w1 F1 g1 go1 r1=>?_⟩
    have r0:=r1.drop (o:=.f) (Nat.le_refl t)
    have gg:=g1.drop (t':=t)
    obtain⟨p0,us,rfl,hq⟩:=Rep.sqL r0
    refine⟨.inl ⟨rfl,us,hq⟩,ρ1,x1o t w1,t,_,_,gg,h2,fun vs2 H2 w2 g2 go2 r2=>?_⟩
    obtain⟨v2,rfl,rv2⟩:=one r2
    have r3:Rep X.K H2 w2 .f 0 (.lst ds) (.ref p0) []:=r0.go0 gg.wl go2.stab
    exact⟨ds,d,v2,rfl,⟨_,_,_,_,r3⟩,⟨_,_,_,_,rv2⟩,hok.1,hok.2,k _ H2 w2 [] g2.up ((go1.drop gd.wt).trans go2) (.int _)⟩
   ·cases ee
  ·cases ee
 ·cases ee
theorem z31{k:Nat}(hr:Room k X.A)(ho:PD X a fa)(ha:PDA X [e] g)
  (hbase:attributeBase a "index" X.env (eval a X.env)=eval a X.env:=by rfl)
  (hfew:((backTo cpos (starEach [e] X.env)).all (fun x=>!x.1)&&(backToKw cpos (keywordEach [] X.env)).all (fun x=>x.1.isSome)
    && decide ([e].length+([]:List Keyword).length+(if([]:List Keyword).isEmpty then 0 else 1)<30))=true:=by rfl)
  (hline:(apos.endLine==cpos.line)=true:=by rfl) (hs:starEach [e] X.env=(false,eval e X.env)::starEach [] X.env:=by rfl) (hplain:(backTo cpos (starEach [] X.env)).any (·.1)=false:=by rfl) :
  PD X (.Call (.Attribute a "index" apos) [e] [] cpos) (y3q fa g):=
 PE.imp (z0h PySem.F.plainAttrs_list PySem.F.slot_list_index PySem.F.type_list_index (z26 (u65 hr)) ho ha hbase hfew hline hs hplain) fun σ H Q hh0=>by
 obtain⟨ρ,w,t,r',q,ρ',gd,ee,k⟩:=hh0
 unfold y3q at ee
 split at ee
 ·rename_i ds q1 ρ1 h1
  split at ee
  ·rename_i d ρ2 h2
   split at ee
   ·rename_i hok
    split at ee
    ·rename_i j hj
     split at ee
     ·rename_i hsm
      cases ee
      refine⟨ρ,w,t,_,_,_,gd,h1,fun v H1 w1 F1 g1 go1 r1=>?_⟩
      have r0:=r1.drop (o:=.f) (Nat.le_refl t)
      have gg:=g1.drop (t':=t)
      obtain⟨p0,us,rfl,hq⟩:=Rep.sqL r0
      refine⟨.inl ⟨rfl,us,hq⟩,ρ1,x1o t w1,t,_,_,gg,h2,fun vs2 H2 w2 g2 go2 r2=>?_⟩
      obtain⟨v2,rfl,rv2⟩:=one r2
      have r3:Rep X.K H2 w2 .f 0 (.lst ds) (.ref p0) []:=r0.go0 gg.wl go2.stab
      exact⟨ds,d,v2,j,rfl,⟨_,_,_,_,r3⟩,⟨_,_,_,_,rv2⟩,hok.1,hok.2,hj,hsm,k _ H2 w2 [] g2.up ((go1.drop gd.wt).trans go2) (.int _)⟩
     ·cases ee
    ·cases ee
   ·cases ee
  ·cases ee
 ·cases ee
end
end L3
namespace L3
open PySem PySem.Spec PyProof.Rows L2
section
variable {X:Cx}{a b c e:Expr}{fa fb fc f:Den}{pos p p1 p2 pT cpos apos:Pos}
@[simp] def y6q (fa:Den)(fl fh:z28):Den:=fun ρ=>match fa ρ with
 | some (.lst ds,_,ρ1)=>match fl ρ1 with
  | some (lo,ρ2)=>match fh ρ2 with
   | some (hi,ρ3)=>some (.lst (z7k ds lo hi),1,ρ3)
   | none=>none
  | none=>none
 | _=>none
theorem j5f{lo hi:Option Expr}{fl fh:z28}(ha:PD X a fa)(hl:PDO X lo fl)(hh:PDO X hi fh):PD X (.Subscript a (.Slice lo hi none p2) pos) (y6q fa fl fh):=PE.imp (y8h j0y ha hl hh) fun σ H Q hh0=>by
 obtain⟨ρ,w,t,r',q,ρ',gd,ee,k⟩:=hh0
 unfold y6q at ee
 split at ee
 ·rename_i ds q1 ρ1 h1
  split at ee
  ·rename_i lo ρ2 h2
   split at ee
   ·rename_i hi ρ3 h3
    cases ee
    refine⟨ρ,w,t,_,_,_,gd,h1,fun v H1 w1 F1 g1 go1 r1=>?_⟩
    have gg1:=g1.drop (t':=t)
    have r0:=r1.drop (o:=.f) (Nat.le_refl t)
    refine⟨ρ1,x1o t w1,t,_,_,gg1,h2,fun H2 w2 g2 go2=>⟨ρ2,w2,t,_,_,g2,h3,fun H3 w3 g3 go3=>?_⟩⟩
    have r3:=(r0.go0 gg1.wl go2.stab).go0 g2.wl go3.stab
    obtain⟨p1,vs,rfl,q1',s1⟩:=r3.seqL0
    have l1:=s1.length
    refine⟨p1,vs,rfl,q1',fun p hp=>?_⟩
    have s4:Reps X.K H3 w3 .f 0 (z7k ds lo hi) (z42 vs lo hi) []:=by
     unfold z7k z42
     rw[<- l1]
     exact(s1.drop0 _).take0 _
    obtain⟨a1,a2,a3⟩:=alloc g3 hp s4
    exact k _ _ _ _ a1 ((((go1.drop gd.wt).trans go2).trans go3).trans a2) a3
   ·cases ee
  ·cases ee
 ·cases ee
end
end L3
namespace L3
open PySem PySem.Spec PyProof.Rows PySem.W L2
variable {A:Around}{H:Hp}{K:PySem.W.Frag}{P:Program}{a c f:Addr}{b:Int}{base h:Heap}{body:Expr}{cells cl:List (Str×Addr)}{cs ps:List Str}{cvs:List V}{ex:List Addr}{j n:Nat}{mg:Str->Option Value}{o oc:Obj}{params:Arguments}{q qual x:Str}{s:Shared}{scope:Scope}{w:World}{σ:St}
def tXe (K:PySem.W.Frag)(x:y11)(E:XK):St->Hp->Prop:=fun σ H=>∃ ρ w t nm,Good K ρ σ H w t/\x ρ=some nm/\∀ C H' w',nsIn K mainGlobals nm=some (some (.ref C))->WL K w' H'->Go H w H' w'->E (.ref C) none H'
theorem tX.e{x:y11}{E:XK}{D:Ends}(h:tX K x E D σ H):tXe K x E σ H:=by
 obtain⟨ρ,w,nm,g,e,k⟩:=h
 exact⟨ρ,w,0,nm,g,e,k⟩
def z55:y11:=fun _=>none
def j1z (g:x1u)(x y:y11):y11:=fun ρ=>match g ρ with
 | some (b,ρ1)=>if b=true then x ρ1 else y ρ1
 | none=>none
def y9s (nm:Str):y11:=fun _=>some nm
abbrev PXE (X:Cx)(E:XK)(e:Expr)(x:y11):Prop:=PE X e fun σ H _=>tXe X.K x E σ H
abbrev PXS (X:Cx)(E:XK)(st:Stmt)(x:y11):Prop:=PS X st (tX X.K x E)
abbrev PXB (X:Cx)(E:XK)(ss:List Stmt)(x:y11):Prop:=PSs X ss (tX X.K x E)
section
variable {X:Cx}{E:XK}{st:Stmt}{ss x21 a b:List Stmt}{x y:y11}{f:x13}{g:x1u}{c e:Expr}{es:List Expr}{pos pos' p:Pos}
theorem z7c:PXB X E ss z55:=fun _ _ _ _ _ _ h=>by
 obtain⟨_,_,_,_,e,_⟩:=h
 cases e
theorem z2j(h:PXS X E st x):PXB X E (st::x21) x:=by
 intro pins s σ H D I hh
 refine wpAny_execs_cons (thn (h pins s σ H { nx:=fun _ _=>False,rt:=fun _ _=>False } I hh) fun fl s1 q=>?_)
 cases fl with
 | next=>obtain⟨_,_,_,z⟩:=q;exact z.elim
 | brk=>obtain⟨_,_,_,z⟩:=q;exact z.elim
 | cont=>obtain⟨_,_,_,z⟩:=q;exact z.elim
 | ret u=>obtain⟨_,_,_,_,_,z⟩:=q;exact z.elim
theorem j04(hc:PDT X c g)(ha:PXB X E a x)(hb:PXB X E b y):PXS X E (.If c a b pos) (j1z g x y):=PS.imp (j5l hc ha hb) fun D σ H hh0=>by
 obtain⟨ρ,w,nm,gd,e,k⟩:=hh0
 unfold j1z at e
 split at e
 ·rename_i b' ρ1 h1
  refine⟨ρ,w,0,b',ρ1,gd,h1,fun H1 w1 g1 go1=>?_⟩
  cases b' with
  | true=>exact⟨ρ1,w1,nm,g1,e,fun C H2 w2 n wl go2=>k C H2 w2 n wl (go1.trans go2)⟩
  | false=>exact⟨ρ1,w1,nm,g1,e,fun C H2 w2 n wl go2=>k C H2 w2 n wl (go1.trans go2)⟩
 ·cases e
theorem z79(he:PXE X E e x)(hs:swapsWith e none pos.line X.env=pure false:=by rfl):PXS X E (.Expr e pos) x:=PS.imp (z14 he hs) fun D σ H hh0=>hh0.e
end
section
variable {P:Program}{w:World}{K:PySem.W.Frag}{mg:Str->Option Value}{base:Heap}{N:List Str}{qual:Str}{scope:Scope}{f:Addr}{cd:Value}{A:Around}{outer:List Env}{s₀:Shared}{H₀:Hp}{E:XK}
theorem z2x{nm txt:Str}{k j:Nat}{np cpos tpos pos:Pos}(hr:Room k (A.deeper (envOfC qual scope s₀.heap.objs.size f cd)))(hC:∃ C,XNm K mg nm C)(hg:Gl (cxF P w K mg base N qual scope f cd A outer s₀ H₀ E) nm:=by rfl)(hdb:(nm==("__debug__":Str))=false:=by decide) :
  PXS (cxF P w K mg base N qual scope f cd A outer s₀ H₀ E) E (.Raise (some (.Call (.Name nm np) [.Constant (.str txt) j tpos] [] cpos)) none pos) (y9s nm):=by
 obtain⟨C,hC⟩:=hC
 refine PS.imp (z6r hr.hd hC hg hdb) fun D σ H hh0=>?_
 obtain⟨ρ,w',nm',g,e,k⟩:=hh0
 cases e
 exact k C H w' hC.ns g.wl Go.refl
theorem z6p{k:Nat}{F:List D->Option Str}{e:Expr}{es:List Expr}{g:x1q}{p pos:Pos}(Cx':y7l P w K mg base k x n F)(hr:Room j (A.deeper (envOfC qual scope s₀.heap.objs.size f cd)))(hk:k<=j)(ha:PDA (cxF P w K mg base N qual scope f cd A outer s₀ H₀ E) (e::es) g)
  (hg:Gl (cxF P w K mg base N qual scope f cd A outer s₀ H₀ E) x:=by rfl) (hdb:(x==("__debug__":Str))=false:=by decide) (he:starEach (e::es) (envOfC qual scope s₀.heap.objs.size f cd)=(false,eval e (envOfC qual scope s₀.heap.objs.size f cd))::starEach es (envOfC qual scope s₀.heap.objs.size f cd):=by rfl)
  (hpl:(backTo pos (starEach es (envOfC qual scope s₀.heap.objs.size f cd))).any (·.1)=false:=by rfl) :
  PXE (cxF P w K mg base N qual scope f cd A outer s₀ H₀ E) E (.Call (.Name x p) (e::es) [] pos) (z5t F n g):=by
 obtain⟨fn,fd,ps,G,hm,hkp,hb⟩:=Cx'
 refine PE.imp (z3l (X:=cxF P w K mg base N qual scope f cd A outer s₀ H₀ E) (E:=E) G (hr.mono hk) hg hm hkp hb .nil (fun pins σ H s e s' I h=>j5d (fun _ _ h=>h) I h) ha hdb he hpl) fun σ H Q hh0=>?_
 obtain⟨ρ,w',t,nm,gd,e,k'⟩:=hh0
 unfold z5t at e
 split at e
 ·rename_i ds ρ1 h1
  split at e
  ·rename_i hn
   refine⟨ρ,w',t,ds,ρ1,gd,h1,fun vs H1 w1 g1 go1 r1=>?_⟩
   show spX K n F (vs++[]) H1 Q E
   rw[List.append_nil]
   refine⟨by rw[<- r1.length];exact hn,ds,fun a=>(w1 a).map fun _=>Ow.f,nm,fun a o e=>?_,⟨fun a o e=>?_,g1.wl.tb⟩,?_,e,fun C H2 w2 hns wl2 go2=>k' C H2 w1 hns ⟨fun a o ew=>?_,wl2.tb⟩ (go1.trans ⟨fun a x e n=>?_,fun a o ew no=>?_⟩)⟩
   ·try dsimp only at e
    cases ew:w1 a with
    | none=>rw[ew]at e;cases e
    | some o'=>rw[ew]at e;cases e;rfl
   ·try dsimp only at e
    cases ew:w1 a with
    | none=>rw[ew]at e;cases e
    | some o'=>exact g1.wl a o' ew
   ·exact Reps.freeze (fun a n=>by show(w1 a).map _=_;rw[n];rfl) r1 (fun _ z=>nomatch z)
   ·obtain⟨vs',q⟩:=g1.wl a o ew
    have:=(go2.keep a .f (by show(w1 a).map _=_;rw[ew];rfl) (fun i z=>nomatch z)).1
    exact⟨vs',by rw[this];exact q⟩
   ·exact⟨(go2.stab a x e (by show(w1 a).map _=_;rw[n];rfl)).1,n⟩
   ·exact⟨(go2.keep a .f (by show(w1 a).map _=_;rw[ew];rfl) (fun i z=>nomatch z)).1,ew⟩
  ·cases e
 ·cases e
end
abbrev z49:=Rho->Option (Str×Rho)
def CE (Y:Cx)(pins:List (Addr×Obj))(σ:St)(H:Hp)(w:Wn)(nm:Str)(ρ1:Rho)(ev:Value)(s':Shared):Prop:=
 ∃ s1 H1 w1 a C t B H',ev=.ref a/\Inv Y.nox pins σ H1 s1/\Good Y.K ρ1 σ H1 w1 0/\Go H w H1 w1/\Fly Y.prog Y.w Y.stack H1 s1 a C t B H' s'/\nsIn Y.K mainGlobals nm=some (some (.ref C))/\(∀ b o,H1 b=some o->Sm o (H' b))/\TB Y.K H'
def PTS (Y:Cx)(st:Stmt)(y:z49):Prop:=∀ (pins:List (Addr×Obj)) (s:Shared) (σ:St) (H:Hp) (ρ:Rho) (w:Wn) (nm:Str) (ρ1:Rho),Inv Y.nox pins σ H s->Good Y.K ρ σ H w 0->y ρ=some (nm,ρ1)->
 wpAny (model Y.prog Y.w) Y.A (exec st Y.env) (fun _ _=>False) (CE Y pins σ H w nm ρ1) s
def PTB (Y:Cx)(ss:List Stmt)(y:z49):Prop:=∀ (pins:List (Addr×Obj)) (s:Shared) (σ:St) (H:Hp) (ρ:Rho) (w:Wn) (nm:Str) (ρ1:Rho),Inv Y.nox pins σ H s->Good Y.K ρ σ H w 0->y ρ=some (nm,ρ1)->
 wpAny (model Y.prog Y.w) Y.A (execs ss Y.env) (fun _ _=>False) (CE Y pins σ H w nm ρ1) s
def z2e (Fx:List D->Option Str)(n:Nat)(g:x1q):z49:=fun ρ=>match g ρ with
 | some (ds,ρ1)=>if ds.length=n then(Fx ds).map fun nm=>(nm,ρ1)else none
 | none=>none
def z0c (L:List Str)(f:x13)(y:z49)(ie ik:Nat):x13:=fun ρ=>match y ρ with
 | some (nm,ρ1)=>if nm∈L then some (.nx (((ρ1.set ie (some (.exc nm,9))).set ik (some (.exc nm,9))).set ie none))else none
 | none=>f ρ
section
variable {Y:Cx}{c e:Expr}{es:List Expr}{g:x1q}{gt:x1u}{x y:z49}{a b ss:List Stmt}{st:Stmt}{pos:Pos}
theorem z93(h:PTS Y st y):PTB Y [st] y:=fun pins s σ H ρ w nm ρ1 I gd e=>
 wpAny_execs_cons (thn (h pins s σ H ρ w nm ρ1 I gd e) fun _ _ z=>z.elim)
theorem z5p{z u:Str}{Fx:List D->Option Str}{k:Nat}{yp fp cpos spos:Pos}(CX:y7l Y.prog Y.w Y.K Y.mg Y.base k z n Fx)(hr:Room j Y.A)(hk:k<=j)(ha:PDA Y.nox (e::es) g)
  (hgx:Gl Y z:=by rfl) (hdx:(z==("__debug__":Str))=false:=by decide) (hsc:swapsWith (.Call (.Name z fp) (e::es) [] cpos) (some (.Name u yp)) spos.line Y.env=pure false:=by rfl)
  (he:starEach (e::es) Y.env=(false,eval e Y.env)::starEach es Y.env:=by rfl) (hpl:(backTo cpos (starEach es Y.env)).any (·.1)=false:=by rfl) :
  PTS Y (.Assign [.Name u yp] (.Call (.Name z fp) (e::es) [] cpos) spos) (z2e Fx n g):=by
 intro pins s σ H ρ w nm ρ1 I gd ee
 unfold z2e at ee
 split at ee
 ·rename_i ds ρ2 h1
  split at ee
  ·rename_i hn
   obtain⟨nm',hx,e0⟩:=Option.map_eq_some_iff.mp ee
   cases e0
   obtain⟨fn,fd,ps,G,hm,hkp,hb⟩:=CX
   refine wpAny_Assign_Name ?_ hsc
   refine wpAny_Call_Name_kw (y1u (X:=Y.nox) I hgx hm ?_ hdx)
   refine PySem.W.callWith_K (h₀:=Y.base) I.ok.mod.kin hkp (wpAny_mono (ha cpos pins s σ H (fun vs H1=>∃ w1,Good Y.K ρ1 σ H1 w1 0/\Go H w H1 w1/\Reps Y.K H1 w1 .f 0 ds vs []) I ⟨ρ,w,0,ds,ρ1,gd,h1,fun vs H1 w1 g1 go1 r1=>⟨w1,g1,go1,r1⟩⟩) (fun us s1 hh1=>?_) (fun _ _ z=>False.elim z)) he hpl
   obtain⟨vs,H1,I1,rv,w1,g1,go1,r1⟩:=hh1
   refine⟨I1.kIn,?_⟩
   have hsp:spX Y.K n Fx vs H1 (fun _ _=>False) (fun c _ H'=>∃ C,c=.ref C/\nsIn Y.K mainGlobals nm=some (some (.ref C))/\(∀ b o,H1 b=some o->Sm o (H' b))/\TB Y.K H'):=by
    refine⟨by rw[<- r1.length];exact hn,ds,fun a=>(w1 a).map fun _=>Ow.f,nm,fun a o e=>?_,⟨fun a o e=>?_,g1.wl.tb⟩,?_,hx,fun C H2 w2 hns wl2 go2=>⟨C,rfl,hns,fun b o e=>?_,wl2.tb⟩⟩
    ·try dsimp only at e
     cases ew:w1 a with
     | none=>rw[ew]at e;cases e
     | some o'=>rw[ew]at e;cases e;rfl
    ·try dsimp only at e
     cases ew:w1 a with
     | none=>rw[ew]at e;cases e
     | some o'=>exact g1.wl a o' ew
    ·exact Reps.freeze (fun a n=>by show(w1 a).map _=_;rw[n];rfl) r1 (fun _ z=>nomatch z)
    ·cases ew:w1 b with
     | none=>exact(go2.stab b o e (by show(w1 b).map _=_;rw[ew];rfl)).1
     | some o'=>exact sm (((go2.keep b .f (by show(w1 b).map _=_;rw[ew];rfl) (fun i z=>nomatch z)).1).trans e)
   have hl:us.length=ps.length:=by rw[<- rv.length];exact G.len _ _ _ _ hsp
   have hbb:=hb s1 us I1.kIn (by rw[List.append_nil];exact hl)
   rw[List.append_nil]at hbb
   refine wpAny_call (codeAny_mono (G.run Y.A Y.stack s1 H1 ⟨us,[]⟩ us vs _ _ (hr.mono hk) I1.env0 hbb rv hsp) fun r s' hq=>?_)
   cases r with
   | ok fl=>
    cases fl with
    | ret u=>obtain⟨_,_,_,z⟩:=I1.after hq;exact z.2.elim
    | next=>exact False.elim hq
    | brk=>exact False.elim hq
    | cont=>exact False.elim hq
   | error ev=>
    obtain⟨a,C,t,B,H',rfl,F',C',eC,hns,hext,tb'⟩:=hq
    cases eC
    exact⟨s1,H1,w1,a,C,t,B,H',rfl,I1,g1,go1,F',hns,hext,tb'⟩
  ·cases ee
 ·cases ee
theorem z6a{R nn kx:Str}{L:List Str}{f:x13}{ie ik:Nat}{np kp vp apos hpos:Pos}(hU:y2s Y.K Y.mg R L)(hf:y8q Y.nox ss f)(hx:PTB Y ss y)(hN:Y.N.Nodup)(hie:Y.N[ie]? = some nn)(hik:Y.N[ik]? = some kx)(hst:Y.stack=Y.env::Y.outer:=by rfl)(hfm:Y.env.frame=some Y.env.locals:=by rfl)
  (hne:Y.env.scope.names.lookup nn=some .local:=by rfl) (hnk:Y.env.scope.names.lookup kx=some .local:=by rfl) (hg:Gl Y R:=by rfl)
  (hdb:(R==("__debug__":Str))=false:=by decide) (hdn:(nn==("__debug__":Str))=false:=by decide) (hcn:(nn==("__classdict__":Str))=false:=by decide) (hsw:swapsWith (.Name nn vp) (some (.Name kx kp)) apos.line Y.env=pure false:=by rfl) :
  PDS Y.nox (.Try ss [.ExceptHandler (some (.Name R np)) (some nn) [.Assign [.Name kx kp] (.Name nn vp) apos] hpos] [] [] pos) (z0c L f y ie ik):=by
 intro pins s σ H Dn I hh
 obtain⟨ρ,w,o,gd,ee,K'⟩:=hh
 unfold z0c at ee
 refine wpAny_Try_except ?_
 split at ee
 ·rename_i nm ρ1 h1
  split at ee
  ·rename_i hL
   cases ee
   obtain⟨RA,hR,hRt,hmg,hall⟩:=hU
   refine wpAny_mono (hx pins s σ H ρ w nm ρ1 I gd h1) (fun _ _ z=>z.elim) fun ev s' q=>?_
   obtain⟨s1,H1,w1,a,C,t,B,H',rfl,I1,g1,go1,F',hns,hext,tb'⟩:=q
   obtain⟨hXk,hsub⟩:=hall nm hL C hns
   refine z6v (X:=Y.nox) I1 F' hst hfm hN hie hik hne hnk hR hRt hsub hmg hg hdb hdn hcn hsw fun s5 oe hoc I5=>?_
   have hσe:ie<σ.length:=by rw[I.len];exact(List.getElem?_eq_some_iff.mp hie).1
   have hσk:ik<σ.length:=by rw[I.len];exact(List.getElem?_eq_some_iff.mp hik).1
   have hfr:=F'.free
   obtain⟨g2,go2⟩:=g1.grow (H':=upd H' a (j1x a oe)) (fun b o q=>by
    obtain⟨y,ey,_⟩:=(hext b o q).is
    unfold upd
    rw[if_neg (fun z=>by rw[<- z,ey]at hfr;cases hfr)]
    exact hext b o q) (tb'.upd rfl (.inl hfr))
   have rep:∀ w',Rep Y.K (upd H' a (j1x a oe)) w' .f 0 (.exc nm) (.ref a) []:=fun w'=>.exc (ob:=oe) (u:=.ext fun h=>h.get? a=some oe) (by unfold upd;rw[if_pos rfl];rfl) ⟨C,hoc,hXk⟩ (fun _ z=>nomatch z)
   obtain⟨g3,go3⟩:=g2.setV (i:=ie) hσe (rep _)
   obtain⟨g4,go4⟩:=g3.setV (i:=ik) (by rw[List.length_set];exact hσk) (rep _)
   obtain⟨g5,go5⟩:=g4.unset (i:=ie) (v:=none) (by rw[List.length_set,List.length_set];exact hσe)
   exact⟨_,_,I5,K' _ _ _ (by rw[List.length_set,List.length_set,List.length_set]) g5 ((((go1.trans go2).trans go3).trans go4).trans go5)⟩
  ·cases ee
 ·refine wpAny_mono (hf pins s σ H Dn I ⟨ρ,w,o,gd,ee,K'⟩) (fun fl s1 q=>?_) (fun _ _ z=>False.elim z)
  cases fl with
  | next=>exact wpAny_execs_nil q
  | brk=>exact q
  | cont=>exact q
  | ret u=>exact q
end
def spO (K:PySem.W.Frag)(n:Nat)(ob:D)(G:List D->OD):Sp:=fun vs H Q _=>vs.length=n/\∃ ds w r q,(∀ a o,w a=some o->o=.f)/\WL K w H/\Reps K H w .f 0 ds vs []/\(∃ v,Rep K H w .f 0 ob v [])/\G ds=some (r,q) /\
 ∀ v H' w' Fo,Go H w H' w'->WL K w' H'->Rep K H' w' (.t 0) q r v Fo->Q v H'
theorem z1x{u:Value}:∀ {ps:List Str} {us:List Value} {i:Nat},ps.Nodup->ps[i]? = some x->us[i]? = some u->(ps.zip us).reverse.lookup x=some u
 | [],_,_,_,h,_=>by simp at h
 | _::_,[],_,_,_,h=>by simp at h
 | p::ps,v::us,0,nd,h1,h2=>by
  simp at h1 h2
  subst h1
  subst h2
  rw[List.zip_cons_cons,List.reverse_cons,List.lookup_append]
  have:(ps.zip us).reverse.lookup p=none:=List.lookup_eq_none_iff.mpr fun q hq=>by
   have:=(List.of_mem_zip (List.mem_reverse.mp hq)).1
   exact bne_iff_ne.mpr fun z=>(List.nodup_cons.mp nd).1 (z ▸ this)
  rw[this]
  simp
 | p::ps,v::us,i+1,nd,h1,h2=>by
  rw[List.zip_cons_cons,List.reverse_cons,List.lookup_append,z1x (i:=i) (List.nodup_cons.mp nd).2 (by simpa using h1) (by simpa using h2)]
  rfl
theorem j79{prog:Program}{R:Result->Shared->Prop}{args:Args}{fd:FuncData}{fs:Array Value}{t:Tok}(hroom:A.depth<recursionLimit)(ho:s.heap.get? a=some o)
  (hd':o.data=.func fd) (hco:fd.scope.isCoroutine=false) (hgen:fd.scope.isGenerator=false) (hbody:fd.body=.expr body) (hc:fd.code=.ref c) (hoc:s.heap.get? c=some oc) (hdc:oc.data=.fields fs) (hq:fs[1]? = some (.str q t))
  (h:wpAny (model prog w) A.in1 (bindArgs fd args) (fun binds s₁=>
    wpAny (model prog w) A.in1 (newFunctionEnv fd.scope fd.globals fd.closure binds (q ++ ".<locals>.") (some a) fd.code none fd.builtins)
     (fun env s₂=>s₂.heap.NoLimit/\codeAny (model prog w) A (.expr body env) R s₂) (fun e s'=>R (.error e) s') s₁) (fun e s'=>R (.error e) s') s) :
  codeAny (model prog w) A (.call (.ref a) args) R s:=by
 refine codeAny_of_tree ?_
 show wpAny _ A.in1 (callAny (.ref a) args) _ _ s
 simp only[callAny]
 refine wpAny_bind (wpAny_load ho ?_)
 simp only[hd',callFunction,hco,hgen,hbody,hc]
 rw[hc]at h
 refine wpAny_bind (m:=field (.ref c) 1) (wpAny_field hoc hdc hq (wpAny_bind (wpAny_pure ?_)))
 exact wpAny_bind (wpAny_mono h (fun binds s₁ h₁=>wpAny_bind (wpAny_mono h₁ (fun env s₂ h₂=>wpAny_bind (wpAny_enterFrame h₂.1 hroom
  (wpAny_pure (And.intro rfl h₂.2)))) fun _ _ h'=>h')) fun _ _ h'=>h')
def cxL (P:Program)(w:World)(K:PySem.W.Frag)(mg:Str->Option Value)(base:Heap)(N:List Str)(qual:Str)(scope:Scope)(f:Addr)(cd:Value)(cl:List (Str×Addr))(A:Around)(outer:List Env)(s:Shared)(H:Hp):Cx where
 prog:=P
 w:=w
 K:=K
 mg:=mg
 base:=base
 A:=A.deeper (envX qual scope s.heap.objs.size f cd cl)
 N:=N
 s₀:=s
 H₀:=H
 env:=envX qual scope s.heap.objs.size f cd cl
 outer:=outer
 stack:=envX qual scope s.heap.objs.size f cd cl::outer
 ex:=[]
 calm:=true
 fn:=fun _=>false
 pn:=[]
 xe:=fun _ _=>False
structure LamScope (ps cs:List Str) (sc:Scope):Prop where
 kind:sc.kind=.function
 co:sc.isCoroutine=false
 gen:sc.isGenerator=false
 nd:(ps++cs).Nodup
 par:∀ x∈ps,sc.names.lookup x=some .local
 cap:∀ x∈cs,sc.names.lookup x=some .free
 nocell:∀ y∈sc.names,y.2 ≠ .cell
 free:∀ x,sc.names.lookup x=some .free->x∈cs
structure CellsOk (base:Heap) (cl:List (Str×Addr)) (cs:List Str) (cvs:List V):Prop where
 len:cvs.length=cs.length
 at':∀ (i:Nat) (x:Str) (v:V),cs[i]? = some x->cvs[i]? = some v->∃ c u,cl.lookup x=some c/\x39 v u/\base.IsCell c (some u)
 inj:∀ x y c,cl.lookup x=some c->cl.lookup y=some c->x=y
 all:∀ x c,cl.lookup x=some c->∃ v,base.IsCell c v
theorem z2y{cd:Value}{outer:List Env}{h1:Heap}{tk:Nat}{us:List Value}{vs:List V}
  (S:LamScope ps cs scope) (C:CellsOk base cl cs cvs) (hd:A.handled=none) (e0:Env0 P w K mg base A outer s H) (hl:vs.length=ps.length) (r:x28 vs us)
  (hns:h1.Ns s.heap.objs.size (fun x=>(ps.zip us).reverse.lookup x)) (hk:∀ b o,s.heap.get? b=some o->h1.get? b=some o) :
  Inv (cxL P w K mg base (ps++cs) qual scope f cd cl A outer s H) [] (L2.start (ps++cs) (vs++cvs)) H { s with heap:=h1,toks:=tk }:=by
 have noA:∀ b:Addr,b ∉ (cxL P w K mg base (ps++cs) qual scope f cd cl A outer s H).ex:=fun b z=>absurd (show b∈([]:List Addr)from z) (by simp)
 refine⟨⟨e0.mod,S.kind,rfl,rfl,Nat.le_refl _,C.inj,fun y hy=>?_,(fun y c z=>by cases z),fun _=>hd,Around.frames_deeper e0.frames,.inr ⟨rfl,rfl⟩,fun b z=>absurd z (noA b),e0.bs,e0.bsz,fun b _ _=>noA b,fun b z=>absurd z (noA b),e0.funs,e0.frf⟩,
  rfl,e0.bare,Un.kept hk,⟨_,hns,fun i y v h1 h2 h3=>?_⟩,fun y c h=>?_,e0.hok.fresh (Nat.le_refl _),fun y c h=>?_,fun p hp=>absurd (show p∈([]:List (Addr×Obj))from hp) (by simp),e0.hok.kept hk,?_⟩
 ·have hy:scope.names.lookup y=some .cell\/scope.names.lookup y=some .free:=hy
  rcases hy with hy|hy
  ·exact absurd rfl (S.nocell _ (PySem.mem_of_lookup hy))
  ·obtain⟨i,hi⟩:=List.mem_iff_getElem?.mp (S.free y hy)
   have:i<cvs.length:=by rw[C.len];exact(List.getElem?_eq_some_iff.mp hi).1
   obtain⟨c,u,e,_⟩:=C.at' i y _ hi (List.getElem?_eq_getElem this)
   exact⟨c,e⟩
 ·have hN:(ps++cs)[i]? = some y:=h1
  have h2':(vs++cvs)[i]? = some v:=by
   unfold L2.start at h2
   have hl2:(vs++cvs).length=(ps++cs).length:=by rw[List.length_append,List.length_append,hl,C.len]
   rw[hl2,Nat.sub_self,List.replicate_zero,List.append_nil,List.getElem?_map]at h2
   cases e:(vs++cvs)[i]? with
   | none=>rw[e]at h2;cases h2
   | some a=>rw[e]at h2;cases h2;rfl
  by_cases hi:i<ps.length
  ·rw[List.getElem?_append_left hi]at hN
   rw[List.getElem?_append_left (by rw[hl];exact hi)]at h2'
   obtain⟨u,hu,rv⟩:=r.get h2'
   exact⟨u,rv,.inl ⟨S.par y (List.mem_of_getElem? hN),z1x (List.nodup_append.mp S.nd).1 hN hu⟩⟩
  ·rw[List.getElem?_append_right (Nat.le_of_not_lt hi)]at hN
   rw[List.getElem?_append_right (by rw[hl];exact Nat.le_of_not_lt hi),hl]at h2'
   obtain⟨c,u,e,rv,hc⟩:=C.at' _ y v hN h2'
   exact⟨u,rv,.inr ⟨.inr (S.cap y (List.mem_of_getElem? hN)),c,e,(hc.keeps fun b o e=>(e0.bs b o e).1).keeps hk⟩⟩
 ·obtain⟨v,hv⟩:=C.all y c h
  exact⟨v,(hv.keeps fun b o e=>(e0.bs b o e).1).keeps hk⟩
 ·obtain⟨v,o,ho,_⟩:=C.all y c h
  exact(e0.bs c o ho).2
 ·unfold L2.start
  show _=(ps++cs).length
  rw[List.length_append,List.length_map,List.length_replicate,List.length_append,List.length_append,hl,C.len]
  omega
def z7o (fb:Den)(cds:List D):List D->OD:=fun ds=>match fb (x5v (ds++cds).length (ds++cds))with
 | some (d,q,_)=>some (d,q)
 | none=>none
theorem j30{nm:Str}{pm ctv:Value}{k:Nat}{cds:List D}{fb:Den}
  (S:LamScope ps cs scope) (C:CellsOk base cl cs cvs)
  (hbody:∀ (q:Str) (A:Around) (outer:List Env) (s:Shared) (H:Hp),Room k (A.deeper (envX q scope s.heap.objs.size f (.ref c) cl))->PD (cxL P w K mg base (ps++cs) q scope f (.ref c) cl A outer s H) body fb) :
  FnOk P w K mg base CX0 (k+1) f (kla_fn nm qual params body scope cl pm (.ref c) ctv) ps (spO K ps.length (.ob f (kla_obj nm qual params body scope cl pm c ctv) cvs cds) (z7o fb cds)):=by
 refine⟨fun vs H Q E h=>h.1,fun A outer s H args us vs Q E hr e0 hb r hsp=>?_⟩
 obtain⟨hn,ds,wn,r',q',hw,wl,rs,⟨vo,ro⟩,ee,k'⟩:=hsp
 cases ro with
 | ob a1 a2 a3 a4=>
 obtain⟨x1,⟨fd',x2,x3⟩,fs,q,t,x4,x5⟩:=a3
 cases x2
 cases x3
 obtain⟨o1,_⟩:=(show x29 P w H s.heap _ (.frz _ _)from e0.hok _ _ a1)
 obtain⟨o2,_⟩:=(show x29 P w H s.heap _ (.frz _ _)from e0.hok _ _ a2)
 have lim:s.heap.NoLimit:=e0.mod.nolimit.keeps fun b o e=>(e0.bs b o e).1
 refine j79 hr.depth o1 rfl S.co S.gen rfl rfl o2 x4 x5 (hb _ _ _ _ ?_)
 refine wpAny_newFunctionEnv S.nocell (fun y hy=>S.par y.1 (List.of_mem_zip hy).1) (fun h1 hns hsb=>⟨lim.fresh _ hsb,?_⟩) S.kind
 have hk:∀ b o,s.heap.get? b=some o->h1.get? b=some o:=fun b o e=>hsb.extBut b o (Nat.ne_of_lt (Heap.lt_size e)) (Heap.get?_push_of_some _ e)
 show codeAny _ _ (.expr body (envX q scope s.heap.objs.size f (.ref c) cl)) _ _
 have I:=z2y (cd:=.ref c) (f:=f) (qual:=q) (tk:=s.toks+(ps.zip us).length) S C hr.hd e0 hn r hns hk
 unfold z7o at ee
 split at ee
 ·rename_i d q0 ρ' h1
  cases ee
  have gd:Good K (x5v (ds++cds).length (ds++cds)) (L2.start (ps++cs) (vs++cvs)) H wn 0:=by
   have e1:(ds++cds).length=(ps++cs).length:=by rw[List.length_append,List.length_append,rs.length,a4.length,hn,C.len]
   rw[e1]
   refine x7f hw wl ?_
   have app:∀ {ds:List D} {vs:List V},Reps K H wn .f 0 ds vs []->Reps K H wn .f 0 (ds++cds) (vs++cvs) []:=by
    intro ds
    induction ds with
    | nil=>intro vs r;cases r;exact a4
    | cons d ds ih=>
     intro vs r
     generalize hF:([]:List Addr)=F at r
     cases r with
     | cons r1 r2 ne=>
      obtain rfl:=r1.zero
      obtain rfl:=r2.zero
      exact .cons (F:=[]) (G:=[]) r1 (ih r2) (fun _ z=>nomatch z)
   exact app rs
  refine kla_codeExpr (wpAny_mono (hbody q A outer s H (hr.deeper _) [] _ _ H Q I ⟨_,wn,0,_,_,_,gd,h1,fun v H' w' F g1 go1 r1=>k' v H' w' F go1 g1.wl r1⟩) (fun v s' hh=>?_) fun e s' z=>False.elim z)
  obtain⟨v',H',J,rv,qq⟩:=hh
  exact⟨v',H',J.os,J.bare,J.base,J.hok,rv,qq⟩
 ·cases ee
structure Lm (K:PySem.W.Frag) (mg:Str->Option Value) (base:Heap):Prop where
 bm:∃ bm o,mg "__builtins__" = some (.ref bm)/\bm≠builtinsNs/\base.get? bm=some o/\o.cls=.type "module" /\ o.dict=some builtinsNs/\o.data=.plain
 cd:∀ x∈x8k,∀ c P,tabIn K x=some (c,P)->CodeHd base c P
theorem z01{pos:Pos}{a:Int}{c cv:Value}:∀ (l:List Value),TriplesOk l->codeAmong pos (l++[rawInt a,rawInt b,c])=some cv->codeAmong pos l=some cv\/cv=c:=by
 intro l h
 fun_induction TriplesOk l with
 | case1=>
  intro e
  simp only[List.nil_append,rawInt,codeAmong]at e
  split at e
  ·cases e;exact .inr rfl
  ·cases e
 | case2 a1 t1 a2 t2 v x21 ih=>
  intro e
  simp only[List.cons_append,codeAmong]at e ⊢
  split at e
  ·rename_i hc
   rw[if_pos hc]
   exact .inl e
  ·rename_i hc
   rw[if_neg hc]
   exact ih h e
 | case3=>exact h.elim
theorem TB.grow(t:TB K H){P:Addr}{ps:Array Value}{a:Int}{u:HO}{fs:Array Value}{tk:Tok}(hP:H P=some (.tbl ps))(hc:H c=none)(hu:∀ xs,u ≠ .lst xs)(h1:oc.data=.fields fs)(h2:fs[1]? = some (.str q tk)) :
  TB K (L2.upd (L2.upd H P (.tbl (ps ++ #[rawInt a,rawInt b,.ref c]))) c (.frz oc u)):=by
 have hcP:P≠c:=fun z=>by rw[z,hc]at hP;cases hP
 have frz:∀ d o v,H d=some (.frz o v)->L2.upd (L2.upd H P (.tbl (ps ++ #[rawInt a,rawInt b,.ref c]))) c (.frz oc u) d=some (.frz o v):=fun d o v e=>by
  rw[x0h (fun z=>by rw[z,hc]at e;cases e),x0h (fun z=>by rw[z,hP]at e;cases e)]
  exact e
 have get:∀ Q qs,L2.upd (L2.upd H P (.tbl (ps ++ #[rawInt a,rawInt b,.ref c]))) c (.frz oc u) Q=some (.tbl qs)->(Q=P/\qs=ps ++ #[rawInt a,rawInt b,.ref c])\/H Q=some (.tbl qs):=fun Q qs e=>by
  by_cases h1:Q=c
  ·subst h1;rw[x0t]at e;cases e
  ·rw[x0h h1]at e
   by_cases h2:Q=P
   ·subst h2;rw[x0t]at e;cases e;exact .inl ⟨rfl,rfl⟩
   ·rw[x0h h2]at e;exact .inr e
 refine⟨fun Q qs e=>?_,fun Q qs e pos cv hcv=>?_,fun x hx c' P' e=>?_⟩
 ·rcases get Q qs e with⟨_,rfl⟩|e
  ·have:=TriplesOk_snoc a b (.ref c) ps.toList (t.tr P ps hP)
   simpa using this
  ·exact t.tr Q qs e
 ·have old:∀ Q qs,H Q=some (.tbl qs)->codeAmong pos qs.toList=some cv->∃ c' oc' u' vs q t,cv=.ref c'/\L2.upd (L2.upd H P (.tbl (ps ++ #[rawInt a,rawInt b,.ref c]))) c (.frz oc u) c'=some (.frz oc' u')/\oc'.data=.fields vs/\vs[1]? = some (.str q t)/\∀ xs,u' ≠ .lst xs:=fun Q qs e hcv=>by
   obtain⟨c',oc',u',vs,q',t',g1,g2,g3,g4,g5⟩:=t.cd Q qs e pos cv hcv
   exact⟨c',oc',u',vs,q',t',g1,frz _ _ _ g2,g3,g4,g5⟩
  rcases get Q qs e with⟨_,rfl⟩|e
  ·rcases z01 (pos:=pos) (cv:=cv) (c:=.ref c) (a:=a) (b:=b) ps.toList (t.tr P ps hP) (by simpa using hcv)with z|z
   ·exact old P ps hP z
   ·exact⟨c,oc,u,fs,q,tk,z,x0t,h1,h2,hu⟩
  ·exact old Q qs e hcv
 ·obtain⟨qs,e'⟩:=t.is x hx c' P' e
  have n1:P'≠c:=fun z=>by rw[z,hc]at e';cases e'
  by_cases n2:P'=P
  ·subst n2;exact⟨_,by rw[x0h n1,x0t]⟩
  ·exact⟨qs,by rw[x0h n1,x0h n2];exact e'⟩
def kn (a:Addr)(o:Obj):HO:=.frz o (.ext fun h=>h.get? a=some o)
theorem j18(e:h.get? a=some o):x29 P w H h a (kn a o):=⟨e,e,⟨o,e⟩,fun _ _ p k=>k _ p⟩
section
variable {X:Cx}{pins:List (Addr×Obj)}{σ:St}{H:Hp}{s:Shared}{E:Value->Shared->Prop}{Q:Value->Shared->Prop}
theorem Inv.table{P:Addr}{ps ps':Array Value}{fo:Obj}{h':Heap}{tk:Nat}(I:Inv X pins σ H s)(hP:H P=some (.tbl ps))(hx:Heap.ExtBut P s.heap h')(hc:s.heap.objs.size<=c)(hf:c<f)(e1:h'.get? c=some oc)(e2:h'.get? P=some (tabObj (ps++ps')))(e3:h'.get? f=some fo) :
  Inv X pins σ (L2.upd (L2.upd (L2.upd H P (.tbl (ps++ps'))) c (kn c oc)) f (kn f fo)) { s with heap:=h',toks:=tk }:=by
 have nc:H c=none:=I.hok.fresh hc
 have nf:H f=none:=I.hok.fresh (Nat.le_trans hc (Nat.le_of_lt hf))
 have keep:∀ b u,H b=some u->b≠P->L2.upd (L2.upd (L2.upd H P (.tbl (ps++ps'))) c (kn c oc)) f (kn f fo) b=some u:=fun b u e n=>by
  rw[x0h (x0r e nf),x0h (x0r e nc),x0h n];exact e
 have PP:L2.upd (L2.upd (L2.upd H P (.tbl (ps++ps'))) c (kn c oc)) f (kn f fo) P=some (.tbl (ps++ps')):=by
  rw[x0h (x0r hP nf),x0h (x0r hP nc),x0t]
 have kp:∀ b o,s.heap.get? b=some o->H b=none->h'.get? b=some o:=fun b o e n=>hx b o (fun z=>by rw[z,hP]at n;cases n) e
 refine I.un ⟨fun b o e n _ _=>kp b o e n,fun b o e n _ _=>⟨o.slots,kp b o e n⟩,fun b o e n _=>?_,fun b o e _=>?_,fun b xs e=>keep b _ e (fun z=>by rw[z,hP]at e;cases e),fun b o u e=>keep b _ e (fun z=>by rw[z,hP]at e;cases e),fun b qs e=>?_⟩ fun a o e=>?_
 ·have lt:=Heap.lt_size e
  rw[x0h (Nat.ne_of_lt (Nat.lt_trans (Nat.lt_of_lt_of_le lt hc) hf)),x0h (Nat.ne_of_lt (Nat.lt_of_lt_of_le lt hc)),x0h (fun z=>by rw[z,hP]at n;cases n)]
  exact n
 ·by_cases hb:b=P
  ·rw[hb];exact⟨_,e2⟩
  ·exact⟨o,hx b o hb e⟩
 ·by_cases hb:b=P
  ·subst hb
   rw[hP]at e;cases e
   exact⟨ps',PP⟩
  ·exact⟨#[],by rw[Array.append_empty];exact keep b _ e hb⟩
 ·by_cases h1:a=f
  ·subst h1;rw[x0t]at e;cases e;exact j18 e3
  ·rw[x0h h1]at e
   by_cases h2:a=c
   ·subst h2;rw[x0t]at e;cases e;exact j18 e1
   ·rw[x0h h2]at e
    by_cases h3:a=P
    ·subst h3;rw[x0t]at e;cases e;exact e2
    ·rw[x0h h3]at e
     refine(I.hok a o e).stay (fun b u hb q=>hx b u (fun z=>?_) q) (fun b q=>keep b _ q (fun z=>by rw[z,hP]at q;cases q)) fun b xs q=>keep b _ q (fun z=>by rw[z,hP]at q;cases q)
     subst z
     rcases hb with hb|hb
     ·exact h3 hb.symm
     ·rw[hP]at hb;cases hb
theorem z5l{body:Expr}{pos:Pos}{A:Around}{M:Model}{P:Addr}{clos:List (Str×Addr)}(I:Inv X pins σ H s)(L:Lm X.K X.mg X.base)(tb:TB X.K H)(hx:x∈x8k)(ht:tabIn X.K x=some (c,P))(hcode:X.env.code=.ref c)
  (hcl:closureFor scope X.env=pure clos) (hdf:defaultsOf params X.env=([],[]))
  (h:∀ (f c':Addr) (pm ctv:Value) (oc:Obj) (h':Heap) (tk:Nat) (H':Hp) (u u':HO),Inv X pins σ H' { s with heap:=h',toks:=tk }->H' f=some (.frz (kla_obj "<lambda>" (X.env.qual ++ "<lambda>") params body scope clos pm c' ctv) u)->H' c'=some (.frz oc u')->
    Clo (kla_obj "<lambda>" (X.env.qual ++ "<lambda>") params body scope clos pm c' ctv) c' oc->(∀ b o,H b=some o->Sm o (H' b))->TB X.K H'->Q (.ref f) { s with heap:=h',toks:=tk }) :
  wpAny M A (eval (.Lambda params body scope pos) X.env) Q E s:=by
 obtain⟨ps,hP⟩:=tb.is x hx c P ht
 have oP:s.heap.get? P=some (tabObj ps):=I.hok P _ hP
 have C:=(L.cd x hx c P ht).keeps I.bk
 have hg:=I.mod.glob.keeps I.bk
 have hgP:mainGlobals≠P:=fun q=>by
  obtain⟨o,es,ep,e,hd,_⟩:=hg
  rw[q,oP]at e;cases e;cases hd
 have hB:s.heap.BuiltinsAt X.mg P:=by
  obtain⟨bm,ob,b1,b2,b3,b4,b5,b6⟩:=L.bm
  have b3':=I.bk _ _ b3
  refine⟨bm,ob,b1,b2,fun q=>?_,fun q=>?_,b3',b4,b5,b6⟩
  ·obtain⟨o,es,ep,e,hd,_⟩:=hg
   rw[q,e]at b3';cases b3';rw[hd]at b6;cases b6
  ·rw[q,oP]at b3';cases b3';cases b4
 refine kla_eval hdf ?_
 cases hf:codeAmong pos ps.toList with
 | none=>
  refine kla_makeFunction (mg:=X.mg) hcl I.ok.glob hg hcode C oP (tb.tr P ps hP) hf hgP hB fun c' ctv h' tk hxb hge hlt hrec htb=>?_
  obtain⟨c2,oc,vs,t,e2,hoc,hd,hv⟩:=hrec
  cases e2
  have nc:H c'=none:=I.hok.fresh hge
  have nf:H h'.objs.size=none:=I.hok.fresh (Nat.le_trans hge (Nat.le_of_lt hlt))
  refine h h'.objs.size c' _ ctv oc _ tk _ _ _ (Inv.table (ps':=#[rawInt pos.line,rawInt pos.col,.ref c']) (oc:=oc) I hP (fun b o n e=>Heap.get?_push_of_some _ (hxb b o n e)) hge hlt (Heap.get?_push_of_some _ hoc) (Heap.get?_push_of_some _ htb) (Heap.get?_push_size _ rfl)) x0t
   (by rw[x0h (Nat.ne_of_lt hlt),x0t];rfl) ⟨rfl,⟨_,rfl,rfl⟩,vs,_,t,hd,hv⟩ (fun b o e=>?_) ((tb.grow (u:=.ext fun h=>h.get? c'=some oc) hP nc (fun _ z=>nomatch z) hd hv).upd rfl (.inl ?_))
  ·by_cases hb:b=P
   ·subst hb
    rw[hP]at e;cases e
    exact⟨_,by rw[x0h (x0r hP nf),x0h (x0r hP nc),x0t]⟩
   ·exact sm (by rw[x0h (x0r e nf),x0h (x0r e nc),x0h hb];exact e)
  ·rw[x0h (Nat.ne_of_gt hlt),x0h (x0r hP nf).symm];exact nf
 | some cv=>
  obtain⟨c',oc,u',vs,q,t,rfl,hc',hd,hv,_⟩:=tb.cd P ps hP pos cv hf
  refine kla_makeFunctionHit (mg:=X.mg) hcl I.ok.glob hg hcode C oP (tb.tr P ps hP) hf hB fun ctv h' tk hk hsz=>?_
  have nf:H h'.objs.size=none:=I.hok.fresh hsz
  refine h h'.objs.size c' _ ctv oc _ tk _ _ _ (I.laid (o:=kn _ _) (fun b o e=>Heap.get?_push_of_some _ (hk b o e)) hsz (j18 (Heap.get?_push_size _ rfl))) x0t (by rw[x0h (x0r hc' nf)];exact hc') ⟨rfl,⟨_,rfl,rfl⟩,vs,_,t,hd,hv⟩ (fun b o e=>sm (by rw[x0h (x0r e nf)];exact e)) (tb.upd rfl (.inl nf))
end
def z46 (base h:Heap)(ex:List Addr):Heap:=hideAll h ((List.range h.objs.size).filter fun b=>(base.get? b).isNone && !ex.contains b)
theorem z2i{b:Addr}(e:(z46 base h ex).get? b=some o):h.get? b=some o/\((base.get? b).isSome=true\/b∈ex):=by
 have e1:=of_hideAll _ e
 refine⟨e1,?_⟩
 by_cases hb:b∈((List.range h.objs.size).filter fun b=>(base.get? b).isNone && !ex.contains b)
 ·have:=hideAll_none (h:=h) _ hb
  unfold z46 at e
  rw[this]at e;cases e
 ·rw[List.mem_filter]at hb
  have:¬ (((base.get? b).isNone && !ex.contains b)=true):=fun z=>hb ⟨List.mem_range.mpr (Heap.lt_size e1),z⟩
  cases h1:base.get? b with
  | some o'=>exact .inl rfl
  | none=>
   rw[h1]at this
   simp at this
   exact .inr this
theorem y3w{b:Addr}(e:h.get? b=some o)(hb:(base.get? b).isSome=true\/b∈ex):(z46 base h ex).get? b=some o:=
 hideAll_get _ e fun z=>by
  have:=(List.mem_filter.mp z).2
  rw[Bool.and_eq_true_iff]at this
  rcases hb with hb|hb
  ·have t1:=this.1
   cases q:base.get? b with
   | none=>rw[q]at hb;cases hb
   | some o=>rw[q]at t1;cases t1
  ·have t2:=this.2
   simp at t2
   exact t2 hb
def x9i:List Str->List (Str×Addr)->List (Str×Addr)
 | [],_=>[]
 | x::xs,cells=>match cells.lookup x with
  | some c=>(x,c)::x9i xs cells
  | none=>x9i xs cells
theorem y1y:∀ {xs:List Str},(x9i xs cells).lookup x=some c->cells.lookup x=some c
 | [],h=>by cases h
 | y::xs,h=>by
  unfold x9i at h
  split at h
  ·rename_i c' e
   rw[List.lookup_cons]at h
   split at h
   ·rename_i hb
    cases h
    rw[eq_of_beq hb];exact e
   ·exact y1y h
  ·exact y1y h
theorem y6z(e:cells.lookup x=some c):∀ {xs:List Str},x∈xs->(x9i xs cells).lookup x=some c
 | [],h=>by cases h
 | y::xs,h=>by
  unfold x9i
  by_cases hy:x=y
  ·subst hy
   rw[e]
   simp
  ·have hm:x∈xs:=by rcases List.mem_cons.mp h with z|z;exact absurd z hy;exact z
   split
   ·rw[List.lookup_cons,beq_eq_false_iff_ne.mpr hy]
    exact y6z e hm
   ·exact y6z e hm
def j1v:List Nat->Rho->Option (List D)
 | [],_=>some []
 | i::is,ρ=>match ρ[i]? with
  | some (some (d,_))=>if d.isL=false then match j1v is ρ with
   | some ds=>some (d::ds)
   | none=>none
   else none
  | _=>none
theorem z25{ρ:Rho}{w:Wn}{t:Nat}(g:Good K ρ σ H w t):∀ {is:List Nat} {ds:List D},j1v is ρ=some ds->∃ vs,Reps K H w .f 0 ds vs []/\vs.length=is.length/\∀ (j i:Nat),is[j]? = some i->∃ v,vs[j]? = some v/\σ[i]? = some (some v)
 | [],ds,e=>by
  cases e
  exact⟨[],.nil,rfl,fun j i h=>by simp at h⟩
 | i::is,ds,e=>by
  unfold j1v at e
  split at e
  ·rename_i d q h1
   split at e
   ·rename_i hl
    split at e
    ·rename_i ds' h2
     cases e
     obtain⟨vs,r,l,k⟩:=z25 g h2
     obtain⟨v,F,s1,s2⟩:=g.slot i d q h1
     obtain⟨hF,hr⟩:=s2.nolist hl
     refine⟨v::vs,.cons (F:=[]) (G:=[]) ((hr 0).any g.wl) r (fun _ z=>nomatch z),by simp[l],fun j i' hj=>?_⟩
     cases j with
     | zero=>simp at hj;subst hj;exact⟨v,rfl,s1⟩
     | succ j=>exact k j i' (by simpa using hj)
    ·cases e
   ·cases e
  ·cases e
end L3
namespace L3
open PySem PySem.Spec PyProof.Rows L2
@[simp] def y97 (i:Nat):Den:=fun ρ=>match ρ[i]? with
 | some (some (.lst ds,q))=>if q<=1 then some (.lst ds,1,ρ)else none
 | some (some (.tup ds,_))=>some (.lst ds,1,ρ)
 | _=>none
theorem Rep.seqV{K:PySem.W.Frag}{H:Hp}{w:Wn}{o:Ow}{q:Nat}{ds:List D}{v:V}{F:List Addr}(r:Rep K H w o q (.lst ds) v F)(hq:q<=1):∃ a vs,v=.ref a/\SqL K H a vs/\Reps K H w o 0 ds vs []:=by
 cases r with
 | kl h r=>exact⟨_,_,rfl,h.sq,r⟩
 | shr h n r=>exact⟨_,_,rfl,.inl h,r⟩
 | own h n r ne=>
  rename_i q' _ _ _
  obtain rfl:q'=0:=by omega
  have e:=r.zero
  subst e
  exact⟨_,_,rfl,SqL.of h,r⟩
section
variable {X:Cx}{pos p p1 p2:Pos}
theorem z54{i:Nat}{x:Str}(hm:X.mg "list" = none)(hb:bootBuiltins "list" = some (.type "list"))(h:PE X (.Name x p1) (x7j i))(hg:Gl X "list":=by rfl)(he:starEach [.Name x p1] X.env=(false,eval (.Name x p1) X.env)::starEach [] X.env:=by rfl)(hpl:(backTo pos (starEach [] X.env)).any (·.1)=false:=by rfl):PD X (.Call (.Name "list" p) [.Name x p1] [] pos) (y97 i):=
 PE.imp (x6n y05 hg hm hb (x3i h x6h he) (by decide) (by decide) he hpl) fun σ H Q hh0=>by
 obtain⟨ρ,w,t,r',q,ρ',gd,ee,k⟩:=hh0
 unfold y97 at ee
 split at ee
 ·rename_i ds q0 e0
  split at ee
  ·rename_i hq
   cases ee
   obtain⟨v,F,h1,h2⟩:=gd.slot i _ q0 e0
   obtain⟨p,ys,rfl,hs,rs⟩:=h2.seqV hq
   refine⟨_,h1,p,ys,rfl,.inl hs,fun l hl=>?_⟩
   obtain⟨a1,a2,a3⟩:=alloc gd hl (rs.any gd.wl)
   exact k _ _ _ _ a1 a2 a3
  ·cases ee
 ·rename_i ds q0 e0
  cases ee
  obtain⟨v,F,h1,h2⟩:=gd.slot i _ q0 e0
  obtain⟨p,ys,rfl,hs,rs⟩:=h2.seqT
  refine⟨_,h1,p,ys,rfl,.inr hs,fun l hl=>?_⟩
  obtain⟨a1,a2,a3⟩:=alloc gd hl (rs.any gd.wl)
  exact k _ _ _ _ a1 a2 a3
 ·cases ee
end
end L3
namespace L3
open PySem PySem.Spec PyProof.Rows PySem.W L2
abbrev met (ks:List Int):List Int:=firstMet (fun i=>ks.getD i 0) ks.length
theorem x54:∀ {ks:List Int} {us:List Value},x28 (ks.map V.int) us->IntsAre us ks
 | [],_,h=>by cases h;exact .nil
 | k::ks,_,h=>by
  cases h with
  | cons r rs=>
   obtain⟨t,rfl⟩:=r
   exact .cons k t (x54 rs)
def bl (m:Nat):List Nat:=(List.range 5).filter fun i=>m.testBit i
def bt (m:Nat)(led:Bool):SetTable:={ mask:=if(bl m).length<5 then 7 else 31,place:=(bl m).toArray,dummies:=#[],finger:=0,led:=led,moves:=if(bl m).length<5 then 0 else 1,plain:=true }
def esL (m:Nat)(z:Nat->Tok):Array (Int×Value):=((bl m).map fun v:Nat=>(Int.ofNat v,Value.int (Int.ofNat v) (z v))).toArray
def so (m:Nat)(z:Nat->Tok)(ep:Nat)(led:Bool):Obj:={ cls:=.type "set",dict:=none,data:=.set (esL m z) ep (bt m led) }
def bor (m v:Nat):Nat:=m ||| 1 <<< v
def mb (val:Nat->Nat):Nat->Nat
 | 0=>0
 | i+1=>bor (mb val i) (val i)
theorem x9a:∀ {ks:List Int} {us:List Value},IntsAre us ks->x28 (ks.map V.int) us
 | _,_,.nil=>.nil
 | _,_,.cons k t r=>.cons ⟨t,rfl⟩ (x9a r)
end L3
namespace L3
open PySem PySem.Spec PyProof.Rows L2
end L3
namespace L3
open PySem PySem.Spec PyProof.Rows PySem.W L2
end L3
namespace L3
open PySem PySem.Spec PyProof.Rows L2
end L3
namespace L3
open PySem PySem.Spec PyProof.Rows PySem.W L2
end L3
namespace L3
open PySem PySem.Spec PyProof.Rows L2
end L3
namespace L3
open PySem PySem.Spec PyProof.Rows PySem.W L2
variable {Fg Ft:List D->OD}{H H':Hp}{K:PySem.W.Frag}{Q:Value->Shared->Prop}{X:Cx}{a p:Addr}{body:Expr}{caps ps:List Str}{d tab:D}{fb:Den}{h:Heap}{kb q t:Nat}{ks l:List Int}{kvs:List (Key×V)}{o:Obj}{params:Arguments}{pins:List (Addr×Obj)}{r:Int}{s s':Shared}{scope:Scope}{ta:TA}{u:Value}{vs:List Value}{w:Wn}{x:HO}{ρ:Rho}
def z6x (k:Int)(ks:List Int):Int:=ks.foldl (fun a b=>if b > a then b else a) k
theorem y81:∀ (ks:List Int) (k:Int),k<=z6x k ks/\(∀ a,a∈ks->a<=z6x k ks)/\z6x k ks∈k::ks
 | [],k=>⟨Int.le_refl _,fun a h=>(by cases h),List.mem_cons_self⟩
 | b::ks,k=>by
  have e:z6x k (b::ks)=z6x (if b > k then b else k) ks:=rfl
  rw[e]
  by_cases hb:b > k
  ·rw[if_pos hb]
   obtain⟨h1,h2,h3⟩:=y81 ks b
   refine⟨by omega,fun a ha=>?_,List.mem_cons_of_mem _ h3⟩
   rcases List.mem_cons.mp ha with q|q
   ·rw[q];exact h1
   ·exact h2 a q
  ·rw[if_neg hb]
   obtain⟨h1,h2,h3⟩:=y81 ks k
   refine⟨h1,fun a ha=>?_,?_⟩
   ·rcases List.mem_cons.mp ha with q|q
    ·rw[q];omega
    ·exact h2 a q
   ·rcases List.mem_cons.mp h3 with q|q
    ·rw[q];exact List.mem_cons_self
    ·exact List.mem_cons_of_mem _ (List.mem_cons_of_mem _ q)
def j0c (val:Nat->Int):Nat->Nat->Int->Int
 | 0,_,b=>b
 | m+1,i,b=>j0c val m (i+1) (if val i > b then val i else b)
abbrev lo2 (b:Int)(t:Tok)(c:Nat):Obj:={ cls:=.type "list",dict:=none,data:=.seq #[.int b t,.int b t] c,slots:=#[] }
section
variable {prog:Program}{w:World}{A:Around}{R:Result->Shared->Prop}{I S:Addr}{fp wr:List Addr}{n:Nat}{P:Nat->Value->Prop}{St:Nat->Heap->Prop}{d:Value}
theorem y3t(Wk:Walks prog w A.in1 I fp wr n P St)(val:Nat->Int)(hval:∀ i v,P i v->∃ t,v=.int (val i) t)(hout:S ∉ fp) :
  ∀ (m i:Nat) (s:Shared) (b:Int) (t:Tok) (c:Nat),i+m=n->St i s.heap->s.heap.get? S=some (lo2 b t c)->
   (∀ h' tk t',(∀ x o,x ∉ wr->x≠S->s.heap.get? x=some o->h'.get? x=some o)->R (.ok (.ret (.int (j0c val m i b) t'))) { s with heap:=h',toks:=tk })->
   codeAny (model prog w) A (.builtin "max.loop" ⟨[.ref I,.none,.ref S],[(Str.ofString "default",d)]⟩) R s
 | 0,i,s,b,t,c,hm,st,g,k=>by
  have nw:S ∉ wr:=fun z=>hout (Wk.sub _ z)
  have e:i=n:=by omega
  subst e
  refine codeAny_builtin PySem.F.entry_max_loop (by
   rw[Around.under_plainId PySem.F.plain_max_loop _]
   refine(show wpAny _ A.in1 (seqItems? (.ref S) >>= _) _ _ s from wpAny_bind (wpAny_seqItems g rfl ?_))
   refine(show wpAny _ A.in1 (tryCatch (pyNext (.ref I)) _ >>= _) _ _ s from wpAny_bind (wpAny_tryCatch (Wk.done s _ _ st fun h1 tk keep=>?_)))
   have g1:=keep S _ nw g
   refine(show wpAny _ A.in1 (updateSeq S (fun _=>#[]) >>= _) _ _ _ from wpAny_bind (wpAny_updateSeq g1 rfl (wpAny_bind (wpAny_letGo (wpAny_pure ?_)))))
   exact k _ tk t fun x o hx hs q=>(Heap.get?_update_other _ _ (Ne.symm hs)).trans (keep x o hx q))
 | m+1,i,s,b,t,c,hm,st,g,k=>by
  have nw:S ∉ wr:=fun z=>hout (Wk.sub _ z)
  have hname:(toString "max" ++ toString ".loop":String) = "max.loop":=by decide
  refine codeAny_builtin PySem.F.entry_max_loop (by
   rw[Around.under_plainId PySem.F.plain_max_loop _]
   refine(show wpAny _ A.in1 (seqItems? (.ref S) >>= _) _ _ s from wpAny_bind (wpAny_seqItems g rfl ?_))
   refine(show wpAny _ A.in1 (tryCatch (pyNext (.ref I)) _ >>= _) _ _ s from wpAny_bind (wpAny_tryCatch (Wk.item i s _ _ (by omega) st fun v h1 tk hp st1 keep=>?_)))
   have g1:=keep S _ nw g
   obtain⟨tv,rfl⟩:=hval i v hp
   refine(show wpAny _ A.in1 (tryCatch (holding [Value.int (val i) tv,Value.int (val i) tv] (richCompare .Gt (Value.int (val i) tv) (Value.int b t) >>= _)) _ >>= _) _ _ _ from ?_)
   have cmp:=CmpOf.ints_gt (prog:=prog) (w:=w) (A:=A.in1) (P:=fun j u=>(j=0/\u=Value.int (val i) tv)\/(j=1/\u=Value.int b t)) (fun j=>if j=0 then val i else b) (fun j u q=>by
    rcases q with⟨rfl,rfl⟩|⟨rfl,rfl⟩
    ·exact⟨tv,rfl⟩
    ·exact⟨t,rfl⟩)
   refine wpAny_bind (wpAny_tryCatch (wpAny_holding (wpAny_bind (cmp 0 1 _ _ _ _ _ (.inl ⟨rfl,rfl⟩) (.inr ⟨rfl,rfl⟩) ?_))))
   refine wpAny_bind (wpAny_holding (wpAny_truthy_bool (wpAny_bind (wpAny_letGo (wpAny_pure ?_)))))
   by_cases hb:val i > b
   ·refine(show wpAny _ A.in1 (if decide (val i > b)=true then _ else _) _ _ _ from ?_)
    rw[if_pos (decide_eq_true hb)]
    refine wpAny_bind (wpAny_updateSeq g1 rfl (wpAny_bind (wpAny_letGo ?_)))
    rw[hname]
    refine wpAny_pure ⟨plainId_quiet PySem.F.plain_max_loop _,y3t Wk val hval hout m (i+1) _ (val i) tv _ (by omega) (Wk.frame _ _ _ st1 fun x hx o q=>(Heap.get?_update_other _ _ (fun z:S=x=>hout (z ▸ hx))).trans q) (Heap.get?_update_self _ g1 rfl) fun h2 tk2 t2 keep2=>?_⟩
    have:=k h2 tk2 t2 fun x o hx hs q=>keep2 x o hx hs ((Heap.get?_update_other _ _ (Ne.symm hs)).trans (keep x o hx q))
    unfold j0c at this
    rw[if_pos hb]at this
    exact this
   ·refine(show wpAny _ A.in1 (if decide (val i > b)=true then _ else _) _ _ _ from ?_)
    rw[if_neg (by rw[decide_eq_false hb];exact Bool.false_ne_true)]
    refine wpAny_bind (wpAny_letGo ?_)
    rw[hname]
    refine wpAny_pure ⟨plainId_quiet PySem.F.plain_max_loop _,y3t Wk val hval hout m (i+1) _ b t c (by omega) st1 g1 fun h2 tk2 t2 keep2=>?_⟩
    have:=k h2 tk2 t2 fun x o hx hs q=>keep2 x o hx hs (keep x o hx q)
    unfold j0c at this
    rw[if_neg hb]at this
    exact this)
theorem z1m(Wk:Walks prog w A.in1 I fp wr n P St)(val:Nat->Int)(hval:∀ i v,P i v->∃ t,v=.int (val i) t)(hout:S ∉ fp){c:Nat}(st:St 0 s.heap)(g:s.heap.get? S=some { cls:=.type "list",dict:=none,data:=.seq #[] c,slots:=#[] })
  (k0:n=0->∀ h' tk,(∀ x o,x ∉ wr->x≠S->s.heap.get? x=some o->h'.get? x=some o)->R (.ok (.ret d)) { s with heap:=h',toks:=tk })
  (k1:∀ m,n=m+1->∀ h' tk t',(∀ x o,x ∉ wr->x≠S->s.heap.get? x=some o->h'.get? x=some o)->R (.ok (.ret (.int (j0c val m 1 (val 0)) t'))) { s with heap:=h',toks:=tk }) :
  codeAny (model prog w) A (.builtin "max.loop" ⟨[.ref I,.none,.ref S],[(Str.ofString "default",d)]⟩) R s:=by
 have nw:S ∉ wr:=fun z=>hout (Wk.sub _ z)
 have hname:(toString "max" ++ toString ".loop":String) = "max.loop":=by decide
 refine codeAny_builtin PySem.F.entry_max_loop (by
  rw[Around.under_plainId PySem.F.plain_max_loop _]
  refine(show wpAny _ A.in1 (seqItems? (.ref S) >>= _) _ _ s from wpAny_bind (wpAny_seqItems g rfl ?_))
  cases hn:n with
  | zero=>
   refine(show wpAny _ A.in1 (tryCatch (pyNext (.ref I)) _ >>= _) _ _ s from wpAny_bind (wpAny_tryCatch (Wk.done s _ _ (hn.symm ▸ st) fun h1 tk keep=>?_)))
   refine(show wpAny _ A.in1 (rule _ >>= _) _ _ _ from wpAny_bind (wpAny_rule (wpAny_pure ?_)))
   exact k0 hn h1 tk fun x o hx hs q=>keep x o hx q
  | succ m=>
   refine(show wpAny _ A.in1 (tryCatch (pyNext (.ref I)) _ >>= _) _ _ s from wpAny_bind (wpAny_tryCatch (Wk.item 0 s _ _ (by omega) st fun v h1 tk hp st1 keep=>?_)))
   have g1:=keep S _ nw g
   obtain⟨tv,rfl⟩:=hval 0 v hp
   refine(show wpAny _ A.in1 (updateSeq S (fun _=>#[Value.int (val 0) tv,Value.int (val 0) tv]) >>= _) _ _ _ from wpAny_bind (wpAny_updateSeq g1 rfl ?_))
   rw[hname]
   refine wpAny_pure ⟨plainId_quiet PySem.F.plain_max_loop _,y3t Wk val hval hout m 1 _ (val 0) tv _ (by omega) (Wk.frame _ _ _ st1 fun x hx o q=>(Heap.get?_update_other _ _ (fun z:S=x=>hout (z ▸ hx))).trans q) (Heap.get?_update_self _ g1 rfl) fun h2 tk2 t2 keep2=>?_⟩
   exact k1 m hn h2 tk2 t2 fun x o hx hs q=>keep2 x o hx hs ((Heap.get?_update_other _ _ (Ne.symm hs)).trans (keep x o hx q)))
end
theorem y96(ks:List Int):∀ (m i:Nat) (b:Int),i+m=ks.length->j0c (fun j=>ks.getD j 0) m i b=z6x b (ks.drop i)
 | 0,i,b,h=>by rw[List.drop_eq_nil_of_le (by omega)];rfl
 | m+1,i,b,h=>by
  rw[List.drop_eq_getElem_cons (show i<ks.length by omega)]
  have e:ks.getD i 0=ks[i]:=by rw[List.getD_eq_getElem?_getD,List.getElem?_eq_getElem (by omega)];rfl
  show j0c _ m (i+1) (if ks.getD i 0 > b then ks.getD i 0 else b)=z6x (if ks[i] > b then ks[i]else b) (ks.drop (i+1))
  rw[y96 ks m (i+1) _ (by omega),e]
theorem z2z(a v:Value):argsOk "max" ⟨[a],[(Str.ofString "default",v)]⟩:=by unfold argsOk;kernel_rfl
def j24 (d:Int):List Int->Int
 | []=>d
 | k::ks=>z6x k ks
section
variable {prog:Program}{w:World}{A:Around}{E:Value->Shared->Prop}{s:Shared}
theorem z4b{l:Addr}{d:Int}{dt:Tok}(hA:A.handled=none)(hl:s.heap.IsList l vs.toArray)(hk:IntsAre vs ks)
  (q:∀ h' tk t',(∀ b o,s.heap.get? b=some o->h'.get? b=some o)->Q (.int (j24 d ks) t') { s with heap:=h',toks:=tk }) :
  wpAny (model prog w) A (call (.builtin "max") [.ref l] [(Str.ofString "default",.int d dt)]) Q E s:=by
 have hname:(toString "max" ++ toString ".loop":String) = "max.loop":=by decide
 obtain⟨ol,hol,_⟩:=id hl
 have lt:=Heap.lt_size hol
 refine kmk_tree PySem.F.kind_max PySem.F.plain_max PySem.F.entry_max (z2z _ _) ?_
 refine(show wpAny _ A.in1 (Builtin.Builtins.bindParams "max" ["key","default"] 0 ⟨[],[(Str.ofString "default",.int d dt)]⟩ >>= _) _ _ s from ?_)
 refine wpAny_bind (wpAny_of_eq (show Builtin.Builtins.bindParams "max" ["key","default"] 0 ⟨[],[(Str.ofString "default",.int d dt)]⟩=pure [none,some (.int d dt)]from rfl) ?_)
 refine wpAny_bind (wpAny_pure (wpAny_bind (wpAny_pyIter_list hl (wpAny_bind (wpAny_newList ?_ (Nat.zero_le _))))))
 rw[hname]
 have sz:(s.heap.push { cls:=.type "list_iterator",data:=.fields #[.ref l,.int 0 0] }).objs.size=s.heap.objs.size+1:=Heap.size_push ..
 have hlen:vs.length=ks.length:=IntsAre.length hk
 have szv:vs.toArray.size=ks.length:=by rw[List.size_toArray,hlen]
 refine wpAny_pure ⟨plainId_quiet PySem.F.plain_max_loop _,?_⟩
 refine z1m (d:=.int d dt) (Walks.list (A:=A.in1) hA s.heap.objs.size l (Nat.ne_of_lt lt) vs.toArray) (fun j=>ks.getD j 0) (fun i v hv=>IntsAre.int_at hk i v (by rw[<- hv];simp)) (by
  rw[sz]
  simp only[List.mem_cons,List.not_mem_nil,or_false,not_or]
  exact⟨Nat.ne_of_gt (Nat.lt_succ_self _),Nat.ne_of_gt (Nat.lt_succ_of_lt lt)⟩) ⟨⟨_,Heap.get?_push_of_some _ (Heap.get?_push_size _ rfl),rfl,rfl⟩,(hl.push _).push _⟩ (Heap.get?_push_size _ rfl) (fun hn h' tk keep=>?_) fun m hn h' tk t' keep=>?_
 ·have:ks=[]:=List.eq_nil_of_length_eq_zero (by rw[<- szv];exact hn)
  subst this
  exact q h' tk dt fun b o e=>keep b o (fun z=>absurd (Heap.lt_size e) (by rw[List.mem_singleton.mp z];exact Nat.lt_irrefl _)) (by rw[sz];exact Nat.ne_of_lt (Nat.lt_succ_of_lt (Heap.lt_size e))) (Heap.get?_push_of_some _ (Heap.get?_push_of_some _ e))
 ·have hm:ks.length=m+1:=by rw[<- szv];exact hn
  obtain⟨k,ks',rfl⟩:∃ k ks',ks=k::ks':=by
   cases ks with
   | nil=>cases hm
   | cons k ks'=>exact⟨k,ks',rfl⟩
  rw[y96 (k::ks') m 1 _ (by omega)]
  exact q h' tk t' fun b o e=>keep b o (fun z=>absurd (Heap.lt_size e) (by rw[List.mem_singleton.mp z];exact Nat.lt_irrefl _)) (by rw[sz];exact Nat.ne_of_lt (Nat.lt_succ_of_lt (Heap.lt_size e))) (Heap.get?_push_of_some _ (Heap.get?_push_of_some _ e))
end
section
variable {X:Cx}{a:Expr}{fa:Den}{p pos kpos cpos:Pos}{d:Int}{j}
def j3n (K:PySem.W.Frag):List V->List V->Hp->VK->Prop:=fun xs ys H Q=>∃ t ks d,xs=[.ref t]/\ys=[.int d]/\SqL K H t (ks.map V.int)/\Q (.int (j24 d ks)) H
def j37 (K:PySem.W.Frag)(ta tk:TA):TE:=fun σ H Q=>ta σ H fun xs H1=>tk σ H1 fun ys H2=>j3n K xs ys H2 Q
theorem z8g{tk:TA}{dv:Expr}(hc:X.calm=true)(hg:Gl X "max")(hm:X.mg "max" = none)(hv:bootBuiltins "max" = some (.builtin "max"))(ha:PA X [a] ta)(hkw:PK X [⟨some "default",dv,kpos⟩] tk)
  (he:backTo pos (starEach [a] X.env)=(false,eval a X.env)::backTo pos (starEach [] X.env):=by rfl) (hpl:(backTo pos (starEach [a] X.env)).any (·.1)=false:=by rfl):PE X (.Call (.Name "max" p) [a] [⟨some "default",dv,kpos⟩] pos) (j37 X.K ta tk):=by
 intro pins s σ H Q I h
 refine wpAny_Call_Name_kw (y1a I hg hm hv ?_ (by decide) (by decide))
 refine callWith_kw (thn (ha pos pins s σ H _ I h) fun us s1 hh1=>?_) he hpl
 obtain⟨vs,H1,I1,r1,q1⟩:=hh1
 refine thn (hkw pos pins s1 σ H1 _ I1 q1) fun ws s2 hh2=>?_
 obtain⟨zs,H2,I2,rz,t,ks,d,rfl,rfl,hq,q⟩:=hh2
 obtain⟨u,rfl,ru⟩:=x9r r1
 cases ru
 obtain⟨u2,rfl,t2,rfl⟩:=x9r rz
 obtain⟨its,rv,pl,_⟩:=I2.list hq
 refine z4b (I2.ok.hd hc) pl.isList (x54 rv) fun h' tk t' kp=>?_
 exact⟨.int (j24 d ks),H2,I2.kept kp,⟨t',rfl⟩,q⟩
end
theorem z51{α β:Type}{f:α->β}{ps qs:List β}(h:ps.Perm qs):∀ {l:List α},qs=l.map f->∃ l':List α,l'.Perm l/\ps=l'.map f:=by
 induction h with
 | nil=>
  intro l e
  have:=List.map_eq_nil_iff.mp e.symm
  subst this
  exact⟨[],.nil,rfl⟩
 | cons x _ ih=>
  intro l e
  cases l with
  | nil=>cases e
  | cons a l=>
   rw[List.map_cons]at e
   cases e
   obtain⟨l',p,e'⟩:=ih rfl
   exact⟨a::l',p.cons a,by rw[e'];rfl⟩
 | swap x y _=>
  intro l e
  match l,e with
  | [],e=>cases e
  | [a],e=>simp at e
  | a::b::l,e=>
   rw[List.map_cons,List.map_cons]at e
   cases e
   exact⟨b::a::l,.swap a b l,rfl⟩
 | trans _ _ ih1 ih2=>
  intro l e
  obtain⟨l2,p2,e2⟩:=ih2 e
  obtain⟨l1,p1,e1⟩:=ih1 e2
  exact⟨l1,p1.trans p2,e1⟩
section
variable {prog:Program}{w:World}{A:Around}{E:Value->Shared->Prop}{s:Shared}{a kS:Addr}{vs:List Value}{kz:List Int}{keys:Array Value}{e e1:Nat}{P:PySem.Fin->Shared->Prop}
def y5b (h:Heap)(kS a:Addr)(out:Array Value):Heap:=(h.update kS (Obj.mapSeq fun _=>(#[]:Array Value))).update a (Obj.mapSeq fun _=>out)
theorem y8m{st:SortSt}(hk:s.heap.get? kS=some (seqObj "list" keys e))(ha:s.heap.get? a=some (seqObj "list" #[] e1))(hka:kS≠a)(hsz:keys.size=vs.length)(h64:vs.length<64)(hsz2:(arrOf st).size=vs.length)(hfl:failedOf st=none)
  (h:P (.done (.ret .none)) { s with heap:=y5b s.heap kS a ((arrOf st).map (·.2)) }):wpAny (model prog w) A (ksk_tail a false e1 (.ref kS) st) P E s:=by
 have na1:(s.heap.update kS (Obj.mapSeq fun _=>(#[]:Array Value))).get? a=some (seqObj "list" #[] e1):=(Heap.get?_update_other _ _ hka).trans ha
 unfold ksk_tail
 try dsimp only
 refine wpAny_bind (listUpdate_at hk rfl ?_ (by rw[hsz,sizeLine_eq];omega) (Nat.zero_le _))
 refine wpAny_bind (wpAny_letGo ?_)
 refine wpAny_bind (seqEpoch_at na1 rfl ?_)
 refine wpAny_bind (listUpdate_at na1 rfl ?_ (Nat.zero_le _) (by
  show((arrOf st).map (·.2)).size<=_
  rw[Array.size_map,hsz2,sizeLine_eq];omega))
 rw[hfl]
 simp only[bne_self_eq_false,Bool.false_eq_true,if_false]
 exact wpAny_pure h
theorem j0n(hk:s.heap.get? kS=some (seqObj "list" keys e))(ha:s.heap.get? a=some (seqObj "list" #[] e1))(hka:kS≠a)(hi:IntsAre keys.toList kz)(hlen:kz.length=vs.length)(h64:vs.length<64)
  (h:∀ out:Array Value,KskOut false kz vs out.toList->P (.done (.ret .none)) { s with heap:=y5b s.heap kS a out }):wpAny (model prog w) A (ksk_end a false vs.toArray e1 (.ref kS) keys) P E s:=by
 have hsz:keys.size=vs.length:=by
  have h1:=hi.length
  rw[Array.length_toList]at h1
  omega
 have hzs:(keys.zip vs.toArray).size=vs.length:=by rw[Array.size_zip,hsz,List.size_toArray,Nat.min_self]
 unfold ksk_end
 try dsimp only
 rw[if_neg (by decide)]
 by_cases h2:vs.toArray.size<2
 ·rw[if_pos h2,if_pos h2]
  refine wpAny_bind (wpAny_pure ?_)
  rw[StateT.run_pure]
  refine wpAny_bind (wpAny_pure ?_)
  try dsimp only
  refine y8m (st:=SortSt.mk' general' (keys.zip vs.toArray) #[] 7 none) hk ha hka hsz h64 hzs rfl (h _ ?_)
  refine ksk_out (b:=false) hi (Array.Perm.refl _) ?_
  intro i j hij hj
  have hj2:j<(keys.zip vs.toArray).size:=hj
  rw[hzs]at hj2
  rw[List.size_toArray]at h2
  have:i=j:=by omega
  subst this
  exact Int.le_refl _
 ·rw[if_neg h2,if_neg h2]
  rw[List.size_toArray]at h2
  rw[ksk_kind hi (by rw[hsz];omega)]
  refine wpAny_bind (wpAny_pure ?_)
  refine wpAny_bind (wpAny_mono (wpS_sortRuns (a₀:=keys.zip vs.toArray) (st:=SortSt.mk' oneType' (keys.zip vs.toArray) #[] 7 none)
   (Q:=fun _ st'=>(arrOf st').Perm (keys.zip vs.toArray)/\failedOf st'=none/\SortedTo (arrOf st') (keys.zip vs.toArray).size)
   (ksk_intKeys hi) ⟨Array.Perm.refl _,rfl,rfl,rfl⟩ (by rw[hzs];omega) (by rw[hzs];exact h64) fun st' a1 a2 a3=>⟨a1,a2,a3⟩) ?_ fun _ _ e=>e)
  rintro ⟨⟨⟩,st'⟩ s' ⟨rfl,hp,hf,hs⟩
  try dsimp only
  exact y8m hk ha hka hsz h64 (by rw[hp.size_eq,hzs]) hf (h _ (ksk_out (b:=false) hi hp (by rw[hp.size_eq];exact hs)))
end
def y1s (h:Heap)(vs:List Value):Heap:=(((h.push (seqObj "list" vs.toArray 0)).update h.objs.size (Obj.mapSeq fun _=>(#[]:Array Value))).push (seqObj "tuple" vs.toArray 0)).push (seqObj "list" #[] 0)
theorem y6i{b:Addr}(e:h.get? b=some o):(y1s h vs).get? b=some o:=
 Heap.get?_push_of_some _ (Heap.get?_push_of_some _ ((Heap.get?_update_other _ _ (Nat.ne_of_gt (Heap.lt_size e))).trans (Heap.get?_push_of_some _ e)))
theorem y0e:(((h.push (seqObj "list" vs.toArray 0)).update h.objs.size (Obj.mapSeq fun _=>(#[]:Array Value))).push (seqObj "tuple" vs.toArray 0)).objs.size=h.objs.size+2:=by
 rw[size_push',Heap.size_update,size_push']
section
variable {X:Cx}{pins:List (Addr×Obj)}{σ:St}{H:Hp}{s:Shared}{E:Value->Shared->Prop}{Q:Value->Shared->Prop}
theorem z1h:∀ {ks:List Int} {us:List Value},x28 (ks.map V.int) us->IntsAre us ks:=fun r=>x54 r
theorem z29(I:Inv X pins σ H s)(ha:s.heap.objs.size<=a)(hn:H' a=none)(e:s'.heap.get? a=some o)(hd:∀ v,o.data ≠ .cell v):s'.heap.get? a=some o/\H' a=none/\a≠X.env.locals/\a ∉ X.fs/\∀ v,o.data ≠ .cell v:=
 ⟨e,hn,fun z=>absurd I.lt (Nat.not_lt.mpr (z ▸ ha)),I.nofs ha,hd⟩
theorem y4s{h':Heap}{pins':List (Addr×Obj)}(I:Inv X pins σ H s)(ha:s.heap.objs.size<=a)(J:Inv X pins' σ H' s')(hn:H' a=none)(k:∀ b o,b≠a->s'.heap.get? b=some o->h'.get? b=some o)(hp:∀ p∈pins',p.1≠a):Inv X pins' σ H' { s' with heap:=h' }:=by
 refine J.turned (t':=s'.toks) k hn (fun z=>absurd I.lt (Nat.not_lt.mpr (z ▸ ha))) (.inr (Nat.le_trans I.sz ha)) (fun x c e z=>?_) fun p hp'=>?_
 ·obtain⟨v,q⟩:=I.cell x c e
  exact absurd q.lt (Nat.not_lt.mpr (z ▸ ha))
 ·rcases List.mem_append.mp hp' with q|q
  ·exact fun z=>absurd (Heap.lt_size (I.pin p (List.mem_append_left _ q)).1) (Nat.not_lt.mpr (z ▸ ha))
  ·exact hp p q
theorem z2h{o:HO}(I:Inv X pins σ H s)(ha:s.heap.objs.size<=a)(J:Inv X pins σ H' s')(hn:H' a=none)(new:x29 X.prog X.w (upd H' a o) s'.heap a o):Inv X pins σ (upd H' a o) s':=by
 have ne:∀ b u,H' b=some u->b≠a:=fun b u e z=>by rw[z,hn]at e;cases e
 refine J.call' (ch:=[a]) rfl ⟨fun b o q n _ _=>q,fun b o q n _ _=>⟨o.slots,q⟩,fun b ob q n hx=>(x0h (fun z=>hx (by simp[z]))).trans n,fun b ob q _=>⟨_,q⟩,fun b xs e=>(x0h (ne b _ e)).trans e,fun b ob u e=>(x0h (ne b _ e)).trans e,fun b ps e=>⟨#[],by rw[x0h (ne b _ e),e];simp⟩⟩ (HOk.add J.hok hn new) J.bare fun b hb=>?_
 have eb:b=a:=by simpa using hb
 subst eb
 refine⟨.inr (Nat.le_trans I.sz ha),fun z=>absurd I.lt (Nat.not_lt.mpr (z ▸ ha)),fun x c e z=>?_,fun p hp z=>?_⟩
 ·obtain⟨v,q⟩:=I.cell x c e
  exact absurd q.lt (Nat.not_lt.mpr (z ▸ ha))
 ·exact absurd (Heap.lt_size (I.pin p hp).1) (Nat.not_lt.mpr (z ▸ ha))
theorem z0e{A:Around}{arg:Value}{fa:Addr}{g:Int->Int}(R:Hp->Prop)(I:Inv X pins σ H s)(hR:R H)(h64:ks.length<64)
  (hcol:∀ (Q':List Value->Shared->Prop),(∀ us h' tk,(∀ b o,s.heap.get? b=some o->h'.get? b=some o)->x28 (ks.map V.int) us->Q' us { s with heap:=h',toks:=tk })->wpAny (model X.prog X.w) A.in1 (collect arg) Q' E s)
  (key:∀ k∈ks,∀ (pins':List (Addr×Obj)) (s':Shared) (H':Hp) (u:Value),Inv X pins' σ H' s'->R H'->x39 (.int k) u->
    wpAny (model X.prog X.w) A.in1.in1 (call (.ref fa) [u]) (fun v s''=>∃ t H'',v=.int (g k) t/\Inv X pins' σ H'' s''/\R H'') (fun _ _=>False) s')
  (fin:∀ (ks':List Int) (H':Hp) (p:Addr) (s':Shared),ks'.Perm ks->ks'.Pairwise (fun a b=>g a<=g b)->R H'->H' p=none->Inv X pins σ (upd H' p (.lst (ks'.map V.int))) s'->Q (.ref p) s') :
  wpAny (model X.prog X.w) A (call (.builtin "sorted") [arg] [(Str.ofString "key",.ref fa)]) Q E s:=by
 refine call_function_entry_kw kind_sorted plain_sorted entry_sorted (ksk_s1 _ _) ?_
 unfold Builtin.«sorted»
 refine wpAny_bind (m:=checkCount "sorted" 1 1 _) (wpAny_pure ?_)
 refine wpAny_bind (hcol _ fun us h1 tk1 k1 rv=>?_)
 have hi:=z1h rv
 have hul:us.length=ks.length:=hi.length
 have I1:Inv X pins σ H { s with heap:=h1,toks:=tk1 }:=I.kept k1
 refine wpAny_bind (wpAny_newList ?_ (by rw[sizeLine_eq];omega))
 have hoL:(h1.push (seqObj "list" us.toArray 0)).get? h1.objs.size=some (seqObj "list" us.toArray 0):=Heap.get?_push_size _ rfl
 show wpAny _ _ _ _ _ { s with heap:=h1.push (seqObj "list" us.toArray 0),toks:=tk1 }
 refine wpAny_bind (wpAny_holding (wpAny_call_entry_kw slot_list_sort ⟨_,hoL,rfl⟩ entry_list_sort ?body (ksk_l1 _ _)))
 case body=>
  show wpAny (model X.prog X.w) A.in1.in1 (Builtin.«list.sort» ⟨[.ref h1.objs.size],[(Str.ofString "key",.ref fa)]⟩) _ _ _
  rw[ksk_t1]
  unfold ksk_tree
  obtain⟨e1,ho1⟩:∃ e1,((h1.push (seqObj "list" us.toArray 0)).update h1.objs.size (Obj.mapSeq fun _=>(#[]:Array Value))).get? h1.objs.size=some (seqObj "list" #[] e1):=⟨_,get?_update_seq hoL fun _=>#[]⟩
  refine wpAny_bind (listItems_at hoL rfl ?_)
  refine wpAny_bind (listUpdate_at hoL rfl ?_ (by rw[List.size_toArray,sizeLine_eq];omega) (Nat.zero_le _))
  refine wpAny_bind (seqEpoch_at ho1 rfl ?_)
  refine wpAny_bind (wpAny_newTuple ?_ (by show us.length<=_;rw[sizeLine_eq];omega))
  refine wpAny_bind (wpAny_newList ?_ (Nat.zero_le _))
  refine wpAny_holding ?_
  show wpAny _ _ (ksk_rest h1.objs.size (.ref fa) false us.toArray e1 (.ref (((h1.push (seqObj "list" us.toArray 0)).update h1.objs.size (Obj.mapSeq fun _=>(#[]:Array Value))).push (seqObj "tuple" us.toArray 0)).objs.size)) _ _ { s with heap:=y1s h1 us,toks:=tk1 }
  rw[y0e]
  have ea:(y1s h1 us).get? h1.objs.size=some (seqObj "list" #[] e1):=Heap.get?_push_of_some _ (Heap.get?_push_of_some _ ho1)
  have ek:(y1s h1 us).get? (h1.objs.size+2)=some (seqObj "list" #[] 0):=by
   rw[<- y0e (h:=h1) (vs:=us)];exact Heap.get?_push_size _ rfl
  have J0:Inv X pins σ H { s with heap:=y1s h1 us,toks:=tk1 }:=I1.kept (t':=tk1) fun b o e=>y6i e
  have la:({ s with heap:=h1,toks:=tk1 }:Shared).heap.objs.size<=h1.objs.size:=Nat.le_refl _
  have lk:({ s with heap:=h1,toks:=tk1 }:Shared).heap.objs.size<=h1.objs.size+2:=Nat.le_add_right _ 2
  have hka:h1.objs.size+2≠h1.objs.size:=by omega
  have pin2:∀ {H':Hp} {s':Shared} {kA:Array Value} {e:Nat},H' h1.objs.size=none->H' (h1.objs.size+2)=none->s'.heap.get? h1.objs.size=some (seqObj "list" #[] e1)->s'.heap.get? (h1.objs.size+2)=some (seqObj "list" kA e)->(∀ p∈pins,s'.heap.get? p.1=some p.2/\H' p.1=none/\p.1≠X.env.locals/\p.1 ∉ X.fs/\∀ v,p.2.data ≠ .cell v)->
    ∀ p∈(h1.objs.size+2,seqObj "list" kA e)::(h1.objs.size,seqObj "list" #[] e1)::pins,s'.heap.get? p.1=some p.2/\H' p.1=none/\p.1≠X.env.locals/\p.1 ∉ X.fs/\∀ v,p.2.data ≠ .cell v:=fun n1 n2 x1 x2 hp p hm=>by
   rcases List.mem_cons.mp hm with rfl|hm
   ·exact z29 I1 lk n2 x2 (fun v z=>nomatch z)
   rcases List.mem_cons.mp hm with rfl|hm
   ·exact z29 I1 la n1 x1 (fun v z=>nomatch z)
   ·exact hp p hm
  have J1:=J0.pins_of (pins':=(h1.objs.size+2,seqObj "list" #[] 0)::(h1.objs.size,seqObj "list" #[] e1)::pins) (pin2 (I1.hok.fresh la) (I1.hok.fresh lk) ea ek fun p hp=>J0.pin p (List.mem_append_right _ hp))
  have nea:∀ p∈pins,p.1≠h1.objs.size/\p.1≠h1.objs.size+2:=fun p hp=>by
   have:=Heap.lt_size (I1.pin p (List.mem_append_right _ hp)).1
   have this':p.1<h1.objs.size:=this
   exact⟨Nat.ne_of_lt this',Nat.ne_of_lt (Nat.lt_trans this' (Nat.lt_add_of_pos_right (by decide)))⟩
  unfold ksk_rest
  refine wpAny_bind (wpAny_rule ?_)
  first
   | rw[List.forIn_toArray]
   | (rw[<- Array.forIn_toList];simp only[List.toList_toArray])
   | rw[<- Array.forIn_toList]
  refine wpAny_bind (ksk_fold (fun i s'=>∃ H' kA e,Inv X ((h1.objs.size+2,seqObj "list" kA e)::(h1.objs.size,seqObj "list" #[] e1)::pins) σ H' s'/\R H'/\IntsAre kA.toList ((ks.map g).take i)) us 0 _
   ⟨H,#[],0,J1,hR,by simpa using IntsAre.nil⟩ ?step ?done)
  case step=>
   rintro j x s' hx ⟨H',kA,e,J,hR',hk⟩
   simp only[Nat.zero_add]at hk ⊢
   have hj:j<us.length:=(List.getElem?_eq_some_iff.mp hx).1
   have hjk:j<ks.length:=by omega
   have hz:kA.size<=ks.length:=by
    have h1:=hk.length
    rw[Array.length_toList,List.length_take,List.length_map]at h1
    omega
   have rx:x39 (.int ks[j]) x:=by
    obtain⟨u,hu,r⟩:=rv.get (i:=j) (x:=V.int ks[j]) (by simp[hjk])
    rw[hx]at hu;cases hu
    exact r
   refine wpAny_bind (wpAny_attempt (wpAny_mono (key ks[j] (List.getElem_mem hjk) _ s' H' x J hR' rx) (fun v s'' he=>?_) fun _ _ hF=>hF.elim))
   obtain⟨t2,H2,rfl,J2,hR2⟩:=he
   try dsimp only
   have nk:=J2.pin (h1.objs.size+2,seqObj "list" kA e) (List.mem_append_right _ (.head _))
   have na:=J2.pin (h1.objs.size,seqObj "list" #[] e1) (List.mem_append_right _ (.tail _ (.head _)))
   have s1:=Heap.SameBut.update s''.heap (h1.objs.size+2) (Obj.mapSeq (·.push (.int (g ks[j]) t2)))
   obtain⟨c2,hc2⟩:∃ c2,(s''.heap.update (h1.objs.size+2) (Obj.mapSeq (·.push (.int (g ks[j]) t2)))).get? (h1.objs.size+2)=some (seqObj "list" (kA.push (.int (g ks[j]) t2)) c2):=⟨_,get?_update_seq nk.1 (·.push (.int (g ks[j]) t2))⟩
   have et:(ks.map g).take (j+1)=(ks.map g).take j++[g ks[j]]:=by rw[List.take_add_one];simp[hjk]
   have eA:(kA.push (Value.int (g ks[j]) t2)).toList=kA.toList++[Value.int (g ks[j]) t2]:=by simp
   refine wpAny_bind (listUpdate_at nk.1 rfl ?_ (by rw[sizeLine_eq];omega) (Nat.le_trans (Nat.le_of_eq (Array.size_push ..)) (by rw[sizeLine_eq];omega)))
   refine wpAny_pure ⟨rfl,H2,kA.push (.int (g ks[j]) t2),c2,?_,hR2,by rw[eA,et];exact ksk_snoc hk⟩
   have J3:=J2.pins_of (pins':=pins) fun p hp=>J2.pin p (List.mem_append_right _ (.tail _ (.tail _ hp)))
   have J4:=y4s (h':=s''.heap.update (h1.objs.size+2) (Obj.mapSeq (·.push (.int (g ks[j]) t2)))) I1 lk J3 nk.2.1 (fun b o n q=>s1.extBut b o n q) fun p hp=>(nea p hp).2
   exact J4.pins_of (pin2 na.2.1 nk.2.1 (s1.extBut _ _ (Ne.symm hka) na.1) hc2 fun p hp=>J4.pin p (List.mem_append_right _ hp))
  case done=>
   rintro s' ⟨H',kA,e,J,hR',hk⟩
   have hk':IntsAre kA.toList (ks.map g):=by
    have e3:(ks.map g).take (0+us.length)=ks.map g:=List.take_of_length_le (by rw[List.length_map];omega)
    rw[e3]at hk
    exact hk
   have nk:=J.pin (h1.objs.size+2,seqObj "list" kA e) (List.mem_append_right _ (.head _))
   have na:=J.pin (h1.objs.size,seqObj "list" #[] e1) (List.mem_append_right _ (.tail _ (.head _)))
   try dsimp only
   refine wpAny_bind (listItems_at nk.1 rfl ?_)
   refine j0n nk.1 na.1 hka hk' (by rw[List.length_map];omega) (by omega) fun out ko=>⟨.none,rfl,?_⟩
   obtain⟨ps,hp,ho,hs⟩:=ko
   -- the items by their keys
   have hz:(ks.map g).zip us=(List.range ks.length).map fun i=>(g (ks.getD i 0),us.getD i .none):=by
    apply List.ext_getElem?
    intro i
    by_cases hi2:i<ks.length
    ·have hi3:i<us.length:=by omega
     have z0:((ks.map g).zip us)[i]? = some (g ks[i],us[i]):=List.getElem?_zip_eq_some.mpr ⟨by simp[hi2],by simp[hi3]⟩
     rw[z0]
     simp[hi2,hi3]
    ·rw[List.getElem?_eq_none (by simp;omega),List.getElem?_eq_none (by simp;omega)]
   have hval:∀ i,i<ks.length->x39 (.int (ks.getD i 0)) (us.getD i .none):=fun i hi2=>by
    obtain⟨u,hu,r⟩:=rv.get (i:=i) (x:=V.int (ks.getD i 0)) (by simp[hi2])
    have:us.getD i .none=u:=by rw[List.getD_eq_getElem?_getD,hu];rfl
    rw[this];exact r
   rw[hz]at hp
   obtain⟨l,hl,rfl⟩:∃ l:List Nat,l.Perm (List.range ks.length)/\ps=l.map fun i=>(g (ks.getD i 0),us.getD i .none):=z51 hp rfl
   have hlt:∀ i∈l,i<ks.length:=fun i hi2=>List.mem_range.mp (hl.mem_iff.mp hi2)
   have eo:out.toList=l.map fun i=>us.getD i .none:=by rw[ho,List.map_map];rfl
   have rvo:x28 ((l.map fun i=>ks.getD i 0).map V.int) out.toList:=by
    rw[eo,List.map_map]
    clear hl hs eo ho hp
    induction l with
    | nil=>exact .nil
    | cons i l ih=>exact .cons (hval i (hlt i List.mem_cons_self)) (ih fun j hj=>hlt j (List.mem_cons_of_mem _ hj))
   have s1:=Heap.SameBut.update s'.heap (h1.objs.size+2) (Obj.mapSeq fun _=>(#[]:Array Value))
   have s2:=Heap.SameBut.update (s'.heap.update (h1.objs.size+2) (Obj.mapSeq fun _=>(#[]:Array Value))) h1.objs.size (Obj.mapSeq fun _=>out)
   have na1:(s'.heap.update (h1.objs.size+2) (Obj.mapSeq fun _=>(#[]:Array Value))).get? h1.objs.size=some (seqObj "list" #[] e1):=s1.extBut _ _ (Ne.symm hka) na.1
   obtain⟨c2,hc2⟩:∃ c2,(y5b s'.heap (h1.objs.size+2) h1.objs.size out).get? h1.objs.size=some (seqObj "list" out c2):=⟨_,get?_update_seq na1 fun _=>out⟩
   have J3:=J.pins_of (pins':=pins) fun p hp=>J.pin p (List.mem_append_right _ (.tail _ (.tail _ hp)))
   have J4:=y4s (h':=s'.heap.update (h1.objs.size+2) (Obj.mapSeq fun _=>(#[]:Array Value))) I1 lk J3 nk.2.1 (fun b o n q=>s1.extBut b o n q) fun p hp=>(nea p hp).2
   have J5:=y4s (h':=y5b s'.heap (h1.objs.size+2) h1.objs.size out) I1 la J4 na.2.1 (fun b o n q=>s2.extBut b o n q) fun p hp=>(nea p hp).1
   have hlen:l.length=ks.length:=by rw[hl.length_eq,List.length_range]
   have hout:((l.map fun i=>ks.getD i 0).map V.int).length<=sizeLine:=by rw[List.length_map,List.length_map,hlen,sizeLine_eq];omega
   have J6:Inv X pins σ (upd H' h1.objs.size (.lst ((l.map fun i=>ks.getD i 0).map V.int))) { s' with heap:=y5b s'.heap (h1.objs.size+2) h1.objs.size out }:=z2h I1 la J5 na.2.1 ⟨hout,out.toList,c2,rvo,by rw[Array.toArray_toList];exact hc2⟩
   refine wpAny_pure ⟨_,rfl,fin _ H' _ _ ?_ ?_ hR' na.2.1 J6⟩
   ·have:(List.range ks.length).map (fun i=>ks.getD i 0)=ks:=by
     apply List.ext_getElem?
     intro i
     by_cases hi2:i<ks.length
     ·simp[hi2]
     ·rw[List.getElem?_eq_none (by simp;omega),List.getElem?_eq_none (by omega)]
    have hm:=hl.map fun i=>ks.getD i 0
    rw[this]at hm
    exact hm
   ·rw[List.pairwise_map]at hs ⊢
    exact hs.imp fun h=>h
end
theorem z4y{is:List Nat}{σ:St}{cds:List D}{f c':Addr}{pm ctv:Value}{oc:Obj}{u1 u2:HO}{A2:Around}{E:Value->Shared->Prop}{r:D}{v:V}
  (hfn:X.fn=fun _=>true) (S:LamScope ps caps scope) (hp1:ps.length=1)
  (hbody:∀ (base':Heap) (f c':Addr) (cl:List (Str×Addr)) (q:Str) (A:Around) (outer:List Env) (s:Shared) (H:Hp),Room kb (A.deeper (envX q scope s.heap.objs.size f (.ref c') cl))->PD (cxL X.prog X.w X.K X.mg base' (ps++caps) q scope f (.ref c') cl A outer s H) body fb)
  (hbind:∀ (cl:List (Str×Addr)) (pm cdv ctv:Value) (us:List Value),us.length=ps.length->bindArgs (kla_fn "<lambda>" (X.env.qual ++ "<lambda>") params body scope cl pm cdv ctv) ⟨us,[]⟩=pure (ps.zip us))
  (hN:∀ (j:Nat) (z:Str),caps[j]? = some z->∃ i,is[j]? = some i/\X.N[i]? = some z/\X.env.scope.names.lookup z=some .cell) (hl:is.length=caps.length) (hA:A2.frames=X.A.frames) (hr:Room (kb+1) A2)
  (I2:Inv X pins σ H s) (g2:Good X.K ρ σ H w t) (hc:j1v is ρ=some cds)
  (hf:H f=some (.frz (kla_obj "<lambda>" (X.env.qual ++ "<lambda>") params body scope (x9i caps X.env.cells) pm c' ctv) u1)) (hc':H c'=some (.frz oc u2)) (clo:Clo (kla_obj "<lambda>" (X.env.qual ++ "<lambda>") params body scope (x9i caps X.env.cells) pm c' ctv) c' oc)
  (rv:x39 v u) (rd:Rep X.K H w .f 0 d v []) (ee:z7o fb cds [d]=some (r,q))
  (k:∀ v' H' w' F s' u',Inv X pins σ H' s'->x39 v' u'->Good X.K ρ σ H' w' (t+1)->Go H w H' w'->Rep X.K H' w' (.t t) q r v' F->Q u' s') :
  wpAny (model X.prog X.w) A2 (call (.ref f) [u]) Q E s:=by
 obtain⟨cvs,rc,lc,kc⟩:=z25 g2 hc
 have cl_at:∀ z c,(x9i caps X.env.cells).lookup z=some c->∃ v,s.heap.IsCell c v:=fun z c e=>I2.cell z c (y1y e)
 have exs:∀ z c,(x9i caps X.env.cells).lookup z=some c->c∈(x9i caps X.env.cells).map (·.2):=fun z c e=>List.mem_map.mpr ⟨(z,c),PySem.mem_of_lookup e,rfl⟩
 have exc:∀ b∈(x9i caps X.env.cells).map (·.2),∃ z,X.env.cells.lookup z=some b:=fun b hb=>by
  have gen:∀ (l:List Str) b,b∈(x9i l X.env.cells).map (·.2)->∃ z,X.env.cells.lookup z=some b:=by
   intro l
   induction l with
   | nil=>intro b hb;cases hb
   | cons z l ih=>
    intro b hb
    unfold x9i at hb
    split at hb
    ·rename_i c0 e0
     rcases List.mem_cons.mp hb with z1|z1
     ·exact⟨z,by rw[z1];exact e0⟩
     ·exact ih b z1
    ·exact ih b hb
  exact gen caps b hb
 have C:CellsOk (z46 X.base s.heap ((x9i caps X.env.cells).map (·.2))) (x9i caps X.env.cells) caps cvs:=by
  refine⟨lc.trans hl,fun i z v h1 h2=>?_,fun a b c h1 h2=>I2.ok.inj a b c (y1y h1) (y1y h2),fun z c e=>?_⟩
  ·obtain⟨ix,e1,e2,e3⟩:=hN i z h1
   obtain⟨v',e4,e5⟩:=kc i ix e1
   rw[h2]at e4;cases e4
   obtain⟨mm,_,lk⟩:=I2.loc
   obtain⟨u,ru,lk⟩:=lk ix z v e2 e5 (.inr (.inl e3))
   rcases lk with⟨z1,_⟩|⟨_,c,e6,o,e7,e8⟩
   ·have z2:X.env.scope.names.lookup z=some .local:=z1
    rw[e3]at z2;cases z2
   ·have e9:=y6z e6 (List.mem_of_getElem? h1)
    exact⟨c,u,e9,ru,o,y3w e7 (.inr (exs z c e9)),e8⟩
  ·obtain⟨v,o,e1,e2⟩:=cl_at z c e
   exact⟨v,o,y3w e1 (.inr (exs z c e)),e2⟩
 have kb':∀ b o,X.base.get? b=some o->(z46 X.base s.heap ((x9i caps X.env.cells).map (·.2))).get? b=some o:=fun b o e=>y3w (I2.bk b o e) (.inl (by rw[e];rfl))
 have hM:Mod X.K X.mg (z46 X.base s.heap ((x9i caps X.env.cells).map (·.2))):=by
  obtain⟨m1,m2,⟨mb,m3,m4⟩,m5⟩:=I2.mod
  exact⟨m1.keeps kb',m2.keeps kb',⟨mb,m3.keeps kb',m4⟩,m5.keeps kb'⟩
 have frs':∀ L o,X.base.get? L=none->s.heap.get? L=some o->(L∈X.fs\/L=X.env.locals)->(z46 X.base s.heap ((x9i caps X.env.cells).map (·.2))).get? L=none:=fun L o n e hL=>by
  cases q:(z46 X.base s.heap ((x9i caps X.env.cells).map (·.2))).get? L with
  | none=>rfl
  | some o'=>
   rcases(z2i q).2 with z|z
   ·rw[n]at z;cases z
   ·obtain⟨y,ey⟩:=exc L z
    rcases hL with hL|hL
    ·obtain⟨_,o2,e2,_⟩:=I2.ok.funs.mem hL
     have:=I2.ok.cab y L (by rw[hfn]) ey
     exact absurd (Heap.lt_size e2) (Nat.not_lt.mpr this)
    ·exact absurd hL (I2.cne y L ey)
 have e0:Env0 X.prog X.w X.K X.mg (z46 X.base s.heap ((x9i caps X.env.cells).map (·.2))) A2 X.stack s H:=by
  refine⟨hA.trans I2.ok.frames,hM,fun b o e=>?_,Nat.le_of_eq (hideAll_size _ _),?_,I2.stkFree,I2.hok,I2.bare⟩
  ·obtain⟨e1,e2⟩:=z2i e
   refine⟨e1,?_⟩
   rcases e2 with z|z
   ·obtain⟨o',z'⟩:=Option.isSome_iff_exists.mp z
    exact(I2.bs b o' z').2
   ·obtain⟨y,ey⟩:=exc b z
    exact I2.freeC y b ey
  ·have all:∀ l:List Env,(∀ b∈frs l,b∈X.env.locals::X.fs)->s.heap.FunFrames X.base l->s.heap.FunFrames (z46 X.base s.heap ((x9i caps X.env.cells).map (·.2))) l:=by
    intro l
    induction l with
    | nil=>intro _ _;trivial
    | cons env r ih=>
     intro hs hl
     obtain⟨hk,⟨L,o,hf,hn,ho,hd⟩,hr⟩:=hl
     have hL:L∈X.env.locals::X.fs:=hs L (by unfold frs;rw[List.filterMap_cons,hf];exact List.mem_cons_self)
     refine⟨hk,⟨L,o,hf,frs' L o hn ho ?_,ho,hd⟩,ih (fun b hb=>hs b (by unfold frs;rw[List.filterMap_cons,hf];exact List.mem_cons_of_mem _ hb)) hr⟩
     rcases List.mem_cons.mp hL with z|z
     ·exact .inr z
     ·exact .inl z
   exact all X.stack I2.stkSub I2.stack
 have G:=j30 (f:=f) (c:=c') (nm:="<lambda>") (qual:=X.env.qual ++ "<lambda>") (params:=params) (pm:=pm) (ctv:=ctv) (cds:=cds) S C (fun q A outer s H hr=>hbody _ f c' _ q A outer s H hr)
 have rob:Rep X.K H w .f 0 (.ob f (kla_obj "<lambda>" (X.env.qual ++ "<lambda>") params body scope (x9i caps X.env.cells) pm c' ctv) cvs cds) (.ref f) []:=.ob hf hc' clo rc
 have hsp:spO X.K ps.length (.ob f (kla_obj "<lambda>" (X.env.qual ++ "<lambda>") params body scope (x9i caps X.env.cells) pm c' ctv) cvs cds) (z7o fb cds) [v] H (fun v' H'=>∃ w' F,Good X.K ρ σ H' w' (t+1)/\Go H w H' w'/\Rep X.K H' w' (.t t) q r v' F) E0:=by
  refine⟨hp1.symm,[d],fun a=>(w a).map fun _=>Ow.f,r,q,fun a o e=>?_,⟨fun a o e=>?_,g2.wl.tb⟩,?_,⟨.ref f,?_⟩,ee,fun v H3 w3 Fo go3 wl3 rr=>?_⟩
  ·try dsimp only at e
   cases ew:w a with
   | none=>rw[ew]at e;cases e
   | some o'=>rw[ew]at e;cases e;rfl
  ·try dsimp only at e
   cases ew:w a with
   | none=>rw[ew]at e;cases e
   | some o'=>exact g2.wl a o' ew
  ·exact .cons (F:=[]) (G:=[]) (Rep.freeze (fun a n=>by show(w a).map _=_;rw[n];rfl) rd (fun _ z=>nomatch z)) .nil (fun _ z=>nomatch z)
  ·exact Rep.freeze (fun a n=>by show(w a).map _=_;rw[n];rfl) rob (fun _ z=>nomatch z)
  ·obtain⟨b1,b2,b3⟩:=j7v g2 go3 wl3 rr
   exact⟨_,_,b1,b2,b3⟩
 refine wpAny_call (codeAny_mono (G.run A2 X.stack s H ⟨[u],[]⟩ [u] [v] _ E0 hr e0 (.of_eq (hbind _ _ _ _ _ hp1.symm)) (.cons rv .nil) hsp) fun r s' hq=>?_)
 cases r with
 | error e=>exact False.elim hq
 | ok fl=>
  cases fl with
  | ret u=>
   obtain⟨v',H',J,rv',w',F,g',go',r'⟩:=I2.after hq
   exact k v' H' w' F s' u J rv' g' go' r'
  | next=>exact False.elim hq
  | brk=>exact False.elim hq
  | cont=>exact False.elim hq
def z9a (K:PySem.W.Frag)(H:Hp)(x:V)(ks:List Int):Prop:=(∃ r j,x=.ref r/\H r=some (.rng 0 j) /\ -1000<=j/\j<=1000/\ks=(List.range j.toNat).map Int.ofNat)\/∃ l,x=.ref l/\SqL K H l (ks.map V.int)
theorem z9a.sm{x:V}(h:z9a K H x ks)(s:∀ b o,H b=some o->Sm o (H' b)):z9a K H' x ks:=by
 rcases h with⟨r,j,e,h1,h2⟩|⟨l,e,h1|h1⟩
 ·exact .inl ⟨r,j,e,s r _ h1,h2⟩
 ·refine .inr ⟨l,e,.inl ?_⟩
  rcases h1 with h1|⟨o,h1⟩
  ·exact .inl (s l _ h1)
  ·exact .inr ⟨o,s l _ h1⟩
 ·exact .inr ⟨l,e,.inr h1⟩
theorem y7v{A:Around}{σ:St}{E:Value->Shared->Prop}{x:V}(hh:A.handled=none)(I:Inv X pins σ H s)(rx:x39 x u)(h:z9a X.K H x ks)(h64:ks.length<64)(Q':List Value->Shared->Prop)
  (k:∀ us h' tk,(∀ b o,s.heap.get? b=some o->h'.get? b=some o)->x28 (ks.map V.int) us->Q' us { s with heap:=h',toks:=tk }):wpAny (model X.prog X.w) A (collect u) Q' E s:=by
 rcases h with⟨r,j,rfl,hr,j1,j2,rfl⟩|⟨l,rfl,hl⟩
 ·cases rx
  obtain⟨t,u,v,ho⟩:=(show x29 X.prog X.w H s.heap r (.rng 0 j)from I.hok r _ hr)
  refine x8p hh ho (x89 (by omega) (by omega)) (x9n j) (by omega) fun h' tk acc' hk hacc=>k _ h' tk hk ?_
  have:=y02 hacc
  unfold x8l at this
  rw[List.map_map]
  exact this
 ·cases rx
  obtain⟨its,rv,pl,_⟩:=I.list hl
  have hi:=x54 rv
  have hle:its.length=ks.length:=IntsAre.length hi
  refine collect_list pl.isList (k its _ s.toks (fun b o e=>?_) rv) (by rw[sizeLine_eq];omega)
  exact(Heap.get?_update_other _ _ (Nat.ne_of_gt (Heap.lt_size e))).trans (Heap.get?_push_of_some _ e)
def z3p (K:PySem.W.Frag)(ta:TA)(fb:Den)(is:List Nat)(g:Int->Int):TE:=fun σ H Q=>∃ ρ w t,Good K ρ σ H w t/\ta σ H fun xs H1=>∃ x w1 ks cds ρ1,xs=[x]/\Good K ρ1 σ H1 w1 t/\Go H w H1 w1/\z9a K H1 x ks/\j1v is ρ1=some cds/\ks.length<64 /\
 (∀ k∈ks,z7o fb cds [.int k]=some (.int (g k),9))/\∀ (ks':List Int) p H' w',ks'.Perm ks->ks'.Pairwise (fun a b=>g a<=g b)->Good K ρ1 σ H' w' t->Go H1 w1 H' w'->H' p=none->Q (.ref p) (upd H' p (.lst (ks'.map V.int)))
theorem WL.no(l:WL K w H)(e:H a=some x)(n:∀ vs,x ≠ .lst vs):w a=none:=by
 cases q:w a with
 | none=>rfl
 | some o=>
  obtain⟨vs,e'⟩:=l.own a o q
  rw[e]at e';cases e'
  exact absurd rfl (n vs)
theorem z71{x:Str}{c P:Addr}{j:Nat}{is:List Nat}{eN:Expr}{g:Int->Int}{p lp kpos pos:Pos}
  (hfn:X.fn=fun _=>true) (L:Lm X.K X.mg X.base) (hx:x∈x8k) (ht:tabIn X.K x=some (c,P)) (hcode:X.env.code=.ref c) (S:LamScope ps caps scope) (hp1:ps.length=1) (hc:X.calm=true)
  (hm:X.mg "sorted" = none) (hr:Room j X.A) (hk:kb+3<=j)
  (hbody:∀ (base':Heap) (f c':Addr) (cl:List (Str×Addr)) (q:Str) (A:Around) (outer:List Env) (s:Shared) (H:Hp),Room kb (A.deeper (envX q scope s.heap.objs.size f (.ref c') cl))->PD (cxL X.prog X.w X.K X.mg base' (ps++caps) q scope f (.ref c') cl A outer s H) body fb)
  (hbind:∀ (cl:List (Str×Addr)) (pm cdv ctv:Value) (us:List Value),us.length=ps.length->bindArgs (kla_fn "<lambda>" (X.env.qual ++ "<lambda>") params body scope cl pm cdv ctv) ⟨us,[]⟩=pure (ps.zip us))
  (hN:∀ (j:Nat) (z:Str),caps[j]? = some z->∃ i,is[j]? = some i/\X.N[i]? = some z/\X.env.scope.names.lookup z=some .cell) (hl:is.length=caps.length) (ha:PA X [eN] ta)
  (hcl:closureFor scope X.env=pure (x9i caps X.env.cells):=by rfl) (hdf:defaultsOf params X.env=([],[]):=by rfl) (hg:Gl X "sorted":=by rfl) (hb2:bootBuiltins "sorted" = some (.builtin "sorted"):=by kernel_rfl)
  (he:backTo pos (starEach [eN] X.env)=(false,eval eN X.env)::backTo pos (starEach [] X.env):=by rfl) (hpl:(backTo pos (starEach [eN] X.env)).any (·.1)=false:=by rfl) :
  PE X (.Call (.Name "sorted" p) [eN] [⟨some "key",.Lambda params body scope lp,kpos⟩] pos) (z3p X.K ta fb is g):=by
 intro pins s σ H Q I hh0
 obtain⟨ρ,w,t,gd,hta⟩:=hh0
 have hh:X.A.handled=none:=I.ok.hd hc
 refine wpAny_Call_Name_kw (y1a I hg hm hb2 ?_ (by decide) (by decide))
 refine callWith_kw (thn (ha pos pins s σ H _ I hta) fun us s1 hh1=>?_) he hpl
 obtain⟨vs,H1,I1,r1,x,w1,ks,cds,ρ1,rfl,g1,go1,col,hcap,h64,hkey,k'⟩:=hh1
 obtain⟨u,rfl,ru⟩:=x9r r1
 have plam:PE X (.Lambda params body scope lp) (fun σ H Q=>TB X.K H/\∀ (f c':Addr) (pm ctv:Value) (oc:Obj) (H':Hp) (u u':HO),H' f=some (.frz (kla_obj "<lambda>" (X.env.qual ++ "<lambda>") params body scope (x9i caps X.env.cells) pm c' ctv) u)->H' c'=some (.frz oc u')->
   Clo (kla_obj "<lambda>" (X.env.qual ++ "<lambda>") params body scope (x9i caps X.env.cells) pm c' ctv) c' oc->(∀ b o,H b=some o->Sm o (H' b))->TB X.K H'->Q (.ref f) H'):=fun pins s σ H Q I h=>
  z5l I L h.1 hx ht hcode hcl hdf fun f c' pm ctv oc h' tk H' u1 u2 I2 hf hc' clo sm2 tb2=>⟨.ref f,H',I2,rfl,h.2 f c' pm ctv oc H' u1 u2 hf hc' clo sm2 tb2⟩
 refine thn (z34 (kpos:=kpos) (nm:=some "key") plam z7v pos pins s1 σ H1 (fun ys H2=>∃ f c' pm ctv oc u1 u2,ys=[.ref f]/\H2 f=some (.frz (kla_obj "<lambda>" (X.env.qual ++ "<lambda>") params body scope (x9i caps X.env.cells) pm c' ctv) u1)/\H2 c'=some (.frz oc u2) /\
   Clo (kla_obj "<lambda>" (X.env.qual ++ "<lambda>") params body scope (x9i caps X.env.cells) pm c' ctv) c' oc/\(∀ b o,H1 b=some o->Sm o (H2 b))/\TB X.K H2) I1 ⟨g1.wl.tb,fun f c' pm ctv oc H' u u' q1 q2 q3 q4 q5=>⟨f,c',pm,ctv,oc,u,u',rfl,q1,q2,q3,q4,q5⟩⟩) fun ws s2 hh2=>?_
 obtain⟨zs,H2,I2,rz,f,c',pm,ctv,oc,u1,u2,rfl,hf,hc',clo,sm2,tb2⟩:=hh2
 obtain⟨u3,rfl,ru3⟩:=x9r rz
 cases ru3
 obtain⟨g2,go2⟩:=g1.grow sm2 tb2
 have ff:∀ {H':Hp} {w':Wn},Go H2 w1 H' w'->∀ {a:Addr} {o:Obj} {u:HO},H2 a=some (.frz o u)->H' a=some (.frz o u):=fun go a o u e=>(go.stab a _ e (g2.wl.no e (fun _ z=>nomatch z))).1
 refine z0e (g:=g) (fun H'=>∃ w',Good X.K ρ1 σ H' w' t/\Go H2 w1 H' w') I2 ⟨w1,g2,Go.refl⟩ h64 (fun Q' k=>y7v (A:=X.A.in1) hh I2 ru (col.sm sm2) h64 Q' k) (fun kk hkk pins' s' H' uu J hR rk=>?_) fun ks' H' pp s' hp hs hR hn J=>?_
 ·obtain⟨w',g',go'⟩:=hR
  refine z4y (A2:=X.A.in1.in1) (d:=.int kk) hfn S hp1 hbody hbind hN hl rfl ((hr.mono hk).in1.in1) J g' hcap (ff go' hf) (ff go' hc') clo rk (.int kk) (hkey kk hkk) fun v' H'' w'' F s'' u'' J2 rv2 g'' go'' r''=>?_
  cases r''
  obtain⟨t2,rfl⟩:=rv2
  exact⟨t2,H'',rfl,J2,_,g''.drop (t':=t),go'.trans (go''.drop g'.wt)⟩
 ·obtain⟨w',g',go'⟩:=hR
  exact⟨.ref pp,_,J,rfl,k' ks' pp H' w' hp hs g' (go2.trans go') hn⟩
def dl (H:Hp)(p:Addr):Hp:=fun a=>if a=p then none else H a
theorem z5y(h:a≠p):dl H p a=H a:=if_neg h
theorem y4t(h:dl H p a=some x):a≠p/\H a=some x:=by
 unfold dl at h
 split at h
 ·cases h
 ·rename_i n;exact⟨n,h⟩
theorem z7e:dl (upd H p x) p=dl H p:=funext fun a=>by
 unfold dl
 split
 ·rfl
 ·rename_i n;exact x0h n
theorem j0s(h:H p=none):dl H p=H:=funext fun a=>by
 unfold dl
 split
 ·rename_i e;rw[e,h]
 ·rfl
theorem TB.dlK(t:TB K H)(h:H p=some (.dK kvs)):TB K (dl H p):=by
 have ne:∀ a y,H a=some y->(∀ k,y ≠ .dK k)->a≠p:=fun a y e n z=>by
  rw[z,h]at e;cases e;exact n _ rfl
 refine⟨fun P ps e=>t.tr P ps (y4t e).2,fun P ps e pos cv hc=>?_,fun x hx c P hP=>?_⟩
 ·obtain⟨c,oc,u,vs,q,tt,h1,h2,h3⟩:=t.cd P ps (y4t e).2 pos cv hc
  exact⟨c,oc,u,vs,q,tt,h1,(z5y (ne c _ h2 fun _ z=>nomatch z)).trans h2,h3⟩
 ·obtain⟨ps,e⟩:=t.is x hx c P hP
  exact⟨ps,(z5y (ne P _ e fun _ z=>nomatch z)).trans e⟩
theorem TB.updK{kvs':List (Key×V)}(t:TB K H)(h:H p=some (.dK kvs)):TB K (L2.upd H p (.dK kvs')):=by
 have ne:∀ a y,H a=some y->(∀ k,y ≠ .dK k)->a≠p:=fun a y e n z=>by
  rw[z,h]at e;cases e;exact n _ rfl
 have bk:∀ P ps,L2.upd H p (.dK kvs') P=some (.tbl ps)->H P=some (.tbl ps):=fun P ps e=>by
  by_cases hP:P=p
  ·rw[hP,x0t]at e;cases e
  ·rw[x0h hP]at e;exact e
 refine⟨fun P ps e=>t.tr P ps (bk P ps e),fun P ps e pos cv hc=>?_,fun x hx c P hP=>?_⟩
 ·obtain⟨c,oc,u,vs,q,tt,h1,h2,h3⟩:=t.cd P ps (bk P ps e) pos cv hc
  exact⟨c,oc,u,vs,q,tt,h1,(x0h (ne c _ h2 fun _ z=>nomatch z)).trans h2,h3⟩
 ·obtain⟨ps,e⟩:=t.is x hx c P hP
  exact⟨ps,(x0h (ne P _ e fun _ z=>nomatch z)).trans e⟩
structure DG (K:PySem.W.Frag) (tab:D) (v0:V) (p:Addr) (kvs:List (Key×V)) (σ:St) (H:Hp) (w:Wn):Prop where
 wl:WL K w H
 ws:∀ a i,w a=some (.s i)->i<3
 wt:∀ a i,w a=some (.t i)->i<0
 len:σ.length=3
 s0:σ[0]? = some (some v0)
 s1:σ[1]? = some (some (.ref p))
 r0:Rep K (dl H p) w .f 0 tab v0 []
 dk:H p=some (.dK kvs)
section
variable {K:PySem.W.Frag}{tab:D}{v0:V}{p:Addr}{kvs kvs':List (Key×V)}{σ:St}{H H' H0:Hp}{w w' w0:Wn}
theorem DG.np(d:DG K tab v0 p kvs σ H w):w p=none:=d.wl.no d.dk (fun _ z=>nomatch z)
theorem DG.wld(d:DG K tab v0 p kvs σ H w):WL K w (dl H p):=⟨fun a o e=>by
 obtain⟨vs,q⟩:=d.wl.own a o e
 exact⟨vs,(z5y (fun z=>by rw[z,d.dk]at q;cases q)).trans q⟩,d.wl.tb.dlK d.dk⟩
theorem DG.rep(d:DG K tab v0 p kvs σ H w):Rep K H w .f 0 tab v0 []:=d.r0.go0 d.wld fun a x e n=>⟨sm (y4t e).2,n⟩
theorem DG.good(d:DG K tab v0 p kvs σ H w)(ht:tab.isL=false):Good K [some (tab,9),none,none] σ H w 0:=by
 refine⟨d.wl,fun a i e=>by rw[d.len];exact d.ws a i e,d.wt,by rw[d.len];rfl,fun i x q e=>?_⟩
 match i,e with
 | 0,e=>
  cases e
  exact⟨v0,[],d.s0,((d.rep.any d.wl).nolist ht).2 9⟩
 | 1,e=>cases e
 | 2,e=>cases e
 | i+3,e=>simp at e
theorem DG.good2(d:DG K tab v0 p kvs σ H w)(ht:tab.isL=false){k:Int}(h2:σ[2]? = some (some (.int k))):Good K [some (tab,9),none,some (.int k,9)] σ H w 0:=by
 refine⟨d.wl,fun a i e=>by rw[d.len];exact d.ws a i e,d.wt,by rw[d.len];rfl,fun i x q e=>?_⟩
 match i,e with
 | 0,e=>
  cases e
  exact⟨v0,[],d.s0,((d.rep.any d.wl).nolist ht).2 9⟩
 | 1,e=>cases e
 | 2,e=>
  cases e
  exact⟨.int k,[],h2,.int k⟩
 | i+3,e=>simp at e
theorem DG.step(d:DG K tab v0 p kvs σ H w)(go:Go H w H' w')(wl:WL K w' H')(ws:∀ a i,w' a=some (.s i)->i<3)(wt:∀ a i,w' a=some (.t i)->i<0):DG K tab v0 p kvs σ H' w':=by
 refine⟨wl,ws,wt,d.len,d.s0,d.s1,d.r0.go0 d.wld fun a x e n=>?_,(go.stab p _ d.dk d.np).1⟩
 obtain⟨ne,e'⟩:=y4t e
 rw[z5y ne]
 exact go.stab a x e' n
theorem DG.go(d:DG K tab v0 p kvs σ H w)(go:Go H w H' w')(g:Good K ρ σ H' w' 0):DG K tab v0 p kvs σ H' w':=
 d.step go g.wl (fun a i e=>by have:=g.ws a i e;rw[d.len]at this;exact this) g.wt
theorem DG.goT(d:DG K tab v0 p kvs σ H w)(go:Go H w H' w')(g:Good K ρ σ H' w' t):DG K tab v0 p kvs σ H' (x1o 0 w')/\Go H w H' (x1o 0 w'):=by
 have g0:=g.drop (t':=0)
 have go0:=go.drop d.wt
 exact⟨d.go go0 g0,go0⟩
theorem DG.alloc(d:DG K tab v0 p kvs σ H w)(hn:H a=none)(hx:j22 x=false):DG K tab v0 p kvs σ (upd H a x) w/\Go H w (upd H a x) w:=by
 have go:Go H w (upd H a x) w:=⟨fun b y e n=>⟨sm (by rw[x0h (x0r e hn)];exact e),n⟩,fun b o e _=>⟨x0h (fun z=>by
  obtain⟨vs,q⟩:=d.wl.own b o e
  rw[z,hn]at q;cases q),e⟩⟩
 exact⟨d.step go ⟨fun b o e=>by
  obtain⟨vs,q⟩:=d.wl.own b o e
  exact⟨vs,by rw[x0h (x0r q hn)];exact q⟩,d.wl.tb.upd hx (.inl hn)⟩ d.ws d.wt,go⟩
theorem DG.put(d:DG K tab v0 p kvs σ H w)(kvs':List (Key×V)):DG K tab v0 p kvs' σ (upd H p (.dK kvs')) w:=
 ⟨⟨fun a o e=>by
   obtain⟨vs,q⟩:=d.wl.own a o e
   exact⟨vs,by rw[x0h (fun z=>by rw[z,d.dk]at q;cases q)];exact q⟩,d.wl.tb.updK d.dk⟩,d.ws,d.wt,d.len,d.s0,d.s1,by rw[z7e];exact d.r0,x0t⟩
theorem DG.set2(d:DG K tab v0 p kvs σ H w)(x:Option V):DG K tab v0 p kvs (σ.set 2 x) H w:=
 ⟨d.wl,d.ws,d.wt,by rw[List.length_set];exact d.len,by rw[List.getElem?_set_ne (by decide)];exact d.s0,by rw[List.getElem?_set_ne (by decide)];exact d.s1,d.r0,d.dk⟩
theorem DG.start(g:Good K ρ σ H w 0)(h0:ρ[0]? = some (some (tab,q)))(ht:tab.isL=false)(h3:ρ.length=3)(hn:H p=none):∃ v0,DG K tab v0 p [] (σ.set 1 (some (.ref p))) (upd H p (.dK [])) w/\Go H w (upd H p (.dK [])) w:=by
 obtain⟨v0,F,e0,r⟩:=g.slot 0 tab q h0
 obtain⟨rfl,hr⟩:=r.nolist ht
 have len:σ.length=3:=by rw[<- g.len];exact h3
 have go:Go H w (upd H p (.dK [])) w:=⟨fun b y e n=>⟨sm (by rw[x0h (x0r e hn)];exact e),n⟩,fun b o e _=>⟨x0h (fun z=>by
  obtain⟨vs,q⟩:=g.wl.own b o e
  rw[z,hn]at q;cases q),e⟩⟩
 refine⟨v0,⟨⟨fun b o e=>by
  obtain⟨vs,q⟩:=g.wl.own b o e
  exact⟨vs,by rw[x0h (x0r q hn)];exact q⟩,g.wl.tb.upd rfl (.inl hn)⟩,fun a i e=>by have:=g.ws a i e;rw[len]at this;exact this,g.wt,by rw[List.length_set];exact len,by rw[List.getElem?_set_ne (by decide)];exact e0,by rw[List.getElem?_set_self (by omega)],?_,x0t⟩,go⟩
 rw[z7e,j0s hn]
 exact(hr 0).any g.wl
theorem Go.dput(go:Go H0 w0 H w)(wl:WL K w0 H0)(hn:H0 p=none)(x:HO):Go H0 w0 (upd H p x) w:=
 ⟨fun a y e n=>by
   rw[x0h (x0r e hn)]
   exact go.stab a y e n,fun a o e h=>by
   obtain⟨vs,q⟩:=wl.own a o e
   rw[x0h (x0r q hn)]
   exact go.keep a o e h⟩
end
structure Fill (ks:List Int) (g:Int->Int) (tb:Int->List Int) (h:Int->Int):Prop where
 nd:ks.Nodup
 few:ks.length<64
 lt:∀ k∈ks,∀ x∈tb k,x∈ks/\g x<g k
def tHL (K:PySem.W.Frag)(fb:Den)(is:List Nat)(ta:TA)(tv:TE):TS:=fun Dn σ H=>∃ tab v0 p w ks g tb h H0 w0,tab.isL=false/\DG K tab v0 p [] σ H w/\WL K w0 H0/\H0 p=none/\Go H0 w0 H w/\Fill ks g tb h/\j1v is [some (tab,9),none,none]=some [tab]/\(∀ k∈ks,z7o fb [tab] [.int k]=some (.int (g k),9)) /\
 (∀ Q,(∀ x H1 w1,DG K tab v0 p [] σ H1 w1->Go H w H1 w1->z9a K H1 x ks->Q [x] H1)->ta σ H Q) /\
 (∀ σ' H' w' kvs k,DG K tab v0 p kvs σ' H' w'->σ'[2]? = some (some (.int k))->k∈ks->(∀ x∈tb k,x9v kvs (.inl x)=some (.int (h x)))->∀ Q,(∀ H2 w2,DG K tab v0 p kvs σ' H2 w2->Go H' w' H2 w2->Q (.int (h k)) H2)->tv σ' H' Q) /\
 ∀ σ' H' w' kvs (ks':List Int),ks'.Perm ks->DG K tab v0 p kvs σ' H' w'->Go H0 w0 H' w'->(∀ k∈ks,x9v kvs (.inl k)=some (.int (h k)))->kvs.map (·.1)=ks'.map Sum.inl->Dn.nx σ' H'
theorem j16{is:List Nat}{tv:TE}:∀ Dn σ H,tHL K fb is ta tv Dn σ H->∃ g,j7b (j75 K (z3p K ta fb is g)) (y78 2) (z9w (x7j 1) (x7j 2) tv) Dn σ H:=fun Dn σ H hh0=>by
 obtain⟨tab,v0,p,w,ks,g,tb,h,H0,w0,ht,dg,wl0,hp0,go0,fl,hcap,hkey,harg,hval,hend⟩:=hh0
 refine⟨g,[some (tab,9),none,none],w,0,dg.good ht,harg _ fun x H1 w1 dg1 go1 col=>⟨x,w1,ks,[tab],_,rfl,dg1.good ht,go1,col,hcap,fl.few,hkey,fun ks' pp H2 w2 hp hs g2 go2 hn=>?_⟩⟩
 have dg2:=dg1.go go2 g2
 obtain⟨dg3,go3⟩:=dg2.alloc (x:=.lst (ks'.map V.int)) hn rfl
 have hpp:pp≠p:=fun z=>by rw[z,dg2.dk]at hn;cases hn
 have npp:w2 pp=none:=by
  cases q:w2 pp with
  | none=>rfl
  | some o=>
   obtain⟨vs,e⟩:=dg2.wl.own pp o q
   rw[hn]at e;cases e
 have nd':ks'.Nodup:=hp.nodup_iff.mpr fl.nd
 have hlen:(ks'.map V.int).length=ks'.length:=List.length_map _
 refine⟨pp,rfl,.inl ⟨⟨_,.inl (.inl x0t)⟩,fun i m σ' H'=>m=ks'.length-i/\i<=ks'.length/\∃ w' kvs,DG K tab v0 p kvs σ' H' w'/\Go H0 w0 H' w'/\H' pp=some (.lst (ks'.map V.int))/\w' pp=none/\kvs.map (·.1)=(ks'.take i).map Sum.inl/\∀ k∈ks'.take i,x9v kvs (.inl k)=some (.int (h k)),
  ⟨ks'.length,by simp,Nat.zero_le _,w2,[],dg3,(go0.trans go1).trans (go2.trans go3),x0t,npp,by simp,fun k hk=>by simp at hk⟩,?_⟩⟩
 rintro i m σ' H' ⟨rfl,hile,w',kvs,d,go,hl,nl,hks,hv⟩
 by_cases hi:i<ks'.length
 ·refine .inr ⟨⟨_,.int ks'[i],.inl (.inl hl),by simp[hi]⟩,fun σ2 H3=>ks'.length-(i+1)=ks'.length-(i+1)/\i+1<=ks'.length/\∃ w' kvs,DG K tab v0 p kvs σ2 H3 w'/\Go H0 w0 H3 w'/\H3 pp=some (.lst (ks'.map V.int))/\w' pp=none/\kvs.map (·.1)=(ks'.take (i+1)).map Sum.inl/\∀ k∈ks'.take (i+1),x9v kvs (.inl k)=some (.int (h k)),
   fun σ2 H3 n2=>⟨ks'.length-(i+1),by omega,n2⟩,fun x H3 hy=>?_⟩
  obtain⟨rfl,hx⟩:=hy
  have ex:=hx _ (.inl (.inl hl))
  simp only[List.getElem?_map,List.getElem?_eq_getElem hi,Option.map_some,Option.some.injEq]at ex
  subst ex
  have d2:=d.set2 (some (.int ks'[i]))
  have s2:(σ'.set 2 (some (V.int ks'[i])))[2]? = some (some (.int ks'[i])):=List.getElem?_set_self (by rw[d.len];decide)
  have hmem:ks'[i]∈ks:=hp.mem_iff.mp (List.getElem_mem hi)
  refine hval _ _ _ _ _ d2 s2 hmem (fun x hx=>?_) _ fun H4 w4 d4 go4=>?_
  ·obtain⟨h1,h2⟩:=fl.lt _ hmem x hx
   obtain⟨j,hj,ej⟩:=List.mem_iff_getElem.mp (hp.mem_iff.mpr h1)
   refine hv x ?_
   have hji:j<i:=by
    refine Classical.byContradiction fun c=>?_
    rcases Nat.lt_or_eq_of_le (Nat.not_lt.mp c)with z|z
    ·have:=List.pairwise_iff_getElem.mp hs i j hi hj z
     rw[ej]at this
     omega
    ·subst z
     rw[<- ej]at h2
     omega
   rw[<- ej]
   exact List.mem_iff_getElem.mpr ⟨j,by rw[List.length_take];omega,by simp⟩
  ·refine⟨.ref p,d4.s1,.int ks'[i],s2,p,_,rfl,j44.k (k:=.inl ks'[i]) d4.dk ?_,?_⟩
   ·have:kvs.length=((ks'.take i).map Sum.inl:List Key).length:=by rw[<- hks,List.length_map]
    rw[this,List.length_map,List.length_take,sizeLine_eq]
    have:=fl.few
    have:=hp.length_eq
    omega
   ·have hnew:x9v kvs (.inl ks'[i]:Key)=none:=by
     have any:=y0z (.inl ks'[i]:Key) kvs
     cases q:x9v kvs (.inl ks'[i]:Key)with
     | none=>rfl
     | some v=>
      rw[q]at any
      obtain⟨kv,hkv,e⟩:=List.any_eq_true.mp any
      have e':kv.1=.inl ks'[i]:=of_decide_eq_true e
      have:(Sum.inl ks'[i]:Key)∈(ks'.take i).map Sum.inl:=by rw[<- hks,<- e'];exact List.mem_map.mpr ⟨kv,hkv,rfl⟩
      obtain⟨y,hy,ey⟩:=List.mem_map.mp this
      cases ey
      obtain⟨j,hj,ej⟩:=List.mem_iff_getElem.mp hy
      rw[List.length_take]at hj
      rw[List.getElem_take]at ej
      exact absurd ej (List.pairwise_iff_getElem.mp nd' j i (by omega) hi (by omega))
    rw[z5e _ hnew]
    have tk:ks'.take (i+1)=ks'.take i++[ks'[i]]:=by rw[List.take_add_one];simp[hi]
    refine⟨rfl,hi,w4,_,d4.put _,(go.trans go4).dput wl0 hp0 _,?_,?_,?_,fun k hk=>?_⟩
    ·rw[x0h hpp]
     exact(go4.stab pp _ hl nl).1
    ·exact(go4.stab pp _ hl nl).2
    ·rw[List.map_append,hks,tk,List.map_append]
     rfl
    ·rw[y63 _ _ _ _ hnew]
     rw[tk]at hk
     by_cases hkk:k=ks'[i]
     ·rw[if_pos (by rw[hkk]),hkk]
     ·rw[if_neg (fun z=>hkk (by cases z;rfl))]
      rcases List.mem_append.mp hk with q|q
      ·exact hv k q
      ·exact absurd (List.mem_singleton.mp q) hkk
 ·have hi':i=ks'.length:=Nat.le_antisymm hile (Nat.not_lt.mp hi)
  subst hi'
  rw[List.take_length]at hks hv
  exact .inl ⟨⟨_,.inl (.inl hl),by rw[hlen];exact Nat.le_refl _⟩,hend σ' H' w' kvs ks' hp d go (fun k hk=>hv k (hp.mem_iff.mpr hk)) hks⟩
abbrev y9e (n:Nat):List Int:=(List.range n).map Int.ofNat
theorem z1q(n:Nat):(y9e n).Nodup:=List.Pairwise.map _ (fun a b h z=>h (by cases z;rfl)) List.nodup_range
def Hgt (fb:Den)(Ft Fg:List D->OD)(tab:D)(r:Int):Prop:=tab.isL=false/\∃ (n:Nat) (g:Int->Int) (tb:Int->List Int) (h:Int->Int) (top:Int),x7m tab=some n/\n<64/\Fill (y9e n) g tb h/\(∀ k∈y9e n,z7o fb [tab] [.int k]=some (.int (g k),9)) /\
 (∀ k∈y9e n,(∃ q,Ft [tab,.int k]=some (.lst ((tb k).map D.int),q))/\(tb k).length<=1000/\h k=j24 0 ((tb k).map fun x=>h x+1))/\(∃ q,Fg [tab]=some (.int top,q))/\top∈y9e n/\r=h top
open Classical in
noncomputable def j1y (fb:Den)(Ft Fg:List D->OD):List D->OD
 | [tab]=>if h:∃ r,Hgt fb Ft Fg tab r then some (.int (Classical.choose h),9)else none
 | _=>none
open Classical in
theorem z6g(h:j1y fb Ft Fg [tab]=some (d,q)):∃ r,Hgt fb Ft Fg tab r/\d=.int r/\q=9:=by
 have e:j1y fb Ft Fg [tab]=if h:∃ r,Hgt fb Ft Fg tab r then some (D.int (Classical.choose h),9)else none:=rfl
 rw[e]at h
 by_cases hex:∃ r,Hgt fb Ft Fg tab r
 ·rw[dif_pos hex]at h
  have h':=Option.some.inj h
  exact⟨_,Classical.choose_spec hex,(congrArg Prod.fst h').symm,(congrArg Prod.snd h').symm⟩
 ·rw[dif_neg hex]at h
  cases h
noncomputable def j61 (fb:Den)(Ft Fg:List D->OD):x13:=fun ρ=>match ρ with
 | [some (tab,_),_,_]=>match j1y fb Ft Fg [tab]with
  | some (d,q)=>some (.rt d q)
  | none=>none
 | _=>none
def taH (K:PySem.W.Frag):TA:=y7e (z3o (tDA K (x02 (x1g 0) x0i))) z7f
def tcH (K:PySem.W.Frag)(Ft:List D->OD):TE:=z30 1 (tDI K (x50 (x0j Ft 2 (x02 (x05 0) (x02 (x05 2) x0i))))) (y78 3) j78 (tOp (rI0 fun i j=>.int (i+j)) (j12 (x7j 1) (x7j 3)) (tC (.int 1)))
def tvH (K:PySem.W.Frag)(Ft:List D->OD):TE:=j37 K (y7e (tcH K Ft) z7f) (y7e (tC (.int 0)) z7f)
section
variable {K:PySem.W.Frag}{tab:D}{v0:V}{p:Addr}{kvs:List (Key×V)}{σ:St}{H:Hp}{w:Wn}{Ft Fg:List D->OD}{fb:Den}
theorem z9h(d:DG K tab v0 p kvs σ H w)(ht:tab.isL=false){n:Nat}(hl:x7m tab=some n)(hn:n<64)(Q:List V->Hp->Prop)(k:∀ x H1 w1,DG K tab v0 p kvs σ H1 w1->Go H w H1 w1->z9a K H1 x (y9e n)->Q [x] H1):taH K σ H Q:=by
 refine⟨[some (tab,9),none,none],w,0,[.int (Int.ofNat n)],[some (tab,9),none,none],d.good ht,?_,fun vs H1 w1 g1 go1 r1=>?_⟩
 ·simp[-Int.ofNat_eq_natCast,hl]
 ·obtain⟨v,rfl,rv⟩:=one r1
  cases rv
  refine⟨Int.ofNat n,rfl,?_,?_,fun a hn'=>?_⟩
  ·show -(2 ^ 62)<=(n:Int);omega
  ·show(n:Int)<2 ^ 62;omega
  ·have d1:=d.go go1 g1
   obtain⟨d2,go2⟩:=d1.alloc (x:=.rng 0 (Int.ofNat n)) hn' rfl
   exact k _ _ _ d2 (go1.trans go2) (.inl ⟨a,Int.ofNat n,rfl,x0t,by show(-1000:Int)<=(n:Int);omega,by show(n:Int)<=1000;omega,rfl⟩)
theorem z4r{k:Int}{h:Int->Int}(d:DG K tab v0 p kvs σ H w)(ht:tab.isL=false)(h2:σ[2]? = some (some (.int k)))(hF:Ft [tab,.int k]=some (.lst (l.map D.int),q))(hl:l.length<=1000)(hv:∀ x∈l,x9v kvs (.inl x)=some (.int (h x)))
  (Q:V->Hp->Prop) (kk:∀ a H1 w1,DG K tab v0 p kvs σ H1 w1->Go H w H1 w1->H1 a=some (.lst ((l.map fun x=>h x+1).map V.int))->Q (.ref a) H1):tcH K Ft σ H Q:=by
 refine⟨[some (tab,9),none,some (.int k,9)],w,0,l.map D.int,[some (tab,9),none,some (.int k,9)],d.good2 ht h2,?_,fun J P H1 w1 g1 go1 ok p1 hz=>?_⟩
 ·simp[ht,hF,hl]
 ·have hll:(l.map D.int).length=l.length:=List.length_map _
  have big:∀ j,j<=1000->j<sizeLine:=fun j hj=>x4p hj
  refine⟨fun i m ys H'=>m=l.length-i/\i<=l.length/\ys=((l.take i).map fun x=>h x+1).map V.int/\∃ w',DG K tab v0 p kvs σ H' w'/\Go H w H' w'/\P H' w',⟨l.length,by simp,Nat.zero_le _,by simp,w1,d.go go1 g1,go1,p1⟩,?_⟩
  rintro i m ys H' ⟨rfl,hile,rfl,w',d',go',p'⟩
  have hyl:(((l.take i).map fun x=>h x+1).map V.int).length=i:=by rw[List.length_map,List.length_map,List.length_take];omega
  refine⟨by rw[hyl];exact Nat.le_of_lt (big i (by omega)),?_⟩
  by_cases hi:i<l.length
  ·refine .inr ⟨ok.go i H' w' p' (by rw[hll];exact hi),by rw[hyl];exact big i (by omega),fun x H3 hy=>?_⟩
   obtain⟨mo,rx,p3⟩:=ok.yld i H' w' x H3 (.int l[i]) p' d'.wl (by simp[hi]) hy
   cases rx
   obtain⟨g3,go3⟩:=(d'.good ht).more mo
   have d3:=d'.go go3 g3
   have es:(σ++List.replicate 1 none).set 3 (some (V.int l[i]))=σ++[some (V.int l[i])]:=by
    have hlen:=d'.len
    rw[List.set_append_right _ _ (by omega),hlen]
    rfl
   show(∃ τ,(σ++List.replicate 1 none).set 3 (some (V.int l[i]))=σ++τ/\τ.length=1)/\_
   rw[es]
   refine⟨⟨_,rfl,rfl⟩,?_⟩
   have s1:(σ++[some (V.int l[i])])[1]? = some (some (.ref p)):=by rw[List.getElem?_append_left (by rw[d'.len];decide)];exact d'.s1
   have s3:(σ++[some (V.int l[i])])[3]? = some (some (.int l[i])):=by
    rw[List.getElem?_append_right (by rw[d'.len];decide),d'.len]
    rfl
   unfold j78
   dsimp only
   rw[if_pos rfl]
   refine⟨.ref p,s1,.int l[i],s3,p,.int (h l[i]),rfl,?_,?_⟩
   ·have:=z41.k (k:=.inl l[i]) d3.dk
    rw[hv _ (List.getElem_mem hi)]at this
    exact this
   ·refine⟨h l[i],1,rfl,rfl,l.length-(i+1),by omega,rfl,hi,?_,w',d3,go'.trans go3,p3⟩
    have tk:l.take (i+1)=l.take i++[l[i]]:=by rw[List.take_add_one];simp[hi]
    rw[tk,List.map_append,List.map_append]
    rfl
  ·have hi':i=l.length:=Nat.le_antisymm hile (Nat.not_lt.mp hi)
   subst hi'
   have st:=ok.stop H' w' p'
   rw[hll]at st
   refine .inl ⟨st,fun a hn=>?_⟩
   obtain⟨d4,go4⟩:=d'.alloc (x:=.lst (((l.take l.length).map fun x=>h x+1).map V.int)) hn rfl
   refine kk a _ _ d4 (go'.trans go4) ?_
   rw[x0t,List.take_length]
theorem j1g{k:Int}{h:Int->Int}(d:DG K tab v0 p kvs σ H w)(ht:tab.isL=false)(h2:σ[2]? = some (some (.int k)))(hF:Ft [tab,.int k]=some (.lst (l.map D.int),q))(hl:l.length<=1000)(hv:∀ x∈l,x9v kvs (.inl x)=some (.int (h x)))
  (Q:V->Hp->Prop) (kk:∀ H1 w1,DG K tab v0 p kvs σ H1 w1->Go H w H1 w1->Q (.int (j24 0 (l.map fun x=>h x+1))) H1):tvH K Ft σ H Q:=
 z4r d ht h2 hF hl hv (fun x H1=>z7f σ H1 fun xs H2=>y7e (tC (.int 0)) z7f σ H2 fun ys H3=>j3n K (x::xs) ys H3 Q) fun a H1 w1 d1 go1 e1=>⟨a,l.map fun x=>h x+1,0,rfl,rfl,.inl (.inl e1),kk H1 w1 d1 go1⟩
end
theorem j0r{S1 S2 S4:Stmt}(h1:PS X S1 (j64 z80 (y78 1)))(h2:∀ g,PS X S2 (j7b (j75 X.K (z3p X.K (taH X.K) fb [0] g)) (y78 2) (z9w (x7j 1) (x7j 2) (tvH X.K Ft))))(h4:PS X S4 (j7u (j12 (x7j 1) (tD X.K (x0j Fg 1 (x02 (x05 0) x0i)))))) :
  y8q X [S1,S2,S4] (j61 fb Ft Fg):=by
 have h2':PS X S2 (tHL X.K fb [0] (taH X.K) (tvH X.K Ft)):=fun pins s σ H D I q=>by
  obtain⟨g,hg⟩:=j16 D σ H q
  exact h2 g pins s σ H D I hg
 refine PSs.imp (y3r h1 (y3r h2' (y4j h4))) fun Dn σ H hh0=>?_
 obtain⟨ρ,w,o,gd,ee,kk⟩:=hh0
 unfold j61 at ee
 split at ee
 ·rename_i tab q0 a1 a2
  split at ee
  ·rename_i d q hF
   cases ee
   obtain⟨r,hh,rfl,rfl⟩:=z6g hF
   ·obtain⟨ht,n,g,tb,h,top,hlen,hn,fl,hk,hT,⟨qg,hG⟩,htop,rfl⟩:=hh
    intro p hp
    obtain⟨v0,dg,go⟩:=DG.start (p:=p) gd rfl ht rfl hp
    refine⟨tab,v0,p,w,y9e n,g,tb,h,H,w,ht,dg,gd.wl,hp,go,fl,by simp[j1v,ht],hk,fun Q q=>z9h dg ht hlen hn Q q,fun σ' H' w' kvs k d' s2 hk' hv Q q=>?_,fun σ' H' w' kvs ks' hperm d' go' hv hkeys=>?_⟩
    ·obtain⟨⟨qt,e1⟩,e2,e3⟩:=hT k hk'
     refine j1g d' ht s2 e1 e2 hv Q fun H1 w1 d1 go1=>?_
     rw[<- e3]
     exact q H1 w1 d1 go1
    ·refine⟨.ref p,d'.s1,[some (tab,9),none,none],w',0,.int top,qg,[some (tab,9),none,none],d'.good ht,by simp[ht,hG],fun v H2 w2 F g2 go2 r2=>?_⟩
     cases r2
     obtain⟨d2,go3⟩:=d'.goT go2 g2
     refine⟨p,.int (h top),rfl,?_,?_⟩
     ·have:=z41.k (k:=.inl top) d2.dk
      rw[hv top htop]at this
      exact this
     ·exact kk _ _ _ [] d2.wl (go'.trans go3) (.int _)
  ·cases ee
 ·cases ee
theorem Hgt.uniq{r':Int}(a:Hgt fb Ft Fg tab r)(b:Hgt fb Ft Fg tab r'):r=r':=by
 obtain⟨_,n,g,tb,h,top,a1,a2,a3,a4,a5,⟨q,a6⟩,a7,rfl⟩:=a
 obtain⟨_,n',g',tb',h',top',b1,b2,b3,b4,b5,⟨q',b6⟩,b7,rfl⟩:=b
 rw[a1]at b1;cases b1
 rw[a6]at b6;cases b6
 have hg:∀ k∈y9e n,g k=g' k:=fun k hk=>by
  have:=a4 k hk
  rw[b4 k hk]at this
  have this:=congrArg Prod.fst (Option.some.inj this)
  injection this with e
  exact e.symm
 have inj:∀ {x y:List Int},x.map D.int=y.map D.int->x=y:=fun {x y} e=>List.map_inj_right (fun a b z=>by cases z;rfl) |>.mp e
 have ht:∀ k∈y9e n,tb k=tb' k:=fun k hk=>by
  obtain⟨⟨q1,e1⟩,_⟩:=a5 k hk
  obtain⟨⟨q2,e2⟩,_⟩:=b5 k hk
  rw[e1]at e2
  have:=Option.some.inj e2
  have e3:(tb k).map D.int=(tb' k).map D.int:=by
   have:=congrArg Prod.fst this
   cases hx:(tb k).map D.int with
   | nil=>rw[hx]at this;injection this
   | cons c cs=>rw[hx]at this;injection this
  exact inj e3
 have key:∀ (m:Nat) (l:List Int),l.length<=m->l.Nodup->(∀ x∈l,x∈y9e n)->(∀ x∈y9e n,x ∉ l->h x=h' x)->(∀ x∈y9e n,h x=h' x):=by
  intro m
  induction m with
  | zero=>
   intro l hl _ _ hx x hxn
   have:l=[]:=List.length_eq_zero_iff.mp (by omega)
   subst this
   exact hx x hxn (by simp)
  | succ m ih=>
   intro l hl nd hsub hx
   by_cases hne:l=[]
   ·subst hne
    exact fun x hxn=>hx x hxn (by simp)
   ·-- one of least key
    obtain⟨k,hk,hmin⟩:∃ k∈l,∀ y∈l,g k<=g y:=by
     clear ih hx hsub nd hl
     induction l with
     | nil=>exact absurd rfl hne
     | cons c cs ihc=>
      by_cases hcs:cs=[]
      ·subst hcs
       exact⟨c,List.mem_cons_self,fun y hy=>by rw[List.mem_singleton.mp hy];exact Int.le_refl _⟩
      ·obtain⟨k,hk,hm⟩:=ihc hcs
       by_cases hck:g c<=g k
       ·exact⟨c,List.mem_cons_self,fun y hy=>by
         rcases List.mem_cons.mp hy with z|z
         ·rw[z];exact Int.le_refl _
         ·exact Int.le_trans hck (hm y z)⟩
       ·exact⟨k,List.mem_cons_of_mem _ hk,fun y hy=>by
         rcases List.mem_cons.mp hy with z|z
         ·rw[z];omega
         ·exact hm y z⟩
    have hkn:=hsub k hk
    have hkk:h k=h' k:=by
     rw[(a5 k hkn).2.2,(b5 k hkn).2.2,<- ht k hkn]
     congr 1
     refine List.map_congr_left fun x hx'=>?_
     obtain⟨x1,x2⟩:=a3.lt k hkn x hx'
     rw[hx x x1 fun z=>by have:=hmin x z;omega]
    refine ih (l.erase k) (by rw[List.length_erase_of_mem hk];omega) (nd.erase k) (fun x hx'=>hsub x (List.mem_of_mem_erase hx')) fun x hxn hxl=>?_
    by_cases hxk:x=k
    ·rw[hxk];exact hkk
    ·exact hx x hxn fun z=>hxl ((List.mem_erase_of_ne hxk).mpr z)
 exact key _ (y9e n) (Nat.le_refl _) (z1q n) (fun x hx=>hx) (fun x hx z=>absurd hx z) top a7
open Classical in
theorem j1p(h:Hgt fb Ft Fg tab r):j1y fb Ft Fg [tab]=some (.int r,9):=by
 have hex:∃ r,Hgt fb Ft Fg tab r:=⟨r,h⟩
 have e:j1y fb Ft Fg [tab]=if h:∃ r,Hgt fb Ft Fg tab r then some (D.int (Classical.choose h),9)else none:=rfl
 rw[e,dif_pos hex,(Classical.choose_spec hex).uniq h]
end L3
namespace L3
open PySem PySem.Spec PyProof.Rows PySem.W L2
theorem Room.u1{k:Nat}{A:Around}(r:Room k A):A.units+1<cLine:=by have:=r.units;omega
end L3
namespace L3
open PySem PySem.Spec PyProof.Rows L2
variable {K:PySem.W.Frag}{L N ps:List Str}{P:Program}{X:Cx}{base:Heap}{body:List Stmt}{es:List Expr}{fh fl:z28}{g:x1q}{hi lo:Option Expr}{i j n:Nat}{mg:Str->Option Value}{st:Stmt}{w:World}{x:Str}
structure QE (X:Cx) (e:Expr) (t:TE):Prop where mk::o:PE X e t
structure QD (X:Cx) (e:Expr) (f:Den):Prop where mk::o:PD X e f
structure QDA (X:Cx) (e:List Expr) (f:x1q):Prop where mk::o:PDA X e f
structure QDT (X:Cx) (e:Expr) (f:x1u):Prop where mk::o:PDT X e f
structure QDW (X:Cx) (e:Expr) (f:x1u):Prop where mk::o:PDW X e f
structure QDS (X:Cx) (e:Stmt) (f:x13):Prop where mk::o:PDS X e f
structure QDSs (X:Cx) (e:List Stmt) (f:x13):Prop where mk::o:y8q X e f
structure QDI (X:Cx) (tg e:Expr) (f:y4g):Prop where mk::o:PDI X tg e f
structure QDG (X:Cx) (b:Nat) (e:Expr) (f:x6m):Prop where mk::o:PDG X b e f
structure QDGs (X:Cx) (b:Nat) (e:List Expr) (f:x9s):Prop where mk::o:j3y X b e f
structure QDO (X:Cx) (e:Option Expr) (f:z28):Prop where mk::o:PDO X e f
structure QDTs (X:Cx) (e:List Expr) (f:x1u):Prop where mk::o:j2d X e f
structure QQ (X:Cx) (e:Expr) (f:y2b):Prop where mk::o:PQ X e f
structure QXE (X:Cx) (E:XK) (e:Expr) (x:y11):Prop where mk::o:PXE X E e x
structure QXS (X:Cx) (E:XK) (e:Stmt) (x:y11):Prop where mk::o:PXS X E e x
structure QXB (X:Cx) (E:XK) (e:List Stmt) (x:y11):Prop where mk::o:PXB X E e x
structure QTS (Y:Cx) (e:Stmt) (y:z49):Prop where mk::o:PTS Y e y
structure QTB (Y:Cx) (e:List Stmt) (y:z49):Prop where mk::o:PTB Y e y
theorem qv(i:Nat){pos:Pos}(hN:X.N[i]? = some x:=by rfl)(hv:Vis X.env.scope x:=by first|exact Or.inl rfl|exact Or.inr (Or.inl rfl)|exact Or.inr (Or.inr rfl))(hd:(x==("__debug__":Str))=false:=by decide)(hcd:(x==("__classdict__":Str))=false:=by decide):QE X (.Name x pos) (x7j i):=⟨pv i hN hv hd hcd⟩
theorem y50{e:Expr}{f:x1u}(h:QDW X e f):QDT X e f:=⟨PW.pt h.o⟩
section
variable {X:Cx}{a b c e:Expr}{fa fb fc f:Den}{pos:Pos}
theorem x0d{i j}:QD X (.Constant (.int i) j pos) (eC (.int i)):=⟨j50 ⟩
theorem x52{i j}:QD X (.Constant (.bool i) j pos) (eC (.bl i)):=⟨j7e ⟩
theorem y5x{j}:QD X (.Constant .none j pos) (eC .non):=⟨j3a ⟩
theorem x4z{x j}:QD X (.Constant (.str x) j pos) (eC (.str x)):=⟨j48 ⟩
theorem x01(h:QE X (.Name x pos) (x7j i)):QD X (.Name x pos) (x05 i):=⟨j27 h.o⟩
theorem x1a(ha:QD X a fa)(hb:QD X b fb):QD X (.BinOp a .Add b pos) (e2 x31 fa fb):=⟨j4w ha.o hb.o⟩
theorem x6k(ha:QD X a fa)(hb:QD X b fb):QD X (.BinOp a .Mult b pos) (e2 y0x fa fb):=⟨j2o ha.o hb.o⟩
theorem z2p(ha:QD X a fa)(hb:QD X b fb):QD X (.BinOp a .FloorDiv b pos) (e2 j42 fa fb):=⟨j3m ha.o hb.o⟩
theorem y3d(ha:QD X a fa)(hb:QD X b fb):QD X (.BinOp a .Mod b pos) (e2 z85 fa fb):=⟨j32 ha.o hb.o⟩
theorem x4g(ha:QD X a fa)(hb:QD X b fb)(hs:x4m b:=by exact fun _ _=>rfl):QD X (.Subscript a b pos) (eIx fa fb):=⟨j6l ha.o hb.o hs⟩
theorem x03:QDA X [] x0i:=⟨j1a ⟩
theorem x00(ha:QD X e f)(hr:QDA X es g)(hs:starEach (e::es) X.env=(false,eval e X.env)::starEach es X.env:=by rfl):QDA X (e::es) (x02 f g):=⟨z6b ha.o hr.o hs⟩
theorem x1y(h:QDA X es g):QD X (.List es pos) (x5c g):=⟨j41 h.o⟩
theorem x41{x1}(h:QDA X es g):QD X (.Tuple es x1 pos) (x8a g):=⟨j49 h.o⟩
end
section
variable {X:Cx}{a b c e:Expr}{fa fb fc f:Den}{ga gb gc:x1u}{pos:Pos}
theorem x3e(ha:QD X a fa)(he:∀ whole,isTrue a X.env whole=(do let v <- whole;standAt a.pos;holding [v] (truthy v)):=by exact fun _=>rfl):QDT X a (x7x fa):=⟨j1i ha.o he⟩
theorem y8o(ha:QD X a fa)(hb:QD X b fb):QDT X (.Compare a [.Lt] [b] pos) (x3d (e2 dLt fa fb)):=⟨j59 ha.o hb.o⟩
theorem j3i(ha:QD X a fa)(hb:QD X b fb):QDT X (.Compare a [.Gt] [b] pos) (x3d (e2 dGt fa fb)):=⟨j2e ha.o hb.o⟩
theorem x4i(ha:QDT X a ga):QDT X (.UnaryOp .Not a pos) (x4d ga):=⟨z8w ha.o⟩
end
section
variable {X:Cx}{a b c e:Expr}{fa fb fc f:Den}{ga gb gc:x1u}{pos:Pos}{x21:List Expr}
theorem z4k(ha:QDT X a ga):QDW X (.BoolOp .And [a] pos) ga:=⟨z6o ha.o⟩
theorem x6u(ha:QDT X a ga):QDW X (.BoolOp .Or [a] pos) ga:=⟨j13 ha.o⟩
theorem j1o(ha:QDT X a ga)(hb:QDW X (.BoolOp .And (b::x21) pos) gb):QDW X (.BoolOp .And (a::b::x21) pos) (z0b ga gb):=⟨z8k ha.o hb.o⟩
theorem x96(ha:QDT X a ga)(hb:QDW X (.BoolOp .Or (b::x21) pos) gb):QDW X (.BoolOp .Or (a::b::x21) pos) (y6o ga gb):=⟨j5e ha.o hb.o⟩
theorem z4d(hc:QDT X c gc)(ha:QD X a fa)(hb:QD X b fb):QD X (.IfExp c a b pos) (eIf gc fa fb):=⟨z5i hc.o ha.o hb.o⟩
end
section
variable {X:Cx}{a b c e:Expr}{fa fb fc f:Den}{ga gb gc:x1u}{pos:Pos}{st:Stmt}{x21 sa sb:List Stmt}{s s':x13}
theorem x1f:QDSs X [] x5t:=⟨z9u ⟩
theorem x07(h1:QDS X st s)(h2:QDSs X x21 s'):QDSs X (st::x21) (x0y s s'):=⟨z4z h1.o h2.o⟩
theorem x0c(h1:QDS X st s):QDSs X [st] s:=⟨j1f h1.o⟩
theorem x0k(h:QD X e f):QDS X (.Return (some e) pos) (x2g f):=⟨z9v h.o⟩
theorem x22(hc:QDT X c gc)(ha:QDSs X sa s)(hb:QDSs X sb s'):QDS X (.If c sa sb pos) (sIf gc s s'):=⟨j46 hc.o ha.o hb.o⟩
theorem z1y:QDS X (.Break pos) y8r:=⟨z1k ⟩
theorem x0m{pos':Pos}(hN:X.N.Nodup)(hi:X.N[i]? = some x)(hx:Loc X.env.scope x)(he:QD X e f)(hs:swapsWith e (some (.Name x pos')) pos.line X.env=pure false:=by rfl)(hf:X.fn x=true\/X.env.scope.names.lookup x=some .local:=by first|exact .inl rfl|exact .inr rfl):QDS X (.Assign [.Name x pos'] e pos) (x1n i f):=⟨z8m hN hi hx he.o hs hf⟩
theorem x2b(he:QD X e f)(hs:swapsWith e none pos.line X.env=pure false:=by rfl):QDS X (.Expr e pos) (x3p f):=⟨z6e he.o hs⟩
end
section
variable {X:Cx}{tg a b c e:Expr}{fa fb fc f:Den}{ga gb gc:x1u}{pos p:Pos}
theorem x0u(hm:X.mg "range" = none)(ha:QDA X [a] g)(hg:Gl X "range":=by rfl)(hs:starEach [a] X.env=[(false,eval a X.env)]:=by rfl):QDI X tg (.Call (.Name "range" p) [a] [] pos) (x17 g):=⟨z07 hm ha.o hg hs⟩
theorem x26(ha:QD X a fa):QDI X tg a (x50 fa):=⟨j06 ha.o⟩
end
section
theorem x0l{b:Nat}{pos:Pos}(hb:b<=i)(hN:X.N.Nodup)(hi:X.N[i]? = some x)(hx:Loc X.env.scope x)(hf:X.fn x=true\/X.env.scope.names.lookup x=some .local:=by first|exact .inl rfl|exact .inr rfl):QDG X b (.Name x pos) (x0o i):=⟨z4x hb hN hi hx hf⟩
end
section
theorem x1t{tg iter:Expr}{it:y4g}{pt:x6m}{s:x13}{pos:Pos}(hp:PassesOwn (model X.prog X.w) X.A X.env X.xe)(hc:X.calm=true)(hi:QDI X tg iter it)(hg:QDG X 0 tg pt)(hb:QDSs X body s)(hs:∀ x,foldedSetIterable iter X.env x=pure x:=by intro _;rfl):QDS X (.For tg iter body [] pos) (x7l it pt s):=⟨z97 hp hc hi.o hg.o hb.o hs⟩
end
section
variable {X:Cx}{k:Nat}{N':List Str}{scope:Scope}{elt tg iter:Expr}{ifs:List Expr}{pos:Pos}{it:y4g}{pt:x6m}{tt:x1u}{te:Den}
theorem x23:QDTs X [] x25:=⟨z6k ⟩
theorem y0y{c:Expr}{g:x1u}(h:QDT X c g):QDTs X [c] g:=⟨z6h h.o⟩
theorem x2x(deep:Bool)(hc:X.calm=true)(S:CompOk X k N' scope)(hi:QDI X tg iter it)(hg:∀ C s H fp,QDG (x24 X N' scope C s H fp) X.N.length tg pt)(ht:∀ C s H fp,QDTs (x24 X N' scope C s H fp) ifs tt)(he:∀ C s H fp,QD (x24 X N' scope C s H fp) elt te)(hs:∀ x,foldedSetIterable iter X.env x=pure x:=by intro _;rfl):QD X (.ListComp elt [⟨tg,iter,ifs,0⟩] scope pos) (x2w k it pt tt te deep):=⟨z8r deep hc S hi.o (fun C s H fp=>(hg C s H fp).o) (fun C s H fp=>(ht C s H fp).o) (fun C s H fp=>(he C s H fp).o) hs⟩
theorem y45{y:Str}{py spos:Pos}(deep:Bool)(hN:X.N.Nodup)(hy:X.N[i]? = some y)(hx:Loc X.env.scope y)(hsw:swapsWith (.ListComp elt [⟨tg,iter,ifs,0⟩] scope pos) (some (.Name y py)) spos.line X.env=pure true)(hc:X.calm=true)(S:CompOk X k N' scope)(hi:QDI X tg iter it)(hg:∀ C s H fp,QDG (x24 X N' scope C s H fp) X.N.length tg pt)(ht:∀ C s H fp,QDTs (x24 X N' scope C s H fp) ifs tt)(he:∀ C s H fp,QD (x24 X N' scope C s H fp) elt te)(hs:∀ x,foldedSetIterable iter X.env x=pure x:=by intro _;rfl)(hf:X.fn y=true\/X.env.scope.names.lookup y=some .local:=by first|exact .inl rfl|exact .inr rfl|assumption):QDS X (.Assign [.Name y py] (.ListComp elt [⟨tg,iter,ifs,0⟩] scope pos) spos) (x1n i (x2w k it pt tt te deep)):=⟨z6m deep hN hy hx hsw hc S hi.o (fun C s H fp=>(hg C s H fp).o) (fun C s H fp=>(ht C s H fp).o) (fun C s H fp=>(he C s H fp).o) hs hf⟩
end
section
variable {X:Cx}{a b c e:Expr}{fa fb fc f:Den}{pos:Pos}
theorem z9f{k:Nat}(hr:Room k X.A)(ha:QD X a fa)(hb:QD X b fb):QD X (.Compare a [.Eq] [b] pos) (e2 dEq fa fb):=⟨j6m hr ha.o hb.o⟩
theorem x9f{k:Nat}(hr:Room k X.A)(ha:QD X a fa)(hb:QD X b fb):QDT X (.Compare a [.Eq] [b] pos) (x3d (e2 dEq fa fb)):=⟨j3w hr ha.o hb.o⟩
theorem x6j{k:Nat}(hr:Room k X.A)(ha:QD X a fa)(hb:QD X b fb):QDT X (.Compare a [.NotEq] [b] pos) (x3d (e2 dNe fa fb)):=⟨j2k hr ha.o hb.o⟩
theorem j3q{k:Nat}(hr:Room k X.A)(ha:QD X a fa)(hb:QD X b fb)(hm:behindInMarks .In b=false:=by with_unfolding_all rfl):QDT X (.Compare a [.In] [b] pos) (x3d (e2 dIn fa fb)):=⟨j2c hr ha.o hb.o hm⟩
theorem z1g{k:Nat}(hr:Room k X.A)(ha:QD X a fa)(hb:QD X b fb)(hm:behindInMarks .NotIn b=false:=by with_unfolding_all rfl):QDT X (.Compare a [.NotIn] [b] pos) (x3d (e2 x8y fa fb)):=⟨z1o hr ha.o hb.o hm⟩
end
section
variable {X:Cx}{a b c e:Expr}{es:List Expr}{fa fb fc f:Den}{g:x1q}{pos p p1 p2:Pos}
theorem y3l(hm:X.mg "len" = none)(ha:QDA X [a] g)(hg:Gl X "len":=by rfl)(he:starEach [a] X.env=(false,eval a X.env)::starEach [] X.env:=by rfl)(hpl:(backTo pos (starEach [] X.env)).any (·.1)=false:=by rfl):QD X (.Call (.Name "len" p) [a] [] pos) (eB y7h g):=⟨j3j hm ha.o hg he hpl⟩
theorem x15(hm:X.mg "len" = none)(h:QE X (.Name x p1) (x7j i))(hg:Gl X "len":=by rfl)(he:starEach [.Name x p1] X.env=(false,eval (.Name x p1) X.env)::starEach [] X.env:=by rfl)(hpl:(backTo pos (starEach [] X.env)).any (·.1)=false:=by rfl):QD X (.Call (.Name "len" p) [.Name x p1] [] pos) (x1g i):=⟨j1u hm h.o hg he hpl⟩
theorem z1t(hc:X.calm=true)(hm:X.mg "max" = none)(hb:bootBuiltins "max" = some (.builtin "max"))(ha:QDA X (a::es) g)(hg:Gl X "max":=by rfl)(he:starEach (a::es) X.env=(false,eval a X.env)::starEach es X.env:=by rfl)(hpl:(backTo pos (starEach es X.env)).any (·.1)=false:=by rfl):QD X (.Call (.Name "max" p) (a::es) [] pos) (eB j2f g):=⟨z8n hc hm hb ha.o hg he hpl⟩
theorem y5s(hm:X.mg "list" = none)(hb:bootBuiltins "list" = some (.type "list"))(ha:QDA X [a] g)(hg:Gl X "list":=by rfl)(he:starEach [a] X.env=(false,eval a X.env)::starEach [] X.env:=by rfl)(hpl:(backTo pos (starEach [] X.env)).any (·.1)=false:=by rfl):QD X (.Call (.Name "list" p) [a] [] pos) (x86 g):=⟨z3q hm hb ha.o hg he hpl⟩
theorem x3s(hm:X.mg "tuple" = none)(hb:bootBuiltins "tuple" = some (.type "tuple"))(ha:QDA X [a] g)(hg:Gl X "tuple":=by rfl)(he:starEach [a] X.env=(false,eval a X.env)::starEach [] X.env:=by rfl)(hpl:(backTo pos (starEach [] X.env)).any (·.1)=false:=by rfl):QD X (.Call (.Name "tuple" p) [a] [] pos) (x3t g):=⟨z6w hm hb ha.o hg he hpl⟩
end
section
variable {X:Cx}{a:Expr}{g:x1q}{pos p p1 pos1:Pos}
theorem y14(hc:X.calm=true)(hm:X.mg "list" = none)(hb:bootBuiltins "list" = some (.type "list"))(hmr:X.mg "range" = none)(ha:QDA X [a] g)(hg:Gl X "list":=by rfl)(hgr:Gl X "range":=by rfl)(hs:starEach [a] X.env=[(false,eval a X.env)]:=by rfl)(he:starEach [.Call (.Name "range" p1) [a] [] pos1] X.env=(false,eval (.Call (.Name "range" p1) [a] [] pos1) X.env)::starEach [] X.env:=by rfl)(hpl:(backTo pos (starEach [] X.env)).any (·.1)=false:=by rfl):QD X (.Call (.Name "list" p) [.Call (.Name "range" p1) [a] [] pos1] [] pos) (x7y g):=⟨z4h hc hm hb hmr ha.o hg hgr hs he hpl⟩
theorem j02(hc:X.calm=true)(hm:X.mg "tuple" = none)(hb:bootBuiltins "tuple" = some (.type "tuple"))(hmr:X.mg "range" = none)(ha:QDA X [a] g)(hg:Gl X "tuple":=by rfl)(hgr:Gl X "range":=by rfl)(hs:starEach [a] X.env=[(false,eval a X.env)]:=by rfl)(he:starEach [.Call (.Name "range" p1) [a] [] pos1] X.env=(false,eval (.Call (.Name "range" p1) [a] [] pos1) X.env)::starEach [] X.env:=by rfl)(hpl:(backTo pos (starEach [] X.env)).any (·.1)=false:=by rfl):QD X (.Call (.Name "tuple" p) [.Call (.Name "range" p1) [a] [] pos1] [] pos) (z9n g):=⟨z8b hc hm hb hmr ha.o hg hgr hs he hpl⟩
end
section
variable {X:Cx}{a b c e:Expr}{es:List Expr}{fa fb fc f:Den}{g:x1q}{pos p p1 p2 cpos apos:Pos}
theorem z7d{k:Nat}(hr:Room k X.A)(ho:QD X a fa)(ha:QDA X [e] g)(hbase:attributeBase a "index" X.env (eval a X.env)=eval a X.env:=by rfl)(hfew:((backTo cpos (starEach [e] X.env)).all (fun x=>!x.1)&&(backToKw cpos (keywordEach [] X.env)).all (fun x=>x.1.isSome)
   && decide ([e].length+([]:List Keyword).length+(if([]:List Keyword).isEmpty then 0 else 1)<30))=true:=by rfl) (hline:(apos.endLine==cpos.line)=true:=by rfl) (hs:starEach [e] X.env=(false,eval e X.env)::starEach [] X.env:=by rfl) (hplain:(backTo cpos (starEach [] X.env)).any (·.1)=false:=by rfl):QD X (.Call (.Attribute a "index" apos) [e] [] cpos) (y8l fa g):=⟨z78 hr ho.o ha.o hbase hfew hline hs hplain⟩
theorem x2v(h:QE X (.Name x p1) (x7j i))(ha:QDA X [e] g)(hbase:attributeBase (.Name x p1) "append" X.env (eval (.Name x p1) X.env)=eval (.Name x p1) X.env:=by rfl)(hfew:((backTo cpos (starEach [e] X.env)).all (fun x=>!x.1)&&(backToKw cpos (keywordEach [] X.env)).all (fun x=>x.1.isSome)
   && decide ([e].length+([]:List Keyword).length+(if([]:List Keyword).isEmpty then 0 else 1)<30))=true:=by rfl) (hline:(apos.endLine==cpos.line)=true:=by rfl) (hs:starEach [e] X.env=(false,eval e X.env)::starEach [] X.env:=by rfl) (hplain:(backTo cpos (starEach [] X.env)).any (·.1)=false:=by rfl):QD X (.Call (.Attribute (.Name x p1) "append" apos) [e] [] cpos) (y1i i g):=⟨z40 h.o ha.o hbase hfew hline hs hplain⟩
theorem j4y(h:QE X (.Name x p1) (x7j i))(ha:QDA X [e] g)(hbase:attributeBase (.Name x p1) "pop" X.env (eval (.Name x p1) X.env)=eval (.Name x p1) X.env:=by rfl)(hfew:((backTo cpos (starEach [e] X.env)).all (fun x=>!x.1)&&(backToKw cpos (keywordEach [] X.env)).all (fun x=>x.1.isSome)
   && decide ([e].length+([]:List Keyword).length+(if([]:List Keyword).isEmpty then 0 else 1)<30))=true:=by rfl) (hline:(apos.endLine==cpos.line)=true:=by rfl) (hs:starEach [e] X.env=(false,eval e X.env)::starEach [] X.env:=by rfl) (hplain:(backTo cpos (starEach [] X.env)).any (·.1)=false:=by rfl):QD X (.Call (.Attribute (.Name x p1) "pop" apos) [e] [] cpos) (j20 i g):=⟨j3s h.o ha.o hbase hfew hline hs hplain⟩
theorem x0q(h:QE X (.Name x p1) (x7j n))(hb:QD X b fb)(hs:x4m b:=by exact fun _ _=>rfl):QD X (.Subscript (.Name x p1) b pos) (x1e n fb):=⟨j2g h.o hb.o hs⟩
theorem z3x(ha:QD X a fa)(hb:QD X b fb):QD X (.BinOp a .Mult b pos) (y70 fa fb):=⟨z9l ha.o hb.o⟩
theorem z83{p3 p4:Pos}(ha:QD X a fa):QD X (.Subscript a (.Slice none none (some (.UnaryOp .USub (.Constant (.int 1) j p3) p4)) p2) pos) (j0w fa):=⟨j47 ha.o⟩
end
section
variable {X:Cx}{a b c e:Expr}{es:List Expr}{fa fb fc f:Den}{qa qb:y2b}{g:x1q}{pos p p1 p2 cpos apos:Pos}
theorem y9w(h:QE X (.Name x p1) (x7j n)):QQ X (.Name x p1) (z0x n):=⟨j3d h.o⟩
theorem j4x(h:QE X (.Name x p1) (x7j n))(hb:QQ X b qb)(hs:x4m b:=by exact fun _ _=>rfl):QQ X (.Subscript (.Name x p1) b pos) (qIx n qb):=⟨j7f h.o hb.o hs⟩
theorem z5z(h:QE X (.Name x p1) (x7j n))(ha:QQ X a qa)(hb:QQ X b qb)(he:QD X e f)(hi:x4m a:=by exact fun _ _=>rfl)(hasg:∀ v,assign (.Subscript (.Subscript (.Name x p1) a p2) b p) X.env v=(do
   let ov <- holding [v] (eval (.Subscript (.Name x p1) a p2) X.env)
   let iv <- holding [v,ov] (eval b X.env)
   standAt p
   holding [v,ov,iv] (setItem ov iv v)
   release [v,ov,iv] []):=by exact fun _=>rfl) (hs:swapsWithSole [.Subscript (.Subscript (.Name x p1) a p2) b p] e pos.line X.env=pure false:=by rfl):QDS X (.Assign [.Subscript (.Subscript (.Name x p1) a p2) b p] e pos) (z0o n qa qb f):=⟨z6q h.o ha.o hb.o he.o hi hasg hs⟩
end
section
variable {X:Cx}{a b c e:Expr}{es x21:List Expr}{fa fb fc f:Den}{g:x1q}{pos p p1 p2 cpos apos:Pos}
theorem y90{op}(h:QD X a fa):QD X (.BoolOp op [a] pos) fa:=⟨j5a h.o⟩
theorem y9x(ha:QD X a fa)(hb:QD X (.BoolOp .And (b::x21) pos) fb):QD X (.BoolOp .And (a::b::x21) pos) (z43 fa fb):=⟨j4c ha.o hb.o⟩
theorem j5o(ha:QD X a fa):QD X (.UnaryOp .Not a pos) (j5s fa):=⟨j2j ha.o⟩
theorem x0a{k:Nat}{F:List D->OD}(C:Cal X.prog X.w X.K X.mg X.base k x n F)(hr:Room j X.A)(hk:k<=j)(ha:QDA X (e::es) g)(hg:Gl X x:=by rfl)(hdb:(x==("__debug__":Str))=false:=by decide)(he:starEach (e::es) X.env=(false,eval e X.env)::starEach es X.env:=by rfl)(hpl:(backTo pos (starEach es X.env)).any (·.1)=false:=by rfl):QD X (.Call (.Name x p) (e::es) [] pos) (x0j F n g):=⟨z6t C hr hk ha.o hg hdb he hpl⟩
end
section
variable {X:Cx}{k b:Nat}{e:Expr}{es:List Expr}{pt:x6m}{ps:x9s}{pos:Pos}
theorem x7e:QDGs X b [] x63:=⟨z6n ⟩
theorem x1x(h1:QDG X b e pt)(h2:QDGs X b es ps)(hs:(assignEach (e::es) X.env).map (·.2)=assign e X.env::(assignEach es X.env).map (·.2):=by rfl):QDGs X b (e::es) (x11 pt ps):=⟨z1d h1.o h2.o hs⟩
theorem x9z(hc:X.calm=true)(h:QDGs X b es ps)(hl:∀ ds ρ ρ',ps ds ρ=some ρ'->ds.length=n)(hn:(assignEach es X.env).length=n:=by rfl)(hst:(assignEach es X.env).findIdx? (·.1)=none:=by rfl):QDG X b (.Tuple es k pos) (y5k ps):=⟨z8q hc h.o hl hn hst⟩
end
section
variable {X:Cx}{a b c e:Expr}{es:List Expr}{fa fb fc f:Den}{g:x1q}{pos p p1 p2:Pos}
theorem y8w(hc:X.calm=true)(hm:X.mg "all" = none)(ha:QDA X [a] g)(hg:Gl X "all":=by rfl)(he:starEach [a] X.env=(false,eval a X.env)::starEach [] X.env:=by rfl)(hpl:(backTo pos (starEach [] X.env)).any (·.1)=false:=by rfl):QD X (.Call (.Name "all" p) [a] [] pos) (eB y9m g):=⟨j5n hc hm ha.o hg he hpl⟩
end
section
variable {X:Cx}{a b c e:Expr}{es:List Expr}{fa fb fc f:Den}{ga gb:x1u}{g:x1q}{pos p p1 p2 pT:Pos}
theorem y3m(T:IT){t:Str}(hm:X.mg "isinstance" = none)(hmT:X.mg t=none)(hbT:bootBuiltins t=some (.type T.nm))(ha:QD X a fa)(hg:Gl X "isinstance":=by rfl)(hgT:Gl X t:=by rfl)(hnT:t ≠ "__name__":=by decide)(hdT:(t==("__debug__":Str))=false:=by decide)(hs:starEach [a,.Name t pT] X.env=(false,eval a X.env)::starEach [.Name t pT] X.env:=by rfl)(hpl:(backTo pos (starEach [.Name t pT] X.env)).any (·.1)=false:=by rfl):QD X (.Call (.Name "isinstance" p) [a,.Name t pT] [] pos) (z48 T fa):=⟨j3t T hm hmT hbT ha.o hg hgT hnT hdT hs hpl⟩
theorem y88(ha:QD X a fa)(hb:QD X b fb)(hc:QD X c fc)(hm:lastMarks [.LtE,.Lt] [b,c]=false:=by with_unfolding_all rfl):QD X (.Compare a [.LtE,.Lt] [b,c] pos) (eCh dLe dLt fa fb fc):=⟨y83 ha.o hb.o hc.o hm⟩
theorem j6b(ha:QD X a fa)(hb:QD X b fb):QD X (.Compare a [.Is] [b] pos) (e2 dIs fa fb):=⟨j7c ha.o hb.o⟩
theorem y6b(ha:QD X a fa)(hb:QD X b fb):QDT X (.Compare a [.IsNot] [b] pos) (x3d (e2 y36 fa fb)):=⟨z1l ha.o hb.o⟩
theorem y8y(ha:QD X a fa)(hb:QD X b fb):QD X (.BinOp a .Add b pos) (j1s fa fb):=⟨j3l ha.o hb.o⟩
theorem x3v:QDO X none x78:=⟨z57 ⟩
theorem x3c(h:QD X e f):QDO X (some e) (x51 f):=⟨z58 h.o⟩
theorem z76(ha:QD X a fa)(hl:QDO X lo fl)(hh:QDO X hi fh):QD X (.Subscript a (.Slice lo hi none p2) pos) (eSl fa fl fh):=⟨j7o ha.o hl.o hh.o⟩
end
section
variable {X:Cx}{k b n:Nat}{a c e tg:Expr}{es:List Expr}{pt:x6m}{ps:x9s}{pos:Pos}{fa fb f:Den}
theorem z39(he:QD X e f)(hg:QDG X 0 tg pt)(hs:swapsWithSole [tg] e pos.line X.env=pure false:=by rfl)(hw:swappedStores [tg] e X.env=pure none:=by rfl)(h1:(assignEach [tg] X.env).map (·.2)=[assign tg X.env]:=by rfl):QDS X (.Assign [tg] e pos) (z8e f pt):=⟨z9z he.o hg.o hs hw h1⟩
end
section
variable {X:Cx}{a b c e:Expr}{fa fb fc f:Den}{pos:Pos}
theorem y3v(ha:QD X a fa)(hb:QD X b fb):QD X (.BinOp a .Mult b pos) (y1d fa fb):=⟨j0z ha.o hb.o⟩
end
section
variable {X:Cx}{a b c e:Expr}{es:List Expr}{fa fb fc f:Den}{ga gb:x1u}{g:x1q}{pos p p1 p2 cpos apos:Pos}
theorem y6e(h:QE X (.Name x p1) (x7j i))(ha:QD X e f)(hbase:attributeBase (.Name x p1) "extend" X.env (eval (.Name x p1) X.env)=eval (.Name x p1) X.env:=by rfl)(hfew:((backTo cpos (starEach [e] X.env)).all (fun x=>!x.1)&&(backToKw cpos (keywordEach [] X.env)).all (fun x=>x.1.isSome)
   && decide ([e].length+([]:List Keyword).length+(if([]:List Keyword).isEmpty then 0 else 1)<30))=true:=by rfl) (hline:(apos.endLine==cpos.line)=true:=by rfl) (hs:starEach [e] X.env=(false,eval e X.env)::starEach [] X.env:=by rfl) (hplain:(backTo cpos (starEach [] X.env)).any (·.1)=false:=by rfl):QD X (.Call (.Attribute (.Name x p1) "extend" apos) [e] [] cpos) (j1w i f):=⟨z1j h.o ha.o hbase hfew hline hs hplain⟩
end
section
variable {X:Cx}{a b c e:Expr}{es:List Expr}{fa fb fc f:Den}{ga gb gc:x1u}{g:x1q}{qa qb:y2b}{s:x13}{pos p p1 p2 cpos apos:Pos}
theorem z1v:QDS X st y9f:=⟨z1a ⟩
theorem y5o(hp:PassesOwn (model X.prog X.w) X.A X.env X.xe)(hc:QDT X c gc)(hb:QDSs X body s):QDS X (.While c body [] pos) (y5c gc s):=⟨z35 hp hc.o hb.o⟩
theorem y9k(h:QE X (.Name x p1) (x7j n))(ha:QQ X a qa)(he:QD X e f)(hasg:∀ v,assign (.Subscript (.Name x p1) a p) X.env v=(do
   let ov <- holding [v] (eval (.Name x p1) X.env)
   let iv <- holding [v,ov] (eval a X.env)
   standAt p
   holding [v,ov,iv] (setItem ov iv v)
   release [v,ov,iv] []):=by exact fun _=>rfl) (hs:swapsWithSole [.Subscript (.Name x p1) a p] e pos.line X.env=pure false:=by rfl):QDS X (.Assign [.Subscript (.Name x p1) a p] e pos) (y6y n qa f):=⟨z6i h.o ha.o he.o hasg hs⟩
theorem x5e(ha:QD X a fa)(hb:QD X b fb):QD X (.BinOp a .Add b pos) (x65 fa fb):=⟨z8l ha.o hb.o⟩
end
section
variable {X:Cx}{a b c e:Expr}{es:List Expr}{fa fb fc f:Den}{ga gb gc:x1u}{g:x1q}{qa qb:y2b}{s:x13}{pos p p1 p2 p3 cpos apos:Pos}
theorem y9g{n j:Nat}{c:Int}(hm:X.mg "len" = none)(h:QE X (.Name x p1) (x7j n))(hg:Gl X "len":=by rfl)(hs:x4m (.Constant (.int c) j p2):=by exact fun _ _=>rfl)(he:starEach [.Subscript (.Name x p1) (.Constant (.int c) j p2) p3] X.env=(false,eval (.Subscript (.Name x p1) (.Constant (.int c) j p2) p3) X.env)::starEach [] X.env:=by rfl)(hpl:(backTo pos (starEach [] X.env)).any (·.1)=false:=by rfl):QQ X (.Call (.Name "len" p) [.Subscript (.Name x p1) (.Constant (.int c) j p2) p3] [] pos) (x5q n c):=⟨z7b hm h.o hg hs he hpl⟩
theorem j1m{k l:Str}{j1 j2:Nat}(hkl:k≠l)(ha:QQ X a qa)(hb:QQ X b qb):QD X (.Dict [some (.Constant (.str k) j1 p1),some (.Constant (.str l) j2 p2)] [a,b] pos) (y6a k l qa qb):=⟨z90 hkl ha.o hb.o⟩
theorem z92{k:Nat}(hr:Room k X.A)(ho:QD X a fa)(he:QD X b fb)(hf:QD X c fc)(hbase:attributeBase a "get" X.env (eval a X.env)=eval a X.env:=by rfl)(hfew:((backTo cpos (starEach [b,c] X.env)).all (fun x=>!x.1)&&(backToKw cpos (keywordEach [] X.env)).all (fun x=>x.1.isSome)
   && decide (([b,c]:List Expr).length+([]:List Keyword).length+(if([]:List Keyword).isEmpty then 0 else 1)<30))=true:=by rfl) (hline:(apos.endLine==cpos.line)=true:=by rfl) (htr:backTo cpos (starEach [b,c] X.env)=[(false,eval b X.env),(false,eval c X.env)]:=by rfl):QD X (.Call (.Attribute a "get" apos) [b,c] [] cpos) (z5u fa fb fc):=⟨z8s hr ho.o he.o hf.o hbase hfew hline htr⟩
end
section
variable {X:Cx}{a b c e:Expr}{es:List Expr}{fa fb fc f:Den}{ga gb:x1u}{g:x1q}{pos p p1 p2 pT cpos apos:Pos}
theorem y3j{nm:Str}(hC:IsC X.K X.mg L nm)(hm:X.mg "isinstance" = none)(ha:QD X a fa)(hg:Gl X "isinstance":=by rfl)(hgT:Gl X nm:=by rfl)(hdT:(nm==("__debug__":Str))=false:=by decide)(hs:starEach [a,.Name nm pT] X.env=(false,eval a X.env)::starEach [.Name nm pT] X.env:=by rfl)(hpl:(backTo pos (starEach [.Name nm pT] X.env)).any (·.1)=false:=by rfl):QD X (.Call (.Name "isinstance" p) [a,.Name nm pT] [] pos) (z6z L nm fa):=⟨j2r hC hm ha.o hg hgT hdT hs hpl⟩
theorem j3h(hm:X.mg "isinstance" = none)(hmT:X.mg "ValueError" = none)(ha:QD X a fa)(hg:Gl X "isinstance":=by rfl)(hgT:Gl X "ValueError":=by rfl)(hs:starEach [a,.Name "ValueError" pT] X.env=(false,eval a X.env)::starEach [.Name "ValueError" pT] X.env:=by rfl)(hpl:(backTo pos (starEach [.Name "ValueError" pT] X.env)).any (·.1)=false:=by rfl):QD X (.Call (.Name "isinstance" p) [a,.Name "ValueError" pT] [] pos) (j5z fa):=⟨j5h hm hmT ha.o hg hgT hs hpl⟩
theorem j14(ha:QD X a fa)(hb:QD X b fb):QDT X (.Compare a [.Is] [b] pos) (x3d (e2 j2s fa fb)):=⟨j1j ha.o hb.o⟩
theorem j1t{k:Nat}(hr:Room k X.A)(ho:QD X a fa)(ha:QDA X [e] g)(hbase:attributeBase a "count" X.env (eval a X.env)=eval a X.env:=by rfl)(hfew:((backTo cpos (starEach [e] X.env)).all (fun x=>!x.1)&&(backToKw cpos (keywordEach [] X.env)).all (fun x=>x.1.isSome)
   && decide ([e].length+([]:List Keyword).length+(if([]:List Keyword).isEmpty then 0 else 1)<30))=true:=by rfl) (hline:(apos.endLine==cpos.line)=true:=by rfl) (hs:starEach [e] X.env=(false,eval e X.env)::starEach [] X.env:=by rfl) (hplain:(backTo cpos (starEach [] X.env)).any (·.1)=false:=by rfl):QD X (.Call (.Attribute a "count" apos) [e] [] cpos) (j63 fa g):=⟨z8c hr ho.o ha.o hbase hfew hline hs hplain⟩
theorem z0y{k:Nat}(hr:Room k X.A)(ho:QD X a fa)(ha:QDA X [e] g)(hbase:attributeBase a "index" X.env (eval a X.env)=eval a X.env:=by rfl)(hfew:((backTo cpos (starEach [e] X.env)).all (fun x=>!x.1)&&(backToKw cpos (keywordEach [] X.env)).all (fun x=>x.1.isSome)
   && decide ([e].length+([]:List Keyword).length+(if([]:List Keyword).isEmpty then 0 else 1)<30))=true:=by rfl) (hline:(apos.endLine==cpos.line)=true:=by rfl) (hs:starEach [e] X.env=(false,eval e X.env)::starEach [] X.env:=by rfl) (hplain:(backTo cpos (starEach [] X.env)).any (·.1)=false:=by rfl):QD X (.Call (.Attribute a "index" apos) [e] [] cpos) (y3q fa g):=⟨z31 hr ho.o ha.o hbase hfew hline hs hplain⟩
end
section
variable {X:Cx}{a b c e:Expr}{fa fb fc f:Den}{pos p p1 p2 pT cpos apos:Pos}
theorem y06(ha:QD X a fa)(hl:QDO X lo fl)(hh:QDO X hi fh):QD X (.Subscript a (.Slice lo hi none p2) pos) (y6q fa fl fh):=⟨j5f ha.o hl.o hh.o⟩
end
section
variable {X:Cx}{E:XK}{st:Stmt}{ss x21 a b:List Stmt}{x y:y11}{f:x13}{g:x1u}{c e:Expr}{es:List Expr}{pos pos' p:Pos}
theorem z52:QXB X E ss z55:=⟨z7c ⟩
theorem y1p(h:QXS X E st x):QXB X E (st::x21) x:=⟨z2j h.o⟩
theorem z99(hc:QDT X c g)(ha:QXB X E a x)(hb:QXB X E b y):QXS X E (.If c a b pos) (j1z g x y):=⟨j04 hc.o ha.o hb.o⟩
theorem z6f(he:QXE X E e x)(hs:swapsWith e none pos.line X.env=pure false:=by rfl):QXS X E (.Expr e pos) x:=⟨z79 he.o hs⟩
end
section
variable {P:Program}{w:World}{K:PySem.W.Frag}{mg:Str->Option Value}{base:Heap}{N:List Str}{qual:Str}{scope:Scope}{f:Addr}{cd:Value}{A:Around}{outer:List Env}{s₀:Shared}{H₀:Hp}{E:XK}
theorem z1s{nm txt:Str}{k j:Nat}{np cpos tpos pos:Pos}(hr:Room k (A.deeper (envOfC qual scope s₀.heap.objs.size f cd)))(hC:∃ C,XNm K mg nm C)(hg:Gl (cxF P w K mg base N qual scope f cd A outer s₀ H₀ E) nm:=by rfl)(hdb:(nm==("__debug__":Str))=false:=by decide):QXS (cxF P w K mg base N qual scope f cd A outer s₀ H₀ E) E (.Raise (some (.Call (.Name nm np) [.Constant (.str txt) j tpos] [] cpos)) none pos) (y9s nm):=⟨z2x hr hC hg hdb⟩
theorem z5n{k:Nat}{F:List D->Option Str}{e:Expr}{p pos:Pos}(Cx':y7l P w K mg base k x n F)(hr:Room j (A.deeper (envOfC qual scope s₀.heap.objs.size f cd)))(hk:k<=j)(ha:QDA (cxF P w K mg base N qual scope f cd A outer s₀ H₀ E) (e::es) g)(hg:Gl (cxF P w K mg base N qual scope f cd A outer s₀ H₀ E) x:=by rfl)(hdb:(x==("__debug__":Str))=false:=by decide)(he:starEach (e::es) (envOfC qual scope s₀.heap.objs.size f cd)=(false,eval e (envOfC qual scope s₀.heap.objs.size f cd))::starEach es (envOfC qual scope s₀.heap.objs.size f cd):=by rfl)(hpl:(backTo pos (starEach es (envOfC qual scope s₀.heap.objs.size f cd))).any (·.1)=false:=by rfl):QXE (cxF P w K mg base N qual scope f cd A outer s₀ H₀ E) E (.Call (.Name x p) (e::es) [] pos) (z5t F n g):=⟨z6p Cx' hr hk ha.o hg hdb he hpl⟩
end
section
variable {Y:Cx}{c e:Expr}{es:List Expr}{g:x1q}{gt:x1u}{x y:z49}{a b ss:List Stmt}{st:Stmt}{pos:Pos}
theorem z8j(h:QTS Y st y):QTB Y [st] y:=⟨z93 h.o⟩
theorem z68{z u:Str}{Fx:List D->Option Str}{k:Nat}{yp fp cpos spos:Pos}(CX:y7l Y.prog Y.w Y.K Y.mg Y.base k z n Fx)(hr:Room j Y.A)(hk:k<=j)(ha:QDA Y.nox (e::es) g)(hgx:Gl Y z:=by rfl)(hdx:(z==("__debug__":Str))=false:=by decide)(hsc:swapsWith (.Call (.Name z fp) (e::es) [] cpos) (some (.Name u yp)) spos.line Y.env=pure false:=by rfl)(he:starEach (e::es) Y.env=(false,eval e Y.env)::starEach es Y.env:=by rfl)(hpl:(backTo cpos (starEach es Y.env)).any (·.1)=false:=by rfl):QTS Y (.Assign [.Name u yp] (.Call (.Name z fp) (e::es) [] cpos) spos) (z2e Fx n g):=⟨z5p CX hr hk ha.o hgx hdx hsc he hpl⟩
theorem z6y{R nn kx:Str}{f:x13}{ie ik:Nat}{np kp vp apos hpos:Pos}(hU:y2s Y.K Y.mg R L)(hf:QDSs Y.nox ss f)(hx:QTB Y ss y)(hN:Y.N.Nodup)(hie:Y.N[ie]? = some nn)(hik:Y.N[ik]? = some kx)(hst:Y.stack=Y.env::Y.outer:=by rfl)(hfm:Y.env.frame=some Y.env.locals:=by rfl)(hne:Y.env.scope.names.lookup nn=some .local:=by rfl)(hnk:Y.env.scope.names.lookup kx=some .local:=by rfl)(hg:Gl Y R:=by rfl)(hdb:(R==("__debug__":Str))=false:=by decide)(hdn:(nn==("__debug__":Str))=false:=by decide)(hcn:(nn==("__classdict__":Str))=false:=by decide)(hsw:swapsWith (.Name nn vp) (some (.Name kx kp)) apos.line Y.env=pure false:=by rfl):QDS Y.nox (.Try ss [.ExceptHandler (some (.Name R np)) (some nn) [.Assign [.Name kx kp] (.Name nn vp) apos] hpos] [] [] pos) (z0c L f y ie ik):=⟨z6a hU hf.o hx.o hN hie hik hst hfm hne hnk hg hdb hdn hcn hsw⟩
end
section
variable {X:Cx}{pos p p1 p2:Pos}
theorem z5s(hm:X.mg "list" = none)(hb:bootBuiltins "list" = some (.type "list"))(h:QE X (.Name x p1) (x7j i))(hg:Gl X "list":=by rfl)(he:starEach [.Name x p1] X.env=(false,eval (.Name x p1) X.env)::starEach [] X.env:=by rfl)(hpl:(backTo pos (starEach [] X.env)).any (·.1)=false:=by rfl):QD X (.Call (.Name "list" p) [.Name x p1] [] pos) (y97 i):=⟨z54 hm hb h.o hg he hpl⟩
end
theorem Cal.mkQ{k:Nat}{body:x13}(a:At K mg x st ps)(S:FnScope N ps (x0b st))
  (h:∀ (f:Addr) (cdv:Value) (A:Around) (outer:List Env) (s:Shared) (H:Hp) (E:XK),Room k (A.deeper (envOfC x (x0b st) s.heap.objs.size f cdv))->QDSs (z0k CX0 P w K mg base N x (x0b st) f cdv A outer s H E).nox (x35 st) body) :
  Cal P w K mg base (k+1) x ps.length (fnD N.length body):=Cal.mk a S fun f cdv A outer s H E hr=>(h f cdv A outer s H E hr).o
theorem j0o{k:Nat}{body:x13}{f:Addr}{fd:FuncData}(F:Fun K x x st f fd)(S:FnScope N ps (x0b st))
  (h:∀ (f:Addr) (cdv:Value) (A:Around) (outer:List Env) (s:Shared) (H:Hp) (E:XK),Room k (A.deeper (envOfC x (x0b st) s.heap.objs.size f cdv))->QDSs (z0k CX0 P w K mg base N x (x0b st) f cdv A outer s H E).nox (x35 st) body) :
  FnOk P w K mg base CX0 (k+1) f fd ps (spD K ps.length (fnD N.length body)):=j38 F S fun f cdv A outer s H E hr=>(h f cdv A outer s H E hr).o
end L3
namespace L3
open PySem PySem.Spec PyProof.Rows PySem.W L2
variable {C c f:Addr}{K:PySem.W.Frag}{L N ps:List Str}{P q:Program}{base:Heap}{fd:FuncData}{mg:Str->Option Value}{oc:Value}{od:Option Addr}{sl:Array (Option Value)}{st:Stmt}{w:World}{x:Str}
theorem j67{K:Frag}{v:Value}{b:Bool}(h:mroIn K C v=some b):(clsIn K C).isSome=true:=by
 obtain⟨cd,a,_⟩:=Option.bind_eq_some_iff.mp h
 rw[a];rfl
theorem XKls.of{K:Frag}{nm:Str}(n:nsIn K mainGlobals nm=some (some (.ref C)))(x:XCls K C)(ex:excIn K C bmV "ValueError.__new__" = true)(v:mroIn K C (.type "ValueError")=some true)
  (a1:mroIn K C (.type "int")=some false) (a2:mroIn K C (.type "bool")=some false) (a3:mroIn K C (.type "tuple")=some false) (a4:mroIn K C (.type "list")=some false) (a5:mroIn K C (.type "str")=some false):XKls K nm C:=
 ⟨n,x,ex,v,fun T hT=>by
   rcases List.mem_cons.mp hT with rfl|hT
   ·exact a1
   rcases List.mem_cons.mp hT with rfl|hT
   ·exact a2
   rcases List.mem_cons.mp hT with rfl|hT
   ·exact a3
   rcases List.mem_cons.mp hT with rfl|hT
   ·exact a4
   rcases List.mem_cons.mp hT with rfl|hT
   ·exact a5
   cases hT⟩
theorem y2s.nil{K:Frag}{R:Str}{RA:Addr}(x:XCls K RA)(t:typeIn K (.ref RA)=some (.type "type"))(m:mg R=some (.ref RA)):y2s K mg R []:=⟨RA,x,t,m,fun n hn=>nomatch hn⟩
theorem y2s.cons{K:Frag}{mg:Str->Option Value}{R nm:Str}{L:List Str}{C RA:Addr}(U:y2s K mg R L)(m:mg R=some (.ref RA))(k:XKls K nm C)(s:mroIn K C (.ref RA)=some true):y2s K mg R (nm::L):=by
 obtain⟨RB,x,t,m',h⟩:=U
 rw[m]at m'
 cases m'
 refine⟨RA,x,t,m,fun n hn C' e=>?_⟩
 rcases List.mem_cons.mp hn with rfl|hn
 ·have e':=k.ns
  rw[e]at e'
  cases e'
  exact⟨k,s⟩
 ·exact h n hn C' e
theorem IsC.nil{K:Frag}{nm:Str}(m:mg nm=some (.ref C)):IsC K mg [] nm:=⟨C,m,fun n hn=>nomatch hn⟩
theorem IsC.self{K:Frag}{nm:Str}(U:IsC K mg L nm)(n:nsIn K mainGlobals nm=some (some (.ref C)))(m:mg nm=some (.ref C)):IsC K mg (nm::L) nm:=by
 obtain⟨C',m',h⟩:=U
 rw[m]at m'
 cases m'
 refine⟨C,m,fun n' hn B e=>?_⟩
 rcases List.mem_cons.mp hn with rfl|hn
 ·rw[e]at n
  cases n
  exact⟨fun _=>by unfold isIn;simp,fun z=>absurd rfl z⟩
 ·exact h n' hn B e
theorem IsC.other{K:Frag}{nm n2:Str}{D:Addr}(U:IsC K mg L n2)(n:nsIn K mainGlobals nm=some (some (.ref C)))(m:mg n2=some (.ref D))(hn:nm≠n2)(ne:C≠D)(t:typeIn K (.ref D)=some (.type "type"))(o:mroIn K D (.type "object")=some true)(s:mroIn K C (.ref D)=some false):IsC K mg (nm::L) n2:=by
 obtain⟨D',m',h⟩:=U
 rw[m]at m'
 cases m'
 refine⟨D,m,fun n' hn' B e=>?_⟩
 rcases List.mem_cons.mp hn' with rfl|hn'
 ·rw[e]at n
  cases n
  have s':subIn K (.ref C) (.ref D)=some false:=s
  exact⟨fun z=>absurd z hn,fun _=>by unfold kin_not;rw[j67 o,t,s'];simp[ne]⟩
 ·exact h n' hn' B e
theorem y7l.mkQ{k:Nat}{xb:y11}(a:At K mg x st ps)(S:FnScope N ps (x0b st))
  (h:∀ (f:Addr) (cdv:Value) (A:Around) (outer:List Env) (s:Shared) (H:Hp) (E:XK),Room k (A.deeper (envOfC x (x0b st) s.heap.objs.size f cdv))->QXB (cxF P w K mg base N x (x0b st) f cdv A outer s H E) E (x35 st) xb) :
  y7l P w K mg base (k+1) x ps.length (fnX N.length xb):=y7l.mk a S fun f cdv A outer s H E hr=>(h f cdv A outer s H E hr).o
def z4w (X:Cx):List Str->List Nat->Prop
 | [],[]=>True
 | z::zs,i::is=>X.N[i]? = some z/\X.env.scope.names.lookup z=some .cell/\z4w X zs is
 | _,_=>False
theorem z4w.at{X:Cx}:∀ {zs:List Str} {is:List Nat},z4w X zs is->∀ (j:Nat) (z:Str),zs[j]? = some z->∃ i,is[j]? = some i/\X.N[i]? = some z/\X.env.scope.names.lookup z=some .cell
 | [],[],_,_,_,e=>by simp at e
 | z::zs,i::is,h,0,_,e=>by simp at e;subst e;exact⟨i,rfl,h.1,h.2.1⟩
 | z::zs,i::is,h,j+1,y,e=>by
  obtain⟨i',a,b⟩:=h.2.2.at j y (by simpa using e)
  exact⟨i',by simpa using a,b⟩
theorem j6g{h:Heap}{P:Addr}(X:K.In h)(G:h.Ns mainGlobals mg)(ht:tabIn K x=some (c,P))(hm:mg x=some (.ref f))(lk:K.lookup f=some ⟨oc,od,.func fd,sl⟩):fd.code=.ref c:=
 law_code X G ht hm (X _ _ lk) rfl
theorem Cal.mkL{k:Nat}{body:x13}(KX:K.In base)(G:base.Ns mainGlobals mg)(ht:∃ c Pt,tabIn K x=some (c,Pt))(a:At K mg x st ps)(S:FnScope N ps (x0b st))
  (h:∀ (f c Pt:Addr) (A:Around) (outer:List Env) (s:Shared) (H:Hp) (E:XK),tabIn K x=some (c,Pt)->Room k (A.deeper (envOfC x (x0b st) s.heap.objs.size f (.ref c)))->QDSs (z0k CX0 P w K mg base N x (x0b st) f (.ref c) A outer s H E).nox (x35 st) body) :
  Cal P w K mg base (k+1) x ps.length (fnD N.length body):=by
 obtain⟨f,fd,F,m,b⟩:=a
 obtain⟨c,Pt,ht⟩:=ht
 obtain⟨oc,od,kV,doc,pm,an,cdv,ct,osl,rfl,lk,hcd⟩:=F.ex
 have e:cdv=.ref c:=j6g KX G ht m lk
 subst e
 exact⟨f,_,ps,z91 lk hcd S (fun vs H Q E h=>h.1) fun A outer s H vs Q E hr hsp=>⟨_,(h f c Pt A outer s H E ht hr).o.nox,y9b hsp⟩,m,F.kp,b⟩
theorem LamScope.of{cs:List Str}{sc:Scope}(kind:sc.kind=.function)(co:sc.isCoroutine=false)(gen:sc.isGenerator=false)(nd:(ps++cs).Nodup)(par:∀ x∈ps,sc.names.lookup x=some .local)(cap:∀ x∈cs,sc.names.lookup x=some .free)
  (nocell:∀ y∈sc.names,y.2 ≠ .cell) (free:∀ y∈sc.names,y.2=.free->y.1∈cs):LamScope ps cs sc:=⟨kind,co,gen,nd,par,cap,nocell,fun x e=>free _ (PySem.mem_of_lookup e) rfl⟩
theorem j7x{Pt:Addr}{o2:Value}{od2:Option Addr}{sl2:Array (Option Value)}{vs:Array Value}(a:nsIn K mainGlobals x=some (some (.ref f)))(l:K.lookup f=some ⟨oc,od,.func fd,sl⟩)(hc:fd.code=.ref c)(m:K.lookup c=some ⟨o2,od2,.fields vs,sl2⟩)(v:vs[11]? = some (.ref Pt)) :
  ∃ c Pt,tabIn K x=some (c,Pt):=⟨c,Pt,by unfold tabIn;rw[a];simp only[l,hc,m,v]⟩
theorem j65(a:nsIn K mainGlobals x=some none):tabIn K x=none:=by unfold tabIn;rw[a]
def x73 (K:PySem.W.Frag)(b:Addr):Bool:=x8k.any fun x=>match tabIn K x with
 | some (_,P)=>P==b
 | none=>false
theorem z61{b:Addr}(h:x73 K b=true):∃ x∈x8k,∃ c,tabIn K x=some (c,b):=by
 obtain⟨x,hx,e⟩:=List.any_eq_true.mp h
 split at e
 ·rename_i c P hP
  rw[eq_of_beq e]at hP
  exact⟨x,hx,c,hP⟩
 ·cases e
theorem z4a{P:Addr}(hx:x∈x8k)(e:tabIn K x=some (c,P)):x73 K P=true:=
 List.any_eq_true.mpr ⟨x,hx,by rw[e];exact beq_self_eq_true P⟩
theorem z2a{P:Program}{w:World}{mb:Str->Option Value}{CX:CXT}{k:Nat}{fa a:Addr}{fd:FuncData}{sp:Sp}{s₁:Shared}{vs:List Value}{ns:List Int}
  (KX:K.In s₁.heap) (hns:s₁.heap.Ns mainGlobals mg) (hb:s₁.heap.Ns builtinsNs mb) (hbb:∀ x:Str,x ≠ "__name__"->mb x=bootBuiltins x) (hlim:s₁.heap.NoLimit) (hg:s₁.gens = #[])
  (hbm:∃ bm o,mg "__builtins__" = some (.ref bm)/\bm≠builtinsNs/\s₁.heap.get? bm=some o/\o.cls=.type "module" /\ o.dict=some builtinsNs/\o.data=.plain)
  (hT:∀ x∈x8k,∀ c Pt,tabIn K x=some (c,Pt)->CodeHd s₁.heap c Pt/\s₁.heap.get? Pt=some (tabObj #[])) (hnt:noTabs K=true)
  (ha:s₁.heap.get? a=some { cls:=.type "list",data:=.seq vs.toArray }) (hi:IntsAre vs ns) (hl:ns.length<=sizeLine) (hr:Room k callerA)
  (F:∀ base:Heap,K.In base->base.Ns mainGlobals mg->Lm K mg base->FnOk P w K mg base CX k fa fd [x] sp) (hbind:∀ (s:Shared) (u:Value),BindsTo s fd ⟨[u],[]⟩ [(x,u)])
  (hsp:∀ H:Hp,TB K H->SqL K H a (ns.map V.int)->sp [.ref a] H (fun v _=>v=.bl true) fun _ _ _=>False)
  (hCX:∀ H e s',CX [] H s₁ (fun _ _ _=>False) e s'->False) :
  codeAny (model P w) callerA (.call (.ref fa) ⟨[.ref a],[]⟩) (fun r s'=>r=.ok (.ret (.bool true))/\OldK s₁.heap s'.heap/\s'.os=s₁.os/\AllBare s'.gens) s₁:=by
 have rv:=x9a hi
 have lenV:=hi.length
 have tabO:∀ b,x73 K b=true->(∃ c,CodeHd s₁.heap c b)/\s₁.heap.get? b=some (tabObj #[]):=fun b h=>by
  obtain⟨x,hx,c,e⟩:=z61 h
  obtain⟨h1,h2⟩:=hT x hx c b e
  exact⟨⟨c,h1⟩,h2⟩
 have core:∀ H:Hp,(∀ b,H b=none\/(b=a/\∃ o xs,H b=some (.frz o (.lst xs)))\/(x73 K b=true/\H b=some (.tbl #[])))->(∀ b,x73 K b=true->H b=some (.tbl #[]))->SqL K H a (ns.map V.int)->HOk P w H s₁.heap->(∀ o xs,H a=some (.frz o (.lst xs))->K.lookup a=none)->
   codeAny (model P w) callerA (.call (.ref fa) ⟨[.ref a],[]⟩) (fun r s'=>r=.ok (.ret (.bool true))/\OldK s₁.heap s'.heap/\s'.os=s₁.os/\AllBare s'.gens) s₁:=by
  intro H hO hO2 hS hok hK
  have base_of:∀ {b:Addr} {o:Obj},s₁.heap.get? b=some o->H b=none->(z47 s₁.heap H).get? b=some o:=fun e n=>z62 e n
  have noA:∀ {b:Addr} {o:Obj},s₁.heap.get? b=some o->o.cls ≠ .type "list"->o.cls ≠ .none->H b=none:=fun {b o} e d1 d2=>by
   rcases hO b with z|⟨z,_⟩|⟨z,_⟩
   ·exact z
   ·subst z;rw[ha]at e;cases e;exact absurd rfl d1
   ·rw[(tabO b z).2]at e;cases e;exact absurd rfl d2
  have noD:∀ {b:Addr} {o:Obj} {es:Array DictEntry} {ep:Nat},s₁.heap.get? b=some o->o.data=.dict es ep->H b=none:=fun {b o es ep} e d=>by
   rcases hO b with z|⟨z,_⟩|⟨z,_⟩
   ·exact z
   ·subst z;rw[ha]at e;cases e;exact nomatch (show Data.seq vs.toArray _=Data.dict es ep from d)
   ·rw[(tabO b z).2]at e;cases e;exact nomatch (show Data.fields _=Data.dict es ep from d)
  have nsK:∀ {b:Addr} {m:Str->Option Value},s₁.heap.Ns b m->(z47 s₁.heap H).Ns b m:=fun {b m} hh=>by
   obtain⟨o,es,ep,e,d,r⟩:=hh
   exact⟨o,es,ep,base_of e (noD e d),d,r⟩
  have hKb:K.In (z47 s₁.heap H):=fun b o e=>base_of (KX b o e) (by
   rcases hO b with z|⟨z,o',xs,z2⟩|⟨z,_⟩
   ·exact z
   ·subst z;rw[hK _ _ z2]at e;cases e
   ·have e2:=KX b o e
    rw[(tabO b z).2]at e2
    cases e2
    have h2:=List.all_eq_true.mp hnt (b,tabObj #[]) (mem_of_lookupK e)
    exact absurd (show false=true from h2) Bool.false_ne_true)
  have hM:Mod K mg (z47 s₁.heap H):=by
   obtain⟨mc,h1,h2⟩:=hlim
   exact⟨hKb,nsK hns,⟨mb,nsK hb,hbb⟩,⟨mc,nsK h1,h2⟩⟩
  have hL:Lm K mg (z47 s₁.heap H):=by
   refine⟨?_,fun x hx c Pt e=>?_⟩
   ·obtain⟨bm,o,h1,h2,h3,h4,h5⟩:=hbm
    exact⟨bm,o,h1,h2,base_of h3 (noA h3 (by rw[h4];decide) (by rw[h4];nofun)),h4,h5⟩
   ·obtain⟨o,v1,v2,v3,v4,v5,v6,v7,v8,e1,e2,r⟩:=(hT x hx c Pt e).1
    exact⟨o,v1,v2,v3,v4,v5,v6,v7,v8,base_of e1 (noA e1 (by rw[e2];decide) (by rw[e2];nofun)),e2,r⟩
  have tb:TB K H:=by
   refine⟨fun Q ps e=>?_,fun Q ps e pos cv hc=>?_,fun x hx c Pt e=>⟨_,hO2 Pt (z4a hx e)⟩⟩<;>rcases hO Q with z|⟨_,o',xs,z⟩|⟨_,z⟩<;>rw[e]at z<;>cases z
   ·exact True.intro
   ·cases hc
  have e0:Env0 P w K mg (z47 s₁.heap H) callerA [] s₁ H:=⟨rfl,hM,fun b o e=>j0v e,Nat.le_of_eq (z20 _ _),trivial,fun b hb=>absurd (show b∈([]:List Addr)from hb) (by simp),hok,.of_eq hg⟩
  refine codeAny_mono ((F _ hKb (nsK hns) hL).run callerA [] s₁ H ⟨[.ref a],[]⟩ [.ref a] [.ref a] _ _ hr e0 (hbind s₁ (.ref a)) (.cons rfl .nil) (hsp H tb hS)) fun r s' h=>?_
  cases r with
  | error e=>exact(hCX H e s' h).elim
  | ok fl=>
   cases fl with
   | next=>exact False.elim h
   | brk=>exact False.elim h
   | cont=>exact False.elim h
   | ret u=>
    obtain⟨v,H',os,bare,un,hok',r',q⟩:=h
    have q':v=.bl true:=q
    subst q'
    obtain rfl:u=Value.bool true:=r'
    have kp:∀ b o,s₁.heap.get? b=some o->x73 K b=false->s'.heap.get? b=some o:=fun b o e nt=>by
     rcases hO b with z|⟨_,ob,xs,z⟩|⟨z,_⟩
     ·exact un.keep b o e z (by intro z;exact absurd (show b∈([]:List Addr)from z) (by simp)) (by simp)
     ·have z2:=un.frzs b ob _ z
      obtain⟨e1,_⟩:=hok b _ z
      obtain⟨e2,_⟩:=hok' b _ z2
      rw[e]at e1;cases e1
      exact e2
     ·rw[z]at nt;cases nt
    have gr:∀ b,x73 K b=true->∃ ps,s'.heap.get? b=some (tabObj ps):=fun b t=>by
     obtain⟨more,z⟩:=un.tbls b _ (hO2 b t)
     exact⟨_,hok' b _ z⟩
    refine⟨rfl,⟨fun b o e=>?_,fun b o e=>?_⟩,os,bare⟩
    ·cases t:x73 K b with
     | false=>exact .inl (kp b o e t)
     | true=>
      obtain⟨⟨c,C⟩,e1⟩:=tabO b t
      obtain⟨ps,e2⟩:=gr b t
      rw[e]at e1;cases e1
      exact .inr (.inl ⟨(C.tab e).isCodeTable,rfl,#[],ps,rfl,by rw[Array.empty_append];exact e2⟩)
    ·cases t:x73 K b with
     | false=>exact⟨o,kp b o e t⟩
     | true=>obtain⟨ps,e2⟩:=gr b t;exact⟨_,e2⟩
 have aT:x73 K a=false:=by
  cases t:x73 K a with
  | false=>rfl
  | true=>
   have:=(tabO a t).2
   rw[ha]at this;cases this
 cases hk:K.lookup a with
 | some o=>
  have e:=KX a o hk
  rw[ha]at e
  cases e
  refine core (fun b=>if x73 K b=true then some (.tbl #[])else none) (fun b=>?_) (fun b h=>if_pos h) (.inr ⟨_,vs.toArray,_,hk,rfl,rfl,rfl,by rw[List.size_toArray,lenV];exact hl,by simpa using rv⟩) (fun b u z=>?_) fun o xs z=>?_
  ·by_cases hb:x73 K b=true
   ·exact .inr (.inr ⟨hb,if_pos hb⟩)
   ·exact .inl (if_neg hb)
  ·by_cases hb:x73 K b=true
   ·have z':=(if_pos hb).symm.trans z
    cases z'
    exact(tabO b hb).2
   ·have z':=(if_neg hb).symm.trans z
    cases z'
  ·have z':=(if_neg (by rw[aT];decide)).symm.trans z
   cases z'
 | none=>
  refine core (fun b=>if b=a then some (.frz { cls:=.type "list",data:=.seq vs.toArray } (.lst (ns.map V.int)))else if x73 K b=true then some (.tbl #[])else none) (fun b=>?_) (fun b h=>?_) (.inl (.inr ⟨{ cls:=.type "list",data:=.seq vs.toArray },if_pos rfl⟩)) (fun b u z=>?_) fun _ _ _=>hk
  ·by_cases hb:b=a
   ·exact .inr (.inl ⟨hb,_,_,if_pos hb⟩)
   ·by_cases ht:x73 K b=true
    ·exact .inr (.inr ⟨ht,(if_neg hb).trans (if_pos ht)⟩)
    ·exact .inl ((if_neg hb).trans (if_neg ht))
  ·have hb:b≠a:=fun z=>by rw[z,aT]at h;cases h
   exact(if_neg hb).trans (if_pos h)
  ·by_cases hb:b=a
   ·have z':=(if_pos hb).symm.trans z
    cases z'
    subst hb
    exact⟨ha,by rw[List.length_map];exact hl,vs,_,rv,ha⟩
   ·by_cases ht:x73 K b=true
    ·have z':=((if_neg hb).trans (if_pos ht)).symm.trans z
     cases z'
     exact(tabO b ht).2
    ·have z':=((if_neg hb).trans (if_neg ht)).symm.trans z
     cases z'
def j60 (q:Program)(K:PySem.W.Frag):Prop:=∀ x∈x8k,(∃ d,(recsOf q).find? (fun e=>e.name==x)=some d)\/tabIn K x=none
theorem j60.of(h1:(∃ d,(recsOf q).find? (fun e=>e.name==("turned":Str))=some d)\/tabIn K "turned" = none)(h2:(∃ d,(recsOf q).find? (fun e=>e.name==("chain_ladder":Str))=some d)\/tabIn K "chain_ladder" = none)
  (h3:(∃ d,(recsOf q).find? (fun e=>e.name==("flat_ladder":Str))=some d)\/tabIn K "flat_ladder" = none) (h4:(∃ d,(recsOf q).find? (fun e=>e.name==("paired":Str))=some d)\/tabIn K "paired" = none) (h5:(∃ d,(recsOf q).find? (fun e=>e.name==("height_of":Str))=some d)\/tabIn K "height_of" = none) (h6:(∃ d,(recsOf q).find? (fun e=>e.name==("_law_high":Str))=some d)\/tabIn K "_law_high" = none):j60 q K:=fun x hx=>by
 rcases List.mem_cons.mp hx with rfl|hx
 ·exact h1
 rcases List.mem_cons.mp hx with rfl|hx
 ·exact h2
 rcases List.mem_cons.mp hx with rfl|hx
 ·exact h3
 rcases List.mem_cons.mp hx with rfl|hx
 ·exact h4
 rcases List.mem_cons.mp hx with rfl|hx
 ·exact h5
 rcases List.mem_cons.mp hx with rfl|hx
 ·exact h6
 cases hx
theorem z5q{l:PySem.W.OpenLaw}{n k:Nat}{loose:List Str}{XP:(Str->Option Value)->Heap->Prop}{YP:World->Heap->Prop}{d:DefRec}{K:Params->PySem.W.Frag}{CX:World->CXT}{sp:World->Sp}
  (hn:l.most=some n) (hn2:n<=sizeLine) (hdf:d.params.defaults=[]) (hr:Room k callerA)
  (hY:∀ (w:World) (h:Heap),YP w h->(K w.params).In h)
  (F:∀ (w:World) (mg:Str->Option Value) (fa:Addr) (h:Heap),(K w.params).In h->h.Ns mainGlobals mg->mg d.name=some (.ref fa)->j60 q (K w.params)/\noTabs (K w.params)=true /\
    ∃ fd:FuncData,(∀ (s:Shared) (u:Value),BindsTo s fd ⟨[u],[]⟩ [(x,u)]) /\
     ∀ base:Heap,(K w.params).In base->base.Ns mainGlobals mg->Lm (K w.params) mg base->FnOk l.prog w (K w.params) mg base (CX w) k fa fd [x] (sp w))
  (hsp:∀ (w:World) (H:Hp) (a:Addr) (ns:List Int),ns.length<=n->TB (K w.params) H->SqL (K w.params) H a (ns.map V.int)->sp w [.ref a] H (fun v _=>v=.bl true) fun _ _ _=>False)
  (hCX:∀ (w:World) (H:Hp) (s:Shared) (e:Value) (s':Shared),CX w [] H s (fun _ _ _=>False) e s'->False) :
  PySem.W.WalkO q loose XP YP l.row.toRowW d [] (fun f vs=>PySem.call f vs):=by
 refine Att.j05 hn hdf fun w s₀ s₁ mg mb fa o pm cd doc a vs ns G Y ho hd hcd hmg hobj hints hlen hg=>?_
 have KX:=hY w _ Y
 obtain⟨hrec,hnt,fd,hb,hF⟩:=F w mg fa _ KX G.T.g hmg
 have hbm:=G.T.bmain
 refine z2a KX G.T.g G.T.b G.T.builtins G.T.nolimit hg ?_ (fun x hx c Pt e=>?_) hnt hobj hints (Nat.le_trans hlen hn2) hr hF hb (fun H hO hS=>hsp w H a ns hlen hO hS) fun H e s'=>hCX w H s₁ e s'
 ·obtain⟨bm,ob,b1,b2,b3,b4,b5,b6⟩:=hbm
  exact⟨bm,ob,b1,b2,b3,b4,b5,b6⟩
 ·rcases hrec x hx with⟨dd,hd⟩|z
  ·exact tab_of G.T KX hd e
  ·rw[z]at e;cases e
end L3
namespace L3
open PySem PySem.Spec PyProof.Rows L2
theorem x4j{k:Nat}{pt:x6m}{tt:x1u}{te:Den}{deep:Bool}:∀ (ds:List D) (S:Nat->Rho) (b:Nat->Bool) (v:Nat->D),
  (∀ i (h:i<ds.length),∃ ρ1 ρ2,pt ds[i] (S i++List.replicate k none)=some ρ1/\tt ρ1=some (b i,ρ2) /\
    (if b i=true then ∃ q ρ3,te ρ2=some (v i,q,ρ3)/\¬ (deep=true/\(v i).isL=true/\q≠1)/\ρ3.take (S i).length=S (i+1)else ρ2.take (S i).length=S (i+1)))->
  x8c k pt tt te deep ds (S 0)=some (((List.range ds.length).filter b).map v,S ds.length)
 | [],S,b,v,_=>rfl
 | d::ds,S,b,v,h=>by
  obtain⟨ρ1,ρ2,h1,h2,h3⟩:=h 0 (by simp)
  have ih:=x4j ds (fun i=>S (i+1)) (fun i=>b (i+1)) (fun i=>v (i+1)) (fun i hi=>h (i+1) (by simpa using hi))
  have er:((List.range (d::ds).length).filter b).map v=(if b 0=true then [v 0]else [])++((List.range ds.length).filter fun i=>b (i+1)).map fun i=>v (i+1):=by
   rw[List.length_cons,List.range_succ_eq_map,List.filter_cons,List.filter_map]
   split<;>simp[Function.comp_def]
  rw[er]
  unfold x8c
  rw[show pt d (S 0++List.replicate k none)=some ρ1 from h1]
  simp only[h2]
  split at h3
  ·rename_i hb
   obtain⟨q,ρ3,h4,h5,h6⟩:=h3
   simp only[hb,if_true,h4,if_neg h5,h6,ih]
   rfl
  ·rename_i hb
   simp only[hb,h3,ih]
   rfl
theorem x48{pt:x6m}{body:x13}:∀ (ds:List D) (I:Nat->Rho->Prop) (ρ:Rho),(∀ i (h:i<ds.length) ρ,I i ρ->∃ ρ1 ρ2,pt ds[i] ρ=some ρ1/\(body ρ1=some (.nx ρ2)\/body ρ1=some (.ct ρ2))/\I (i+1) ρ2)->I 0 ρ->∃ ρ',x8f pt body ds ρ=some (.nx ρ')/\I ds.length ρ'
 | [],I,ρ,_,h0=>⟨ρ,rfl,h0⟩
 | d::ds,I,ρ,h,h0=>by
  obtain⟨ρ1,ρ2,h1,h2,h3⟩:=h 0 (by simp) ρ h0
  obtain⟨ρ',e,h4⟩:=x48 ds (fun i=>I (i+1)) ρ2 (fun i hi=>h (i+1) (by simpa using hi)) h3
  refine⟨ρ',?_,h4⟩
  unfold x8f
  rw[show pt d ρ=some ρ1 from h1]
  rcases h2 with h2|h2<;>(simp only[h2];exact e)
theorem x0g{f g:x13}{ρ ρ1:Rho}(h:f ρ=some (.nx ρ1)):x0y f g ρ=g ρ1:=by unfold x0y;rw[h]
theorem x5z{f g:x13}{ρ:Rho}{d:D}{q:Nat}(h:f ρ=some (.rt d q)):x0y f g ρ=some (.rt d q):=by unfold x0y;rw[h]
theorem x1l{n:Nat}{body:x13}{ds:List D}{d:D}{q:Nat}(h:body (x5v n ds)=some (.rt d q)):fnD n body ds=some (d,q):=by unfold fnD;rw[h]
theorem x2a{k:Nat}{it:y4g}{pt:x6m}{tt:x1u}{te:Den}{deep:Bool}{ρ ρ1 ρ2:Rho}{ds vs:List D}(hi:it ρ=some (ds,ρ1))(hc:x8c k pt tt te deep ds ρ1=some (vs,ρ2)):x2w k it pt tt te deep ρ=some (.lst vs,if deep=true then 2 else 1,ρ2):=by unfold x2w;rw[hi];simp only[hc]
theorem z9b{i:Nat}{f:Den}{ρ ρ1:Rho}{d:D}{q:Nat}(h:f ρ=some (d,q,ρ1)):x1n i f ρ=some (.nx (ρ1.set i (some (d,q)))):=by unfold x1n;rw[h]
theorem x2y{f:Den}{ρ ρ1:Rho}{d:D}{q:Nat}(h:f ρ=some (d,q,ρ1)):x2g f ρ=some (.rt d q):=by unfold x2g;rw[h]
theorem x2o{it:y4g}{pt:x6m}{body:x13}{ρ ρ1:Rho}{ds:List D}(h:it ρ=some (ds,ρ1)):x7l it pt body ρ=x8f pt body ds ρ1:=by unfold x7l;rw[h]
theorem z5d{g:x1u}{s s':x13}{ρ ρ1:Rho}(h:g ρ=some (true,ρ1)):sIf g s s' ρ=s ρ1:=by unfold sIf;rw[h];rfl
theorem y43{g:x1u}{s s':x13}{ρ ρ1:Rho}(h:g ρ=some (false,ρ1)):sIf g s s' ρ=s' ρ1:=by unfold sIf;rw[h];rfl
theorem x1s{i:Nat}{f:Den}{ρ ρ1 ρ2:Rho}{d:D}{q:Nat}(h:f ρ=some (d,q,ρ1))(e:ρ1.set i (some (d,q))=ρ2):x1n i f ρ=some (.nx ρ2):=by rw[z9b h,e]
theorem x1i{f:Den}{ρ ρ1:Rho}{d:D}{q:Nat}(h:f ρ=some (d,q,ρ1)):x02 f x0i ρ=some ([d],ρ1):=by unfold x02;rw[h];rfl
theorem x1r{f:Den}{g:x1q}{ρ ρ1 ρ2:Rho}{d:D}{q:Nat}{ds:List D}(h:f ρ=some (d,q,ρ1))(h':g ρ1=some (ds,ρ2)):x02 f g ρ=some (d::ds,ρ2):=by unfold x02;rw[h];simp only[h']
theorem x9q{g:x1q}{ρ ρ1:Rho}{ds:List D}(h:g ρ=some ([.lst ds],ρ1)):x3t g ρ=some (.tup ds,9,ρ1):=by unfold x3t;rw[h]
theorem y2a{g:x1q}{ρ ρ1:Rho}{ds:List D}(h:x17 g ρ=some (ds,ρ1)):x7y g ρ=some (.lst ds,1,ρ1):=by unfold x7y;rw[h]
theorem x0s{F:List D->OD}{n:Nat}{g:x1q}{ρ ρ1:Rho}{ds:List D}{d:D}{q:Nat}(h:g ρ=some (ds,ρ1))(hl:ds.length=n)(hF:F ds=some (d,q)):x0j F n g ρ=some (d,q,ρ1):=by unfold x0j;rw[h];simp only[hl,if_true,hF]
def x0e (l:List Nat):List D:=l.map fun i=>.int (Int.ofNat i)
def z06 (n:Nat)(f:Nat->Nat->Nat)(i:Nat):D:=.tup (x0e ((List.range n).map fun j=>f i j))
def x0p (n:Nat)(f:Nat->Nat->Nat):D:=.tup ((List.range n).map fun i=>z06 n f i)
def x8g (n:Nat)(f:Nat->Nat->Nat)(i:Nat):D:=.lst (x0e ((List.range n).map fun j=>f i j))
def x40 (n:Nat)(f:Nat->Nat->Nat):D:=.lst ((List.range n).map fun i=>x8g n f i)
@[simp] theorem j5x{n:Nat}{f:Nat->Nat->Nat}:(x0p n f).isL=false:=rfl
@[simp] theorem j5r{n:Nat}{f:Nat->Nat->Nat}{i:Nat}:(z06 n f i).isL=false:=rfl
@[simp] theorem j5y{n:Nat}{f:Nat->Nat->Nat}:(x40 n f).isL=true:=rfl
@[simp] theorem j5u{n:Nat}{f:Nat->Nat->Nat}{i:Nat}:(x8g n f i).isL=true:=rfl
theorem x10(l:List Nat):(x0e l).length=l.length:=by simp[x0e]
theorem y9c(l:List Nat)(i:Nat):(x0e l)[i]? = (l[i]?).map fun x=>.int (Int.ofNat x):=by simp[x0e]
theorem x9x{n i:Nat}(h:i<n):ixN n (Int.ofNat i)=some i:=by
 unfold ixN
 rw[if_pos (by exact Int.natCast_nonneg i),if_pos (by show(i:Int)<n;omega)]
 rfl
theorem y0k{α:Type}{xs:List α}{i:Nat}{x:α}(h:xs[i]? = some x):L2.atI xs (Int.ofNat i)=some x:=by
 unfold L2.atI
 rw[x9x (List.getElem?_eq_some_iff.mp h).1]
 exact h
theorem y7z{l:List Nat}{i x:Nat}(h:l[i]? = some x):L2.atI (x0e l) (Int.ofNat i)=some (.int (Int.ofNat x)):=y0k (by rw[y9c,h];rfl)
theorem z89{g:Nat->D}{n i:Nat}(h:i<n):L2.atI ((List.range n).map g) (Int.ofNat i)=some (g i):=y0k (by rw[List.getElem?_map,List.getElem?_range h];rfl)
theorem x2p{g:Nat->Nat}{n i:Nat}(h:i<n):L2.atI (x0e ((List.range n).map g)) (Int.ofNat i)=some (.int (Int.ofNat (g i))):=y7z (by rw[List.getElem?_map,List.getElem?_range h];rfl)
theorem x6e{n:Nat}{f:Nat->Nat->Nat}{i:Nat}(h:i<n):atD (x0p n f) (Int.ofNat i)=some (z06 n f i):=z89 h
theorem x6q{n:Nat}{f:Nat->Nat->Nat}{i j:Nat}(h:j<n):atD (z06 n f i) (Int.ofNat j)=some (.int (Int.ofNat (f i j))):=x2p h
theorem j1l{n:Nat}{f:Nat->Nat->Nat}{i:Nat}(h:i<n):atD (x40 n f) (Int.ofNat i)=some (x8g n f i):=z89 h
theorem j0i{n:Nat}{f:Nat->Nat->Nat}{i j:Nat}(h:j<n):atD (x8g n f i) (Int.ofNat j)=some (.int (Int.ofNat (f i j))):=x2p h
theorem x2r{n:Nat}{f:Nat->Nat->Nat}:x7m (x0p n f)=some n:=by simp[x0p,x7m]
theorem x8s{n:Nat}{f:Nat->Nat->Nat}:x7m (x40 n f)=some n:=by simp[x40,x7m]
theorem x7c{n:Nat}{f g:Nat->Nat->Nat}(h:∀ a b,a<n->b<n->f a b=g a b):x40 n f=x40 n g:=by
 unfold x40 x8g
 refine congrArg D.lst (List.map_congr_left fun a ha=>?_)
 refine congrArg (fun l=>D.lst (x0e l)) (List.map_congr_left fun b hb=>?_)
 exact h a b (List.mem_range.mp ha) (List.mem_range.mp hb)
theorem x99{α:Type}{g:Nat->α}{n m:Nat}{x:α}:((List.range n).map g).set m x=(List.range n).map fun a=>if a=m then x else g a:=by
 apply List.ext_getElem?
 intro i
 by_cases hi:i<n
 ·by_cases h:m=i
  ·subst h
   rw[List.getElem?_set_self (by simpa using hi),List.getElem?_map,List.getElem?_range hi]
   simp
  ·rw[List.getElem?_set_ne h,List.getElem?_map,List.getElem?_map,List.getElem?_range hi]
   simp
   exact fun z=>absurd z.symm h
 ·rw[List.getElem?_eq_none (by simp;omega),List.getElem?_eq_none (by simp;omega)]
theorem y3u{g:Nat->Nat}{n:Nat}:x0e ((List.range n).map g)=(List.range n).map fun i=>.int (Int.ofNat (g i)):=by simp[x0e]
theorem z65{n:Nat}{f:Nat->Nat->Nat}{a b v:Nat}:D.lst (((List.range n).map fun i=>x8g n f i).set a (.lst ((x0e ((List.range n).map fun j=>f a j)).set b (.int (Int.ofNat v)))))=x40 n fun i j=>if i=a/\j=b then v else f i j:=by
 unfold x40
 rw[x99]
 refine congrArg D.lst (List.map_congr_left fun i hi=>?_)
 by_cases h:i=a
 ·subst h
  rw[if_pos rfl,y3u,x99]
  unfold x8g
  rw[y3u]
  refine congrArg D.lst (List.map_congr_left fun j hj=>?_)
  by_cases hj:j=b<;>simp[hj]
 ·rw[if_neg h]
  unfold x8g
  simp[h]
theorem j7d(n:Nat):D.lst (List.replicate n [D.int 0]).flatten=x8g n (fun _ _=>0) 0:=by
 unfold x8g x0e
 congr 1
 simp[List.flatten_replicate_singleton,List.map_const']
theorem y8p:∀ ds:List D,x6t ds=ds.map toP
 | []=>rfl
 | d::ds=>by rw[x6t,y8p ds];rfl
def lay (d:D):Bool:=x9d d&&(toP d).canLay0
theorem j4l{d:D}(h:lay d=true):x9d d=true:=(Bool.and_eq_true_iff.mp h).1
theorem j5m{d:D}(h:lay d=true):(toP d).canLay0=true:=(Bool.and_eq_true_iff.mp h).2
theorem y00:∀ {ds:List D},(∀ d∈ds,lay d=true)->y1o ds=true
 | [],_=>rfl
 | d::ds,h=>by
  show(x9d d&&y1o ds)=true
  rw[j4l (h d List.mem_cons_self),y00 fun x m=>h x (List.mem_cons_of_mem _ m)]
  rfl
def dep (d:D):Nat:=(toP d).depth
theorem z19:∀ {ds:List D},(∀ d∈ds,lay d=true)->PyData.canLayAll0 (x6t ds)=true
 | [],_=>rfl
 | d::ds,h=>by
  rw[x6t,PyData.canLayAll0,z19 fun x m=>h x (List.mem_cons_of_mem _ m),Bool.and_true]
  exact j5m (h d List.mem_cons_self)
theorem z0z{k:Nat}:∀ {ds:List D},(∀ d∈ds,dep d<=k)->PyData.depthAll (x6t ds)<=k
 | [],_=>Nat.zero_le _
 | d::ds,h=>by
  rw[x6t,PyData.depthAll]
  exact Nat.max_le.mpr ⟨h d List.mem_cons_self,z0z fun x m=>h x (List.mem_cons_of_mem _ m)⟩
def Sh (k:Nat)(d:D):Prop:=lay d=true/\dep d<=k
theorem Sh.int{k:Nat}(i:Int):Sh k (.int i):=⟨rfl,Nat.zero_le _⟩
theorem Sh.bl{k:Nat}(i:Bool):Sh k (.bl i):=⟨rfl,Nat.zero_le _⟩
theorem Sh.non{k:Nat}:Sh k .non:=⟨rfl,Nat.zero_le _⟩
theorem Sh.tup{k:Nat}{ds:List D}(h:∀ d∈ds,Sh k d):Sh (k+1) (.tup ds):=⟨Bool.and_eq_true_iff.mpr ⟨y00 fun d m=>(h d m).1,z19 fun d m=>(h d m).1⟩,Nat.succ_le_succ (z0z fun d m=>(h d m).2)⟩
theorem Sh.lst{k:Nat}{ds:List D}(h:∀ d∈ds,Sh k d):Sh (k+1) (.lst ds):=⟨Bool.and_eq_true_iff.mpr ⟨y00 fun d m=>(h d m).1,z19 fun d m=>(h d m).1⟩,Nat.succ_le_succ (z0z fun d m=>(h d m).2)⟩
theorem Sh.ok{k:Nat}{d:D}(h:Sh k d)(hk:k<=64:=by decide):okD d=true:=by
 show(x9d d&&((toP d).canLay0&&decide ((toP d).depth<=64)))=true
 rw[j4l h.1,j5m h.1,Bool.true_and,Bool.true_and]
 exact decide_eq_true (Nat.le_trans h.2 hk)
theorem z1p{l:List Nat}{d:D}(m:d∈x0e l):Sh 0 d:=by
 obtain⟨x,_,rfl⟩:=List.mem_map.mp m
 exact .int _
theorem j6y(l:List Nat):Sh 1 (.lst (x0e l)):=.lst fun _ m=>z1p m
theorem z7g(l:List Nat):Sh 1 (.tup (x0e l)):=.tup fun _ m=>z1p m
theorem j1k(n:Nat)(f:Nat->Nat->Nat):Sh 2 (x0p n f):=.tup fun d m=>by
 obtain⟨x,_,rfl⟩:=List.mem_map.mp m
 exact z7g _
theorem x81:∀ l l':List Nat,PyData.eqvAll (x6t (x0e l)) (x6t (x0e l'))=decide (l=l')
 | [],[]=>rfl
 | [],_::_=>rfl
 | _::_,[]=>rfl
 | x::l,y::l'=>by
  show(((x:Int)==(y:Int))&&PyData.eqvAll (x6t (x0e l)) (x6t (x0e l')))=_
  rw[x81 l l']
  by_cases h:x=y
  ·subst h;simp
  ·have:((x:Int)==(y:Int))=false:=by simp;omega
   rw[this]
   simp[h]
theorem j76(l l':List Nat):eqD (.lst (x0e l)) (.lst (x0e l'))=decide (l=l'):=x81 l l'
theorem j0l(l l':List Nat):eqD (.tup (x0e l)) (.tup (x0e l'))=decide (l=l'):=x81 l l'
theorem y6r(i j:Int):eqD (.int i) (.int j)=decide (i=j):=by
 show(i==j)=_
 rw[Bool.beq_eq_decide_eq]
theorem y7m(i j:Nat):eqD (.int (Int.ofNat i)) (.int (Int.ofNat j))=decide (i=j):=by
 rw[y6r]
 exact decide_eq_decide.mpr ⟨fun h=>Int.ofNat.inj h,fun h=>by rw[h]⟩
theorem j5j(i j:Bool):eqD (.bl i) (.bl j)=decide (i=j):=by
 show(i==j)=_
 rw[Bool.beq_eq_decide_eq]
theorem j6o(l l':List Nat):dEq (.lst (x0e l)) (.lst (x0e l'))=some (.bl (decide (l=l'))):=by unfold dEq;rw[if_pos ⟨(j6y l).ok,(j6y l').ok⟩,j76]
theorem z24(i j:Int):dEq (.int i) (.int j)=some (.bl (decide (i=j))):=by unfold dEq;rw[if_pos ⟨(Sh.int (k:=0) i).ok,(Sh.int (k:=0) j).ok⟩,y6r]
theorem j09(i j:Int):dNe (.int i) (.int j)=some (.bl (!decide (i=j))):=by unfold dNe;rw[if_pos ⟨(Sh.int (k:=0) i).ok,(Sh.int (k:=0) j).ok⟩,y6r]
theorem z15(i j:Nat):dEq (.int (Int.ofNat i)) (.int (Int.ofNat j))=some (.bl (decide (i=j))):=by unfold dEq;rw[if_pos ⟨(Sh.int (k:=0) _).ok,(Sh.int (k:=0) _).ok⟩,y7m]
theorem y4f(i j:Nat):dNe (.int (Int.ofNat i)) (.int (Int.ofNat j))=some (.bl (!decide (i=j))):=by unfold dNe;rw[if_pos ⟨(Sh.int (k:=0) _).ok,(Sh.int (k:=0) _).ok⟩,y7m]
theorem j3z(i j:Bool):dNe (.bl i) (.bl j)=some (.bl (!decide (i=j))):=by unfold dNe;rw[if_pos ⟨(Sh.bl (k:=0) i).ok,(Sh.bl (k:=0) j).ok⟩,j5j]
theorem x9k{α:Type}{p:α->Bool}:∀ {l:List α} {j:Nat} {x:α},l[j]? = some x->p x=true->(∀ i y,i<j->l[i]? = some y->p y=false)->l.findIdx? p=some j
 | [],j,x,h,_,_=>by simp at h
 | a::l,0,x,h,hp,_=>by
  simp at h;subst h
  simp[List.findIdx?_cons,hp]
 | a::l,j+1,x,h,hp,hn=>by
  have h0:p a=false:=hn 0 a (Nat.succ_pos _) rfl
  have ih:=x9k (l:=l) (j:=j) (x:=x) (by simpa using h) hp fun i y hi hy=>hn (i+1) y (Nat.succ_lt_succ hi) (by simpa using hy)
  simp[List.findIdx?_cons,h0,ih]
structure Lad (n:Nat) (f:Nat->Nat->Nat):Prop where
 lo:0<n
 hi:n<=16
 cl:∀ i j,i<n->j<n->f i j<n
 idem:∀ i,i<n->f i i=i
 comm:∀ i j,i<n->j<n->f i j=f j i
 assoc:∀ i j k,i<n->j<n->k<n->f (f i j) k=f i (f j k)
 bot:∃ z,z<n/\∀ j,j<n->f z j=j
def j7j (n:Nat)(f:Nat->Nat->Nat):Bool:=
 decide (0<n)&&decide (n<=16)&&((List.range n).all fun i=>(List.range n).all fun j=>decide (f i j<n))&&((List.range n).all fun i=>decide (f i i=i))&&((List.range n).all fun i=>(List.range n).all fun j=>decide (f i j=f j i)) &&
 ((List.range n).all fun i=>(List.range n).all fun j=>(List.range n).all fun k=>decide (f (f i j) k=f i (f j k)))&&((List.range n).any fun z=>(List.range n).all fun j=>decide (f z j=j))
theorem j07{n:Nat}{f:Nat->Nat->Nat}(h:j7j n f=true):Lad n f:=by
 unfold j7j at h
 simp only[Bool.and_eq_true,decide_eq_true_eq,List.all_eq_true,List.any_eq_true,List.mem_range]at h
 obtain⟨⟨⟨⟨⟨⟨h1,h2⟩,h3⟩,h4⟩,h5⟩,h6⟩,z,hz,h7⟩:=h
 exact⟨h1,h2,fun i j hi hj=>h3 i hi j hj,h4,fun i j hi hj=>h5 i hi j hj,fun i j k hi hj hk=>h6 i hi j hj k hk,z,hz,h7⟩
theorem Lad.ren{n:Nat}{f:Nat->Nat->Nat}(L:Lad n f){π ι:Nat->Nat}(h1:∀ i,i<n->π i<n)(h2:∀ i,i<n->ι i<n)(h3:∀ i,i<n->ι (π i)=i)(h4:∀ i,i<n->π (ι i)=i):Lad n fun a b=>π (f (ι a) (ι b)):=by
 obtain⟨l1,l2,cl,idem,comm,assoc,z,hz,bot⟩:=L
 refine⟨l1,l2,fun i j hi hj=>h1 _ (cl _ _ (h2 i hi) (h2 j hj)),fun i hi=>?_,fun i j hi hj=>?_,fun i j k hi hj hk=>?_,π z,h1 z hz,fun j hj=>?_⟩
 ·show π (f (ι i) (ι i))=i
  rw[idem _ (h2 i hi),h4 i hi]
 ·show π (f (ι i) (ι j))=π (f (ι j) (ι i))
  rw[comm _ _ (h2 i hi) (h2 j hj)]
 ·show π (f (ι (π (f (ι i) (ι j)))) (ι k))=π (f (ι i) (ι (π (f (ι j) (ι k)))))
  rw[h3 _ (cl _ _ (h2 i hi) (h2 j hj)),h3 _ (cl _ _ (h2 j hj) (h2 k hk)),assoc _ _ _ (h2 i hi) (h2 j hj) (h2 k hk)]
 ·show π (f (ι (π z)) (ι j))=j
  rw[h3 z hz,bot _ (h2 j hj),h4 j hj]
def x6i (p:Nat->Nat->Nat)(n:Nat):Nat->List Nat
 | 0=>List.range n
 | k+1=>(x6i p n k).eraseIdx (p k (x6i p n k).length)
def drawn (p:Nat->Nat->Nat)(n k:Nat):Nat:=(x6i p n k).getD (p k (x6i p n k).length) 0
theorem y38:∀ (l:List Nat) (j:Nat),(x0e l).eraseIdx j=x0e (l.eraseIdx j)
 | [],_=>rfl
 | _::_,0=>rfl
 | a::l,j+1=>congrArg (D.int (Int.ofNat a) :: ·) (y38 l j)
theorem x95{p:Nat->Nat->Nat}{n:Nat}(hp:∀ k m,0<m->p k m<m):∀ k,k<=n->(x6i p n k).length=n-k
 | 0,_=>by simp[x6i]
 | k+1,h=>by
  have ih:=x95 hp k (Nat.le_of_succ_le h)
  have:=hp k (n-k) (by omega)
  rw[x6i,List.length_eraseIdx,ih,if_pos this]
  omega
theorem y35:∀ {l:List Nat} {j:Nat} (h:j<l.length),(l[j]::l.eraseIdx j).Perm l
 | a::l,0,_=>List.Perm.refl _
 | a::l,j+1,h=>(List.Perm.swap a (l[j]'(by simpa using h)) (l.eraseIdx j)).trans (List.Perm.cons a (y35 (by simpa using h)))
theorem y6g{p:Nat->Nat->Nat}{n:Nat}(hp:∀ k m,0<m->p k m<m):∀ k,k<=n->(((List.range k).map (drawn p n))++x6i p n k).Perm (List.range n)
 | 0,_=>by simp[x6i]
 | k+1,h=>by
  have ih:=y6g hp k (Nat.le_of_succ_le h)
  have hl:=x95 hp k (by omega:k<=n)
  have hj:p k (x6i p n k).length<(x6i p n k).length:=by rw[hl];exact hp k _ (by omega)
  refine List.Perm.trans ?_ ih
  rw[List.range_succ,List.map_append,List.append_assoc]
  refine List.Perm.append_left _ ?_
  have e:drawn p n k=(x6i p n k)[p k (x6i p n k).length]:=by unfold drawn;rw[List.getD_eq_getElem?_getD,List.getElem?_eq_getElem hj];rfl
  show(drawn p n k::(x6i p n (k+1))).Perm _
  rw[e,x6i]
  exact y35 hj
theorem x7k{p:Nat->Nat->Nat}{n:Nat}(hp:∀ k m,0<m->p k m<m):((List.range n).map (drawn p n)).Perm (List.range n):=by
 have h:=y6g hp n (Nat.le_refl n)
 have hl:=x95 hp n (Nat.le_refl n)
 rw[Nat.sub_self]at hl
 rw[List.length_eq_zero_iff.mp hl,List.append_nil]at h
 exact h
theorem y9r{p:Nat->Nat->Nat}{n:Nat}(hp:∀ k m,0<m->p k m<m){i:Nat}(h:i<n):drawn p n i<n:=by
 have m:drawn p n i∈(List.range n).map (drawn p n):=List.mem_map.mpr ⟨i,List.mem_range.mpr h,rfl⟩
 exact List.mem_range.mp ((x7k hp).mem_iff.mp m)
def x3r (p:Nat->Nat->Nat)(n a:Nat):Nat:=((List.range n).map (drawn p n)).idxOf a
theorem y3g{p:Nat->Nat->Nat}{n:Nat}(hp:∀ k m,0<m->p k m<m){a:Nat}(h:a<n):x3r p n a<n:=by
 have m:a∈(List.range n).map (drawn p n):=(x7k hp).mem_iff.mpr (List.mem_range.mpr h)
 have:=List.idxOf_lt_length_of_mem m
 rw[List.length_map,List.length_range]at this
 exact this
theorem x93{p:Nat->Nat->Nat}{n:Nat}(hp:∀ k m,0<m->p k m<m){a:Nat}(h:a<n):drawn p n (x3r p n a)=a:=by
 have m:a∈(List.range n).map (drawn p n):=(x7k hp).mem_iff.mpr (List.mem_range.mpr h)
 have:=List.getElem_idxOf (List.idxOf_lt_length_of_mem m)
 rw[List.getElem_map,List.getElem_range]at this
 exact this
theorem x94{p:Nat->Nat->Nat}{n:Nat}(hp:∀ k m,0<m->p k m<m){i:Nat}(h:i<n):x3r p n (drawn p n i)=i:=by
 have nd:((List.range n).map (drawn p n)).Nodup:=(x7k hp).nodup_iff.mpr List.nodup_range
 have hi:i<((List.range n).map (drawn p n)).length:=by simpa using h
 have:=nd.idxOf_getElem i hi
 rw[List.getElem_map,List.getElem_range]at this
 exact this
theorem y5d{i n:Nat}{tt:x1u}{te:Den}{ρ:Rho}{deep:Bool}(hi:ρ.length=i)(b:Nat->Bool)(v:Nat->D)(q:Nat->Nat)(ht:∀ j,j<n->tt (ρ++[some (.int (Int.ofNat j),9)])=some (b j,ρ++[some (.int (Int.ofNat j),9)]))
  (he:∀ j,j<n->b j=true->te (ρ++[some (.int (Int.ofNat j),9)])=some (v j,q j,ρ++[some (.int (Int.ofNat j),9)])) (hd:deep=true->∀ j,(v j).isL=true->q j=1:=by intro h;cases h) :
  x8c 1 (x0o i) tt te deep (x19 n) ρ=some (((List.range n).filter b).map v,ρ):=by
 have h:=x4j (k:=1) (pt:=x0o i) (tt:=tt) (te:=te) (deep:=deep) (x19 n) (fun _=>ρ) b v (fun j hj=>?_)
 ·rw[x0z]at h
  exact h
 ·rw[x0z]at hj
  refine⟨ρ++[some (.int (Int.ofNat j),9)],_,?_,ht j hj,?_⟩
  ·have:(x19 n)[j]'(by rw[x0z];exact hj)=.int (Int.ofNat j):=by simp[x19]
   rw[this]
   unfold x0o
   rw[if_pos (by simp[hi])]
   subst hi
   simp[List.set_append]
  ·by_cases hb:b j=true
   ·rw[if_pos hb]
    exact⟨q j,_,he j hj hb,fun⟨h1,h2,h3⟩=>h3 (hd h1 j h2),by simp⟩
   ·rw[if_neg hb]
    simp
theorem y2z{z:Nat}:∀ n:Nat,(List.range n).filter (fun w=>decide (w=z))=if z<n then [z]else []
 | 0=>by simp
 | n+1=>by
  rw[List.range_succ,List.filter_append,y2z n]
  by_cases h:n=z
  ·subst h;simp
  ·have:¬ (n=z):=h
   by_cases h2:z<n
   ·rw[if_pos h2,if_pos (by omega)];simp[h]
   ·rw[if_neg h2,if_neg (by omega)];simp[h]
theorem y6l{n:Nat}{g:Nat->Nat}:(List.range n).map g=List.range n ↔ ∀ j,j<n->g j=j:=by
 constructor
 ·intro h j hj
  have:=congrArg (fun l=>l[j]?) h
  simpa [hj]using this
 ·intro h
  have e:=List.map_congr_left (l:=List.range n) (f:=g) (g:=id) fun a ha=>h a (List.mem_range.mp ha)
  rw[e,List.map_id]
namespace Lad
variable {z:Nat}
variable {n:Nat}{f:Nat->Nat->Nat}(L:Lad n f)
include L
theorem bot_uniq{x:Nat}(hz:z<n)(bz:∀ j,j<n->f z j=j)(hx:x<n)(bx:∀ j,j<n->f x j=j):x=z:=by
 have h1:=bx z hz
 have h2:=bz x hx
 rw[L.comm x z hx hz]at h1
 omega
theorem fold_lt:∀ {l:List Nat} {a:Nat},a<n->(∀ x∈l,x<n)->l.foldl f a<n
 | [],a,ha,_=>ha
 | y::l,a,ha,h=>fold_lt (l:=l) (L.cl a y ha (h y List.mem_cons_self)) fun x m=>h x (List.mem_cons_of_mem _ m)
theorem z3j:∀ {l:List Nat} {a x:Nat},a<n->x<n->(∀ x∈l,x<n)->f x a=a->f x (l.foldl f a)=l.foldl f a
 | [],a,x,_,_,_,e=>e
 | y::l,a,x,ha,hx,h,e=>by
  have hy:=h y List.mem_cons_self
  refine z3j (l:=l) (L.cl a y ha hy) hx (fun x m=>h x (List.mem_cons_of_mem _ m)) ?_
  rw[<- L.assoc x a y hx ha hy,e]
theorem fold_mem:∀ {l:List Nat} {a x:Nat},a<n->(∀ x∈l,x<n)->x∈l->f x (l.foldl f a)=l.foldl f a
 | y::l,a,x,ha,h,m=>by
  have hy:=h y List.mem_cons_self
  have hl:∀ x∈l,x<n:=fun x m=>h x (List.mem_cons_of_mem _ m)
  rcases List.mem_cons.mp m with rfl|m
  ·refine z3j L (l:=l) (L.cl a x ha hy) hy hl ?_
   rw[L.comm a x ha hy,<- L.assoc x x a hy hy ha,L.idem x hy]
  ·exact fold_mem (l:=l) (L.cl a y ha hy) hl m
theorem fold_out(hz:z<n)(bz:∀ j,j<n->f z j=j):∀ {l:List Nat} {a:Nat},a<n->(∀ x∈l,x<n)->l.foldl f a=f a (l.foldl f z)
 | [],a,ha,_=>by show a=f a z;rw[L.comm a z ha hz,bz a ha]
 | y::l,a,ha,h=>by
  have hy:=h y List.mem_cons_self
  have hl:∀ x∈l,x<n:=fun x m=>h x (List.mem_cons_of_mem _ m)
  show l.foldl f (f a y)=f a (l.foldl f (f z y))
  rw[bz y hy,fold_out hz bz (L.cl a y ha hy) hl,fold_out hz bz hy hl,L.assoc a y _ ha hy (L.fold_lt hz hl)]
theorem top_uniq(hz:z<n)(w:Nat)(hw:w<n):(∀ x,x<n->f x w=w) ↔ w=(List.range n).foldl f z:=by
 have hr:∀ x∈List.range n,x<n:=fun x m=>List.mem_range.mp m
 have ht:=L.fold_lt hz hr
 have up:∀ x,x<n->f x ((List.range n).foldl f z)=(List.range n).foldl f z:=fun x hx=>L.fold_mem hz hr (List.mem_range.mpr hx)
 constructor
 ·intro h
  have h1:=h _ ht
  have h2:=up w hw
  rw[L.comm _ _ ht hw]at h1
  omega
 ·intro h x hx
  rw[h];exact up x hx
end Lad
theorem y5e{l:List Nat}{i:Nat}(h:i<(x0e l).length):(x0e l)[i]=.int (Int.ofNat (l.getD i 0)):=by
 have h':i<l.length:=by rw[x10]at h;exact h
 simp[x0e,h']
theorem y10{l:List Nat}{i:Nat}(h:i<l.length):l.getD i 0∈l:=by
 rw[List.getD_eq_getElem?_getD,List.getElem?_eq_getElem h]
 exact List.getElem_mem h
theorem j6p{i:Nat}{te:Den}{ρ:Rho}{deep:Bool}(l:List Nat)(hi:ρ.length=i)(v:Nat->D)(q:Nat->Nat)
  (he:∀ x,x∈l->te (ρ++[some (.int (Int.ofNat x),9)])=some (v x,q x,ρ++[some (.int (Int.ofNat x),9)])) (hd:deep=true->∀ j,(v j).isL=true->q j=1:=by intro h;cases h) :
  x8c 1 (x0o i) x25 te deep (x0e l) ρ=some (l.map v,ρ):=by
 have h:=x4j (k:=1) (pt:=x0o i) (tt:=x25) (te:=te) (deep:=deep) (x0e l) (fun _=>ρ) (fun _=>true) (fun j=>v (l.getD j 0)) (fun j hj=>?_)
 ·rw[x10,show(List.range l.length).filter (fun _=>true)=List.range l.length by simp]at h
  rw[h]
  have e:(List.range l.length).map (fun j=>v (l.getD j 0))=l.map v:=by
   apply List.ext_getElem?
   intro k
   by_cases hk:k<l.length
   ·simp[hk]
   ·rw[List.getElem?_eq_none (by simp;omega),List.getElem?_eq_none (by simp;omega)]
  rw[e]
 ·have hj':j<l.length:=by rw[x10]at hj;exact hj
  refine⟨ρ++[some (.int (Int.ofNat (l.getD j 0)),9)],_,?_,rfl,?_⟩
  ·rw[y5e hj]
   unfold x0o
   rw[if_pos (by simp[hi])]
   subst hi
   simp[List.set_append]
  ·rw[if_pos rfl]
   exact⟨q _,_,he _ (y10 hj'),fun⟨h1,h2,h3⟩=>h3 (hd h1 _ h2),by simp⟩
theorem j4v{i:Nat}{tt:x1u}{te:Den}{ρ:Rho}{deep:Bool}(l:List Nat)(hi:ρ.length=i)(b:Nat->Bool)(v:Nat->D)(q:Nat->Nat)
  (ht:∀ x,x∈l->tt (ρ++[some (.int (Int.ofNat x),9)])=some (b x,ρ++[some (.int (Int.ofNat x),9)]))
  (he:∀ x,x∈l->b x=true->te (ρ++[some (.int (Int.ofNat x),9)])=some (v x,q x,ρ++[some (.int (Int.ofNat x),9)])) (hd:deep=true->∀ j,(v j).isL=true->q j=1:=by intro h;cases h) :
  x8c 1 (x0o i) tt te deep (x0e l) ρ=some ((l.filter b).map v,ρ):=by
 have h:=x4j (k:=1) (pt:=x0o i) (tt:=tt) (te:=te) (deep:=deep) (x0e l) (fun _=>ρ) (fun j=>b (l.getD j 0)) (fun j=>v (l.getD j 0)) (fun j hj=>?_)
 ·rw[x10]at h
  rw[h]
  have e:((List.range l.length).filter fun j=>b (l.getD j 0)).map (fun j=>v (l.getD j 0))=(l.filter b).map v:=by
   have e1:(List.range l.length).map (fun j=>l.getD j 0)=l:=by
    apply List.ext_getElem?
    intro k
    by_cases hk:k<l.length
    ·simp[hk]
    ·rw[List.getElem?_eq_none (by simp;omega),List.getElem?_eq_none (by omega)]
   have e2:=congrArg (fun m=>(List.filter b m).map v) e1
   simp only[List.filter_map,List.map_map]at e2
   exact e2
  rw[e]
 ·have hj':j<l.length:=by rw[x10]at hj;exact hj
  refine⟨ρ++[some (.int (Int.ofNat (l.getD j 0)),9)],_,?_,ht _ (y10 hj'),?_⟩
  ·rw[y5e hj]
   unfold x0o
   rw[if_pos (by simp[hi])]
   subst hi
   simp[List.set_append]
  ·by_cases hb:b (l.getD j 0)=true
   ·rw[if_pos hb]
    exact⟨q _,_,he _ (y10 hj') hb,fun⟨h1,h2,h3⟩=>h3 (hd h1 _ h2),by simp⟩
   ·rw[if_neg hb]
    simp
theorem x8b{g:D->D->Option D}{fa fb:Den}{ρ ρ1 ρ2:Rho}{x y d:D}{q q':Nat}(ha:fa ρ=some (x,q,ρ1))(hb:fb ρ1=some (y,q',ρ2))(hg:g x y=some d):e2 g fa fb ρ=some (d,9,ρ2):=by unfold e2;rw[ha];simp only[hb,hg]
theorem x5f{f:Den}{ρ ρ1:Rho}{b:Bool}{q:Nat}(h:f ρ=some (.bl b,q,ρ1)):x3d f ρ=some (b,ρ1):=by unfold x3d;rw[h]
theorem y40{i:Nat}{g:x1q}{ρ ρ1 ρ2:Rho}{ds:List D}{d:D}(hl:y7x ρ[i]? = true)(hg:g ρ=some ([d],ρ1))(h1:ρ1[i]? = some (some (.lst ds,1)))(hn:ds.length<=1000)(e:ρ1.set i (some (.lst (ds++[d]),1))=ρ2):x3p (y1i i g) ρ=some (.nx ρ2):=by
 unfold x3p y1i
 rw[if_pos hl,hg]
 simp only[h1,if_pos hn,e]
theorem z94{b:List D->Option D}{g:x1q}{ρ ρ1:Rho}{ds:List D}{d:D}(h:g ρ=some (ds,ρ1))(hd:b ds=some d):eB b g ρ=some (d,9,ρ1):=by unfold eB;rw[h];simp only[hd]
def x4l (n:Nat)(r:Nat->Nat):D:=.tup (x0e ((List.range n).map r))
@[simp] theorem j4h{n:Nat}{r:Nat->Nat}:(x4l n r).isL=false:=rfl
theorem y16{n i:Nat}{r:Nat->Nat}(h:i<n):atD (x4l n r) (Int.ofNat i)=some (.int (Int.ofNat (r i))):=x2p h
theorem y4y(l l':List Nat):dNe (.tup (x0e l)) (.tup (x0e l'))=some (.bl (!decide (l=l'))):=by unfold dNe;rw[if_pos ⟨(z7g l).ok,(z7g l').ok⟩,j0l]
theorem j1n(l l':List Nat):dEq (.tup (x0e l)) (.tup (x0e l'))=some (.bl (decide (l=l'))):=by unfold dEq;rw[if_pos ⟨(z7g l).ok,(z7g l').ok⟩,j0l]
namespace Lad
variable {b x y z:Nat}
variable {n:Nat}{f:Nat->Nat->Nat}(L:Lad n f)
include L
theorem le_trans(hx:x<n)(hy:y<n)(hz:z<n)(h1:f x y=y)(h2:f y z=z):f x z=z:=by
 rw[<- h2,<- L.assoc x y z hx hy hz,h1]
theorem le_anti(hx:x<n)(hy:y<n)(h1:f x y=y)(h2:f y x=x):x=y:=by
 rw[L.comm y x hy hx,h1]at h2;exact h2.symm
theorem le_l(hx:x<n)(hy:y<n):f x (f x y)=f x y:=by rw[<- L.assoc x x y hx hx hy,L.idem x hx]
theorem le_r(hx:x<n)(hy:y<n):f y (f x y)=f x y:=by rw[L.comm x y hx hy];exact L.le_l hy hx
theorem lub(hx:x<n)(hy:y<n)(hz:z<n)(h1:f x z=z)(h2:f y z=z):f (f x y) z=z:=by rw[L.assoc x y z hx hy hz,h2,h1]
theorem sup_least(hz:z<n)(bz:∀ j,j<n->f z j=j)(hb:b<n):∀ {l:List Nat},(∀ x∈l,x<n)->(∀ x∈l,f x b=b)->f (l.foldl f z) b=b
 | [],_,_=>bz b hb
 | y::l,h,k=>by
  have hy:=h y List.mem_cons_self
  have hl:∀ x∈l,x<n:=fun x m=>h x (List.mem_cons_of_mem _ m)
  have e:(y::l).foldl f z=f y (l.foldl f z):=by
   show l.foldl f (f z y)=_
   rw[bz y hy,L.fold_out hz bz hy hl]
  rw[e]
  exact L.lub hy (L.fold_lt hz hl) hb (k y List.mem_cons_self) (sup_least hz bz hb hl fun x m=>k x (List.mem_cons_of_mem _ m))
omit L
def low (n:Nat)(f:Nat->Nat->Nat)(x:Nat):List Nat:=(List.range n).filter fun y=>decide (f y x=x)
theorem mem_low:y∈low n f x ↔ y<n/\f y x=x:=by simp[low]
def lr (n:Nat)(f:Nat->Nat->Nat)(z:Nat)(r:Nat->Nat)(x:Nat):Nat:=((low n f x).map r).foldl f z
include L
variable {z:Nat}(hz:z<n)(bz:∀ j,j<n->f z j=j){r s:Nat->Nat}(hr:∀ i,i<n->r i<n)
include hz bz hr
theorem lr_mem:∀ y∈(low n f x).map r,y<n:=fun y m=>by
 obtain⟨k,hk,rfl⟩:=List.mem_map.mp m
 exact hr k (mem_low.mp hk).1
theorem lr_lt(x:Nat):lr n f z r x<n:=L.fold_lt hz (lr_mem L hz bz hr)
theorem lr_ub(hy:y<n)(h:f y x=x):f (r y) (lr n f z r x)=lr n f z r x:=L.fold_mem hz (lr_mem L hz bz hr) (List.mem_map.mpr ⟨y,mem_low.mpr ⟨hy,h⟩,rfl⟩)
theorem lr_least(hb:b<n)(h:∀ y,y<n->f y x=x->f (r y) b=b):f (lr n f z r x) b=b:=L.sup_least hz bz hb (lr_mem L hz bz hr) fun y m=>by
 obtain⟨k,hk,rfl⟩:=List.mem_map.mp m
 exact h k (mem_low.mp hk).1 (mem_low.mp hk).2
theorem lr_rises(hx:x<n)(hy:y<n)(h:f x y=y):f (lr n f z r x) (lr n f z r y)=lr n f z r y:=
 L.lr_least hz bz hr (L.lr_lt hz bz hr y) fun k hk e=>L.lr_ub hz bz hr hk (L.le_trans hk hx hy e h)
end Lad
theorem j8e{α:Type}{us:List α}(h:us.length=1):∃ a,us=[a]:=match us,h with|[a],_=>⟨a,rfl⟩
theorem j8m{α:Type}{us:List α}(h:us.length=2):∃ a b,us=[a,b]:=by
 cases us with
 | nil=>cases h
 | cons a us=>
  obtain⟨b,hh⟩:=j8e (Nat.succ.inj h)
  exact⟨a,b,by rw[hh]⟩
theorem j84{α:Type}{us:List α}(h:us.length=3):∃ a b c,us=[a,b,c]:=by
 cases us with
 | nil=>cases h
 | cons a us=>
  obtain⟨b,c,hh⟩:=j8m (Nat.succ.inj h)
  exact⟨a,b,c,by rw[hh]⟩
theorem j92{α:Type}{us:List α}(h:us.length=4):∃ a b c d,us=[a,b,c,d]:=by
 cases us with
 | nil=>cases h
 | cons a us=>
  obtain⟨b,c,d,hh⟩:=j84 (Nat.succ.inj h)
  exact⟨a,b,c,d,by rw[hh]⟩
theorem y4d{pt:x6m}{body:x13}{d:D}{ds:List D}{ρ ρ1 ρ2:Rho}(h1:pt d ρ=some ρ1)(h2:body ρ1=some (.nx ρ2)):x8f pt body (d::ds) ρ=x8f pt body ds ρ2:=by
 show(match pt d ρ with|none=>none|some ρ1=>_)=_
 simp only[h1,h2]
theorem z2o{pt:x6m}{body:x13}{d d':D}{q:Nat}{ds:List D}{ρ ρ1:Rho}(h1:pt d ρ=some ρ1)(h2:body ρ1=some (.rt d' q)):x8f pt body (d::ds) ρ=some (.rt d' q):=by
 unfold x8f
 simp only[h1,h2]
theorem x5p{α J σ:Type}{pt:x6m}{body:x13}(enc:α->D)(S:σ->J->Rho)(g:σ->α->σ)(I:σ->Prop):∀ (l:List α) (s:σ) (j:J),I s->
  (∀ x∈l,∀ s j,I s->I (g s x)/\∃ ρ1 j',pt (enc x) (S s j)=some ρ1/\body ρ1=some (.nx (S (g s x) j')))->∃ j',x8f pt body (l.map enc) (S s j)=some (.nx (S (l.foldl g s) j'))/\I (l.foldl g s)
 | [],s,j,i,_=>⟨j,rfl,i⟩
 | x::l,s,j,i,h=>by
  obtain⟨i1,ρ1,j1,h1,h2⟩:=h x List.mem_cons_self s j i
  obtain⟨j2,e,i2⟩:=x5p enc S g I l (g s x) j1 i1 fun y m=>h y (List.mem_cons_of_mem _ m)
  exact⟨j2,(y4d h1 h2).trans e,i2⟩
theorem y48{α J:Type}{pt:x6m}{body:x13}{d:D}{q:Nat}(enc:α->D)(ok:α->Bool)(S:J->Rho):∀ (l:List α) (j:J),
  (∀ x∈l,∀ j,∃ ρ1,pt (enc x) (S j)=some ρ1/\(ok x=true->∃ j',body ρ1=some (.nx (S j')))/\(ok x=false->body ρ1=some (.rt d q)))->
  (l.all ok=true->∃ j',x8f pt body (l.map enc) (S j)=some (.nx (S j')))/\(l.all ok=false->x8f pt body (l.map enc) (S j)=some (.rt d q))
 | [],j,_=>⟨fun _=>⟨j,rfl⟩,fun h=>by simp at h⟩
 | x::l,j,h=>by
  obtain⟨ρ1,h1,h2,h3⟩:=h x List.mem_cons_self j
  rw[List.all_cons]
  cases hk:ok x with
  | false=>exact⟨fun z=>by simp at z,fun _=>z2o h1 (h3 hk)⟩
  | true=>
   obtain⟨j1,h4⟩:=h2 hk
   obtain⟨i1,i2⟩:=y48 enc ok S l j1 fun y m=>h y (List.mem_cons_of_mem _ m)
   rw[Bool.true_and,List.map_cons,y4d h1 h4]
   exact⟨i1,i2⟩
theorem y31{c:x1u}{b:x13}{Q:Rho->Prop}(I:Nat->Rho->Prop)
  (h:∀ k ρ,I k ρ->(∃ ρ1,c ρ=some (false,ρ1)/\Q ρ1)\/(∃ ρ1 ρ2 k',c ρ=some (true,ρ1)/\b ρ1=some (.nx ρ2)/\k'<k/\I k' ρ2)):∀ m k ρ,k<m->I k ρ->∃ ρ',x6v c b m ρ=some (.nx ρ')/\Q ρ'
 | 0,k,_,hk,_=>absurd hk (Nat.not_lt_zero k)
 | m+1,k,ρ,hk,i=>by
  rcases h k ρ i with⟨ρ1,h1,h2⟩|⟨ρ1,ρ2,k',h1,h2,h3,h4⟩
  ·exact⟨ρ1,by unfold x6v;simp[h1],h2⟩
  ·obtain⟨ρ',e,q⟩:=y31 I h m k' ρ2 (by omega) h4
   refine⟨ρ',?_,q⟩
   unfold x6v
   simp[h1,h2,e]
theorem y30{c:x1u}{b:x13}{Q:Rho->Prop}(I:Nat->Rho->Prop){k:Nat}{ρ:Rho}(hk:k<1000)(i:I k ρ)
  (h:∀ k ρ,I k ρ->(∃ ρ1,c ρ=some (false,ρ1)/\Q ρ1)\/(∃ ρ1 ρ2 k',c ρ=some (true,ρ1)/\b ρ1=some (.nx ρ2)/\k'<k/\I k' ρ2)):∃ ρ',y5c c b ρ=some (.nx ρ')/\Q ρ':=y31 I h 1000 k ρ hk i
def gv (v:List Nat)(i:Nat):Nat:=v.getD i 0
theorem y94{v:List Nat}{i:Nat}(h:i<v.length):v[i]? = some (gv v i):=by unfold gv;simp[h]
theorem j25{v:List Nat}{i:Nat}(h:i<v.length):gv v i∈v:=y10 h
theorem j7h{v:List Nat}{i:Nat}(h:i<v.length):atD (.lst (x0e v)) (Int.ofNat i)=some (.int (Int.ofNat (gv v i))):=y7z (y94 h)
theorem j11{v:List Nat}{i:Nat}(h:i<v.length):atD (.tup (x0e v)) (Int.ofNat i)=some (.int (Int.ofNat (gv v i))):=y7z (y94 h)
theorem y8s(v:List Nat)(i x:Nat):(x0e v).set i (.int (Int.ofNat x))=x0e (v.set i x):=by simp[x0e,List.map_set]
theorem j3g{v:List Nat}{i:Nat}(h:i<v.length)(x j:Nat):gv (v.set i x) j=if j=i then x else gv v j:=by
 unfold gv
 rw[List.getD_eq_getElem?_getD,List.getD_eq_getElem?_getD]
 by_cases e:j=i
 ·subst e;rw[if_pos rfl,List.getElem?_set_self h];rfl
 ·rw[if_neg e,List.getElem?_set_ne (fun z=>e z.symm)]
theorem z7l{u v:List Nat}(h:u.length=v.length)(k:∀ i,i<u.length->gv u i=gv v i):u=v:=by
 apply List.ext_getElem?
 intro i
 by_cases hi:i<u.length
 ·rw[y94 hi,y94 (by omega),k i hi]
 ·rw[List.getElem?_eq_none (by omega),List.getElem?_eq_none (by omega)]
structure Vn (n p:Nat) (v:List Nat):Prop where
 len:v.length=p
 lt:∀ x∈v,x<n
theorem Vn.gv{n p:Nat}{v:List Nat}(h:Vn n p v){i:Nat}(hi:i<p):gv v i<n:=h.lt _ (j25 (by rw[h.len];exact hi))
theorem Vn.set{n p:Nat}{v:List Nat}(h:Vn n p v){i x:Nat}(hx:x<n):Vn n p (v.set i x):=⟨by rw[List.length_set];exact h.len,fun y hy=>by
 rcases List.mem_or_eq_of_mem_set hy with h' | h'
 ·exact h.lt y h'
 ·rw[h'];exact hx⟩
theorem Vn.map{n p:Nat}{g:Nat->Nat}(h:∀ i,i<p->g i<n):Vn n p ((List.range p).map g):=⟨by simp,fun x hx=>by
 obtain⟨i,hi,rfl⟩:=List.mem_map.mp hx
 exact h i (List.mem_range.mp hi)⟩
def leV (f:Nat->Nat->Nat)(p:Nat)(u v:List Nat):Prop:=∀ i,i<p->f (gv u i) (gv v i)=gv v i
abbrev ChS:=Nat×(List Nat->Nat)
def doS (f:Nat->Nat->Nat)(v:List Nat)(s:ChS):List Nat:=v.set s.1 (f (gv v s.1) (s.2 v))
structure OkS (n p:Nat) (f:Nat->Nat->Nat) (s:ChS):Prop where
 pl:s.1<p
 lt:∀ v,Vn n p v->s.2 v<n
 mono:∀ u v,Vn n p u->Vn n p v->leV f p u v->f (s.2 u) (s.2 v)=s.2 v
def ClS (f:Nat->Nat->Nat)(l:List ChS)(v:List Nat):Prop:=∀ s∈l,f (s.2 v) (gv v s.1)=gv v s.1
namespace Lad
variable {s:ChS}{u v:List Nat}
variable {n:Nat}{f:Nat->Nat->Nat}(L:Lad n f){p:Nat}
include L
theorem leV_refl(h:Vn n p v):leV f p v v:=fun i hi=>L.idem _ (h.gv hi)
theorem leV_trans{w:List Nat}(hu:Vn n p u)(hv:Vn n p v)(hw:Vn n p w)(a:leV f p u v)(b:leV f p v w):leV f p u w:=fun i hi=>L.le_trans (hu.gv hi) (hv.gv hi) (hw.gv hi) (a i hi) (b i hi)
theorem leV_anti(hu:Vn n p u)(hv:Vn n p v)(a:leV f p u v)(b:leV f p v u):u=v:=
 z7l (hu.len.trans hv.len.symm) fun i hi=>by
  rw[hu.len]at hi
  exact L.le_anti (hu.gv hi) (hv.gv hi) (a i hi) (b i hi)
theorem doS_V(hs:OkS n p f s)(h:Vn n p v):Vn n p (doS f v s):=h.set (L.cl _ _ (h.gv hs.pl) (hs.lt v h))
theorem doS_gv(hs:OkS n p f s)(h:Vn n p v)(i:Nat):gv (doS f v s) i=if i=s.1 then f (gv v s.1) (s.2 v)else gv v i:=j3g (by rw[h.len];exact hs.pl) _ _
theorem doS_up(hs:OkS n p f s)(h:Vn n p v):leV f p v (doS f v s):=fun i hi=>by
 rw[L.doS_gv hs h]
 by_cases e:i=s.1
 ·subst e;rw[if_pos rfl];exact L.le_l (h.gv hi) (hs.lt v h)
 ·rw[if_neg e];exact L.idem _ (h.gv hi)
theorem doS_mono(hs:OkS n p f s)(hu:Vn n p u)(hv:Vn n p v)(a:leV f p u v):leV f p (doS f u s) (doS f v s):=fun i hi=>by
 rw[L.doS_gv hs hu,L.doS_gv hs hv]
 by_cases e:i=s.1
 ·subst e
  rw[if_pos rfl,if_pos rfl]
  have h1:=hu.gv hs.pl
  have h2:=hs.lt u hu
  have h3:=hv.gv hs.pl
  have h4:=hs.lt v hv
  exact L.lub h1 h2 (L.cl _ _ h3 h4) (L.le_trans h1 h3 (L.cl _ _ h3 h4) (a _ hs.pl) (L.le_l h3 h4)) (L.le_trans h2 h4 (L.cl _ _ h3 h4) (hs.mono u v hu hv a) (L.le_r h3 h4))
 ·rw[if_neg e,if_neg e];exact a i hi
theorem doS_fix(hs:OkS n p f s)(h:Vn n p v):doS f v s=v ↔ f (s.2 v) (gv v s.1)=gv v s.1:=by
 constructor
 ·intro e
  have:=congrArg (fun u=>gv u s.1) e
  rw[L.doS_gv hs h,if_pos rfl]at this
  rw[L.comm _ _ (hs.lt v h) (h.gv hs.pl)]
  exact this
 ·intro e
  refine z7l (by unfold doS;rw[List.length_set]) fun i hi=>?_
  rw[L.doS_gv hs h]
  by_cases e':i=s.1
  ·subst e';rw[if_pos rfl,L.comm _ _ (h.gv hs.pl) (hs.lt v h)];exact e
  ·rw[if_neg e']
theorem foldS_V:∀ {l:List ChS} {v:List Nat},(∀ s∈l,OkS n p f s)->Vn n p v->Vn n p (l.foldl (doS f) v)
 | [],v,_,h=>h
 | s::l,v,hs,h=>foldS_V (l:=l) (fun t m=>hs t (List.mem_cons_of_mem _ m)) (L.doS_V (hs s List.mem_cons_self) h)
theorem foldS_up:∀ {l:List ChS} {v:List Nat},(∀ s∈l,OkS n p f s)->Vn n p v->leV f p v (l.foldl (doS f) v)
 | [],v,_,h=>L.leV_refl h
 | s::l,v,hs,h=>by
  have h1:=L.doS_V (hs s List.mem_cons_self) h
  have hl:∀ t∈l,OkS n p f t:=fun t m=>hs t (List.mem_cons_of_mem _ m)
  exact L.leV_trans h h1 (L.foldS_V (l:=l) hl h1) (L.doS_up (hs s List.mem_cons_self) h) (foldS_up (l:=l) hl h1)
theorem foldS_below{a:List Nat}(ha:Vn n p a):∀ {l:List ChS} {v:List Nat},(∀ s∈l,OkS n p f s)->Vn n p v->ClS f l a->leV f p v a->leV f p (l.foldl (doS f) v) a
 | [],v,_,h,_,e=>e
 | s::l,v,hs,h,c,e=>by
  have s0:=hs s List.mem_cons_self
  have h1:=L.doS_V s0 h
  have hl:∀ t∈l,OkS n p f t:=fun t m=>hs t (List.mem_cons_of_mem _ m)
  refine foldS_below ha (l:=l) hl h1 (fun t m=>c t (List.mem_cons_of_mem _ m)) ?_
  have:=L.doS_mono s0 h ha e
  rw[(L.doS_fix s0 ha).mpr (c s List.mem_cons_self)]at this
  exact this
theorem foldS_fix:∀ {l:List ChS} {v:List Nat},(∀ s∈l,OkS n p f s)->Vn n p v->(l.foldl (doS f) v=v ↔ ClS f l v)
 | [],v,_,h=>⟨fun _ _ m=>(List.not_mem_nil m).elim,fun _=>rfl⟩
 | s::l,v,hs,h=>by
  have s0:=hs s List.mem_cons_self
  have h1:=L.doS_V s0 h
  have hl:∀ t∈l,OkS n p f t:=fun t m=>hs t (List.mem_cons_of_mem _ m)
  constructor
  ·intro e
   have e0:l.foldl (doS f) (doS f v s)=v:=e
   have up:=L.foldS_up hl h1
   rw[e0]at up
   have e1:doS f v s=v:=L.leV_anti h1 h up (L.doS_up s0 h)
   rw[e1]at e0
   have c:=(foldS_fix (l:=l) hl h).mp e0
   intro t m
   rcases List.mem_cons.mp m with rfl|m
   ·exact(L.doS_fix s0 h).mp e1
   ·exact c t m
  ·intro c
   show l.foldl (doS f) (doS f v s)=v
   rw[(L.doS_fix s0 h).mpr (c s List.mem_cons_self)]
   exact(foldS_fix (l:=l) hl h).mpr fun t m=>c t (List.mem_cons_of_mem _ m)
def cnt (n:Nat)(f:Nat->Nat->Nat)(x:Nat):Nat:=((List.range n).filter fun y=>decide (f x y=y)).length
def mu (n:Nat)(f:Nat->Nat->Nat)(v:List Nat):Nat:=(v.map (cnt n f)).sum
omit L in
theorem j5q(x:Nat):cnt n f x<=n:=by
 have:=List.length_filter_le (fun y=>decide (f x y=y)) (List.range n)
 rw[List.length_range]at this
 exact this
omit L in
theorem mu_le(h:Vn n p v):mu n f v<=p*n:=by
 have key:∀ l:List Nat,(l.map (cnt n f)).sum<=l.length*n:=by
  intro l
  induction l with
  | nil=>simp
  | cons x l ih=>
   have:=j5q (n:=n) (f:=f) x
   simp only[List.map_cons,List.sum_cons,List.length_cons,Nat.succ_mul]
   omega
 have:=key v
 rw[h.len]at this
 exact this
omit L in
theorem x90{q r:Nat->Bool}{a:Nat}:∀ {l:List Nat},(∀ x∈l,r x=true->q x=true)->a∈l->q a=true->r a=false->(l.filter r).length<(l.filter q).length
 | y::l,h,ha,hq,hr=>by
  have hl:∀ x∈l,r x=true->q x=true:=fun x m=>h x (List.mem_cons_of_mem _ m)
  have le:∀ l:List Nat,(∀ x∈l,r x=true->q x=true)->(l.filter r).length<=(l.filter q).length:=by
   intro l
   induction l with
   | nil=>intro _;simp
   | cons z l ih=>
    intro h
    have i:=ih fun x m=>h x (List.mem_cons_of_mem _ m)
    by_cases hz:r z=true
    ·rw[List.filter_cons_of_pos hz,List.filter_cons_of_pos (h z List.mem_cons_self hz)]
     simp only[List.length_cons];omega
    ·rw[List.filter_cons_of_neg hz]
     by_cases hz':q z=true
     ·rw[List.filter_cons_of_pos hz'];simp only[List.length_cons];omega
     ·rw[List.filter_cons_of_neg hz'];exact i
  by_cases e:y=a
  ·subst e
   rw[List.filter_cons_of_neg (by rw[hr];simp),List.filter_cons_of_pos hq]
   have:=le l hl
   simp only[List.length_cons];omega
  ·have ha':a∈l:=by
    rcases List.mem_cons.mp ha with h' | h'
    ·exact absurd h'.symm e
    ·exact h'
   have i:=x90 (l:=l) hl ha' hq hr
   by_cases hz:r y=true
   ·rw[List.filter_cons_of_pos hz,List.filter_cons_of_pos (h y List.mem_cons_self hz)]
    simp only[List.length_cons];omega
   ·rw[List.filter_cons_of_neg hz]
    by_cases hz':q y=true
    ·rw[List.filter_cons_of_pos hz'];simp only[List.length_cons];omega
    ·rw[List.filter_cons_of_neg hz'];exact i
theorem cnt_lt{x y:Nat}(hx:x<n)(hy:y<n)(h:f x y=y)(ne:x≠y):cnt n f y<cnt n f x:=by
 refine x90 (a:=x) (fun k m hk=>?_) (List.mem_range.mpr hx) (decide_eq_true (L.idem x hx)) (decide_eq_false fun e=>ne (L.le_anti hx hy h e))
 exact decide_eq_true (L.le_trans hx hy (List.mem_range.mp m) h (of_decide_eq_true hk))
theorem mu_lt(hu:Vn n p u)(hv:Vn n p v)(a:leV f p u v)(ne:u≠v):mu n f v<mu n f u:=by
 have key:∀ (u v:List Nat),u.length=v.length->(∀ x∈u,x<n)->(∀ x∈v,x<n)->(∀ i,i<u.length->f (gv u i) (gv v i)=gv v i)->((v.map (cnt n f)).sum<=(u.map (cnt n f)).sum)/\(u≠v->(v.map (cnt n f)).sum<(u.map (cnt n f)).sum):=by
  intro u
  induction u with
  | nil=>
   intro v hl _ _ _
   have:v=[]:=List.length_eq_zero_iff.mp hl.symm
   subst this
   exact⟨Nat.le_refl _,fun h=>absurd rfl h⟩
  | cons x u ih=>
   intro v hl h1 h2 h3
   cases v with
   | nil=>cases hl
   | cons y v=>
    have hl':u.length=v.length:=by simpa using hl
    obtain⟨i1,i2⟩:=ih v hl' (fun z m=>h1 z (List.mem_cons_of_mem _ m)) (fun z m=>h2 z (List.mem_cons_of_mem _ m)) (fun i hi=>h3 (i+1) (by simpa using hi))
    have e0:f x y=y:=h3 0 (by simp)
    have hx:=h1 x List.mem_cons_self
    have hy:=h2 y List.mem_cons_self
    simp only[List.map_cons,List.sum_cons]
    by_cases e:x=y
    ·subst e
     exact⟨by omega,fun h=>by have:=i2 (fun z=>h (by rw[z]));omega⟩
    ·have:=L.cnt_lt hx hy e0 e
     exact⟨by omega,fun _=>by omega⟩
 exact(key u v (hu.len.trans hv.len.symm) hu.lt hv.lt (fun i hi=>a i (by rw[<- hu.len];exact hi))).2 ne
end Lad
end L3
namespace My
open PySem PySem.Spec PyProof.Rows L2 L3
variable {H:Nat->Nat}{a c i j n p q q':Nat}{b:Bool}{d x:D}{ds:List D}{f:Nat->Nat->Nat}{fa fb te:Den}{g:x1u}{h:Heap}{l v:List Nat}{m:Int}{ns:List Int}{st:Stmt}{ρ ρ' ρ1 ρ2:Rho}
def top (i:Nat):Stmt:=PySem.Challenge.pw_ladderhall_k32_whole_papers.main.body.getD i (.Pass ⟨0,0,0,0⟩)
structure Bt (mg:Str->Option Value):Prop where
 m_ValueError:mg "ValueError" = none
 m_all:mg "all" = none
 m_bool:mg "bool" = none
 m_int:mg "int" = none
 m_isinstance:mg "isinstance" = none
 m_len:mg "len" = none
 m_list:mg "list" = none
 m_max:mg "max" = none
 m_range:mg "range" = none
 m_sorted:mg "sorted" = none
 m_str:mg "str" = none
 m_tuple:mg "tuple" = none
structure Xt (K:PySem.W.Frag) (mg:Str->Option Value):Prop where
 u:y2s K mg "RiseError" ["NoStep"]
 x_NoStep:∃ C,XNm K mg "NoStep" C
 i_NoHouse:IsC K mg ["NoStep"] "NoHouse"
 i_NoMap:IsC K mg ["NoStep"] "NoMap"
 i_NoPlace:IsC K mg ["NoStep"] "NoPlace"
 i_NoRule:IsC K mg ["NoStep"] "NoRule"
 i_NoStep:IsC K mg ["NoStep"] "NoStep"
 i_TooGreat:IsC K mg ["NoStep"] "TooGreat"
section
variable {P:Program}{w:World}{K:PySem.W.Frag}{mg:Str->Option Value}{base:Heap}
def y2y:x13:=x2g (e2 dEq (eIx (x1e 0 (x05 1)) (x05 2)) (x05 2))
def x2d:List D->OD:=fnD 3 (y2y)
theorem y80:FnScope ["ladder","one","other"] ["ladder","one","other"] (x0b (top 17)):=fsq
theorem y3c(B:Bt mg)(a:At K mg "is_below" (top 17) ["ladder","one","other"]):Cal P w K mg base 1 "is_below" 3 (x2d):=
 Cal.mkQ (k:=0) a y80 fun f cdv A outer s H E hr=>
  x0c (x0k (z9f hr (x4g (x0q (qv 0) (x01 (qv 1))) (x01 (qv 2))) (x01 (qv 2))))
def z3v:x13:=x2g (x2w 1 (x17 (x02 (x1g 0) x0i)) (x0o 2) (x7x (x0j x2d 3 (x02 (x05 0) (x02 (x05 2) (x02 (x05 1) x0i))))) (x05 2) false)
def x4h:List D->OD:=fnD 2 (z3v)
theorem z5j:FnScope ["ladder","worth"] ["ladder","worth"] (x0b (top 18)):=fsq
abbrev y9a:List Str:=["ladder","worth","x"]
theorem z2c:(y9a).Nodup:=by decide +kernel
theorem z2k(B:Bt mg)(c36:Cal P w K mg base 1 "is_below" 3 x2d)(a:At K mg "below" (top 18) ["ladder","worth"]):Cal P w K mg base 2 "below" 2 (x4h):=
 Cal.mkQ (k:=1) a z5j fun f cdv A outer s H E hr=>
  x0c (x0k (x2x (k:=1) (N':=y9a) false rfl ⟨rfl,by decide +kernel,rfl,rfl,rfl⟩ (x0u B.m_range (x00 (x15 B.m_len (qv 0)) x03 x0n)) (fun _ _ _ _=>x0l (i:=2) (show 2<=2 by decide) z2c rfl (Or.inl rfl) (Or.inr rfl)) (fun _ _ _ _=>y0y (x3e (x0a c36 hr (by decide) (x00 (x01 (qv 0)) (x00 (x01 (qv 2)) (x00 (x01 (qv 1)) x03 x04) x04) x04)))) (fun _ _ _ _=>x01 (qv 2))))
def y2f:x13:=x0y (sIf (x3d (e2 dLt (x05 1) (x1g 0))) (x2g (x1e 0 (x05 1))) x5t)
 (x0y (sIf (x3d (e2 dEq (x05 0) (x5c x0i))) (x2g (eC (.int 0))) x5t)
 (x2g (e2 x31 (e2 y0x (x1e 0 (e2 z85 (x05 1) (x1g 0))) (eC (.int 31))) (x05 1))))
def x4r:List D->OD:=fnD 2 (y2f)
theorem y66:FnScope ["_law_script","_law_k"] ["_law_script","_law_k"] (x0b (top 38)):=fsq
theorem y8b(B:Bt mg)(a:At K mg "_law_cell" (top 38) ["_law_script","_law_k"]):Cal P w K mg base 1 "_law_cell" 2 (x4r):=
 Cal.mkQ (k:=0) a y66 fun f cdv A outer s H E hr=>
  x07 (x22 (y8o (x01 (qv 1)) (x15 B.m_len (qv 0))) (x0c (x0k (x0q (qv 0) (x01 (qv 1))))) x1f)
  (x07 (x22 (x9f hr (x01 (qv 0)) (x1y x03)) (x0c (x0k x0d)) x1f)
  (x0c (x0k (x1a (x6k (x0q (qv 0) (y3d (x01 (qv 1)) (x15 B.m_len (qv 0)))) x0d) (x01 (qv 1))))))
def y1v:x13:=x0y (x1n 3 (e2 z85 (e2 y0x (e2 x31 (x0j x4r 2 (x02 (x05 0) (x02 (x05 1) x0i))) (e2 y0x (eC (.int 6151)) (e2 x31 (x05 1) (eC (.int 1))))) (eC (.int 40692))) (eC (.int 2147483399))))
 (x2g (e2 z85 (e2 z85 (e2 x31 (e2 y0x (x05 3) (x05 3)) (e2 j42 (x05 3) (eC (.int 31)))) (eC (.int 2147483629))) (x05 2)))
def x0f:List D->OD:=fnD 4 (y1v)
theorem y0i:FnScope ["_law_script","_law_k","_law_many","_law_drawn"] ["_law_script","_law_k","_law_many"] (x0b (top 39)):=fsq
theorem y8a(B:Bt mg)(c7:Cal P w K mg base 1 "_law_cell" 2 x4r)(a:At K mg "_law_pick" (top 39) ["_law_script","_law_k","_law_many"]):Cal P w K mg base 2 "_law_pick" 3 (x0f):=
 Cal.mkQ (k:=1) a y0i fun f cdv A outer s H E hr=>
  x07 (x0m (i:=3) y0i.nd rfl (Or.inl rfl) (y3d (x6k (x1a (x0a c7 hr (by decide) (x00 (x01 (qv 0)) (x00 (x01 (qv 1)) x03 x04) x04)) (x6k x0d (x1a (x01 (qv 1)) x0d))) x0d) x0d))
  (x0c (x0k (y3d (y3d (x1a (x6k (x01 (qv 3)) (x01 (qv 3))) (z2p (x01 (qv 3)) x0d)) x0d) (x01 (qv 2)))))
def y5n:x13:=x2g (x2w 1 (x17 (x02 (x05 0) x0i)) (x0o 1) x25 (x2w 1 (x17 (x02 (x05 0) x0i)) (x0o 2) x25 (eB j2f (x02 (x05 1) (x02 (x05 2) x0i))) false) false)
def x12:List D->OD:=fnD 1 (y5n)
theorem y3o:FnScope ["_law_many"] ["_law_many"] (x0b (top 40)):=fsq
abbrev x8n:List Str:=["_law_many","_law_one","_law_other"]
theorem y2n:(x8n).Nodup:=by decide +kernel
abbrev x9j:List Str:=["_law_many","_law_one"]
theorem y2w:(x9j).Nodup:=by decide +kernel
theorem y62(B:Bt mg)(a:At K mg "_law_chain" (top 40) ["_law_many"]):Cal P w K mg base 1 "_law_chain" 1 (x12):=
 Cal.mkQ (k:=0) a y3o fun f cdv A outer s H E hr=>
  x0c (x0k (x2x (k:=1) (N':=x9j) false rfl ⟨rfl,by decide +kernel,rfl,rfl,rfl⟩ (x0u B.m_range (x00 (x01 (qv 0)) x03 x04)) (fun _ _ _ _=>x0l (i:=1) (show 1<=1 by decide) y2w rfl (Or.inr rfl) (Or.inl rfl)) (fun _ _ _ _=>x23) (fun _ _ _ _=>x2x (k:=1) (N':=x8n) false rfl ⟨rfl,by decide +kernel,rfl,rfl,rfl⟩ (x0u B.m_range (x00 (x01 (qv 0)) x03 x04)) (fun _ _ _ _=>x0l (i:=2) (show 2<=2 by decide) y2n rfl (Or.inl rfl) (Or.inr rfl)) (fun _ _ _ _=>x23) (fun _ _ _ _=>z1t rfl B.m_max PyProof.Rows.boot_max (x00 (x01 (qv 1)) (x00 (x01 (qv 2)) x03 x04) x04)))))
def y2r:x13:=x0y (x1n 2 (x1g 1))
 (x0y (x1n 3 (x5c x0i))
 (x0y (x7l (x17 (x02 (e2 y0x (x1g 0) (x05 2)) x0i)) (x0o 4) (x0y (x1n 5 (x5c x0i))
 (x0y (x7l (x17 (x02 (e2 y0x (x1g 0) (x05 2)) x0i)) (x0o 6) (x0y (x1n 7 (eIx (x1e 0 (e2 j42 (x05 4) (x05 2))) (e2 j42 (x05 6) (x05 2))))
 (x3p (y1i 5 (x02 (e2 x31 (e2 y0x (x05 7) (x05 2)) (eIx (x1e 1 (e2 z85 (x05 4) (x05 2))) (e2 z85 (x05 6) (x05 2)))) x0i)))))
 (x3p (y1i 3 (x02 (x05 5) x0i))))))
 (x2g (x05 3))))
def x1b:List D->OD:=fnD 8 (y2r)
theorem x1z:FnScope ["_law_one","_law_other","_law_many","_law_made","_law_here","_law_row","_law_there","_law_first"] ["_law_one","_law_other"] (x0b (top 41)):=fsq
theorem y2x(B:Bt mg)(a:At K mg "_law_couples" (top 41) ["_law_one","_law_other"]):Cal P w K mg base 1 "_law_couples" 2 (x1b):=
 Cal.mkQ (k:=0) a x1z fun f cdv A outer s H E hr=>
  x07 (x0m (i:=2) x1z.nd rfl (Or.inl rfl) (x15 B.m_len (qv 1)))
  (x07 (x0m (i:=3) x1z.nd rfl (Or.inl rfl) (x1y x03))
  (x07 (x1t PassesOwn.never rfl (x0u B.m_range (x00 (x6k (x15 B.m_len (qv 0)) (x01 (qv 2))) x03 x0w)) (x0l (i:=4) (show 0<=4 by decide) x1z.nd rfl (Or.inl rfl)) (x07 (x0m (i:=5) x1z.nd rfl (Or.inl rfl) (x1y x03))
  (x07 (x1t PassesOwn.never rfl (x0u B.m_range (x00 (x6k (x15 B.m_len (qv 0)) (x01 (qv 2))) x03 x0w)) (x0l (i:=6) (show 0<=6 by decide) x1z.nd rfl (Or.inl rfl)) (x07 (x0m (i:=7) x1z.nd rfl (Or.inl rfl) (x4g (x0q (qv 0) (z2p (x01 (qv 4)) (x01 (qv 2)))) (z2p (x01 (qv 6)) (x01 (qv 2)))))
  (x0c (x2b (x2v (qv 5) (x00 (x1a (x6k (x01 (qv 7)) (x01 (qv 2))) (x4g (x0q (qv 1) (y3d (x01 (qv 4)) (x01 (qv 2)))) (y3d (x01 (qv 6)) (x01 (qv 2))))) x03 x0w))))))
  (x0c (x2b (x2v (qv 3) (x00 (x01 (qv 5)) x03 x04)))))))
  (x0c (x0k (x01 (qv 3))))))
def x8d:x13:=x0y (x1n 1 (x5c x0i))
 (x0y (x7l (x17 (x02 (e2 x31 (x05 0) (eC (.int 2))) x0i)) (x0o 2) (x0y (x1n 3 (x5c x0i))
 (x0y (x7l (x17 (x02 (e2 x31 (x05 0) (eC (.int 2))) x0i)) (x0o 4) (x3p (y1i 3 (x02 (eIf (y6o (x3d (e2 dIn (eC (.int 0)) (x8a (x02 (x05 2) (x02 (x05 4) x0i))))) (x3d (e2 dEq (x05 2) (x05 4)))) (eB j2f (x02 (x05 2) (x02 (x05 4) x0i))) (e2 x31 (x05 0) (eC (.int 1)))) x0i))))
 (x3p (y1i 1 (x02 (x05 3) x0i))))))
 (x2g (x05 1)))
def x0x:List D->OD:=fnD 5 (x8d)
theorem x1p:FnScope ["_law_many","_law_made","_law_one","_law_row","_law_other"] ["_law_many"] (x0b (top 42)):=fsq
theorem x82(B:Bt mg)(a:At K mg "_law_side_by_side" (top 42) ["_law_many"]):Cal P w K mg base 1 "_law_side_by_side" 1 (x0x):=
 Cal.mkQ (k:=0) a x1p fun f cdv A outer s H E hr=>
  x07 (x0m (i:=1) x1p.nd rfl (Or.inl rfl) (x1y x03))
  (x07 (x1t PassesOwn.never rfl (x0u B.m_range (x00 (x1a (x01 (qv 0)) x0d) x03 x0w)) (x0l (i:=2) (show 0<=2 by decide) x1p.nd rfl (Or.inl rfl)) (x07 (x0m (i:=3) x1p.nd rfl (Or.inl rfl) (x1y x03))
  (x07 (x1t PassesOwn.never rfl (x0u B.m_range (x00 (x1a (x01 (qv 0)) x0d) x03 x0w)) (x0l (i:=4) (show 0<=4 by decide) x1p.nd rfl (Or.inl rfl)) (x0c (x2b (x2v (qv 3) (x00 (z4d (y50 (x96 (j3q hr x0d (x41 (x00 (x01 (qv 2)) (x00 (x01 (qv 4)) x03 x04) x04))) (x6u (x9f hr (x01 (qv 2)) (x01 (qv 4)))))) (z1t rfl B.m_max PyProof.Rows.boot_max (x00 (x01 (qv 2)) (x00 (x01 (qv 4)) x03 x04) x04)) (x1a (x01 (qv 0)) x0d)) x03 z5m)))))
  (x0c (x2b (x2v (qv 1) (x00 (x01 (qv 3)) x03 x04)))))))
  (x0c (x0k (x01 (qv 1)))))
def y1n:x13:=x0y (x1n 2 (x0j x0f 3 (x02 (x05 0) (x02 (x05 1) (x02 (eC (.int 9)) x0i)))))
 (x0y (sIf (x3d (e2 dLt (x05 2) (eC (.int 3)))) (x2g (x0j x12 1 (x02 (e2 x31 (eC (.int 1)) (x0j x0f 3 (x02 (x05 0) (x02 (e2 x31 (x05 1) (eC (.int 1))) (x02 (eC (.int 5)) x0i))))) x0i))) x5t)
 (x0y (sIf (x3d (e2 dLt (x05 2) (eC (.int 5)))) (x2g (x0j x1b 2 (x02 (x0j x12 1 (x02 (eC (.int 2)) x0i)) (x02 (x0j x12 1 (x02 (eIx (x5c (x02 (eC (.int 2)) (x02 (eC (.int 3)) (x02 (eC (.int 4)) x0i)))) (x0j x0f 3 (x02 (x05 0) (x02 (e2 x31 (x05 1) (eC (.int 1))) (x02 (eC (.int 3)) x0i))))) x0i)) x0i)))) x5t)
 (x0y (sIf (x3d (e2 dLt (x05 2) (eC (.int 7)))) (x2g (x0j x0x 1 (x02 (x0j x0f 3 (x02 (x05 0) (x02 (e2 x31 (x05 1) (eC (.int 1))) (x02 (eC (.int 5)) x0i)))) x0i))) x5t)
 (x0y (sIf (x3d (e2 dEq (x05 2) (eC (.int 7)))) (x2g (x0j x1b 2 (x02 (x0j x12 1 (x02 (eC (.int 2)) x0i)) (x02 (x0j x1b 2 (x02 (x0j x12 1 (x02 (eC (.int 2)) x0i)) (x02 (x0j x12 1 (x02 (eC (.int 2)) x0i)) x0i))) x0i)))) x5t)
 (x0y (x1n 3 (x5c (x02 (x5c (x02 (eC (.int 0)) (x02 (eC (.int 1)) (x02 (eC (.int 2)) (x02 (eC (.int 3)) (x02 (eC (.int 4)) x0i)))))) (x02 (x5c (x02 (eC (.int 1)) (x02 (eC (.int 1)) (x02 (eC (.int 2)) (x02 (eC (.int 4)) (x02 (eC (.int 4)) x0i)))))) (x02 (x5c (x02 (eC (.int 2)) (x02 (eC (.int 2)) (x02 (eC (.int 2)) (x02 (eC (.int 4)) (x02 (eC (.int 4)) x0i)))))) (x02 (x5c (x02 (eC (.int 3)) (x02 (eC (.int 4)) (x02 (eC (.int 4)) (x02 (eC (.int 3)) (x02 (eC (.int 4)) x0i)))))) (x02 (x5c (x02 (eC (.int 4)) (x02 (eC (.int 4)) (x02 (eC (.int 4)) (x02 (eC (.int 4)) (x02 (eC (.int 4)) x0i)))))) x0i)))))))
 (x2g (x05 3)))))))
def x4w:List D->OD:=fnD 4 (y1n)
theorem x77:FnScope ["_law_script","_law_at","_law_kind","_law_rows"] ["_law_script","_law_at"] (x0b (top 43)):=fsq
theorem y86(B:Bt mg)(c18:Cal P w K mg base 2 "_law_pick" 3 x0f)(c8:Cal P w K mg base 1 "_law_chain" 1 x12)(c10:Cal P w K mg base 1 "_law_couples" 2 x1b)(c21:Cal P w K mg base 1 "_law_side_by_side" 1 x0x)(a:At K mg "_law_base" (top 43) ["_law_script","_law_at"]):Cal P w K mg base 3 "_law_base" 2 (x4w):=
 Cal.mkQ (k:=2) a x77 fun f cdv A outer s H E hr=>
  x07 (x0m (i:=2) x77.nd rfl (Or.inl rfl) (x0a c18 hr (by decide) (x00 (x01 (qv 0)) (x00 (x01 (qv 1)) (x00 x0d x03 x09) x04) x04)))
  (x07 (x22 (y8o (x01 (qv 2)) x0d) (x0c (x0k (x0a c8 hr (by decide) (x00 (x1a x0d (x0a c18 hr (by decide) (x00 (x01 (qv 0)) (x00 (x1a (x01 (qv 1)) x0d) (x00 x0d x03 x09) x0w) x04))) x03 x0w)))) x1f)
  (x07 (x22 (y8o (x01 (qv 2)) x0d) (x0c (x0k (x0a c10 hr (by decide) (x00 (x0a c8 hr (by decide) (x00 x0d x03 x09)) (x00 (x0a c8 hr (by decide) (x00 (x4g (x1y (x00 x0d (x00 x0d (x00 x0d x03 x09) x09) x09)) (x0a c18 hr (by decide) (x00 (x01 (qv 0)) (x00 (x1a (x01 (qv 1)) x0d) (x00 x0d x03 x09) x0w) x04))) x03 x0v)) x03 x0n) x0n)))) x1f)
  (x07 (x22 (y8o (x01 (qv 2)) x0d) (x0c (x0k (x0a c21 hr (by decide) (x00 (x0a c18 hr (by decide) (x00 (x01 (qv 0)) (x00 (x1a (x01 (qv 1)) x0d) (x00 x0d x03 x09) x0w) x04)) x03 x0n)))) x1f)
  (x07 (x22 (x9f hr (x01 (qv 2)) x0d) (x0c (x0k (x0a c10 hr (by decide) (x00 (x0a c8 hr (by decide) (x00 x0d x03 x09)) (x00 (x0a c10 hr (by decide) (x00 (x0a c8 hr (by decide) (x00 x0d x03 x09)) (x00 (x0a c8 hr (by decide) (x00 x0d x03 x09)) x03 x0n) x0n)) x03 x0n) x0n)))) x1f)
  (x07 (x0m (i:=3) x77.nd rfl (Or.inl rfl) (x1y (x00 (x1y (x00 x0d (x00 x0d (x00 x0d (x00 x0d (x00 x0d x03 x09) x09) x09) x09) x09)) (x00 (x1y (x00 x0d (x00 x0d (x00 x0d (x00 x0d (x00 x0d x03 x09) x09) x09) x09) x09)) (x00 (x1y (x00 x0d (x00 x0d (x00 x0d (x00 x0d (x00 x0d x03 x09) x09) x09) x09) x09)) (x00 (x1y (x00 x0d (x00 x0d (x00 x0d (x00 x0d (x00 x0d x03 x09) x09) x09) x09) x09)) (x00 (x1y (x00 x0d (x00 x0d (x00 x0d (x00 x0d (x00 x0d x03 x09) x09) x09) x09) x09)) x03 y27) y27) y27) y27) y27)))
  (x0c (x0k (x01 (qv 3)))))))))
def x8v:x13:=x0y (x1n 2 (x0j x4w 2 (x02 (x05 0) (x02 (x05 1) x0i))))
 (x0y (x1n 3 (x7y (x02 (x1g 2) x0i)))
 (x0y (x1n 4 (x2w 1 (x17 (x02 (x1g 2) x0i)) (x0o 8) x25 (j20 3 (x02 (x0j x0f 3 (x02 (x05 0) (x02 (e2 x31 (e2 x31 (x05 1) (eC (.int 2))) (x05 8)) (x02 (x1g 3) x0i)))) x0i)) false))
 (x0y (x1n 5 (x2w 1 (x50 (x05 2)) (x0o 8) x25 (y70 (x5c (x02 (eC (.int 0)) x0i)) (x1g 2)) true))
 (x0y (x7l (x17 (x02 (x1g 2) x0i)) (x0o 6) (x7l (x17 (x02 (x1g 2) x0i)) (x0o 7) (z0o 5 (qIx 4 (z0x 6)) (qIx 4 (z0x 7)) (x1e 4 (eIx (x1e 2 (x05 6)) (x05 7))))))
 (x2g (x3t (x02 (x2w 1 (x50 (x05 5)) (x0o 8) x25 (x3t (x02 (x05 8) x0i)) false) x0i)))))))
def x3n:List D->OD:=fnD 8 (x8v)
theorem x27:FnScope ["_law_script","_law_at","_law_base_here","_law_left","_law_name","_law_made","_law_one","_law_other"] ["_law_script","_law_at"] (x0b (top 44)):=fsq
abbrev x7q:List Str:=["_law_script","_law_at","_law_base_here","_law_left","_law_name","_law_made","_law_one","_law_other","_law_k"]
theorem y2g:(x7q).Nodup:=by decide +kernel
abbrev x5d:List Str:=["_law_script","_law_at","_law_base_here","_law_left","_law_name","_law_made","_law_one","_law_other","_law_row"]
theorem x75:(x5d).Nodup:=by decide +kernel
theorem y53(B:Bt mg)(c6:Cal P w K mg base 3 "_law_base" 2 x4w)(c18:Cal P w K mg base 2 "_law_pick" 3 x0f)(a:At K mg "_law_ladder" (top 44) ["_law_script","_law_at"]):Cal P w K mg base 4 "_law_ladder" 2 (x3n):=
 Cal.mkQ (k:=3) a x27 fun f cdv A outer s H E hr=>
  x07 (x0m (i:=2) x27.nd rfl (Or.inr rfl) (x0a c6 hr (by decide) (x00 (x01 (qv 0)) (x00 (x01 (qv 1)) x03 x04) x04)))
  (x07 (x0m (i:=3) x27.nd rfl (Or.inr rfl) (y14 rfl B.m_list PyProof.Rows.boot_list B.m_range (x00 (x15 B.m_len (qv 2)) x03 x0n)))
  (x07 (y45 (i:=4) (k:=1) (N':=x7q) false x27.nd rfl (Or.inl rfl) rfl rfl ⟨rfl,by decide +kernel,rfl,rfl,rfl⟩ (x0u B.m_range (x00 (x15 B.m_len (qv 2)) x03 x0n)) (fun _ _ _ _=>x0l (i:=8) (show 8<=8 by decide) y2g rfl (Or.inl rfl) (Or.inr rfl)) (fun _ _ _ _=>x23) (fun _ _ _ _=>j4y (qv 3) (x00 (x0a c18 hr (by decide) (x00 (x01 (qv 0)) (x00 (x1a (x1a (x01 (qv 1)) x0d) (x01 (qv 8))) (x00 (x15 B.m_len (qv 3)) x03 x0n) x0w) x04)) x03 x0n)))
  (x07 (y45 (i:=5) (k:=1) (N':=x5d) true x27.nd rfl (Or.inl rfl) rfl rfl ⟨rfl,by decide +kernel,rfl,rfl,rfl⟩ (x26 (x01 (qv 2))) (fun _ _ _ _=>x0l (i:=8) (show 8<=8 by decide) x75 rfl (Or.inl rfl) (Or.inr rfl)) (fun _ _ _ _=>x23) (fun _ _ _ _=>z3x (x1y (x00 x0d x03 x09)) (x15 B.m_len (qv 2))))
  (x07 (x1t PassesOwn.never rfl (x0u B.m_range (x00 (x15 B.m_len (qv 2)) x03 x0n)) (x0l (i:=6) (show 0<=6 by decide) x27.nd rfl (Or.inl rfl)) (x0c (x1t PassesOwn.never rfl (x0u B.m_range (x00 (x15 B.m_len (qv 2)) x03 x0n)) (x0l (i:=7) (show 0<=7 by decide) x27.nd rfl (Or.inl rfl)) (x0c (z5z (qv 5) (j4x (qv 4) (y9w (qv 6))) (j4x (qv 4) (y9w (qv 7))) (x0q (qv 4) (x4g (x0q (qv 2) (x01 (qv 6))) (x01 (qv 7)))))))))
  (x0c (x0k (x3s B.m_tuple PyProof.Rows.boot_tuple (x00 (x2x (k:=1) (N':=x5d) false rfl ⟨rfl,by decide +kernel,rfl,rfl,rfl⟩ (x26 (x01 (qv 5))) (fun _ _ _ _=>x0l (i:=8) (show 8<=8 by decide) x75 rfl (Or.inl rfl) (Or.inr rfl)) (fun _ _ _ _=>x23) (fun _ _ _ _=>x3s B.m_tuple PyProof.Rows.boot_tuple (x00 (x01 (qv 8)) x03 x04))) x03 x2q))))))))
def y33:x13:=x2g (eIx (x2w 1 (x17 (x02 (x1g 0) x0i)) (x0o 1) (x3d (e2 dEq (x86 (x02 (x1e 0 (x05 1)) x0i)) (x7y (x02 (x1g 0) x0i)))) (x05 1) false) (eC (.int 0)))
def x1k:List D->OD:=fnD 1 (y33)
theorem y7s:FnScope ["_law_ladder_here"] ["_law_ladder_here"] (x0b (top 45)):=fsq
abbrev y20:List Str:=["_law_ladder_here","_law_worth"]
theorem y6h:(y20).Nodup:=by decide +kernel
theorem z0i(B:Bt mg)(a:At K mg "_law_low" (top 45) ["_law_ladder_here"]):Cal P w K mg base 1 "_law_low" 1 (x1k):=
 Cal.mkQ (k:=0) a y7s fun f cdv A outer s H E hr=>
  x0c (x0k (x4g (x2x (k:=1) (N':=y20) false rfl ⟨rfl,by decide +kernel,rfl,rfl,rfl⟩ (x0u B.m_range (x00 (x15 B.m_len (qv 0)) x03 x0n)) (fun _ _ _ _=>x0l (i:=1) (show 1<=1 by decide) y6h rfl (Or.inl rfl) (Or.inr rfl)) (fun _ _ _ _=>y0y (x9f hr (y5s B.m_list PyProof.Rows.boot_list (x00 (x0q (qv 0) (x01 (qv 1))) x03 x0v)) (y14 rfl B.m_list PyProof.Rows.boot_list B.m_range (x00 (x15 B.m_len (qv 0)) x03 x0n)))) (fun _ _ _ _=>x01 (qv 1))) x0d))
def y22:x13:=x0y (x1n 2 (x0j x1k 1 (x02 (x05 0) x0i)))
 (x0y (x7l (x50 (x05 1)) (x0o 3) (x1n 2 (eIx (x1e 0 (x05 2)) (x05 3))))
 (x2g (x05 2)))
def x3h:List D->OD:=fnD 4 (y22)
theorem x56:FnScope ["_law_ladder_here","_law_worths_here","_law_here","_law_worth"] ["_law_ladder_here","_law_worths_here"] (x0b (top 46)):=fsq
theorem y7o(B:Bt mg)(c15:Cal P w K mg base 1 "_law_low" 1 x1k)(a:At K mg "_law_join" (top 46) ["_law_ladder_here","_law_worths_here"]):Cal P w K mg base 2 "_law_join" 2 (x3h):=
 Cal.mkQ (k:=1) a x56 fun f cdv A outer s H E hr=>
  x07 (x0m (i:=2) x56.nd rfl (Or.inl rfl) (x0a c15 hr (by decide) (x00 (x01 (qv 0)) x03 x04)))
  (x07 (x1t PassesOwn.never rfl (x26 (x01 (qv 1))) (x0l (i:=3) (show 0<=3 by decide) x56.nd rfl (Or.inl rfl)) (x0c (x0m (i:=2) x56.nd rfl (Or.inl rfl) (x4g (x0q (qv 0) (x01 (qv 2))) (x01 (qv 3))))))
  (x0c (x0k (x01 (qv 2)))))
def y0j:x13:=x2g (x2w 1 (x17 (x02 (x1g 0) x0i)) (x0o 2) (x3d (e2 dEq (eIx (x1e 0 (x05 2)) (x05 1)) (x05 1))) (x05 2) false)
def x2j:List D->OD:=fnD 2 (y0j)
theorem y44:FnScope ["_law_ladder_here","_law_worth"] ["_law_ladder_here","_law_worth"] (x0b (top 47)):=fsq
abbrev x8u:List Str:=["_law_ladder_here","_law_worth","_law_one"]
theorem y2l:(x8u).Nodup:=by decide +kernel
theorem y67(B:Bt mg)(a:At K mg "_law_under" (top 47) ["_law_ladder_here","_law_worth"]):Cal P w K mg base 1 "_law_under" 2 (x2j):=
 Cal.mkQ (k:=0) a y44 fun f cdv A outer s H E hr=>
  x0c (x0k (x2x (k:=1) (N':=x8u) false rfl ⟨rfl,by decide +kernel,rfl,rfl,rfl⟩ (x0u B.m_range (x00 (x15 B.m_len (qv 0)) x03 x0n)) (fun _ _ _ _=>x0l (i:=2) (show 2<=2 by decide) y2l rfl (Or.inl rfl) (Or.inr rfl)) (fun _ _ _ _=>y0y (x9f hr (x4g (x0q (qv 0) (x01 (qv 2))) (x01 (qv 1))) (x01 (qv 1)))) (fun _ _ _ _=>x01 (qv 2))))
def y2h:x13:=x0y (x1n 3 (x0j x1k 1 (x02 (x05 2) x0i)))
 (x0y (x1n 4 (x5c x0i))
 (x0y (x7l (x17 (x02 (x1g 2) x0i)) (x0o 5) (x3p (y1i 4 (x02 (eIx (x5c (x02 (x05 3) (x02 (x05 5) (x02 (x0j x0f 3 (x02 (x05 0) (x02 (e2 x31 (x05 1) (x05 5)) (x02 (x1g 2) x0i)))) x0i)))) (x0j x0f 3 (x02 (x05 0) (x02 (e2 x31 (e2 x31 (x05 1) (eC (.int 8))) (x05 5)) (x02 (eC (.int 3)) x0i))))) x0i))))
 (x0y (x1n 6 (x5c x0i))
 (x0y (x7l (x17 (x02 (x1g 2) x0i)) (x0o 5) (x3p (y1i 6 (x02 (x0j x3h 2 (x02 (x05 2) (x02 (x2w 1 (x50 (x0j x2j 2 (x02 (x05 2) (x02 (x05 5) x0i)))) (x0o 7) x25 (x1e 4 (x05 7)) false) x0i))) x0i))))
 (x2g (x3t (x02 (x05 6) x0i)))))))
def x33:List D->OD:=fnD 7 (y2h)
theorem x3k:FnScope ["_law_script","_law_at","_law_ladder_here","_law_low_here","_law_drawn","_law_worth","_law_made"] ["_law_script","_law_at","_law_ladder_here"] (x0b (top 48)):=fsq
abbrev y0p:List Str:=["_law_script","_law_at","_law_ladder_here","_law_low_here","_law_drawn","_law_worth","_law_made","_law_one"]
theorem y3x:(y0p).Nodup:=by decide +kernel
theorem y7a(B:Bt mg)(c15:Cal P w K mg base 1 "_law_low" 1 x1k)(c18:Cal P w K mg base 2 "_law_pick" 3 x0f)(c13:Cal P w K mg base 2 "_law_join" 2 x3h)(c26:Cal P w K mg base 1 "_law_under" 2 x2j)(a:At K mg "_law_rule" (top 48) ["_law_script","_law_at","_law_ladder_here"]):Cal P w K mg base 3 "_law_rule" 3 (x33):=
 Cal.mkQ (k:=2) a x3k fun f cdv A outer s H E hr=>
  x07 (x0m (i:=3) x3k.nd rfl (Or.inl rfl) (x0a c15 hr (by decide) (x00 (x01 (qv 2)) x03 x04)))
  (x07 (x0m (i:=4) x3k.nd rfl (Or.inr rfl) (x1y x03))
  (x07 (x1t PassesOwn.never rfl (x0u B.m_range (x00 (x15 B.m_len (qv 2)) x03 x0n)) (x0l (i:=5) (show 0<=5 by decide) x3k.nd rfl (Or.inl rfl)) (x0c (x2b (x2v (qv 4) (x00 (x4g (x1y (x00 (x01 (qv 3)) (x00 (x01 (qv 5)) (x00 (x0a c18 hr (by decide) (x00 (x01 (qv 0)) (x00 (x1a (x01 (qv 1)) (x01 (qv 5))) (x00 (x15 B.m_len (qv 2)) x03 x0n) x0w) x04)) x03 x0n) x04) x04)) (x0a c18 hr (by decide) (x00 (x01 (qv 0)) (x00 (x1a (x1a (x01 (qv 1)) x0d) (x01 (qv 5))) (x00 x0d x03 x09) x0w) x04))) x03 x0v)))))
  (x07 (x0m (i:=6) x3k.nd rfl (Or.inl rfl) (x1y x03))
  (x07 (x1t PassesOwn.never rfl (x0u B.m_range (x00 (x15 B.m_len (qv 2)) x03 x0n)) (x0l (i:=5) (show 0<=5 by decide) x3k.nd rfl (Or.inl rfl)) (x0c (x2b (x2v (qv 6) (x00 (x0a c13 hr (by decide) (x00 (x01 (qv 2)) (x00 (x2x (k:=1) (N':=y0p) false rfl ⟨rfl,by decide +kernel,rfl,rfl,rfl⟩ (x26 (x0a c26 hr (by decide) (x00 (x01 (qv 2)) (x00 (x01 (qv 5)) x03 x04) x04))) (fun _ _ _ _=>x0l (i:=7) (show 7<=7 by decide) y3x rfl (Or.inl rfl) (Or.inr rfl)) (fun _ _ _ _=>x23) (fun _ _ _ _=>x0q (qv 4) (x01 (qv 7)))) x03 x2q) x04)) x03 x0n)))))
  (x0c (x0k (x3s B.m_tuple PyProof.Rows.boot_tuple (x00 (x01 (qv 6)) x03 x04))))))))
def y2p:x13:=x0y (x7l (x17 (x02 (x1g 0) x0i)) (x0o 2) (x7l (x17 (x02 (x05 2) x0i)) (x0o 3) (x0y (x1n 4 (eIx (x1e 0 (x1e 1 (x05 2))) (x1e 1 (x05 3))))
 (sIf (x3d (e2 dNe (x1e 1 (eIx (x1e 0 (x05 2)) (x05 3))) (x05 4))) (x2g (eC (.bl false))) x5t))))
 (x2g (eC (.bl true)))
def x5g:List D->OD:=fnD 5 (y2p)
theorem x3q:FnScope ["_law_ladder_here","_law_rule_here","_law_one","_law_other","_law_due"] ["_law_ladder_here","_law_rule_here"] (x0b (top 49)):=fsq
theorem y2t(B:Bt mg)(a:At K mg "_law_spreads" (top 49) ["_law_ladder_here","_law_rule_here"]):Cal P w K mg base 1 "_law_spreads" 2 (x5g):=
 Cal.mkQ (k:=0) a x3q fun f cdv A outer s H E hr=>
  x07 (x1t PassesOwn.never rfl (x0u B.m_range (x00 (x15 B.m_len (qv 0)) x03 x0n)) (x0l (i:=2) (show 0<=2 by decide) x3q.nd rfl (Or.inl rfl)) (x0c (x1t PassesOwn.never rfl (x0u B.m_range (x00 (x01 (qv 2)) x03 x04)) (x0l (i:=3) (show 0<=3 by decide) x3q.nd rfl (Or.inl rfl)) (x07 (x0m (i:=4) x3q.nd rfl (Or.inl rfl) (x4g (x0q (qv 0) (x0q (qv 1) (x01 (qv 2)))) (x0q (qv 1) (x01 (qv 3)))))
  (x0c (x22 (x6j hr (x0q (qv 1) (x4g (x0q (qv 0) (x01 (qv 2))) (x01 (qv 3)))) (x01 (qv 4))) (x0c (x0k x52)) x1f))))))
  (x0c (x0k x52))
def x8h:x13:=x0y (x1n 3 (x0j x33 3 (x02 (x05 0) (x02 (x05 1) (x02 (x05 2) x0i)))))
 (x0y (sIf (x7x (x0j x5g 2 (x02 (x05 2) (x02 (x05 3) x0i)))) (x2g (x05 3)) x5t)
 (x0y (x1n 4 (x0j x0f 3 (x02 (x05 0) (x02 (e2 x31 (x05 1) (eC (.int 17))) (x02 (x1g 2) x0i)))))
 (x0y (x1n 5 (x5c (x02 (x3t (x02 (x7y (x02 (x1g 2) x0i)) x0i)) (x02 (y1d (x8a (x02 (x05 4) x0i)) (x1g 2)) x0i))))
 (x0y (x3p (y1i 5 (x02 (x3t (x02 (x2w 1 (x17 (x02 (x1g 2) x0i)) (x0o 6) x25 (eIx (x1e 2 (x05 6)) (x05 4)) false) x0i)) x0i)))
 (x2g (x1e 5 (x0j x0f 3 (x02 (x05 0) (x02 (e2 x31 (x05 1) (eC (.int 16))) (x02 (eC (.int 3)) x0i))))))))))
def x30:List D->OD:=fnD 6 (x8h)
theorem x2s:FnScope ["_law_script","_law_at","_law_ladder_here","_law_rule_here","_law_worth","_law_some"] ["_law_script","_law_at","_law_ladder_here"] (x0b (top 50)):=fsq
abbrev x4o:List Str:=["_law_script","_law_at","_law_ladder_here","_law_rule_here","_law_worth","_law_some","_law_one"]
theorem x7p:(x4o).Nodup:=by decide +kernel
theorem x8m(B:Bt mg)(c20:Cal P w K mg base 3 "_law_rule" 3 x33)(c24:Cal P w K mg base 1 "_law_spreads" 2 x5g)(c18:Cal P w K mg base 2 "_law_pick" 3 x0f)(a:At K mg "_law_spread_rule" (top 50) ["_law_script","_law_at","_law_ladder_here"]):Cal P w K mg base 4 "_law_spread_rule" 3 (x30):=
 Cal.mkQ (k:=3) a x2s fun f cdv A outer s H E hr=>
  x07 (x0m (i:=3) x2s.nd rfl (Or.inl rfl) (x0a c20 hr (by decide) (x00 (x01 (qv 0)) (x00 (x01 (qv 1)) (x00 (x01 (qv 2)) x03 x04) x04) x04)))
  (x07 (x22 (x3e (x0a c24 hr (by decide) (x00 (x01 (qv 2)) (x00 (x01 (qv 3)) x03 x04) x04))) (x0c (x0k (x01 (qv 3)))) x1f)
  (x07 (x0m (i:=4) x2s.nd rfl (Or.inr rfl) (x0a c18 hr (by decide) (x00 (x01 (qv 0)) (x00 (x1a (x01 (qv 1)) x0d) (x00 (x15 B.m_len (qv 2)) x03 x0n) x0w) x04)))
  (x07 (x0m (i:=5) x2s.nd rfl (Or.inl rfl) (x1y (x00 (x3s B.m_tuple PyProof.Rows.boot_tuple (x00 (y14 rfl B.m_list PyProof.Rows.boot_list B.m_range (x00 (x15 B.m_len (qv 2)) x03 x0n)) x03 x0n)) (x00 (y3v (x41 (x00 (x01 (qv 4)) x03 x04)) (x15 B.m_len (qv 2))) x03 x0w) x0n)))
  (x07 (x2b (x2v (qv 5) (x00 (x3s B.m_tuple PyProof.Rows.boot_tuple (x00 (x2x (k:=1) (N':=x4o) false rfl ⟨rfl,by decide +kernel,rfl,rfl,rfl⟩ (x0u B.m_range (x00 (x15 B.m_len (qv 2)) x03 x0n)) (fun _ _ _ _=>x0l (i:=6) (show 6<=6 by decide) x7p rfl (Or.inl rfl) (Or.inr rfl)) (fun _ _ _ _=>x23) (fun _ _ _ _=>x4g (x0q (qv 2) (x01 (qv 6))) (x01 (qv 4)))) x03 x2q)) x03 x0n)))
  (x0c (x0k (x0q (qv 5) (x0a c18 hr (by decide) (x00 (x01 (qv 0)) (x00 (x1a (x01 (qv 1)) x0d) (x00 x0d x03 x09) x0w) x04)))))))))
abbrev x5y:x13:=x0y (x1n 7 (e2 x31 (e2 x31 (x05 1) (eC (.int 10))) (e2 y0x (eC (.int 22)) (x05 6))))
 (x0y (x1n 8 (x0j x33 3 (x02 (x05 0) (x02 (e2 x31 (x05 7) (eC (.int 2))) (x02 (x05 2) x0i)))))
 (x0y (sIf (x7x (x05 3)) (x1n 8 (x0j x30 3 (x02 (x05 0) (x02 (e2 x31 (x05 7) (eC (.int 2))) (x02 (x05 2) x0i))))) x5t)
 (x3p (y1i 5 (x02 (x8a (x02 (x0j x0f 3 (x02 (x05 0) (x02 (x05 7) (x02 (x05 4) x0i)))) (x02 (x0j x0f 3 (x02 (x05 0) (x02 (e2 x31 (x05 7) (eC (.int 1))) (x02 (x05 4) x0i)))) (x02 (x05 8) x0i)))) x0i)))))
abbrev x6d:x13:=x0y (x1n 10 (x0j x0f 3 (x02 (x05 0) (x02 (e2 x31 (e2 x31 (x05 1) (eC (.int 3))) (e2 y0x (eC (.int 2)) (x05 6))) (x02 (x1g 2) x0i)))))
 (x3p (y1i 9 (x02 (x8a (x02 (x0j x0f 3 (x02 (x05 0) (x02 (e2 x31 (e2 x31 (x05 1) (eC (.int 4))) (e2 y0x (eC (.int 2)) (x05 6))) (x02 (x05 4) x0i)))) (x02 (x05 10) x0i))) x0i)))
def y0q:x13:=x0y (x1n 4 (e2 x31 (eC (.int 1)) (x0j x0f 3 (x02 (x05 0) (x02 (x05 1) (x02 (eC (.int 5)) x0i))))))
 (x0y (x1n 5 (x5c x0i))
 (x0y (x7l (x17 (x02 (x0j x0f 3 (x02 (x05 0) (x02 (e2 x31 (x05 1) (eC (.int 1))) (x02 (eC (.int 8)) x0i)))) x0i)) (x0o 6) (x0y (x1n 7 (e2 x31 (e2 x31 (x05 1) (eC (.int 10))) (e2 y0x (eC (.int 22)) (x05 6))))
 (x0y (x1n 8 (x0j x33 3 (x02 (x05 0) (x02 (e2 x31 (x05 7) (eC (.int 2))) (x02 (x05 2) x0i)))))
 (x0y (sIf (x7x (x05 3)) (x1n 8 (x0j x30 3 (x02 (x05 0) (x02 (e2 x31 (x05 7) (eC (.int 2))) (x02 (x05 2) x0i))))) x5t)
 (x3p (y1i 5 (x02 (x8a (x02 (x0j x0f 3 (x02 (x05 0) (x02 (x05 7) (x02 (x05 4) x0i)))) (x02 (x0j x0f 3 (x02 (x05 0) (x02 (e2 x31 (x05 7) (eC (.int 1))) (x02 (x05 4) x0i)))) (x02 (x05 8) x0i)))) x0i)))))))
 (x0y (x1n 9 (x5c x0i))
 (x0y (x7l (x17 (x02 (x0j x0f 3 (x02 (x05 0) (x02 (e2 x31 (x05 1) (eC (.int 2))) (x02 (eC (.int 4)) x0i)))) x0i)) (x0o 6) (x0y (x1n 10 (x0j x0f 3 (x02 (x05 0) (x02 (e2 x31 (e2 x31 (x05 1) (eC (.int 3))) (e2 y0x (eC (.int 2)) (x05 6))) (x02 (x1g 2) x0i)))))
 (x3p (y1i 9 (x02 (x8a (x02 (x0j x0f 3 (x02 (x05 0) (x02 (e2 x31 (e2 x31 (x05 1) (eC (.int 4))) (e2 y0x (eC (.int 2)) (x05 6))) (x02 (x05 4) x0i)))) (x02 (x05 10) x0i))) x0i)))))
 (x2g (x8a (x02 (x05 4) (x02 (x3t (x02 (x05 5) x0i)) (x02 (x3t (x02 (x05 9) x0i)) x0i)))))))))
def x4c:List D->OD:=fnD 11 (y0q)
theorem x1h:FnScope ["_law_script","_law_at","_law_ladder_here","_law_spread","_law_places","_law_ways","_law_k","_law_base_here","_law_rule_here","_law_begins","_law_worth"] ["_law_script","_law_at","_law_ladder_here","_law_spread"] (x0b (top 51)):=fsq
theorem y5q(B:Bt mg)(c18:Cal P w K mg base 2 "_law_pick" 3 x0f)(c20:Cal P w K mg base 3 "_law_rule" 3 x33)(c23:Cal P w K mg base 4 "_law_spread_rule" 3 x30)(a:At K mg "_law_chart" (top 51) ["_law_script","_law_at","_law_ladder_here","_law_spread"]):Cal P w K mg base 5 "_law_chart" 4 (x4c):=
 Cal.mkQ (k:=4) a x1h fun f cdv A outer s H E hr=>
  x07 (x0m (i:=4) x1h.nd rfl (Or.inl rfl) (x1a x0d (x0a c18 hr (by decide) (x00 (x01 (qv 0)) (x00 (x01 (qv 1)) (x00 x0d x03 x09) x04) x04))))
  (x07 (x0m (i:=5) x1h.nd rfl (Or.inl rfl) (x1y x03))
  (x07 (x1t PassesOwn.never rfl (x0u B.m_range (x00 (x0a c18 hr (by decide) (x00 (x01 (qv 0)) (x00 (x1a (x01 (qv 1)) x0d) (x00 x0d x03 x09) x0w) x04)) x03 x0n)) (x0l (i:=6) (show 0<=6 by decide) x1h.nd rfl (Or.inl rfl)) (x07 (x0m (i:=7) x1h.nd rfl (Or.inl rfl) (x1a (x1a (x01 (qv 1)) x0d) (x6k x0d (x01 (qv 6)))))
  (x07 (x0m (i:=8) x1h.nd rfl (Or.inl rfl) (x0a c20 hr (by decide) (x00 (x01 (qv 0)) (x00 (x1a (x01 (qv 7)) x0d) (x00 (x01 (qv 2)) x03 x04) x0w) x04)))
  (x07 (x22 (x3e (x01 (qv 3))) (x0c (x0m (i:=8) x1h.nd rfl (Or.inl rfl) (x0a c23 hr (by decide) (x00 (x01 (qv 0)) (x00 (x1a (x01 (qv 7)) x0d) (x00 (x01 (qv 2)) x03 x04) x0w) x04)))) x1f)
  (x0c (x2b (x2v (qv 5) (x00 (x41 (x00 (x0a c18 hr (by decide) (x00 (x01 (qv 0)) (x00 (x01 (qv 7)) (x00 (x01 (qv 4)) x03 x04) x04) x04)) (x00 (x0a c18 hr (by decide) (x00 (x01 (qv 0)) (x00 (x1a (x01 (qv 7)) x0d) (x00 (x01 (qv 4)) x03 x04) x0w) x04)) (x00 (x01 (qv 8)) x03 x04) x0n) x0n)) x03 y4v))))))))
  (x07 (x0m (i:=9) x1h.nd rfl (Or.inl rfl) (x1y x03))
  (x07 (x1t PassesOwn.never rfl (x0u B.m_range (x00 (x0a c18 hr (by decide) (x00 (x01 (qv 0)) (x00 (x1a (x01 (qv 1)) x0d) (x00 x0d x03 x09) x0w) x04)) x03 x0n)) (x0l (i:=6) (show 0<=6 by decide) x1h.nd rfl (Or.inl rfl)) (x07 (x0m (i:=10) x1h.nd rfl (Or.inl rfl) (x0a c18 hr (by decide) (x00 (x01 (qv 0)) (x00 (x1a (x1a (x01 (qv 1)) x0d) (x6k x0d (x01 (qv 6)))) (x00 (x15 B.m_len (qv 2)) x03 x0n) x0w) x04)))
  (x0c (x2b (x2v (qv 9) (x00 (x41 (x00 (x0a c18 hr (by decide) (x00 (x01 (qv 0)) (x00 (x1a (x1a (x01 (qv 1)) x0d) (x6k x0d (x01 (qv 6)))) (x00 (x01 (qv 4)) x03 x04) x0w) x04)) (x00 (x01 (qv 10)) x03 x04) x0n)) x03 y4v))))))
  (x0c (x0k (x41 (x00 (x01 (qv 4)) (x00 (x3s B.m_tuple PyProof.Rows.boot_tuple (x00 (x01 (qv 5)) x03 x04)) (x00 (x3s B.m_tuple PyProof.Rows.boot_tuple (x00 (x01 (qv 9)) x03 x04)) x03 x0n) x0n) x04))))))))
def y3n:x13:=x2g (z43 (z48 .int (x05 0)) (j5s (z48 .bool (x05 0))))
def x5r:List D->OD:=fnD 1 (y3n)
theorem y7k:FnScope ["thing"] ["thing"] (x0b (top 9)):=fsq
theorem z0u(B:Bt mg)(a:At K mg "is_whole" (top 9) ["thing"]):Cal P w K mg base 1 "is_whole" 1 (x5r):=
 Cal.mkQ (k:=0) a y7k fun f cdv A outer s H E hr=>
  x0c (x0k (y9x (y3m .int B.m_isinstance B.m_int PyProof.Rows.boot_int (x01 (qv 0))) (y90 (j5o (y3m .bool B.m_isinstance B.m_bool PyProof.Rows.boot_bool (x01 (qv 0)))))))
def x7t:x13:=x2g (z43 (x0j x5r 1 (x02 (x05 0) x0i)) (eCh dLe dLt (eC (.int 0)) (x05 0) (x05 1)))
def x1w:List D->OD:=fnD 2 (x7t)
theorem y1b:FnScope ["thing","many"] ["thing","many"] (x0b (top 10)):=fsq
theorem y2j(B:Bt mg)(c42:Cal P w K mg base 1 "is_whole" 1 x5r)(a:At K mg "is_number_of" (top 10) ["thing","many"]):Cal P w K mg base 2 "is_number_of" 2 (x1w):=
 Cal.mkQ (k:=1) a y1b fun f cdv A outer s H E hr=>
  x0c (x0k (y9x (x0a c42 hr (by decide) (x00 (x01 (qv 0)) x03 x04)) (y90 (y88 x0d (x01 (qv 0)) (x01 (qv 1))))))
def x5k:x13:=x0y (sIf (y6o (x4d (x7x (z48 .tuple (x05 0)))) (y6o (x3d (e2 dNe (x1g 0) (eC (.int 2)))) (x4d (x7x (z48 .str (x1e 0 (eC (.int 0)))))))) (x2g (eC (.bl false))) x5t)
 (x2g (x0j x1w 2 (x02 (x1e 0 (eC (.int 1))) (x02 (z5u (x05 1) (x1e 0 (eC (.int 0))) (eC (.int 0))) x0i))))
def x2c:List D->OD:=fnD 2 (x5k)
theorem x8w:FnScope ["thing","many_by_name"] ["thing","many_by_name"] (x0b (top 12)):=fsq
theorem x9o(B:Bt mg)(c38:Cal P w K mg base 2 "is_number_of" 2 x1w)(a:At K mg "is_named_number" (top 12) ["thing","many_by_name"]):Cal P w K mg base 3 "is_named_number" 2 (x2c):=
 Cal.mkQ (k:=2) a x8w fun f cdv A outer s H E hr=>
  x07 (x22 (y50 (x96 (x4i (x3e (y3m .tuple B.m_isinstance B.m_tuple PyProof.Rows.boot_tuple (x01 (qv 0))))) (x96 (x6j hr (x15 B.m_len (qv 0)) x0d) (x6u (x4i (x3e (y3m .str B.m_isinstance B.m_str PyProof.Rows.boot_str (x0q (qv 0) x0d)))))))) (x0c (x0k x52)) x1f)
  (x0c (x0k (x0a c38 hr (by decide) (x00 (x0q (qv 0) x0d) (x00 (z92 hr (x01 (qv 1)) (x0q (qv 0) x0d) x0d) x03 x0n) x0v))))
def y2e:x13:=x2g (x0j x2c 2 (x02 (x05 1) (x02 (y6a "begin" "way" (x5q 0 2) (x5q 0 1)) x0i)))
def x1c:List D->OD:=fnD 2 (y2e)
theorem z0v:FnScope ["chart","thing"] ["chart","thing"] (x0b (top 28)):=fsq
theorem z1w(B:Bt mg)(c37:Cal P w K mg base 3 "is_named_number" 2 x2c)(a:At K mg "is_step" (top 28) ["chart","thing"]):Cal P w K mg base 4 "is_step" 2 (x1c):=
 Cal.mkQ (k:=3) a z0v fun f cdv A outer s H E hr=>
  x0c (x0k (x0a c37 hr (by decide) (x00 (x01 (qv 1)) (x00 (j1m (by decide) (y9g B.m_len (qv 0)) (y9g B.m_len (qv 0))) x03 z9g) x04)))
def x6g:x13:=sIf (x4d (x7x (eB y9m (x02 (x2w 1 (x50 (x05 1)) (x0o 2) x25 (x0j x1c 2 (x02 (x05 0) (x02 (x05 2) x0i))) false) x0i)))) y9f (x5t)
def x1m:List D->OD:=fnD 2 (x6g)
theorem x5l:FnScope ["chart","steps"] ["chart","steps"] (x0b (top 29)):=fsq
abbrev x44:List Str:=["chart","steps","step"]
theorem x55:(x44).Nodup:=by decide +kernel
theorem y0u(B:Bt mg)(c41:Cal P w K mg base 4 "is_step" 2 x1c)(a:At K mg "refuse_no_step" (top 29) ["chart","steps"]):Cal P w K mg base 5 "refuse_no_step" 2 (x1m):=
 Cal.mkQ (k:=4) a x5l fun f cdv A outer s H E hr=>
  x0c (x22 (x4i (x3e (y8w rfl B.m_all (x00 (x2x (k:=1) (N':=x44) false rfl ⟨rfl,by decide +kernel,rfl,rfl,rfl⟩ (x26 (x01 (qv 1))) (fun _ _ _ _=>x0l (i:=2) (show 2<=2 by decide) x55 rfl (Or.inl rfl) (Or.inr rfl)) (fun _ _ _ _=>x23) (fun _ _ _ _=>x0a c41 hr (by decide) (x00 (x01 (qv 0)) (x00 (x01 (qv 2)) x03 x04) x04))) x03 x2q)))) (x0c z1v) x1f)
def y0t:y11:=j1z (x4d (x7x (eB y9m (x02 (x2w 1 (x50 (x05 1)) (x0o 2) x25 (x0j x1c 2 (x02 (x05 0) (x02 (x05 2) x0i))) false) x0i)))) (y9s "NoStep") (z55)
def x43:List D->Option Str:=fnX 2 y0t
theorem x9w(B:Bt mg)(T:Xt K mg)(c41:Cal P w K mg base 4 "is_step" 2 x1c)(a:At K mg "refuse_no_step" (top 29) ["chart","steps"]):y7l P w K mg base 5 "refuse_no_step" 2 x43:=
 y7l.mkQ (k:=4) a x5l fun f cdv A outer s H E hr=>
  y1p (z99 (x4i (x3e (y8w rfl B.m_all (x00 (x2x (k:=1) (N':=x44) false rfl ⟨rfl,by decide +kernel,rfl,rfl,rfl⟩ (x26 (x01 (qv 1))) (fun _ _ _ _=>x0l (i:=2) (show 2<=2 by decide) x55 rfl (Or.inl rfl) (Or.inr rfl)) (fun _ _ _ _=>x23) (fun _ _ _ _=>x0a c41 hr (by decide) (x00 (x01 (qv 0)) (x00 (x01 (qv 2)) x03 x04) x04))) x03 x2q)))) (y1p (z1s hr T.x_NoStep)) z52)
def x5j:x13:=x0y (sIf (x3d (e2 dEq (x1e 2 (eC (.int 0))) (eC (.str "begin")))) (x2g (eIx (x1e 0 (eC (.int 2))) (x1e 2 (eC (.int 1))))) x5t)
 (x0y (x1n 3 (eIx (x1e 0 (eC (.int 1))) (x1e 2 (eC (.int 1)))))
 (x2g (x8a (x02 (x1e 3 (eC (.int 1))) (x02 (eIx (x1e 3 (eC (.int 2))) (x1e 1 (x1e 3 (eC (.int 0))))) x0i)))))
def x2e:List D->OD:=fnD 4 (x5j)
theorem x58:FnScope ["chart","worths","step","way"] ["chart","worths","step"] (x0b (top 30)):=fsq
theorem x9t(B:Bt mg)(a:At K mg "place_and_worth" (top 30) ["chart","worths","step"]):Cal P w K mg base 1 "place_and_worth" 3 (x2e):=
 Cal.mkQ (k:=0) a x58 fun f cdv A outer s H E hr=>
  x07 (x22 (x9f hr (x0q (qv 2) x0d) x4z) (x0c (x0k (x4g (x0q (qv 0) x0d) (x0q (qv 2) x0d)))) x1f)
  (x07 (x0m (i:=3) x58.nd rfl (Or.inl rfl) (x4g (x0q (qv 0) x0d) (x0q (qv 2) x0d)))
  (x0c (x0k (x41 (x00 (x0q (qv 3) x0d) (x00 (x4g (x0q (qv 3) x0d) (x0q (qv 1) (x0q (qv 3) x0d))) x03 x0v) x0v)))))
def x6s:x13:=x0y (x1n 4 (x0j x2e 3 (x02 (x05 1) (x02 (x05 2) (x02 (x05 3) x0i)))))
 (x0y (x1n 5 (x1e 4 (eC (.int 0))))
 (x0y (x1n 6 (eIx (x1e 0 (x1e 2 (x05 5))) (x1e 4 (eC (.int 1)))))
 (x2g (j1s (j1s (eSl (x05 2) x78 (x51 (x05 5))) (x8a (x02 (x05 6) x0i))) (eSl (x05 2) (x51 (e2 x31 (x05 5) (eC (.int 1)))) x78)))))
def x18:List D->OD:=fnD 7 (x6s)
theorem x3g:FnScope ["ladder","chart","worths","step","coming","place","joined"] ["ladder","chart","worths","step"] (x0b (top 31)):=fsq
theorem y1r(B:Bt mg)(c49:Cal P w K mg base 1 "place_and_worth" 3 x2e)(a:At K mg "worths_behind" (top 31) ["ladder","chart","worths","step"]):Cal P w K mg base 2 "worths_behind" 4 (x18):=
 Cal.mkQ (k:=1) a x3g fun f cdv A outer s H E hr=>
  x07 (x0m (i:=4) x3g.nd rfl (Or.inl rfl) (x0a c49 hr (by decide) (x00 (x01 (qv 1)) (x00 (x01 (qv 2)) (x00 (x01 (qv 3)) x03 x04) x04) x04)))
  (x07 (x0m (i:=5) x3g.nd rfl (Or.inl rfl) (x0q (qv 4) x0d))
  (x07 (x0m (i:=6) x3g.nd rfl (Or.inl rfl) (x4g (x0q (qv 0) (x0q (qv 2) (x01 (qv 5)))) (x0q (qv 4) x0d)))
  (x0c (x0k (y8y (y8y (z76 (x01 (qv 2)) x3v (x3c (x01 (qv 5)))) (x41 (x00 (x01 (qv 6)) x03 x04))) (z76 (x01 (qv 2)) (x3c (x1a (x01 (qv 5)) x0d)) x3v))))))
abbrev y54:x13:=x0y (x1n 5 (x05 3))
 (x7l (x50 (x05 2)) (x0o 6) (x0y (x1n 7 (x0j x18 4 (x02 (x05 0) (x02 (x05 1) (x02 (x05 3) (x02 (x05 6) x0i))))))
 (x0y (sIf (x3d (e2 dNe (x05 7) (x05 3))) (x3p (y1i 4 (x02 (x05 6) x0i))) x5t)
 (x1n 3 (x05 7)))))
abbrev y13:x13:=x0y (x1n 7 (x0j x18 4 (x02 (x05 0) (x02 (x05 1) (x02 (x05 3) (x02 (x05 6) x0i))))))
 (x0y (sIf (x3d (e2 dNe (x05 7) (x05 3))) (x3p (y1i 4 (x02 (x05 6) x0i))) x5t)
 (x1n 3 (x05 7)))
def z3i:x13:=x0y (x1n 4 (x5c x0i))
 (x0y (x1n 5 (eC .non))
 (x0y (y5c (x3d (e2 dNe (x05 3) (x05 5))) (x0y (x1n 5 (x05 3))
 (x7l (x50 (x05 2)) (x0o 6) (x0y (x1n 7 (x0j x18 4 (x02 (x05 0) (x02 (x05 1) (x02 (x05 3) (x02 (x05 6) x0i))))))
 (x0y (sIf (x3d (e2 dNe (x05 7) (x05 3))) (x3p (y1i 4 (x02 (x05 6) x0i))) x5t)
 (x1n 3 (x05 7)))))))
 (x2g (x8a (x02 (x05 3) (x02 (x05 4) x0i))))))
def x69:List D->OD:=fnD 8 (z3i)
theorem x62:FnScope ["ladder","chart","order","worths","raising","ahead","step","behind"] ["ladder","chart","order","worths"] (x0b (top 33)):=fsq
theorem z8o(B:Bt mg)(c55:Cal P w K mg base 2 "worths_behind" 4 x18)(a:At K mg "risen" (top 33) ["ladder","chart","order","worths"]):Cal P w K mg base 3 "risen" 4 (x69):=
 Cal.mkQ (k:=2) a x62 fun f cdv A outer s H E hr=>
  x07 (x0m (i:=4) x62.nd rfl (Or.inl rfl) (x1y x03))
  (x07 (x0m (i:=5) x62.nd rfl (Or.inl rfl) y5x)
  (x07 (y5o PassesOwn.never (x6j hr (x01 (qv 3)) (x01 (qv 5))) (x07 (x0m (i:=5) x62.nd rfl (Or.inl rfl) (x01 (qv 3)))
  (x0c (x1t PassesOwn.never rfl (x26 (x01 (qv 2))) (x0l (i:=6) (show 0<=6 by decide) x62.nd rfl (Or.inl rfl)) (x07 (x0m (i:=7) x62.nd rfl (Or.inl rfl) (x0a c55 hr (by decide) (x00 (x01 (qv 0)) (x00 (x01 (qv 1)) (x00 (x01 (qv 3)) (x00 (x01 (qv 6)) x03 x04) x04) x04) x04)))
  (x07 (x22 (x6j hr (x01 (qv 7)) (x01 (qv 3))) (x0c (x2b (x2v (qv 4) (x00 (x01 (qv 6)) x03 x04)))) x1f)
  (x0c (x0m (i:=3) x62.nd rfl (Or.inl rfl) (x01 (qv 7))))))))))
  (x0c (x0k (x41 (x00 (x01 (qv 3)) (x00 (x01 (qv 4)) x03 x04) x04))))))
def x80:x13:=x2g (z9n (x02 (x05 0) x0i))
def x3f:List D->OD:=fnD 1 (x80)
theorem y21:FnScope ["many"] ["many"] (x0b (top 14)):=fsq
theorem y2u(B:Bt mg)(a:At K mg "row_of_least" (top 14) ["many"]):Cal P w K mg base 1 "row_of_least" 1 (x3f):=
 Cal.mkQ (k:=0) a y21 fun f cdv A outer s H E hr=>
  x0c (x0k (j02 rfl B.m_tuple PyProof.Rows.boot_tuple B.m_range (x00 (x01 (qv 0)) x03 x04)))
def y3k:x13:=x2g (y8l (x05 0) (x02 (x0j x3f 1 (x02 (x1g 0) x0i)) x0i))
def x45:List D->OD:=fnD 1 (y3k)
theorem y82:FnScope ["ladder"] ["ladder"] (x0b (top 15)):=fsq
theorem z0g(B:Bt mg)(c53:Cal P w K mg base 1 "row_of_least" 1 x3f)(a:At K mg "least_of" (top 15) ["ladder"]):Cal P w K mg base 2 "least_of" 1 (x45):=
 Cal.mkQ (k:=1) a y82 fun f cdv A outer s H E hr=>
  x0c (x0k (z7d hr (x01 (qv 0)) (x00 (x0a c53 hr (by decide) (x00 (x15 B.m_len (qv 0)) x03 x0n)) x03 x0n)))
def y9n:x13:=x2g (x3t (x02 (y70 (x5c (x02 (x0j x45 1 (x02 (x05 0) x0i)) x0i)) (x1e 1 (eC (.int 0)))) x0i))
def x46:List D->OD:=fnD 2 (y9n)
theorem z3t:FnScope ["ladder","chart"] ["ladder","chart"] (x0b (top 25)):=fsq
theorem z59(B:Bt mg)(c46:Cal P w K mg base 2 "least_of" 1 x45)(a:At K mg "lowest" (top 25) ["ladder","chart"]):Cal P w K mg base 3 "lowest" 2 (x46):=
 Cal.mkQ (k:=2) a z3t fun f cdv A outer s H E hr=>
  x0c (x0k (x3s B.m_tuple PyProof.Rows.boot_tuple (x00 (z3x (x1y (x00 (x0a c46 hr (by decide) (x00 (x01 (qv 0)) x03 x04)) x03 x0n)) (x0q (qv 1) x0d)) x03 x0w)))
def y3i:x13:=x0y (x3p (x0j x1m 2 (x02 (x05 1) (x02 (x05 2) x0i))))
 (x0y (x1n 3 (x0j x69 4 (x02 (x05 0) (x02 (x05 1) (x02 (x05 2) (x02 (x0j x46 2 (x02 (x05 0) (x02 (x05 1) x0i))) x0i))))))
 (x2g (x8a (x02 (x1e 3 (eC (.int 0))) (x02 (eB y7h (x02 (x1e 3 (eC (.int 1))) x0i)) x0i)))))
def x5o:List D->OD:=fnD 4 (y3i)
theorem y24:FnScope ["ladder","chart","order","ended"] ["ladder","chart","order"] (x0b (top 34)):=fsq
theorem y9z(B:Bt mg)(c51:Cal P w K mg base 5 "refuse_no_step" 2 x1m)(c52:Cal P w K mg base 3 "risen" 4 x69)(c47:Cal P w K mg base 3 "lowest" 2 x46)(a:At K mg "least_by" (top 34) ["ladder","chart","order"]):Cal P w K mg base 6 "least_by" 3 (x5o):=
 Cal.mkQ (k:=5) a y24 fun f cdv A outer s H E hr=>
  x07 (x2b (x0a c51 hr (by decide) (x00 (x01 (qv 1)) (x00 (x01 (qv 2)) x03 x04) x04)))
  (x07 (x0m (i:=3) y24.nd rfl (Or.inl rfl) (x0a c52 hr (by decide) (x00 (x01 (qv 0)) (x00 (x01 (qv 1)) (x00 (x01 (qv 2)) (x00 (x0a c47 hr (by decide) (x00 (x01 (qv 0)) (x00 (x01 (qv 1)) x03 x04) x04)) x03 x0n) x04) x04) x04)))
  (x0c (x0k (x41 (x00 (x0q (qv 3) x0d) (x00 (y3l B.m_len (x00 (x0q (qv 3) x0d) x03 x0v)) x03 x0n) x0v)))))
def y1t:x13:=x0y (x1n 1 (x2w 1 (x17 (x02 (eB y7h (x02 (x1e 0 (eC (.int 2))) x0i)) x0i)) (x0o 2) x25 (x8a (x02 (eC (.str "begin")) (x02 (x05 2) x0i))) false))
 (x2g (x65 (x05 1) (x2w 1 (x17 (x02 (eB y7h (x02 (x1e 0 (eC (.int 1))) x0i)) x0i)) (x0o 2) x25 (x8a (x02 (eC (.str "way")) (x02 (x05 2) x0i))) false)))
def x37:List D->OD:=fnD 2 (y1t)
theorem y0d:FnScope ["chart","begins"] ["chart"] (x0b (top 27)):=fsq
abbrev x72:List Str:=["chart","begins","number"]
theorem x8z:(x72).Nodup:=by decide +kernel
theorem y6v(B:Bt mg)(a:At K mg "all_steps" (top 27) ["chart"]):Cal P w K mg base 1 "all_steps" 1 (x37):=
 Cal.mkQ (k:=0) a y0d fun f cdv A outer s H E hr=>
  x07 (y45 (i:=1) (k:=1) (N':=x72) false y0d.nd rfl (Or.inl rfl) rfl rfl ⟨rfl,by decide +kernel,rfl,rfl,rfl⟩ (x0u B.m_range (x00 (y3l B.m_len (x00 (x0q (qv 0) x0d) x03 x0v)) x03 x0n)) (fun _ _ _ _=>x0l (i:=2) (show 2<=2 by decide) x8z rfl (Or.inl rfl) (Or.inr rfl)) (fun _ _ _ _=>x23) (fun _ _ _ _=>x41 (x00 x4z (x00 (x01 (qv 2)) x03 x04) x09)))
  (x0c (x0k (x5e (x01 (qv 1)) (x2x (k:=1) (N':=x72) false rfl ⟨rfl,by decide +kernel,rfl,rfl,rfl⟩ (x0u B.m_range (x00 (y3l B.m_len (x00 (x0q (qv 0) x0d) x03 x0v)) x03 x0n)) (fun _ _ _ _=>x0l (i:=2) (show 2<=2 by decide) x8z rfl (Or.inl rfl) (Or.inr rfl)) (fun _ _ _ _=>x23) (fun _ _ _ _=>x41 (x00 x4z (x00 (x01 (qv 2)) x03 x04) x09))))))
def z1i:x13:=x2g (eIx (x0j x5o 3 (x02 (x05 0) (x02 (x05 1) (x02 (x0j x37 1 (x02 (x05 1) x0i)) x0i)))) (eC (.int 0)))
def y26:List D->OD:=fnD 2 (z1i)
theorem z5c:FnScope ["ladder","chart"] ["ladder","chart"] (x0b (top 26)):=fsq
theorem z9p(B:Bt mg)(c45:Cal P w K mg base 6 "least_by" 3 x5o)(c30:Cal P w K mg base 1 "all_steps" 1 x37)(a:At K mg "least" (top 26) ["ladder","chart"]):Cal P w K mg base 7 "least" 2 (y26):=
 Cal.mkQ (k:=6) a z5c fun f cdv A outer s H E hr=>
  x0c (x0k (x4g (x0a c45 hr (by decide) (x00 (x01 (qv 0)) (x00 (x01 (qv 1)) (x00 (x0a c30 hr (by decide) (x00 (x01 (qv 1)) x03 x04)) x03 x0n) x04) x04)) x0d))
def y2d:x13:=x2g (eIx (x0j x69 4 (x02 (x05 0) (x02 (x05 1) (x02 (x0j x37 1 (x02 (x05 1) x0i)) (x02 (x0j x46 2 (x02 (x05 0) (x02 (x05 1) x0i))) x0i))))) (eC (.int 1)))
def x4t:List D->OD:=fnD 2 (y2d)
theorem y6n:FnScope ["ladder","chart"] ["ladder","chart"] (x0b (top 36)):=fsq
theorem y75(B:Bt mg)(c52:Cal P w K mg base 3 "risen" 4 x69)(c30:Cal P w K mg base 1 "all_steps" 1 x37)(c47:Cal P w K mg base 3 "lowest" 2 x46)(a:At K mg "paper_for" (top 36) ["ladder","chart"]):Cal P w K mg base 4 "paper_for" 2 (x4t):=
 Cal.mkQ (k:=3) a y6n fun f cdv A outer s H E hr=>
  x0c (x0k (x4g (x0a c52 hr (by decide) (x00 (x01 (qv 0)) (x00 (x01 (qv 1)) (x00 (x0a c30 hr (by decide) (x00 (x01 (qv 1)) x03 x04)) (x00 (x0a c47 hr (by decide) (x00 (x01 (qv 0)) (x00 (x01 (qv 1)) x03 x04) x04)) x03 x0n) x0n) x04) x04)) x0d))
def x5u:x13:=x2g (x65 (x2w 1 (x17 (x02 (eB y7h (x02 (x1e 0 (eC (.int 2))) x0i)) x0i)) (x0o 1) x25 (x8a (x02 (eC (.str "begin")) (x02 (x05 1) x0i))) false) (x2w 1 (x17 (x02 (eB y7h (x02 (x1e 0 (eC (.int 1))) x0i)) x0i)) (x0o 1) x25 (x8a (x02 (eC (.str "way")) (x02 (x05 1) x0i))) false))
def x14:List D->OD:=fnD 1 (x5u)
theorem x8t:FnScope ["_law_chart_here"] ["_law_chart_here"] (x0b (top 58)):=fsq
abbrev x3y:List Str:=["_law_chart_here","_law_k"]
theorem x4q:(x3y).Nodup:=by decide +kernel
theorem y03(B:Bt mg)(a:At K mg "_law_every_step" (top 58) ["_law_chart_here"]):Cal P w K mg base 1 "_law_every_step" 1 (x14):=
 Cal.mkQ (k:=0) a x8t fun f cdv A outer s H E hr=>
  x0c (x0k (x5e (x2x (k:=1) (N':=x3y) false rfl ⟨rfl,by decide +kernel,rfl,rfl,rfl⟩ (x0u B.m_range (x00 (y3l B.m_len (x00 (x0q (qv 0) x0d) x03 x0v)) x03 x0n)) (fun _ _ _ _=>x0l (i:=1) (show 1<=1 by decide) x4q rfl (Or.inl rfl) (Or.inr rfl)) (fun _ _ _ _=>x23) (fun _ _ _ _=>x41 (x00 x4z (x00 (x01 (qv 1)) x03 x04) x09))) (x2x (k:=1) (N':=x3y) false rfl ⟨rfl,by decide +kernel,rfl,rfl,rfl⟩ (x0u B.m_range (x00 (y3l B.m_len (x00 (x0q (qv 0) x0d) x03 x0v)) x03 x0n)) (fun _ _ _ _=>x0l (i:=1) (show 1<=1 by decide) x4q rfl (Or.inl rfl) (Or.inr rfl)) (fun _ _ _ _=>x23) (fun _ _ _ _=>x41 (x00 x4z (x00 (x01 (qv 1)) x03 x04) x09)))))
def x4s:x13:=x0y (x1n 4 (x65 (x0j x14 1 (x02 (x05 2) x0i)) (x5c (x02 (x8a (x02 (eC (.str "way")) (x02 (eC (.int 60)) x0i))) x0i))))
 (x0y (x1n 5 (x0j x0f 3 (x02 (x05 0) (x02 (x05 1) (x02 (e2 x31 (x1g 3) (eC (.int 1))) x0i)))))
 (x0y (x1n 6 (x1e 4 (x0j x0f 3 (x02 (x05 0) (x02 (e2 x31 (x05 1) (eC (.int 1))) (x02 (x1g 4) x0i))))))
 (x0y (x1n 7 (x5c (x02 (x65 (y6q (x05 3) x78 (x51 (x05 5))) (y6q (x05 3) (x51 (e2 x31 (x05 5) (eC (.int 1)))) x78)) (x02 (x65 (x65 (y6q (x05 3) x78 (x51 (x05 5))) (x5c (x02 (x05 6) x0i))) (y6q (x05 3) (x51 (x05 5)) x78)) x0i))))
 (x0y (x3p (j1w 7 (x5c (x02 (x65 (x05 3) (y6q (x05 3) x78 (x51 (x05 5)))) (x02 (j0w (x05 3)) x0i)))))
 (x0y (x1n 8 (y6q (x05 3) (x51 (x05 5)) (x51 (e2 x31 (x05 5) (eC (.int 2))))))
 (x0y (x3p (y1i 7 (x02 (x65 (x65 (y6q (x05 3) x78 (x51 (x05 5))) (j0w (x05 8))) (y6q (x05 3) (x51 (e2 x31 (x05 5) (eC (.int 2)))) x78)) x0i)))
 (x2g (x1e 7 (x0j x0f 3 (x02 (x05 0) (x02 (e2 x31 (x05 1) (eC (.int 2))) (x02 (eC (.int 5)) x0i))))))))))))
def x20:List D->OD:=fnD 9 (x4s)
theorem x1d:FnScope ["_law_script","_law_at","_law_chart_here","_law_steps","_law_every","_law_place","_law_new","_law_some","_law_pair"] ["_law_script","_law_at","_law_chart_here","_law_steps"] (x0b (top 62)):=fsq
theorem x8e(B:Bt mg)(c11:Cal P w K mg base 1 "_law_every_step" 1 x14)(c18:Cal P w K mg base 2 "_law_pick" 3 x0f)(a:At K mg "_law_spoilt_steps" (top 62) ["_law_script","_law_at","_law_chart_here","_law_steps"]):Cal P w K mg base 3 "_law_spoilt_steps" 4 (x20):=
 Cal.mkQ (k:=2) a x1d fun f cdv A outer s H E hr=>
  x07 (x0m (i:=4) x1d.nd rfl (Or.inl rfl) (x5e (x0a c11 hr (by decide) (x00 (x01 (qv 2)) x03 x04)) (x1y (x00 (x41 (x00 x4z (x00 x0d x03 x09) x09)) x03 y4v))))
  (x07 (x0m (i:=5) x1d.nd rfl (Or.inl rfl) (x0a c18 hr (by decide) (x00 (x01 (qv 0)) (x00 (x01 (qv 1)) (x00 (x1a (x15 B.m_len (qv 3)) x0d) x03 x0w) x04) x04)))
  (x07 (x0m (i:=6) x1d.nd rfl (Or.inl rfl) (x0q (qv 4) (x0a c18 hr (by decide) (x00 (x01 (qv 0)) (x00 (x1a (x01 (qv 1)) x0d) (x00 (x15 B.m_len (qv 4)) x03 x0n) x0w) x04))))
  (x07 (x0m (i:=7) x1d.nd rfl (Or.inl rfl) (x1y (x00 (x5e (y06 (x01 (qv 3)) x3v (x3c (x01 (qv 5)))) (y06 (x01 (qv 3)) (x3c (x1a (x01 (qv 5)) x0d)) x3v)) (x00 (x5e (x5e (y06 (x01 (qv 3)) x3v (x3c (x01 (qv 5)))) (x1y (x00 (x01 (qv 6)) x03 x04))) (y06 (x01 (qv 3)) (x3c (x01 (qv 5))) x3v)) x03 x0w) x0w)))
  (x07 (x2b (y6e (qv 7) (x1y (x00 (x5e (x01 (qv 3)) (y06 (x01 (qv 3)) x3v (x3c (x01 (qv 5))))) (x00 (z83 (x01 (qv 3))) x03 x0v) x0w))))
  (x07 (x0m (i:=8) x1d.nd rfl (Or.inl rfl) (y06 (x01 (qv 3)) (x3c (x01 (qv 5))) (x3c (x1a (x01 (qv 5)) x0d))))
  (x07 (x2b (x2v (qv 7) (x00 (x5e (x5e (y06 (x01 (qv 3)) x3v (x3c (x01 (qv 5)))) (z83 (x01 (qv 8)))) (y06 (x01 (qv 3)) (x3c (x1a (x01 (qv 5)) x0d)) x3v)) x03 x0w)))
  (x0c (x0k (x0q (qv 7) (x0a c18 hr (by decide) (x00 (x01 (qv 0)) (x00 (x1a (x01 (qv 1)) x0d) (x00 x0d x03 x09) x0w) x04)))))))))))
def y1g:x13:=x0y (sIf (x3d (e2 dEq (x1e 3 (eC (.int 0))) (eC (.str "begin")))) (z8e (eIx (x1e 1 (eC (.int 2))) (x1e 3 (eC (.int 1)))) (y5k (x11 (x0o 4) (x11 (x0o 5) x63)))) (x0y (z8e (eIx (x1e 1 (eC (.int 1))) (x1e 3 (eC (.int 1)))) (y5k (x11 (x0o 6) (x11 (x0o 4) (x11 (x0o 7) x63)))))
 (x1n 5 (x1e 7 (x1e 2 (x05 6))))))
 (x2g (j1s (j1s (eSl (x05 2) x78 (x51 (x05 4))) (x8a (x02 (eIx (x1e 0 (x1e 2 (x05 4))) (x05 5)) x0i))) (eSl (x05 2) (x51 (e2 x31 (x05 4) (eC (.int 1)))) x78)))
def x2t:List D->OD:=fnD 8 (y1g)
theorem x38:FnScope ["_law_ladder_here","_law_chart_here","_law_worths_here","_law_step_here","_law_place","_law_worth","_law_start","_law_rule_here"] ["_law_ladder_here","_law_chart_here","_law_worths_here","_law_step_here"] (x0b (top 59)):=fsq
theorem y6w(B:Bt mg)(a:At K mg "_law_step" (top 59) ["_law_ladder_here","_law_chart_here","_law_worths_here","_law_step_here"]):Cal P w K mg base 1 "_law_step" 4 (x2t):=
 Cal.mkQ (k:=0) a x38 fun f cdv A outer s H E hr=>
  x07 (x22 (x9f hr (x0q (qv 3) x0d) x4z) (x0c (z39 (x4g (x0q (qv 1) x0d) (x0q (qv 3) x0d)) (x9z (n:=2) rfl (x1x (x0l (i:=4) (show 0<=4 by decide) x38.nd rfl (Or.inl rfl)) (x1x (x0l (i:=5) (show 0<=5 by decide) x38.nd rfl (Or.inl rfl)) x7e)) y6u))) (x07 (z39 (x4g (x0q (qv 1) x0d) (x0q (qv 3) x0d)) (x9z (n:=3) rfl (x1x (x0l (i:=6) (show 0<=6 by decide) x38.nd rfl (Or.inl rfl)) (x1x (x0l (i:=4) (show 0<=4 by decide) x38.nd rfl (Or.inl rfl)) (x1x (x0l (i:=7) (show 0<=7 by decide) x38.nd rfl (Or.inl rfl)) x7e))) y79))
  (x0c (x0m (i:=5) x38.nd rfl (Or.inl rfl) (x0q (qv 7) (x0q (qv 2) (x01 (qv 6))))))))
  (x0c (x0k (y8y (y8y (z76 (x01 (qv 2)) x3v (x3c (x01 (qv 4)))) (x41 (x00 (x4g (x0q (qv 0) (x0q (qv 2) (x01 (qv 4)))) (x01 (qv 5))) x03 x0v))) (z76 (x01 (qv 2)) (x3c (x1a (x01 (qv 4)) x0d)) x3v))))
abbrev x4a:x13:=x0y (sIf (x3d (e2 x8y (x05 4) (x0j x14 1 (x02 (x05 1) x0i)))) (x2g (eC (.str "no step"))) x5t)
 (x1n 3 (x0j x2t 4 (x02 (x05 0) (x02 (x05 1) (x02 (x05 3) (x02 (x05 4) x0i))))))
def x97:x13:=x0y (x1n 3 (y1d (x8a (x02 (x0j x1k 1 (x02 (x05 0) x0i)) x0i)) (x1e 1 (eC (.int 0)))))
 (x0y (x7l (x50 (x05 2)) (x0o 4) (x0y (sIf (x3d (e2 x8y (x05 4) (x0j x14 1 (x02 (x05 1) x0i)))) (x2g (eC (.str "no step"))) x5t)
 (x1n 3 (x0j x2t 4 (x02 (x05 0) (x02 (x05 1) (x02 (x05 3) (x02 (x05 4) x0i))))))))
 (x2g (x05 3)))
def x3x:List D->OD:=fnD 5 (x97)
theorem x47:FnScope ["_law_ladder_here","_law_chart_here","_law_steps","_law_worths_here","_law_step_here"] ["_law_ladder_here","_law_chart_here","_law_steps"] (x0b (top 61)):=fsq
theorem y4m(B:Bt mg)(c15:Cal P w K mg base 1 "_law_low" 1 x1k)(c11:Cal P w K mg base 1 "_law_every_step" 1 x14)(c25:Cal P w K mg base 1 "_law_step" 4 x2t)(a:At K mg "_law_walked" (top 61) ["_law_ladder_here","_law_chart_here","_law_steps"]):Cal P w K mg base 2 "_law_walked" 3 (x3x):=
 Cal.mkQ (k:=1) a x47 fun f cdv A outer s H E hr=>
  x07 (x0m (i:=3) x47.nd rfl (Or.inl rfl) (y3v (x41 (x00 (x0a c15 hr (by decide) (x00 (x01 (qv 0)) x03 x04)) x03 x0n)) (x0q (qv 1) x0d)))
  (x07 (x1t PassesOwn.never rfl (x26 (x01 (qv 2))) (x0l (i:=4) (show 0<=4 by decide) x47.nd rfl (Or.inl rfl)) (x07 (x22 (z1g hr (x01 (qv 4)) (x0a c11 hr (by decide) (x00 (x01 (qv 1)) x03 x04))) (x0c (x0k x4z)) x1f)
  (x0c (x0m (i:=3) x47.nd rfl (Or.inl rfl) (x0a c25 hr (by decide) (x00 (x01 (qv 0)) (x00 (x01 (qv 1)) (x00 (x01 (qv 3)) (x00 (x01 (qv 4)) x03 x04) x04) x04) x04))))))
  (x0c (x0k (x01 (qv 3)))))
def x9l:x13:=x2g (x3t (x02 (x2w 1 (x17 (x02 (x1e 3 (eC (.int 0))) x0i)) (x0o 4) x25 (x0j x0f 3 (x02 (x05 0) (x02 (e2 x31 (x05 1) (x05 4)) (x02 (x1g 2) x0i)))) false) x0i))
def x3m:List D->OD:=fnD 4 (x9l)
theorem y2o:FnScope ["_law_script","_law_at","_law_ladder_here","_law_chart_here"] ["_law_script","_law_at","_law_ladder_here","_law_chart_here"] (x0b (top 55)):=fsq
abbrev x7w:List Str:=["_law_script","_law_at","_law_ladder_here","_law_chart_here","_law_k"]
theorem y1e:(x7w).Nodup:=by decide +kernel
theorem y4x(B:Bt mg)(c18:Cal P w K mg base 2 "_law_pick" 3 x0f)(a:At K mg "_law_worths" (top 55) ["_law_script","_law_at","_law_ladder_here","_law_chart_here"]):Cal P w K mg base 3 "_law_worths" 4 (x3m):=
 Cal.mkQ (k:=2) a y2o fun f cdv A outer s H E hr=>
  x0c (x0k (x3s B.m_tuple PyProof.Rows.boot_tuple (x00 (x2x (k:=1) (N':=x7w) false rfl ⟨rfl,by decide +kernel,rfl,rfl,rfl⟩ (x0u B.m_range (x00 (x0q (qv 3) x0d) x03 x0v)) (fun _ _ _ _=>x0l (i:=4) (show 4<=4 by decide) y1e rfl (Or.inl rfl) (Or.inr rfl)) (fun _ _ _ _=>x23) (fun _ _ _ _=>x0a c18 hr (by decide) (x00 (x01 (qv 0)) (x00 (x1a (x01 (qv 1)) (x01 (qv 4))) (x00 (x15 B.m_len (qv 2)) x03 x0n) x0w) x04))) x03 x2q)))
abbrev x7v:x13:=y6y 2 (z0x 3) (eIx (x1e 0 (x1e 2 (x05 3))) (x05 4))
abbrev x7s:x13:=x0y (x1n 8 (x1e 7 (x1e 2 (x05 5))))
 (y6y 2 (z0x 6) (eIx (x1e 0 (x1e 2 (x05 6))) (x05 8)))
def x8x:x13:=x0y (x1n 2 (y97 2))
 (x0y (x7l (x50 (x1e 1 (eC (.int 2)))) (y5k (x11 (x0o 3) (x11 (x0o 4) x63))) (y6y 2 (z0x 3) (eIx (x1e 0 (x1e 2 (x05 3))) (x05 4))))
 (x0y (x7l (x50 (x1e 1 (eC (.int 1)))) (y5k (x11 (x0o 5) (x11 (x0o 6) (x11 (x0o 7) x63)))) (x0y (x1n 8 (x1e 7 (x1e 2 (x05 5))))
 (y6y 2 (z0x 6) (eIx (x1e 0 (x1e 2 (x05 6))) (x05 8)))))
 (x2g (x3t (x02 (x05 2) x0i)))))
def x2k:List D->OD:=fnD 9 (x8x)
theorem x1v:FnScope ["_law_ladder_here","_law_chart_here","_law_worths_here","_law_place","_law_worth","_law_start","_law_goal","_law_rule_here","_law_comes"] ["_law_ladder_here","_law_chart_here","_law_worths_here"] (x0b (top 52)):=fsq
theorem y51(B:Bt mg)(a:At K mg "_law_raised" (top 52) ["_law_ladder_here","_law_chart_here","_law_worths_here"]):Cal P w K mg base 1 "_law_raised" 3 (x2k):=
 Cal.mkQ (k:=0) a x1v fun f cdv A outer s H E hr=>
  x07 (x0m (i:=2) x1v.nd rfl (Or.inl rfl) (z5s B.m_list PyProof.Rows.boot_list (qv 2)))
  (x07 (x1t PassesOwn.never rfl (x26 (x0q (qv 1) x0d)) (x9z (n:=2) rfl (x1x (x0l (i:=3) (show 0<=3 by decide) x1v.nd rfl (Or.inl rfl)) (x1x (x0l (i:=4) (show 0<=4 by decide) x1v.nd rfl (Or.inl rfl)) x7e)) y6u) (x0c (y9k (qv 2) (y9w (qv 3)) (x4g (x0q (qv 0) (x0q (qv 2) (x01 (qv 3)))) (x01 (qv 4))))))
  (x07 (x1t PassesOwn.never rfl (x26 (x0q (qv 1) x0d)) (x9z (n:=3) rfl (x1x (x0l (i:=5) (show 0<=5 by decide) x1v.nd rfl (Or.inl rfl)) (x1x (x0l (i:=6) (show 0<=6 by decide) x1v.nd rfl (Or.inl rfl)) (x1x (x0l (i:=7) (show 0<=7 by decide) x1v.nd rfl (Or.inl rfl)) x7e))) y79) (x07 (x0m (i:=8) x1v.nd rfl (Or.inl rfl) (x0q (qv 7) (x0q (qv 2) (x01 (qv 5)))))
  (x0c (y9k (qv 2) (y9w (qv 6)) (x4g (x0q (qv 0) (x0q (qv 2) (x01 (qv 6)))) (x01 (qv 8)))))))
  (x0c (x0k (x3s B.m_tuple PyProof.Rows.boot_tuple (x00 (x01 (qv 2)) x03 x04))))))
abbrev x7z:x13:=x0y (x1n 2 (x05 3))
 (x1n 3 (x0j x2k 3 (x02 (x05 0) (x02 (x05 1) (x02 (x05 2) x0i)))))
def x9c:x13:=x0y (x1n 3 (x0j x2k 3 (x02 (x05 0) (x02 (x05 1) (x02 (x05 2) x0i)))))
 (x0y (y5c (x3d (e2 dNe (x05 3) (x05 2))) (x0y (x1n 2 (x05 3))
 (x1n 3 (x0j x2k 3 (x02 (x05 0) (x02 (x05 1) (x02 (x05 2) x0i)))))))
 (x2g (x05 2)))
def x3z:List D->OD:=fnD 4 (x9c)
theorem x49:FnScope ["_law_ladder_here","_law_chart_here","_law_worths_here","_law_more"] ["_law_ladder_here","_law_chart_here","_law_worths_here"] (x0b (top 53)):=fsq
theorem y4e(B:Bt mg)(c19:Cal P w K mg base 1 "_law_raised" 3 x2k)(a:At K mg "_law_lowest" (top 53) ["_law_ladder_here","_law_chart_here","_law_worths_here"]):Cal P w K mg base 2 "_law_lowest" 3 (x3z):=
 Cal.mkQ (k:=1) a x49 fun f cdv A outer s H E hr=>
  x07 (x0m (i:=3) x49.nd rfl (Or.inl rfl) (x0a c19 hr (by decide) (x00 (x01 (qv 0)) (x00 (x01 (qv 1)) (x00 (x01 (qv 2)) x03 x04) x04) x04)))
  (x07 (y5o PassesOwn.never (x6j hr (x01 (qv 3)) (x01 (qv 2))) (x07 (x0m (i:=2) x49.nd rfl (Or.inl rfl) (x01 (qv 3)))
  (x0c (x0m (i:=3) x49.nd rfl (Or.inl rfl) (x0a c19 hr (by decide) (x00 (x01 (qv 0)) (x00 (x01 (qv 1)) (x00 (x01 (qv 2)) x03 x04) x04) x04))))))
  (x0c (x0k (x01 (qv 2)))))
def x88:x13:=x0y (sIf (y6o (x4d (x7x (z48 .tuple (x05 0)))) (x3d (e2 dNe (x1g 0) (x05 1)))) (x2g (eC (.bl false))) x5t)
 (x2g (eB y9m (x02 (x2w 1 (x50 (x05 0)) (x0o 3) x25 (x0j x1w 2 (x02 (x05 3) (x02 (x05 2) x0i))) false) x0i)))
def x36:List D->OD:=fnD 3 (x88)
theorem y6f:FnScope ["thing","length","many"] ["thing","length","many"] (x0b (top 11)):=fsq
abbrev y0n:List Str:=["thing","length","many","part"]
theorem y46:(y0n).Nodup:=by decide +kernel
theorem y8g(B:Bt mg)(c38:Cal P w K mg base 2 "is_number_of" 2 x1w)(a:At K mg "is_row_of" (top 11) ["thing","length","many"]):Cal P w K mg base 3 "is_row_of" 3 (x36):=
 Cal.mkQ (k:=2) a y6f fun f cdv A outer s H E hr=>
  x07 (x22 (y50 (x96 (x4i (x3e (y3m .tuple B.m_isinstance B.m_tuple PyProof.Rows.boot_tuple (x01 (qv 0))))) (x6u (x6j hr (x15 B.m_len (qv 0)) (x01 (qv 1)))))) (x0c (x0k x52)) x1f)
  (x0c (x0k (y8w rfl B.m_all (x00 (x2x (k:=1) (N':=y0n) false rfl ⟨rfl,by decide +kernel,rfl,rfl,rfl⟩ (x26 (x01 (qv 0))) (fun _ _ _ _=>x0l (i:=3) (show 3<=3 by decide) y46 rfl (Or.inl rfl) (Or.inr rfl)) (fun _ _ _ _=>x23) (fun _ _ _ _=>x0a c38 hr (by decide) (x00 (x01 (qv 3)) (x00 (x01 (qv 2)) x03 x04) x04))) x03 x2q))))
abbrev x6w:x13:=sIf (x4d (x7x (x0j x2d 3 (x02 (x05 0) (x02 (x1e 5 (x1e 2 (x05 3))) (x02 (x1e 2 (x05 4)) x0i)))))) (x2g (eC (.bl false))) (x5t)
abbrev x4b:x13:=sIf (x4d (x7x (x0j x2d 3 (x02 (x05 0) (x02 (x05 7) (x02 (x1e 2 (x05 6)) x0i)))))) (x2g (eC (.bl false))) (x5t)
def y1k:x13:=x0y (sIf (x4d (x7x (x0j x36 3 (x02 (x05 2) (x02 (x1e 1 (eC (.int 0))) (x02 (x1g 0) x0i)))))) (x2g (eC (.bl false))) x5t)
 (x0y (x7l (x50 (x1e 1 (eC (.int 1)))) (y5k (x11 (x0o 3) (x11 (x0o 4) (x11 (x0o 5) x63)))) (sIf (x4d (x7x (x0j x2d 3 (x02 (x05 0) (x02 (x1e 5 (x1e 2 (x05 3))) (x02 (x1e 2 (x05 4)) x0i)))))) (x2g (eC (.bl false))) x5t))
 (x0y (x7l (x50 (x1e 1 (eC (.int 2)))) (y5k (x11 (x0o 6) (x11 (x0o 7) x63))) (sIf (x4d (x7x (x0j x2d 3 (x02 (x05 0) (x02 (x05 7) (x02 (x1e 2 (x05 6)) x0i)))))) (x2g (eC (.bl false))) x5t))
 (x2g (eC (.bl true)))))
def x32:List D->OD:=fnD 8 (y1k)
theorem x3j:FnScope ["ladder","chart","thing","start","goal","rule","place","worth"] ["ladder","chart","thing"] (x0b (top 23)):=fsq
theorem y7g(B:Bt mg)(c40:Cal P w K mg base 3 "is_row_of" 3 x36)(c36:Cal P w K mg base 1 "is_below" 3 x2d)(a:At K mg "is_answer" (top 23) ["ladder","chart","thing"]):Cal P w K mg base 4 "is_answer" 3 (x32):=
 Cal.mkQ (k:=3) a x3j fun f cdv A outer s H E hr=>
  x07 (x22 (x4i (x3e (x0a c40 hr (by decide) (x00 (x01 (qv 2)) (x00 (x0q (qv 1) x0d) (x00 (x15 B.m_len (qv 0)) x03 x0n) x0v) x04)))) (x0c (x0k x52)) x1f)
  (x07 (x1t PassesOwn.never rfl (x26 (x0q (qv 1) x0d)) (x9z (n:=3) rfl (x1x (x0l (i:=3) (show 0<=3 by decide) x3j.nd rfl (Or.inl rfl)) (x1x (x0l (i:=4) (show 0<=4 by decide) x3j.nd rfl (Or.inl rfl)) (x1x (x0l (i:=5) (show 0<=5 by decide) x3j.nd rfl (Or.inl rfl)) x7e))) y79) (x0c (x22 (x4i (x3e (x0a c36 hr (by decide) (x00 (x01 (qv 0)) (x00 (x0q (qv 5) (x0q (qv 2) (x01 (qv 3)))) (x00 (x0q (qv 2) (x01 (qv 4))) x03 x0v) x0v) x04)))) (x0c (x0k x52)) x1f)))
  (x07 (x1t PassesOwn.never rfl (x26 (x0q (qv 1) x0d)) (x9z (n:=2) rfl (x1x (x0l (i:=6) (show 0<=6 by decide) x3j.nd rfl (Or.inl rfl)) (x1x (x0l (i:=7) (show 0<=7 by decide) x3j.nd rfl (Or.inl rfl)) x7e)) y6u) (x0c (x22 (x4i (x3e (x0a c36 hr (by decide) (x00 (x01 (qv 0)) (x00 (x01 (qv 7)) (x00 (x0q (qv 2) (x01 (qv 6))) x03 x0v) x04) x04)))) (x0c (x0k x52)) x1f)))
  (x0c (x0k x52))))
def z7z:x13:=x0y (x3p (x0j x1m 2 (x02 (x05 1) (x02 (x05 2) x0i))))
 (x0y (x1n 3 (x0j x46 2 (x02 (x05 0) (x02 (x05 1) x0i))))
 (x0y (x7l (x50 (x05 2)) (x0o 4) (x1n 3 (x0j x18 4 (x02 (x05 0) (x02 (x05 1) (x02 (x05 3) (x02 (x05 4) x0i)))))))
 (x2g (x05 3))))
def y28:List D->OD:=fnD 5 (z7z)
theorem y1m:FnScope ["ladder","chart","steps","worths","step"] ["ladder","chart","steps"] (x0b (top 32)):=fsq
theorem j2q(B:Bt mg)(c51:Cal P w K mg base 5 "refuse_no_step" 2 x1m)(c47:Cal P w K mg base 3 "lowest" 2 x46)(c55:Cal P w K mg base 2 "worths_behind" 4 x18)(a:At K mg "gone" (top 32) ["ladder","chart","steps"]):Cal P w K mg base 6 "gone" 3 (y28):=
 Cal.mkQ (k:=5) a y1m fun f cdv A outer s H E hr=>
  x07 (x2b (x0a c51 hr (by decide) (x00 (x01 (qv 1)) (x00 (x01 (qv 2)) x03 x04) x04)))
  (x07 (x0m (i:=3) y1m.nd rfl (Or.inl rfl) (x0a c47 hr (by decide) (x00 (x01 (qv 0)) (x00 (x01 (qv 1)) x03 x04) x04)))
  (x07 (x1t PassesOwn.never rfl (x26 (x01 (qv 2))) (x0l (i:=4) (show 0<=4 by decide) y1m.nd rfl (Or.inl rfl)) (x0c (x0m (i:=3) y1m.nd rfl (Or.inl rfl) (x0a c55 hr (by decide) (x00 (x01 (qv 0)) (x00 (x01 (qv 1)) (x00 (x01 (qv 3)) (x00 (x01 (qv 4)) x03 x04) x04) x04) x04)))))
  (x0c (x0k (x01 (qv 3))))))
def j2m:y11:=z5t x43 2 (x02 (x05 1) (x02 (x05 2) x0i))
def x9p:List D->Option Str:=fnX 5 j2m
theorem z9k(B:Bt mg)(T:Xt K mg)(c57:y7l P w K mg base 5 "refuse_no_step" 2 x43)(a:At K mg "gone" (top 32) ["ladder","chart","steps"]):y7l P w K mg base 6 "gone" 3 x9p:=
 y7l.mkQ (k:=5) a y1m fun f cdv A outer s H E hr=>
  y1p (z6f (z5n c57 hr (by decide) (x00 (x01 (qv 1)) (x00 (x01 (qv 2)) x03 x04) x04)))
def x7g:x13:=x0y (sIf (y6o (x4d (x7x (z48 .list (x05 3)))) (x4d (x7x (eB y9m (x02 (x2w 1 (x50 (x05 3)) (x0o 4) x25 (x0j x1c 2 (x02 (x05 1) (x02 (x05 4) x0i))) false) x0i))))) (x2g (eC (.bl false))) x5t)
 (x2g (z43 (x0j x32 3 (x02 (x05 0) (x02 (x05 1) (x02 (x05 2) x0i)))) (e2 dEq (x0j y28 3 (x02 (x05 0) (x02 (x05 1) (x02 (x05 3) x0i)))) (x05 2))))
def x1j:List D->OD:=fnD 4 (x7g)
theorem y7f:FnScope ["ladder","chart","answer","thing"] ["ladder","chart","answer","thing"] (x0b (top 35)):=fsq
abbrev y18:List Str:=["ladder","chart","answer","thing","step"]
theorem y69:(y18).Nodup:=by decide +kernel
theorem z0w(B:Bt mg)(c41:Cal P w K mg base 4 "is_step" 2 x1c)(c35:Cal P w K mg base 4 "is_answer" 3 x32)(c32:Cal P w K mg base 6 "gone" 3 y28)(a:At K mg "is_paper" (top 35) ["ladder","chart","answer","thing"]):Cal P w K mg base 7 "is_paper" 4 (x1j):=
 Cal.mkQ (k:=6) a y7f fun f cdv A outer s H E hr=>
  x07 (x22 (y50 (x96 (x4i (x3e (y3m .list B.m_isinstance B.m_list PyProof.Rows.boot_list (x01 (qv 3))))) (x6u (x4i (x3e (y8w rfl B.m_all (x00 (x2x (k:=1) (N':=y18) false rfl ⟨rfl,by decide +kernel,rfl,rfl,rfl⟩ (x26 (x01 (qv 3))) (fun _ _ _ _=>x0l (i:=4) (show 4<=4 by decide) y69 rfl (Or.inl rfl) (Or.inr rfl)) (fun _ _ _ _=>x23) (fun _ _ _ _=>x0a c41 hr (by decide) (x00 (x01 (qv 1)) (x00 (x01 (qv 4)) x03 x04) x04))) x03 x2q))))))) (x0c (x0k x52)) x1f)
  (x0c (x0k (y9x (x0a c35 hr (by decide) (x00 (x01 (qv 0)) (x00 (x01 (qv 1)) (x00 (x01 (qv 2)) x03 x04) x04) x04)) (y90 (z9f hr (x0a c32 hr (by decide) (x00 (x01 (qv 0)) (x00 (x01 (qv 1)) (x00 (x01 (qv 3)) x03 x04) x04) x04)) (x01 (qv 2)))))))
def y7p:x13:=x0y (x1n 1 (x5c (x02 (z6z ["NoStep"] "NoHouse" (x05 0)) (x02 (z6z ["NoStep"] "NoMap" (x05 0)) (x02 (z6z ["NoStep"] "NoPlace" (x05 0)) (x02 (z6z ["NoStep"] "NoRule" (x05 0)) x0i))))))
 (x0y (x3p (j1w 1 (x5c (x02 (z6z ["NoStep"] "NoStep" (x05 0)) (x02 (z6z ["NoStep"] "TooGreat" (x05 0)) x0i)))))
 (x0y (sIf (y6o (x3d (e2 dNe (j63 (x05 1) (x02 (eC (.bl true)) x0i)) (eC (.int 1)))) (x4d (x7x (j5z (x05 0))))) (x2g (eC (.str "wrong"))) x5t)
 (x2g (eIx (x5c (x02 (eC (.str "no house")) (x02 (eC (.str "no map")) (x02 (eC (.str "no place")) (x02 (eC (.str "no rule")) (x02 (eC (.str "no step")) (x02 (eC (.str "too great")) x0i))))))) (y3q (x05 1) (x02 (eC (.bl true)) x0i))))))
def x6b:List D->OD:=fnD 2 (y7p)
theorem y0l:FnScope ["_law_kept","_law_kinds"] ["_law_kept"] (x0b (top 57)):=fsq
theorem y8d(B:Bt mg)(T:Xt K mg)(a:At K mg "_law_word" (top 57) ["_law_kept"]):Cal P w K mg base 1 "_law_word" 1 (x6b):=
 Cal.mkQ (k:=0) a y0l fun f cdv A outer s H E hr=>
  x07 (x0m (i:=1) y0l.nd rfl (Or.inl rfl) (x1y (x00 (y3j T.i_NoHouse B.m_isinstance (x01 (qv 0))) (x00 (y3j T.i_NoMap B.m_isinstance (x01 (qv 0))) (x00 (y3j T.i_NoPlace B.m_isinstance (x01 (qv 0))) (x00 (y3j T.i_NoRule B.m_isinstance (x01 (qv 0))) x03 x0n) x0n) x0n) x0n)))
  (x07 (x2b (y6e (qv 1) (x1y (x00 (y3j T.i_NoStep B.m_isinstance (x01 (qv 0))) (x00 (y3j T.i_TooGreat B.m_isinstance (x01 (qv 0))) x03 x0n) x0n))))
  (x07 (x22 (y50 (x96 (x6j hr (j1t hr (x01 (qv 1)) (x00 x52 x03 x09)) x0d) (x6u (x4i (x3e (j3h B.m_isinstance B.m_ValueError (x01 (qv 0)))))))) (x0c (x0k x4z)) x1f)
  (x0c (x0k (x4g (x1y (x00 x4z (x00 x4z (x00 x4z (x00 x4z (x00 x4z (x00 x4z x03 x09) x09) x09) x09) x09) x09)) (z0y hr (x01 (qv 1)) (x00 x52 x03 x09)))))))
def y1l:x13:=x0y (x1n 3 (eC .non))
 (x0y (x1n 4 (eC .non))
 (x0y (z0c ["NoStep"] (x1n 4 (x0j y28 3 (x02 (x05 0) (x02 (x05 1) (x02 (x05 2) x0i))))) (z2e x9p 3 (x02 (x05 0) (x02 (x05 1) (x02 (x05 2) x0i)))) 5 3)
 (x0y (sIf (x3d (e2 j2s (x05 3) (eC .non))) (x2g (x05 4)) x5t)
 (x2g (x0j x6b 1 (x02 (x05 3) x0i))))))
def x4y:List D->OD:=fnD 6 (y1l)
theorem x4f:FnScope ["_law_ladder_here","_law_chart_here","_law_steps","_law_kept","_law_answer","e"] ["_law_ladder_here","_law_chart_here","_law_steps"] (x0b (top 60)):=fsq
theorem y7d(B:Bt mg)(T:Xt K mg)(c32:Cal P w K mg base 6 "gone" 3 y28)(c28:Cal P w K mg base 1 "_law_word" 1 x6b)(c56:y7l P w K mg base 6 "gone" 3 x9p)(a:At K mg "_law_gone" (top 60) ["_law_ladder_here","_law_chart_here","_law_steps"]):Cal P w K mg base 7 "_law_gone" 3 (x4y):=
 Cal.mkQ (k:=6) a x4f fun f cdv A outer s H E hr=>
  x07 (x0m (i:=3) x4f.nd rfl (Or.inl rfl) y5x)
  (x07 (x0m (i:=4) x4f.nd rfl (Or.inl rfl) y5x)
  (x07 (z6y (ie:=5) (ik:=3) T.u (x0c (x0m (i:=4) x4f.nd rfl (Or.inl rfl) (x0a c32 hr (by decide) (x00 (x01 (qv 0)) (x00 (x01 (qv 1)) (x00 (x01 (qv 2)) x03 x04) x04) x04)))) (z8j (z68 c56 hr (by decide) (x00 (x01 (qv 0)) (x00 (x01 (qv 1)) (x00 (x01 (qv 2)) x03 x04) x04) x04))) x4f.nd rfl rfl)
  (x07 (x22 (j14 (x01 (qv 3)) y5x) (x0c (x0k (x01 (qv 4)))) x1f)
  (x0c (x0k (x0a c28 hr (by decide) (x00 (x01 (qv 3)) x03 x04)))))))
def y0b:x13:=x0y (x1n 2 (x0j x45 1 (x02 (x05 0) x0i)))
 (x0y (x7l (x50 (x05 1)) (x0o 3) (x1n 2 (eIx (x1e 0 (x05 2)) (x05 3))))
 (x2g (x05 2)))
def x4e:List D->OD:=fnD 4 (y0b)
theorem x4k:FnScope ["ladder","worths","joined","worth"] ["ladder","worths"] (x0b (top 20)):=fsq
theorem y5j(B:Bt mg)(c46:Cal P w K mg base 2 "least_of" 1 x45)(a:At K mg "joined_all" (top 20) ["ladder","worths"]):Cal P w K mg base 3 "joined_all" 2 (x4e):=
 Cal.mkQ (k:=2) a x4k fun f cdv A outer s H E hr=>
  x07 (x0m (i:=2) x4k.nd rfl (Or.inl rfl) (x0a c46 hr (by decide) (x00 (x01 (qv 0)) x03 x04)))
  (x07 (x1t PassesOwn.never rfl (x26 (x01 (qv 1))) (x0l (i:=3) (show 0<=3 by decide) x4k.nd rfl (Or.inl rfl)) (x0c (x0m (i:=2) x4k.nd rfl (Or.inl rfl) (x4g (x0q (qv 0) (x01 (qv 2))) (x01 (qv 3))))))
  (x0c (x0k (x01 (qv 2)))))
def x91:x13:=x2g (x0j x4e 2 (x02 (x05 0) (x02 (x7y (x02 (x1g 0) x0i)) x0i)))
def x2n:List D->OD:=fnD 1 (x91)
theorem y2k:FnScope ["ladder"] ["ladder"] (x0b (top 16)):=fsq
theorem y42(B:Bt mg)(c43:Cal P w K mg base 3 "joined_all" 2 x4e)(a:At K mg "greatest_of" (top 16) ["ladder"]):Cal P w K mg base 4 "greatest_of" 1 (x2n):=
 Cal.mkQ (k:=3) a y2k fun f cdv A outer s H E hr=>
  x0c (x0k (x0a c43 hr (by decide) (x00 (x01 (qv 0)) (x00 (y14 rfl B.m_list PyProof.Rows.boot_list B.m_range (x00 (x15 B.m_len (qv 0)) x03 x0n)) x03 x0n) x04)))
def x8o:x13:=x2g (x2w 1 (x50 (x0j x4h 2 (x02 (x05 0) (x02 (x05 1) x0i)))) (x0o 2) (x3d (e2 dNe (x05 2) (x05 1))) (x05 2) false)
def x2l:List D->OD:=fnD 2 (x8o)
theorem y2v:FnScope ["ladder","worth"] ["ladder","worth"] (x0b (top 19)):=fsq
abbrev x7u:List Str:=["ladder","worth","x"]
theorem y1z:(x7u).Nodup:=by decide +kernel
theorem y52(B:Bt mg)(c31:Cal P w K mg base 2 "below" 2 x4h)(a:At K mg "truly_below" (top 19) ["ladder","worth"]):Cal P w K mg base 3 "truly_below" 2 (x2l):=
 Cal.mkQ (k:=2) a y2v fun f cdv A outer s H E hr=>
  x0c (x0k (x2x (k:=1) (N':=x7u) false rfl ⟨rfl,by decide +kernel,rfl,rfl,rfl⟩ (x26 (x0a c31 hr (by decide) (x00 (x01 (qv 0)) (x00 (x01 (qv 1)) x03 x04) x04))) (fun _ _ _ _=>x0l (i:=2) (show 2<=2 by decide) y1z rfl (Or.inl rfl) (Or.inr rfl)) (fun _ _ _ _=>y0y (x6j hr (x01 (qv 2)) (x01 (qv 1)))) (fun _ _ _ _=>x01 (qv 2))))
def x68:Den:=eB y7h (x02 (x0j x4h 2 (x02 (x05 1) (x02 (x05 0) x0i))) x0i)
noncomputable def y1w:x13:=j61 x68 x2l x2n
noncomputable def x4v:List D->OD:=fnD 3 y1w
theorem x6r:FnScope ["ladder","heights","worth"] ["ladder"] (x0b (top 21)):=fsq
abbrev y08:List Str:=["ladder","heights","worth","x"]
theorem y4h:(y08).Nodup:=by decide +kernel
theorem y7n(B:Bt mg)(L:Lm K mg base)(KX:K.In base)(NG:base.Ns mainGlobals mg)(tb:∃ c Pt,PySem.W.tabIn K "height_of" = some (c,Pt))(e_below:∀ base:Heap,Cal P w K mg base 2 "below" 2 x4h)(c54:Cal P w K mg base 3 "truly_below" 2 x2l)(c33:Cal P w K mg base 4 "greatest_of" 1 x2n)(a:At K mg "height_of" (top 21) ["ladder"]):Cal P w K mg base 6 "height_of" 1 x4v:=
 Cal.mkL (k:=5) KX NG tb a x6r fun f c Pt A outer s H E ht hr=>⟨by
  refine j0r ?h1 ?h2 ?h4
  case h1=>exact z2r x6r.nd rfl (Or.inr rfl) z4l
  case h4=>exact z7r (z2n (Room.u1 hr) (pv 1 rfl (Or.inr (Or.inl rfl))) (x0a c33 hr (by decide) (x00 (x01 (qv 0)) x03 x04)).o (fun _ _=>rfl))
  case h2=>
   intro g
   refine z81 PassesOwn.never rfl (z7t (z71 (ps:=["x"]) (caps:=["ladder"]) (is:=[0]) (kb:=2) rfl L (by decide) ht rfl ?S rfl rfl B.m_sorted hr (by decide) ?body ?bind ?cap rfl ?ha)) (y7t x6r.nd rfl (Or.inl rfl)) (y4j (j03 (Room.u1 hr) (pv 1 rfl (Or.inr (Or.inl rfl))) (pv 2 rfl (Or.inl rfl)) ?hv rfl))
   case S=>exact LamScope.of rfl rfl rfl (by decide +kernel) (by decide +kernel) (by decide +kernel) (by decide +kernel) (by decide +kernel)
   case cap=>exact z4w.at (zs:=["ladder"]) (is:=[0]) ⟨rfl,rfl,trivial⟩
   case body=>exact fun _ _ _ _ _ _ _ _ _ hr=>(y3l B.m_len (x00 (x0a (e_below _) hr (by decide) (x00 (x01 (qv 1)) (x00 (x01 (qv 0)) x03 x04) x04)) x03 x0n)).o
   case bind=>exact fun _ _ _ _ us h=>by obtain⟨_,rfl⟩:=List.length_eq_one_iff.mp h;rfl
   case ha=>exact x3i (y4w rfl B.m_range (x00 (x15 B.m_len (qv 0)) x03 x0n).o rfl) x6h rfl
   case hv=>exact z8g rfl rfl B.m_max (by kernel_rfl) (x3i (z1n (k:=1) (N':=y08) rfl ⟨rfl,by decide +kernel,rfl,rfl,rfl⟩ (x26 (x0a c54 hr (by decide) (x00 (x01 (qv 0)) (x00 (x01 (qv 2)) x03 x04) x04))).o (fun _ _ _ _=>y7t y4h rfl (Or.inl rfl)) (fun _ _ _ _=>z2m) (fun _ _ _ _=>y49 z7s (z2n (Room.u1 hr) (pv 1) (pv 3) (fun _ _=>rfl)) y5v)) x6h rfl) (z34 y5v z7v)⟩
abbrev y0m:x13:=x0y (x1n 7 (x0j x2t 4 (x02 (x05 1) (x02 (x05 2) (x02 (x05 5) (x02 (x05 6) x0i))))))
 (x0y (sIf (x3d (e2 dEq (x05 7) (x05 5))) (x2g (eC (.bl false))) x5t)
 (x1n 5 (x05 7)))
abbrev y0f:x13:=x0y (x1n 12 (x0j x1j 4 (x02 (x05 1) (x02 (x05 2) (x02 (x05 11) (x02 (x05 8) x0i))))))
 (sIf (y6o (x3d (e2 dNe (x05 12) (z43 (e2 dEq (x05 9) (x05 11)) (x0j x32 3 (x02 (x05 1) (x02 (x05 2) (x02 (x05 11) x0i))))))) (z0b (x7x (x05 12)) (x3d (e2 dNe (x05 11) (x05 3))))) (x2g (eC (.bl false))) x5t)
noncomputable def y2i:x13:=x0y (x1n 1 (x0j x3n 2 (x02 (x05 0) (x02 (eC (.int 0)) x0i))))
 (x0y (x1n 2 (x0j x4c 4 (x02 (x05 0) (x02 (eC (.int 20)) (x02 (x05 1) (x02 (eC (.bl false)) x0i))))))
 (x0y (x1n 3 (x0j y26 2 (x02 (x05 1) (x02 (x05 2) x0i))))
 (x0y (x1n 4 (x0j x4t 2 (x02 (x05 1) (x02 (x05 2) x0i))))
 (x0y (sIf (y6o (x3d (e2 y36 (x0j x1j 4 (x02 (x05 1) (x02 (x05 2) (x02 (x05 3) (x02 (x05 4) x0i))))) (eC (.bl true)))) (x3d (e2 dGt (x1g 4) (e2 y0x (x1e 2 (eC (.int 0))) (x0j x4v 1 (x02 (x05 1) x0i)))))) (x2g (eC (.bl false))) x5t)
 (x0y (x1n 5 (y1d (x8a (x02 (x0j x1k 1 (x02 (x05 1) x0i)) x0i)) (x1e 2 (eC (.int 0)))))
 (x0y (x7l (x50 (x05 4)) (x0o 6) (x0y (x1n 7 (x0j x2t 4 (x02 (x05 1) (x02 (x05 2) (x02 (x05 5) (x02 (x05 6) x0i))))))
 (x0y (sIf (x3d (e2 dEq (x05 7) (x05 5))) (x2g (eC (.bl false))) x5t)
 (x1n 5 (x05 7)))))
 (x0y (x1n 8 (x0j x20 4 (x02 (x05 0) (x02 (eC (.int 200)) (x02 (x05 2) (x02 (x86 (x02 (x05 4) x0i)) x0i))))))
 (x0y (x1n 9 (x0j x3x 3 (x02 (x05 1) (x02 (x05 2) (x02 (x05 8) x0i)))))
 (x0y (sIf (y6o (x3d (e2 dNe (x05 5) (x05 3))) (x3d (e2 dNe (x0j x4y 3 (x02 (x05 1) (x02 (x05 2) (x02 (x05 8) x0i)))) (x05 9)))) (x2g (eC (.bl false))) x5t)
 (x0y (x1n 10 (x5c (x02 (x05 3) (x02 (x0j x3m 4 (x02 (x05 0) (x02 (eC (.int 210)) (x02 (x05 1) (x02 (x05 2) x0i))))) x0i))))
 (x0y (x3p (y1i 10 (x02 (x0j x3z 3 (x02 (x05 1) (x02 (x05 2) (x02 (y1d (x8a (x02 (eC (.int 0)) x0i)) (x1e 2 (eC (.int 0)))) x0i)))) x0i)))
 (x0y (x7l (x50 (x05 10)) (x0o 11) (x0y (x1n 12 (x0j x1j 4 (x02 (x05 1) (x02 (x05 2) (x02 (x05 11) (x02 (x05 8) x0i))))))
 (sIf (y6o (x3d (e2 dNe (x05 12) (z43 (e2 dEq (x05 9) (x05 11)) (x0j x32 3 (x02 (x05 1) (x02 (x05 2) (x02 (x05 11) x0i))))))) (z0b (x7x (x05 12)) (x3d (e2 dNe (x05 11) (x05 3))))) (x2g (eC (.bl false))) x5t)))
 (x0y (sIf (x3d (e2 y36 (x0j x1j 4 (x02 (x05 1) (x02 (x05 2) (x02 (x05 3) (x02 (x3t (x02 (x05 4) x0i)) x0i))))) (eC (.bl false)))) (x2g (eC (.bl false))) x5t)
 (x2g (e2 dIs (x0j x1j 4 (x02 (x05 1) (x02 (x05 2) (x02 (x05 3) (x02 (x65 (x05 4) (x5c (x02 (eC .non) x0i))) x0i))))) (eC (.bl false)))))))))))))))))
noncomputable def x34:List D->OD:=fnD 13 (y2i)
theorem x16:FnScope ["_law_script","_law_ladder_here","_law_chart_here","_law_told","_law_paper","_law_worths_here","_law_step_here","_law_behind","_law_steps","_law_due","_law_some","_law_answer","_law_let"] ["_law_script"] (x0b (top 63)):=fsq
theorem y76(B:Bt mg)(c14:Cal P w K mg base 4 "_law_ladder" 2 x3n)(c9:Cal P w K mg base 5 "_law_chart" 4 x4c)(c44:Cal P w K mg base 7 "least" 2 y26)(c48:Cal P w K mg base 4 "paper_for" 2 x4t)(c39:Cal P w K mg base 7 "is_paper" 4 x1j)(c34:Cal P w K mg base 6 "height_of" 1 x4v)(c15:Cal P w K mg base 1 "_law_low" 1 x1k)(c25:Cal P w K mg base 1 "_law_step" 4 x2t)(c22:Cal P w K mg base 3 "_law_spoilt_steps" 4 x20)(c27:Cal P w K mg base 2 "_law_walked" 3 x3x)(c12:Cal P w K mg base 7 "_law_gone" 3 x4y)(c29:Cal P w K mg base 3 "_law_worths" 4 x3m)(c16:Cal P w K mg base 2 "_law_lowest" 3 x3z)(c35:Cal P w K mg base 4 "is_answer" 3 x32)(a:At K mg "_law_once" (top 63) ["_law_script"]):Cal P w K mg base 8 "_law_once" 1 (x34):=
 Cal.mkQ (k:=7) a x16 fun f cdv A outer s H E hr=>
  x07 (x0m (i:=1) x16.nd rfl (Or.inl rfl) (x0a c14 hr (by decide) (x00 (x01 (qv 0)) (x00 x0d x03 x09) x04)))
  (x07 (x0m (i:=2) x16.nd rfl (Or.inl rfl) (x0a c9 hr (by decide) (x00 (x01 (qv 0)) (x00 x0d (x00 (x01 (qv 1)) (x00 x52 x03 x09) x04) x09) x04)))
  (x07 (x0m (i:=3) x16.nd rfl (Or.inl rfl) (x0a c44 hr (by decide) (x00 (x01 (qv 1)) (x00 (x01 (qv 2)) x03 x04) x04)))
  (x07 (x0m (i:=4) x16.nd rfl (Or.inl rfl) (x0a c48 hr (by decide) (x00 (x01 (qv 1)) (x00 (x01 (qv 2)) x03 x04) x04)))
  (x07 (x22 (y50 (x96 (y6b (x0a c39 hr (by decide) (x00 (x01 (qv 1)) (x00 (x01 (qv 2)) (x00 (x01 (qv 3)) (x00 (x01 (qv 4)) x03 x04) x04) x04) x04)) x52) (x6u (j3i (x15 B.m_len (qv 4)) (x6k (x0q (qv 2) x0d) (x0a c34 hr (by decide) (x00 (x01 (qv 1)) x03 x04))))))) (x0c (x0k x52)) x1f)
  (x07 (x0m (i:=5) x16.nd rfl (Or.inl rfl) (y3v (x41 (x00 (x0a c15 hr (by decide) (x00 (x01 (qv 1)) x03 x04)) x03 x0n)) (x0q (qv 2) x0d)))
  (x07 (x1t PassesOwn.never rfl (x26 (x01 (qv 4))) (x0l (i:=6) (show 0<=6 by decide) x16.nd rfl (Or.inl rfl)) (x07 (x0m (i:=7) x16.nd rfl (Or.inl rfl) (x0a c25 hr (by decide) (x00 (x01 (qv 1)) (x00 (x01 (qv 2)) (x00 (x01 (qv 5)) (x00 (x01 (qv 6)) x03 x04) x04) x04) x04)))
  (x07 (x22 (x9f hr (x01 (qv 7)) (x01 (qv 5))) (x0c (x0k x52)) x1f)
  (x0c (x0m (i:=5) x16.nd rfl (Or.inl rfl) (x01 (qv 7)))))))
  (x07 (x0m (i:=8) x16.nd rfl (Or.inl rfl) (x0a c22 hr (by decide) (x00 (x01 (qv 0)) (x00 x0d (x00 (x01 (qv 2)) (x00 (y5s B.m_list PyProof.Rows.boot_list (x00 (x01 (qv 4)) x03 x04)) x03 x0n) x04) x09) x04)))
  (x07 (x0m (i:=9) x16.nd rfl (Or.inl rfl) (x0a c27 hr (by decide) (x00 (x01 (qv 1)) (x00 (x01 (qv 2)) (x00 (x01 (qv 8)) x03 x04) x04) x04)))
  (x07 (x22 (y50 (x96 (x6j hr (x01 (qv 5)) (x01 (qv 3))) (x6u (x6j hr (x0a c12 hr (by decide) (x00 (x01 (qv 1)) (x00 (x01 (qv 2)) (x00 (x01 (qv 8)) x03 x04) x04) x04)) (x01 (qv 9)))))) (x0c (x0k x52)) x1f)
  (x07 (x0m (i:=10) x16.nd rfl (Or.inl rfl) (x1y (x00 (x01 (qv 3)) (x00 (x0a c29 hr (by decide) (x00 (x01 (qv 0)) (x00 x0d (x00 (x01 (qv 1)) (x00 (x01 (qv 2)) x03 x04) x04) x09) x04)) x03 x0n) x04)))
  (x07 (x2b (x2v (qv 10) (x00 (x0a c16 hr (by decide) (x00 (x01 (qv 1)) (x00 (x01 (qv 2)) (x00 (y3v (x41 (x00 x0d x03 x09)) (x0q (qv 2) x0d)) x03 x0w) x04) x04)) x03 x0n)))
  (x07 (x1t PassesOwn.never rfl (x26 (x01 (qv 10))) (x0l (i:=11) (show 0<=11 by decide) x16.nd rfl (Or.inl rfl)) (x07 (x0m (i:=12) x16.nd rfl (Or.inl rfl) (x0a c39 hr (by decide) (x00 (x01 (qv 1)) (x00 (x01 (qv 2)) (x00 (x01 (qv 11)) (x00 (x01 (qv 8)) x03 x04) x04) x04) x04)))
  (x0c (x22 (y50 (x96 (x6j hr (x01 (qv 12)) (y9x (z9f hr (x01 (qv 9)) (x01 (qv 11))) (y90 (x0a c35 hr (by decide) (x00 (x01 (qv 1)) (x00 (x01 (qv 2)) (x00 (x01 (qv 11)) x03 x04) x04) x04))))) (x6u (y50 (j1o (x3e (x01 (qv 12))) (z4k (x6j hr (x01 (qv 11)) (x01 (qv 3))))))))) (x0c (x0k x52)) x1f))))
  (x07 (x22 (y6b (x0a c39 hr (by decide) (x00 (x01 (qv 1)) (x00 (x01 (qv 2)) (x00 (x01 (qv 3)) (x00 (x3s B.m_tuple PyProof.Rows.boot_tuple (x00 (x01 (qv 4)) x03 x04)) x03 x0n) x04) x04) x04)) x52) (x0c (x0k x52)) x1f)
  (x0c (x0k (j6b (x0a c39 hr (by decide) (x00 (x01 (qv 1)) (x00 (x01 (qv 2)) (x00 (x01 (qv 3)) (x00 (x5e (x01 (qv 4)) (x1y (x00 y5x x03 x09))) x03 x0w) x04) x04) x04)) x52))))))))))))))))
noncomputable abbrev y9y:x13:=x0y (sIf (x4d (x7x (x0j x34 1 (x02 (x2w 1 (x50 (x05 0)) (x0o 2) x25 (e2 x31 (x05 2) (e2 y0x (eC (.int 7919)) (x05 1))) false) x0i)))) (x2g (eC (.bl false))) x5t)
 (sIf (x3d (e2 dEq (x05 0) (x5c x0i))) y8r x5t)
noncomputable def j4g:x13:=x0y (x7l (x17 (x02 (eC (.int 8)) x0i)) (x0o 1) (x0y (sIf (x4d (x7x (x0j x34 1 (x02 (x2w 1 (x50 (x05 0)) (x0o 2) x25 (e2 x31 (x05 2) (e2 y0x (eC (.int 7919)) (x05 1))) false) x0i)))) (x2g (eC (.bl false))) x5t)
 (sIf (x3d (e2 dEq (x05 0) (x5c x0i))) y8r x5t)))
 (x2g (eC (.bl true)))
noncomputable def z0s:List D->OD:=fnD 2 (j4g)
theorem z7q:FnScope ["_law_script","_law_turn"] ["_law_script"] (x0b (top 64)):=fsq
abbrev z7u:List Str:=["_law_script","_law_turn","_law_cell_here"]
theorem j0g:(z7u).Nodup:=by decide +kernel
theorem j1q(B:Bt mg)(c17:Cal P w K mg base 8 "_law_once" 1 x34){f:Addr}{fd:FuncData}(F:Fun K "law" "law" (top 64) f fd):FnOk P w K mg base CX0 9 f fd ["_law_script"] (spD K 1 z0s):=
 j0o (k:=8) F z7q fun f cdv A outer s H E hr=>
  x07 (x1t PassesOwn.never rfl (x0u B.m_range (x00 x0d x03 x09)) (x0l (i:=1) (show 0<=1 by decide) z7q.nd rfl (Or.inr rfl)) (x07 (x22 (x4i (x3e (x0a c17 hr (by decide) (x00 (x2x (k:=1) (N':=z7u) false rfl ⟨rfl,by decide +kernel,rfl,rfl,rfl⟩ (x26 (x01 (qv 0))) (fun _ _ _ _=>x0l (i:=2) (show 2<=2 by decide) j0g rfl (Or.inl rfl) (Or.inr rfl)) (fun _ _ _ _=>x23) (fun _ _ _ _=>x1a (x01 (qv 2)) (x6k x0d (x01 (qv 1))))) x03 x2q)))) (x0c (x0k x52)) x1f)
  (x0c (x22 (x9f hr (x01 (qv 0)) (x1y x03)) (x0c z1y) x1f))))
  (x0c (x0k x52))
end
abbrev scr (ns:List Int):D:=.lst (ns.map D.int)
def z6u (ns:List Int)(k:Int):Int:=if k<ns.length then ns.getD k.toNat 0 else if ns=[]then 0 else ns.getD (k % ns.length).toNat 0*31+k
theorem z7h{k:Int}(h0:0<=k)(h:k<ns.length):L2.atI (ns.map D.int) k=some (.int (ns.getD k.toNat 0)):=by
 obtain⟨m,rfl⟩:∃ m:Nat,k=Int.ofNat m:=⟨k.toNat,by show k=(k.toNat:Int);omega⟩
 have hk:m<ns.length:=by have:(m:Int)<ns.length:=h;omega
 apply y0k
 rw[List.getElem?_map,List.getElem?_eq_getElem hk]
 simp[hk]
theorem j26(ns:List Int):Sh 1 (scr ns):=.lst fun d m=>by
 obtain⟨x,_,rfl⟩:=List.mem_map.mp m
 exact .int _
theorem z3c(ns:List Int):dEq (scr ns) (.lst [])=some (.bl (decide (ns=[]))):=by
 unfold dEq
 rw[if_pos ⟨(j26 ns).ok,(j6y []).ok⟩]
 cases ns<;>rfl
theorem z9d(ns:List Int)(k:Int)(h0:0<=k):x4r [scr ns,.int k]=some (.int (z6u ns k),9):=by
 unfold x4r y2f z6u
 by_cases h:k<ns.length
 ·simp[h,z7h h0 h,x7m,atD]
 ·by_cases hn:ns=[]
  ·subst hn
   have h':¬ k<0:=by omega
   simp[h',x7m,z3c]
  ·have hp:(0:Int)<ns.length:=by have:=List.length_pos_iff.mpr hn;omega
   have h1:=Int.emod_nonneg k (Int.ne_of_gt hp)
   have h2:=Int.emod_lt_of_pos k hp
   have h3:=z7h h1 h2
   have hp':=List.length_pos_iff.mpr hn
   simp[h,x7m,atD,z3c,hn,hp',h3]
def y0a (ns:List Int)(k:Int):Int:=(z6u ns k+6151*(k+1))*40692 % 2147483399
def x7o (ns:List Int)(k m:Int):Int:=(y0a ns k*y0a ns k+y0a ns k / 31) % 2147483629 % m
theorem x76(ns:List Int)(k m:Int)(h0:0<=k)(hm:0<m):x0f [scr ns,.int k,.int m]=some (.int (x7o ns k m),9):=by
 have d0:0<=y0a ns k:=Int.emod_nonneg _ (by decide)
 have d1:y0a ns k<2147483399:=Int.emod_lt_of_pos _ (by decide)
 have g1:-18446744073709551616<y0a ns k:=by omega
 have g2:y0a ns k<18446744073709551616:=by omega
 have hd:(z6u ns k+6151*(k+1))*40692 % 2147483399=y0a ns k:=rfl
 unfold x0f y1v x7o
 simp[z9d ns k h0,hm,hd,g1,g2]
theorem x6c(ns:List Int)(k:Int)(hm:0<m):0<=x7o ns k m:=Int.emod_nonneg _ (Int.ne_of_gt hm)
theorem x79(ns:List Int)(k:Int)(hm:0<m):x7o ns k m<m:=Int.emod_lt_of_pos _ hm
def tf (rows:List (List Nat))(i j:Nat):Nat:=(rows.getD i []).getD j 0
def x3l (rows:List (List Nat)):D:=x40 rows.length (tf rows)
def ch (n:Nat):List (List Nat):=(List.range n).map fun i=>(List.range n).map fun j=>max i j
def cp (a b:List (List Nat)):List (List Nat):=(List.range (a.length*b.length)).map fun i=>(List.range (a.length*b.length)).map fun j=>tf a (i / b.length) (j / b.length)*b.length+tf b (i % b.length) (j % b.length)
def sb (n:Nat):List (List Nat):=(List.range (n+2)).map fun i=>(List.range (n+2)).map fun j=>if i=0\/j=0\/i=j then max i j else n+1
def n5:List (List Nat):=[[0,1,2,3,4],[1,1,2,4,4],[2,2,2,4,4],[3,4,4,3,4],[4,4,4,4,4]]
def y5w:List (List (List Nat)):=[ch 1,ch 2,ch 3,ch 4,ch 5,cp (ch 2) (ch 2),cp (ch 2) (ch 3),cp (ch 2) (ch 4),sb 0,sb 1,sb 2,sb 3,sb 4,cp (ch 2) (cp (ch 2) (ch 2)),n5]
theorem ch1:x12 [.int 1]=some (x3l (ch 1),1):=by rfl
theorem ch2:x12 [.int 2]=some (x3l (ch 2),1):=by rfl
theorem ch3:x12 [.int 3]=some (x3l (ch 3),1):=by rfl
theorem ch4:x12 [.int 4]=some (x3l (ch 4),1):=by rfl
theorem ch5:x12 [.int 5]=some (x3l (ch 5),1):=by rfl
theorem sb0:x0x [.int 0]=some (x3l (sb 0),0):=by rfl
theorem sb1:x0x [.int 1]=some (x3l (sb 1),0):=by rfl
theorem sb2:x0x [.int 2]=some (x3l (sb 2),0):=by rfl
theorem sb3:x0x [.int 3]=some (x3l (sb 3),0):=by rfl
theorem sb4:x0x [.int 4]=some (x3l (sb 4),0):=by rfl
theorem j7t:x1b [x3l (ch 2),x3l (ch 2)]=some (x3l (cp (ch 2) (ch 2)),0):=by rfl
theorem j8w:x1b [x3l (ch 2),x3l (ch 3)]=some (x3l (cp (ch 2) (ch 3)),0):=by rfl
theorem j89:x1b [x3l (ch 2),x3l (ch 4)]=some (x3l (cp (ch 2) (ch 4)),0):=by rfl
theorem j7n:x1b [x3l (ch 2),x3l (cp (ch 2) (ch 2))]=some (x3l (cp (ch 2) (cp (ch 2) (ch 2))),0):=by rfl
theorem j1d(ns:List Int)(t:Int)(h0:0<=t):∃ rows∈y5w,∃ q,x4w [scr ns,.int t]=some (x3l rows,q):=by
 have k0:=x6c ns t (m:=9) (by decide)
 have k1:=x79 ns t (m:=9) (by decide)
 have p0:=x6c ns (t+1) (m:=5) (by decide)
 have p1:=x79 ns (t+1) (m:=5) (by decide)
 have r0:=x6c ns (t+1) (m:=3) (by decide)
 have r1:=x79 ns (t+1) (m:=3) (by decide)
 have e9:=x76 ns t 9 h0 (by decide)
 have e5:=x76 ns (t+1) 5 (by omega) (by decide)
 have e3:=x76 ns (t+1) 3 (by omega) (by decide)
 have mem:∀ i:Nat,i<15->y5w.getD i []∈y5w:=fun i hi=>by
  rw[List.getD_eq_getElem?_getD,List.getElem?_eq_getElem (show i<y5w.length from hi)]
  exact List.getElem_mem _
 have hc:∀ p:Int,0<=p->p<5->∃ rows∈y5w,x12 [.int (1+p)]=some (x3l rows,1):=fun p a b=>by
  have:p=0\/p=1\/p=2\/p=3\/p=4:=by omega
  rcases this with rfl|rfl|rfl|rfl|rfl
  ·exact⟨_,mem 0 (by decide),ch1⟩
  ·exact⟨_,mem 1 (by decide),ch2⟩
  ·exact⟨_,mem 2 (by decide),ch3⟩
  ·exact⟨_,mem 3 (by decide),ch4⟩
  ·exact⟨_,mem 4 (by decide),ch5⟩
 have hs:∀ p:Int,0<=p->p<5->∃ rows∈y5w,x0x [.int p]=some (x3l rows,0):=fun p a b=>by
  have:p=0\/p=1\/p=2\/p=3\/p=4:=by omega
  rcases this with rfl|rfl|rfl|rfl|rfl
  ·exact⟨_,mem 8 (by decide),sb0⟩
  ·exact⟨_,mem 9 (by decide),sb1⟩
  ·exact⟨_,mem 10 (by decide),sb2⟩
  ·exact⟨_,mem 11 (by decide),sb3⟩
  ·exact⟨_,mem 12 (by decide),sb4⟩
 have hp:∀ r:Int,0<=r->r<3->∃ x rows1 rows,atD (.lst [.int 2,.int 3,.int 4]) r=some (.int x)/\x12 [.int x]=some (x3l rows1,1)/\rows∈y5w/\x1b [x3l (ch 2),x3l rows1]=some (x3l rows,0):=fun r a b=>by
  have:r=0\/r=1\/r=2:=by omega
  rcases this with rfl|rfl|rfl
  ·exact⟨2,_,_,rfl,ch2,mem 5 (by decide),j7t⟩
  ·exact⟨3,_,_,rfl,ch3,mem 6 (by decide),j8w⟩
  ·exact⟨4,_,_,rfl,ch4,mem 7 (by decide),j89⟩
 unfold x4w y1n
 generalize x7o ns t 9=k at *
 generalize x7o ns (t+1) 5=p at *
 generalize x7o ns (t+1) 3=r at *
 by_cases h3:k<3
 ·obtain⟨rows,hm,e⟩:=hc p p0 p1
  exact⟨rows,hm,1,by simp[e9,e5,h3,e]⟩
 by_cases h5:k<5
 ·obtain⟨x,rows1,rows,ea,e1,hm,e2'⟩:=hp r r0 r1
  exact⟨rows,hm,0,by simp[e9,e3,h3,h5,ch2,ea,e1,e2']⟩
 by_cases h7:k<7
 ·obtain⟨rows,hm,e⟩:=hs p p0 p1
  exact⟨rows,hm,0,by simp[e9,e5,h3,h5,h7,e]⟩
 have:k=7\/k=8:=by omega
 rcases this with rfl|rfl
 ·exact⟨_,mem 13 (by decide),0,by simp[e9,z24,ch2,j7t];exact j7n⟩
 ·refine⟨_,mem 14 (by decide),0,?_⟩
  simp[e9,z24]
  rfl
theorem z4i:∀ rows∈y5w,j7j rows.length (tf rows)=true:=by decide +kernel
def pk (ns:List Int)(t:Int)(k m:Nat):Nat:=(x7o ns (t+2+Int.ofNat k) (Int.ofNat m)).toNat
theorem z9t(ns:List Int)(t:Int)(k m:Nat)(h:0<m):pk ns t k m<m:=by
 have h1:=x6c ns (t+2+Int.ofNat k) (m:=Int.ofNat m) (by show(0:Int)<m;omega)
 have h2:=x79 ns (t+2+Int.ofNat k) (m:=Int.ofNat m) (by show(0:Int)<m;omega)
 have h3:(Int.ofNat m)=(m:Int):=rfl
 unfold pk
 omega
theorem j69(ns:List Int)(t:Int)(k m:Nat)(h:0<m):x7o ns (t+2+Int.ofNat k) (Int.ofNat m)=Int.ofNat (pk ns t k m):=by
 have h1:=x6c ns (t+2+Int.ofNat k) (m:=Int.ofNat m) (by show(0:Int)<m;omega)
 unfold pk
 show _=((x7o ns (t+2+Int.ofNat k) (Int.ofNat m)).toNat:Int)
 omega
section
variable (ns:List Int)(t:Int)(n:Nat)(B:Nat->Nat->Nat)(q:Nat)
theorem z73(h0:0<=t)(hn:n<=16):x8c 1 (x0o 8) x25 (j20 3 (x02 (x0j x0f 3 (x02 (x05 0) (x02 (e2 x31 (e2 x31 (x05 1) (eC (.int 2))) (x05 8)) (x02 (x1g 3) x0i)))) x0i)) false (x19 n)
  [some (scr ns,0),some (.int t,9),some (x40 n B,q),some (.lst (x19 n),1),none,none,none,none] =
  some (x0e ((List.range n).map (drawn (pk ns t) n)),[some (scr ns,0),some (.int t,9),some (x40 n B,q),some (.lst [],1),none,none,none,none]):=by
 have hp:=z9t ns t
 have h:=x4j (k:=1) (pt:=x0o 8) (tt:=x25) (te:=j20 3 (x02 (x0j x0f 3 (x02 (x05 0) (x02 (e2 x31 (e2 x31 (x05 1) (eC (.int 2))) (x05 8)) (x02 (x1g 3) x0i)))) x0i)) (deep:=false) (x19 n)
  (fun k=>[some (scr ns,0),some (.int t,9),some (x40 n B,q),some (.lst (x0e (x6i (pk ns t) n k)),1),none,none,none,none]) (fun _=>true) (fun k=>.int (Int.ofNat (drawn (pk ns t) n k))) (fun k hk=>?_)
 ·rw[x0z]at h
  have hl:x6i (pk ns t) n n=[]:=List.length_eq_zero_iff.mp (by rw[x95 hp n (Nat.le_refl n)];omega)
  rw[hl]at h
  have e1:(List.range n).filter (fun _=>true)=List.range n:=by simp
  rw[e1]at h
  simp only[x0e,List.map_map,Function.comp_def]
  exact h
 ·rw[x0z]at hk
  have hl:=x95 hp k (Nat.le_of_lt hk)
  have hlp:0<(x6i (pk ns t) n k).length:=by rw[hl];omega
  have e:=j69 ns t k _ hlp
  have hj:=z9t ns t k _ hlp
  have hpk:=x76 ns (t+2+Int.ofNat k) (Int.ofNat (x6i (pk ns t) n k).length) (by show 0<=t+2+(k:Int);omega) (by show(0:Int)<((x6i (pk ns t) n k).length:Int);omega)
  have hs:seqIndex? (Int.ofNat (pk ns t k (x6i (pk ns t) n k).length)) (x0e (x6i (pk ns t) n k)).length=some (pk ns t k (x6i (pk ns t) n k).length):=(y71 (x9x (by rw[x10];exact hj))).1
  have hg:(x0e (x6i (pk ns t) n k))[pk ns t k (x6i (pk ns t) n k).length]? = some (.int (Int.ofNat (drawn (pk ns t) n k))):=by
   rw[y9c]
   unfold drawn
   rw[List.getD_eq_getElem?_getD,List.getElem?_eq_getElem hj]
   rfl
  have hb:pk ns t k (x6i (pk ns t) n k).length<=16:=by omega
  have he:(x0e (x6i (pk ns t) n k)).eraseIdx (pk ns t k (x6i (pk ns t) n k).length)=x0e (x6i (pk ns t) n (k+1)):=by rw[x6i,y38]
  refine⟨[some (scr ns,0),some (.int t,9),some (x40 n B,q),some (.lst (x0e (x6i (pk ns t) n k)),1),none,none,none,none,some (.int (Int.ofNat k),9)],_,by simp[x19],rfl,?_⟩
  rw[if_pos rfl]
  refine⟨9,[some (scr ns,0),some (.int t,9),some (x40 n B,q),some (.lst (x0e (x6i (pk ns t) n (k+1))),1),none,none,none,none,some (.int (Int.ofNat k),9)],?_,by simp,by simp⟩
  have b1:(-1000:Int)<=Int.ofNat (pk ns t k (x6i (pk ns t) n k).length):=by show(-1000:Int)<=(pk ns t k (x6i (pk ns t) n k).length:Int);omega
  have b2:Int.ofNat (pk ns t k (x6i (pk ns t) n k).length)<=1000:=by show(pk ns t k (x6i (pk ns t) n k).length:Int)<=1000;omega
  have hl':x7m (.lst (x0e (x6i (pk ns t) n k)))=some (x6i (pk ns t) n k).length:=by simp[x7m,x10]
  rw[e]at hpk
  simp[-Int.ofNat_eq_natCast,hl',hpk,hs,hg,he,b1,b2]
theorem z9y(hn:n<=16)(x:OD):x8c 1 (x0o 8) x25 (y70 (x5c (x02 (eC (.int 0)) x0i)) (x1g 2)) true ((List.range n).map fun i=>x8g n B i)
  [some (scr ns,0),some (.int t,9),some (x40 n B,0),some (.lst [],1),x,none,none,none] =
  some ((List.range n).map fun i=>x8g n (fun _ _=>0) i,[some (scr ns,0),some (.int t,9),some (x40 n B,0),some (.lst [],1),x,none,none,none]):=by
 have h:=x4j (k:=1) (pt:=x0o 8) (tt:=x25) (te:=y70 (x5c (x02 (eC (.int 0)) x0i)) (x1g 2)) (deep:=true) ((List.range n).map fun i=>x8g n B i)
  (fun _=>[some (scr ns,0),some (.int t,9),some (x40 n B,0),some (.lst [],1),x,none,none,none]) (fun _=>true) (fun i=>x8g n (fun _ _=>0) i) (fun k hk=>?_)
 ·rw[List.length_map,List.length_range,show(List.range n).filter (fun _=>true)=List.range n by simp]at h
  exact h
 ·refine⟨[some (scr ns,0),some (.int t,9),some (x40 n B,0),some (.lst [],1),x,none,none,none,some (x8g n B k,0)],_,by simp[x8g],rfl,?_⟩
  rw[if_pos rfl]
  refine⟨1,[some (scr ns,0),some (.int t,9),some (x40 n B,0),some (.lst [],1),x,none,none,none,some (x8g n B k,0)],?_,by simp,by simp⟩
  have z:x8g n (fun _ _=>0) k=D.lst (List.replicate n [D.int 0]).flatten:=(j7d n).symm
  have b1:(-1000:Int)<=n:=by omega
  have b2:(n:Int)<=1000:=by omega
  have b3:n<=1000:=by omega
  rw[z]
  simp[x8s,b1,b2,b3]
def gst (π ι:Nat->Nat)(i j a b:Nat):Nat:=if ι a<i\/(ι a=i/\ι b<j)then π (B (ι a) (ι b))else 0
abbrev y8c:x13:=z0o 5 (qIx 4 (z0x 6)) (qIx 4 (z0x 7)) (x1e 4 (eIx (x1e 2 (x05 6)) (x05 7)))
section
variable {n B}{π ι:Nat->Nat}(cl:∀ i j,i<n->j<n->B i j<n)(h1:∀ i,i<n->π i<n)(h2:∀ i,i<n->ι i<n)(h3:∀ i,i<n->ι (π i)=i)(h4:∀ i,i<n->π (ι i)=i)
include cl h1 h2 h3 h4
theorem z3n(hi:i<n)(hj:j<n){y:OD} :
  y8c [some (scr ns,0),some (.int t,9),some (x40 n B,0),some (.lst [],1),some (.lst (x0e ((List.range n).map π)),1),some (x40 n f,2),some (.int (Int.ofNat i),9),some (.int (Int.ofNat j),9)] =
  some (.nx [some (scr ns,0),some (.int t,9),some (x40 n B,0),some (.lst [],1),some (.lst (x0e ((List.range n).map π)),1),some (x40 n (fun a b=>if a=π i/\b=π j then π (B i j)else f a b),2),some (.int (Int.ofNat i),9),some (.int (Int.ofNat j),9)]):=by
 have a1:=j1l (f:=B) hi
 have a2:=j0i (f:=B) (i:=i) hj
 have a3:atD (.lst (x0e ((List.range n).map π))) (Int.ofNat (B i j))=some (.int (Int.ofNat (π (B i j)))):=x2p (cl i j hi hj)
 have a4:atD (.lst (x0e ((List.range n).map π))) (Int.ofNat i)=some (.int (Int.ofNat (π i))):=x2p hi
 have a5:atD (.lst (x0e ((List.range n).map π))) (Int.ofNat j)=some (.int (Int.ofNat (π j))):=x2p hj
 have a6:ixN ((List.range n).map fun a=>x8g n f a).length (Int.ofNat (π i))=some (π i):=x9x (by simpa using h1 i hi)
 have a7:((List.range n).map fun a=>x8g n f a)[π i]? = some (.lst (x0e ((List.range n).map fun b=>f (π i) b))):=by rw[List.getElem?_map,List.getElem?_range (h1 i hi)];rfl
 have a8:ixN (x0e ((List.range n).map fun b=>f (π i) b)).length (Int.ofNat (π j))=some (π j):=x9x (by simpa [x10]using h1 j hj)
 have a9:=z65 (n:=n) (f:=f) (a:=π i) (b:=π j) (v:=π (B i j))
 rw[<- a9]
 show y8c [some (scr ns,0),some (.int t,9),some (x40 n B,0),some (.lst [],1),some (.lst (x0e ((List.range n).map π)),1),some (.lst ((List.range n).map fun a=>x8g n f a),2),some (.int (Int.ofNat i),9),some (.int (Int.ofNat j),9)]=_
 unfold y8c
 simp only[z0o,x1e,eIx,x05,qIx,z0x,List.getElem?_cons_succ,List.getElem?_cons_zero,D.isL,if_true,a1,a2,a3,a4,a5,a6,a7,a8,ne_eq,not_true_eq_false,false_and,and_false,if_false,Bool.false_eq_true,reduceCtorEq,Nat.not_lt_zero,Nat.lt_irrefl,x9m,List.set_cons_succ,List.set_cons_zero]
abbrev y9p (f:Nat->Nat->Nat)(x y:OD):Rho:=[some (scr ns,0),some (.int t,9),some (x40 n B,0),some (.lst [],1),some (.lst (x0e ((List.range n).map π)),1),some (x40 n f,2),x,y]
omit cl h1 h2 h3 h4
theorem x5s(h:i<(x19 n).length):(x19 n)[i]=.int (Int.ofNat i):=by simp[x19]
include cl h1 h2 h3 h4
theorem z72(hi:i<n)(hj:j<n):x40 n (fun a b=>if a=π i/\b=π j then π (B i j)else gst B π ι i j a b)=x40 n (gst B π ι i (j+1)):=by
 refine x7c fun a b ha hb=>?_
 unfold gst
 by_cases h:a=π i/\b=π j
 ·obtain⟨rfl,rfl⟩:=h
  rw[if_pos ⟨rfl,rfl⟩,h3 i hi,h3 j hj,if_pos (.inr ⟨rfl,Nat.lt_succ_self _⟩)]
 ·rw[if_neg h]
  have:¬ (ι a=i/\ι b=j):=fun⟨e1,e2⟩=>h ⟨by rw[<- e1,h4 a ha],by rw[<- e2,h4 b hb]⟩
  by_cases c:ι a<i\/ι a=i/\ι b<j
  ·rw[if_pos c,if_pos (by omega)]
  ·rw[if_neg c,if_neg (by omega)]
theorem z9i:x40 n (gst B π ι i n)=x40 n (gst B π ι (i+1) 0):=by
 refine x7c fun a b ha hb=>?_
 have:=h2 b hb
 unfold gst
 by_cases c:ι a<i\/ι a=i/\ι b<n
 ·rw[if_pos c,if_pos (by omega)]
 ·rw[if_neg c,if_neg (by omega)]
theorem z5a(hn:n<=16)(hi:i<n)(y:OD):∃ y',x8f (x0o 7) y8c (x19 n) (y9p ns t (n:=n) (B:=B) (π:=π) (gst B π ι i 0) (some (.int (Int.ofNat i),9)) y) =
  some (.nx (y9p ns t (n:=n) (B:=B) (π:=π) (gst B π ι (i+1) 0) (some (.int (Int.ofNat i),9)) y')):=by
 obtain⟨ρ',e,y',rfl⟩:=x48 (pt:=x0o 7) (body:=y8c) (x19 n) (fun j ρ=>∃ y,ρ=y9p ns t (n:=n) (B:=B) (π:=π) (gst B π ι i j) (some (.int (Int.ofNat i),9)) y) (y9p ns t (n:=n) (B:=B) (π:=π) (gst B π ι i 0) (some (.int (Int.ofNat i),9)) y) (fun j hj ρ hh0=>by
  obtain⟨y,hy⟩:=hh0
  subst hy
  rw[x0z]at hj
  refine⟨y9p ns t (n:=n) (B:=B) (π:=π) (gst B π ι i j) (some (.int (Int.ofNat i),9)) (some (.int (Int.ofNat j),9)),_,by rw[x5s];simp,.inl (z3n ns t cl h1 h2 h3 h4 hi hj (y:=none)),?_⟩
  rw[z72 cl h1 h2 h3 h4 hi hj]
  exact⟨_,rfl⟩) ⟨y,rfl⟩
 refine⟨y',?_⟩
 rw[e,x0z]
 show some (Out.nx [_,_,_,_,_,some (x40 n (gst B π ι i n),2),_,_])=_
 rw[z9i cl h1 h2 h3 h4]
theorem z75(hn:n<=16)(x y:OD):∃ x' y',x8f (x0o 6) (x7l (x17 (x02 (x1g 2) x0i)) (x0o 7) y8c) (x19 n) (y9p ns t (n:=n) (B:=B) (π:=π) (fun _ _=>0) x y) =
  some (.nx (y9p ns t (n:=n) (B:=B) (π:=π) (fun a b=>π (B (ι a) (ι b))) x' y')):=by
 have z:x40 n (fun _ _=>0)=x40 n (gst B π ι 0 0):=x7c fun a b _ _=>by unfold gst;rw[if_neg (by omega)]
 have z':x40 n (gst B π ι n 0)=x40 n (fun a b=>π (B (ι a) (ι b))):=x7c fun a b ha _=>by unfold gst;rw[if_pos (.inl (h2 a ha))]
 obtain⟨ρ',e,x',y',rfl⟩:=x48 (pt:=x0o 6) (body:=x7l (x17 (x02 (x1g 2) x0i)) (x0o 7) y8c) (x19 n) (fun i ρ=>∃ x y,ρ=y9p ns t (n:=n) (B:=B) (π:=π) (gst B π ι i 0) x y) (y9p ns t (n:=n) (B:=B) (π:=π) (gst B π ι 0 0) x y) (fun i hi ρ hh0=>by
  obtain⟨x,y,hy⟩:=hh0
  subst hy
  rw[x0z]at hi
  obtain⟨y',hy'⟩:=z5a ns t cl h1 h2 h3 h4 hn hi y
  refine⟨y9p ns t (n:=n) (B:=B) (π:=π) (gst B π ι i 0) (some (.int (Int.ofNat i),9)) y,_,by rw[x5s];simp,.inl (show _=some (Out.nx (y9p ns t (n:=n) (B:=B) (π:=π) (gst B π ι (i+1) 0) (some (.int (Int.ofNat i),9)) y'))from ?_),⟨_,_,rfl⟩⟩
  have b1:(-1000:Int)<=Int.ofNat n:=by show(-1000:Int)<=n;omega
  have b2:Int.ofNat n<=1000:=by show(n:Int)<=1000;omega
  have e:x17 (x02 (x1g 2) x0i) (y9p ns t (n:=n) (B:=B) (π:=π) (gst B π ι i 0) (some (.int (Int.ofNat i),9)) y)=some (x19 n,y9p ns t (n:=n) (B:=B) (π:=π) (gst B π ι i 0) (some (.int (Int.ofNat i),9)) y):=by
   simp[-Int.ofNat_eq_natCast,x8s,b1,b2]
   rfl
  unfold x7l
  rw[e]
  exact hy') ⟨x,y,rfl⟩
 refine⟨x',y',?_⟩
 show x8f _ _ _ [_,_,_,_,_,some (x40 n (fun _ _=>0),2),_,_]=some (.nx [_,_,_,_,_,some (x40 n (fun a b=>π (B (ι a) (ι b))),2),_,_])
 rw[z,<- z']
 rw[x0z]at e
 exact e
end
end
theorem z6j{a b c d e:OD}{x y:OD}:x8c 1 (x0o 8) x25 (x3t (x02 (x05 8) x0i)) false ((List.range n).map fun i=>x8g n f i) [a,b,c,d,e,some (x40 n f,0),x,y] =
  some ((List.range n).map fun i=>z06 n f i,[a,b,c,d,e,some (x40 n f,0),x,y]):=by
 have h:=x4j (k:=1) (pt:=x0o 8) (tt:=x25) (te:=x3t (x02 (x05 8) x0i)) (deep:=false) ((List.range n).map fun i=>x8g n f i)
  (fun _=>[a,b,c,d,e,some (x40 n f,0),x,y]) (fun _=>true) (fun i=>z06 n f i) (fun k hk=>?_)
 ·rw[List.length_map,List.length_range,show(List.range n).filter (fun _=>true)=List.range n by simp]at h
  exact h
 ·refine⟨[a,b,c,d,e,some (x40 n f,0),x,y,some (x8g n f k,0)],_,by simp[x8g],rfl,?_⟩
  rw[if_pos rfl]
  exact⟨9,[a,b,c,d,e,some (x40 n f,0),x,y,some (x8g n f k,0)],by simp[x8g,z06],by simp,by simp⟩
theorem x5b(hn:n<=1000)(h:ρ[i]? = some (some (d,q)))(hl:x7m d=some n):x17 (x02 (x1g i) x0i) ρ=some (x19 n,ρ):=by
 have b1:(-1000:Int)<=Int.ofNat n:=by show(-1000:Int)<=n;omega
 have b2:Int.ofNat n<=1000:=by show(n:Int)<=1000;omega
 simp only[x17,x02,x1g,x0i,h,hl]
 rw[if_pos ⟨b1,b2⟩]
 rfl
theorem j4e(ns:List Int)(t:Int)(h0:0<=t):∃ n f,Lad n f/\x3n [scr ns,.int t]=some (x0p n f,9):=by
 obtain⟨rows,hm,q,hb⟩:=j1d ns t h0
 have L:=j07 (z4i rows hm)
 unfold x3l at hb
 revert hb L
 generalize rows.length=n
 generalize tf rows=B
 intro hb L
 have hp:=z9t ns t
 have hn:n<=1000:=Nat.le_trans L.hi (by decide)
 refine⟨n,fun a b=>drawn (pk ns t) n (B (x3r (pk ns t) n a) (x3r (pk ns t) n b)),L.ren (fun i hi=>y9r hp hi) (fun i hi=>y3g hp hi) (fun i hi=>x94 hp hi) (fun i hi=>x93 hp hi),?_⟩
 unfold x3n x8v
 refine x1l ?_
 have s0:x5v 8 [scr ns,.int t]=[some (scr ns,0),some (.int t,9),none,none,none,none,none,none]:=rfl
 rw[s0]
 refine(x0g (ρ1:=[some (scr ns,0),some (.int t,9),some (x40 n B,q),none,none,none,none,none]) ?_).trans ?_
 ·simp[hb]
 refine(x0g (ρ1:=[some (scr ns,0),some (.int t,9),some (x40 n B,q),some (.lst (x19 n),1),none,none,none,none]) ?_).trans ?_
 ·exact x1s (y2a (x5b hn rfl x8s)) rfl
 refine(x0g (ρ1:=[some (scr ns,0),some (.int t,9),some (x40 n B,q),some (.lst [],1),some (.lst (x0e ((List.range n).map (drawn (pk ns t) n))),1),none,none,none]) ?_).trans ?_
 ·exact x1s (x2a (x5b hn rfl x8s) (z73 ns t n B q h0 L.hi)) rfl
 refine(x0g (ρ1:=[some (scr ns,0),some (.int t,9),some (x40 n B,0),some (.lst [],1),some (.lst (x0e ((List.range n).map (drawn (pk ns t) n))),1),some (x40 n (fun _ _=>0),2),none,none]) ?_).trans ?_
 ·have e:x50 (x05 2) [some (scr ns,0),some (.int t,9),some (x40 n B,q),some (.lst [],1),some (.lst (x0e ((List.range n).map (drawn (pk ns t) n))),1),none,none,none]=some ((List.range n).map fun i=>x8g n B i,[some (scr ns,0),some (.int t,9),some (x40 n B,0),some (.lst [],1),some (.lst (x0e ((List.range n).map (drawn (pk ns t) n))),1),none,none,none]):=by
   by_cases hq:q=0
   ·subst hq;simp[x40,hn]
   ·simp[x40,hn,hq]
  exact x1s (x2a e (z9y ns t n B L.hi _)) rfl
 obtain⟨x',y',hf⟩:=z75 ns t (n:=n) (B:=B) (π:=drawn (pk ns t) n) (ι:=x3r (pk ns t) n) L.cl (fun i hi=>y9r hp hi) (fun i hi=>y3g hp hi) (fun i hi=>x94 hp hi) (fun i hi=>x93 hp hi) L.hi none none
 refine(x0g ((x2o (x5b hn rfl x8s)).trans hf)).trans ?_
 refine x2y (ρ1:=[some (scr ns,0),some (.int t,9),some (x40 n B,0),some (.lst [],1),some (.lst (x0e ((List.range n).map (drawn (pk ns t) n))),1),some (x40 n (fun a b=>drawn (pk ns t) n (B (x3r (pk ns t) n a) (x3r (pk ns t) n b))),0),x',y']) ?_
 have e:x50 (x05 5) (y9p ns t (n:=n) (B:=B) (π:=drawn (pk ns t) n) (fun a b=>drawn (pk ns t) n (B (x3r (pk ns t) n a) (x3r (pk ns t) n b))) x' y')=some ((List.range n).map fun i=>x8g n (fun a b=>drawn (pk ns t) n (B (x3r (pk ns t) n a) (x3r (pk ns t) n b))) i,[some (scr ns,0),some (.int t,9),some (x40 n B,0),some (.lst [],1),some (.lst (x0e ((List.range n).map (drawn (pk ns t) n))),1),some (x40 n (fun a b=>drawn (pk ns t) n (B (x3r (pk ns t) n a) (x3r (pk ns t) n b))),0),x',y']):=by
  simp[x40,hn]
 have e2:=x2a (k:=1) (pt:=x0o 8) (tt:=x25) (te:=x3t (x02 (x05 8) x0i)) (deep:=false) e z6j
 exact x9q (x1i e2)
section
variable {n:Nat}{f:Nat->Nat->Nat}
theorem x83{x w:Nat}(hx:x<n)(hw:w<n):x2d [x0p n f,.int (Int.ofNat x),.int (Int.ofNat w)]=some (.bl (decide (f x w=w)),9):=by
 unfold x2d y2y
 simp[-Int.ofNat_eq_natCast,x6e hx,x6q hw,z15]
theorem y9o(hn:n<=1000){w:Nat}(hw:w<n):x4h [x0p n f,.int (Int.ofNat w)]=some (.lst (x0e ((List.range n).filter fun x=>decide (f x w=w))),1):=by
 unfold x4h z3v
 refine x1l (x2y (x2a (deep:=false) (ρ2:=[some (x0p n f,9),some (.int (Int.ofNat w),9)]) (x5b hn rfl x2r) ?_))
 refine y5d (i:=2) (ρ:=[some (x0p n f,9),some (.int (Int.ofNat w),9)]) (deep:=false) rfl (fun x=>decide (f x w=w)) (fun x=>.int (Int.ofNat x)) (fun _=>9) (fun j hj=>?_) (fun j hj _=>?_)
 ·simp[-Int.ofNat_eq_natCast,x83 hj hw]
 ·simp[-Int.ofNat_eq_natCast]
theorem z6l(hn:n<=1000){w:Nat}(hw:w<n):x2j [x0p n f,.int (Int.ofNat w)]=some (.lst (x0e ((List.range n).filter fun x=>decide (f x w=w))),1):=by
 unfold x2j y0j
 refine x1l (x2y (x2a (deep:=false) (ρ2:=[some (x0p n f,9),some (.int (Int.ofNat w),9)]) (x5b hn rfl x2r) ?_))
 refine y5d (i:=2) (ρ:=[some (x0p n f,9),some (.int (Int.ofNat w),9)]) (deep:=false) rfl (fun x=>decide (f x w=w)) (fun x=>.int (Int.ofNat x)) (fun _=>9) (fun j hj=>?_) (fun j hj _=>?_)
 ·simp[-Int.ofNat_eq_natCast,x6e hj,x6q hw,z15]
 ·simp[-Int.ofNat_eq_natCast]
variable (L:Lad n f){z:Nat}(hz:z<n)(bz:∀ j,j<n->f z j=j)
include L hz bz
theorem j2u{w:Nat}(hw:w<n):decide ((List.range n).map (fun j=>f w j)=List.range n)=decide (w=z):=by
 rw[decide_eq_decide,y6l]
 exact⟨fun h=>L.bot_uniq hz bz hw h,fun h=>by subst h;exact bz⟩
theorem z3w(hn:n<=1000):x1k [x0p n f]=some (.int (Int.ofNat z),9):=by
 unfold x1k y33
 refine x1l (x2y (ρ1:=[some (x0p n f,9)]) ?_)
 have hc:x2w 1 (x17 (x02 (x1g 0) x0i)) (x0o 1) (x3d (e2 dEq (x86 (x02 (x1e 0 (x05 1)) x0i)) (x7y (x02 (x1g 0) x0i)))) (x05 1) false (x5v 1 [x0p n f])=some (.lst (x0e [z]),1,[some (x0p n f,9)]):=by
  refine(x2a (deep:=false) (ρ2:=[some (x0p n f,9)]) (x5b hn rfl x2r) (y5d rfl (fun x=>decide (x=z)) (fun x=>.int (Int.ofNat x)) (fun _=>9) (fun j hj=>?_) (fun j hj _=>?_))).trans ?_
  ·have e1:x86 (x02 (x1e 0 (x05 1)) x0i) ([some (x0p n f,9)]++[some (.int (Int.ofNat j),9)])=some (.lst (x0e ((List.range n).map fun k=>f j k)),1,[some (x0p n f,9),some (.int (Int.ofNat j),9)]):=by
    simp[-Int.ofNat_eq_natCast,x6e hj,z06]
   have e2':x7y (x02 (x1g 0) x0i) [some (x0p n f,9),some (.int (Int.ofNat j),9)]=some (.lst (x0e (List.range n)),1,[some (x0p n f,9),some (.int (Int.ofNat j),9)]):=y2a (x5b hn rfl x2r)
   unfold x3d e2
   rw[e1]
   simp only[e2',j6o,j2u L hz bz hj]
   rfl
  ·simp[-Int.ofNat_eq_natCast]
  ·rw[y2z,if_pos hz]
   rfl
 unfold eIx
 rw[hc]
 simp[-Int.ofNat_eq_natCast,atD,x0e,L2.atI,ixN]
theorem z98(hn:n<=1000)(hl:l.length<=1000)(hm:∀ x∈l,x<n):x3h [x0p n f,.lst (x0e l)]=some (.int (Int.ofNat (l.foldl f z)),9):=by
 unfold x3h y22
 refine x1l ?_
 refine(x0g (ρ1:=[some (x0p n f,9),some (.lst (x0e l),0),some (.int (Int.ofNat z),9),none]) ?_).trans ?_
 ·simp[-Int.ofNat_eq_natCast,z3w L hz bz hn]
 obtain⟨ρ',e,y,rfl⟩:=x48 (pt:=x0o 3) (body:=x1n 2 (eIx (x1e 0 (x05 2)) (x05 3))) (x0e l) (fun i ρ=>∃ y,ρ=[some (x0p n f,9),some (.lst (x0e l),0),some (.int (Int.ofNat ((l.take i).foldl f z)),9),y]) [some (x0p n f,9),some (.lst (x0e l),0),some (.int (Int.ofNat z),9),none] (fun i hi ρ hh0=>by
  obtain⟨y,hy⟩:=hh0
  subst hy
  have hi':i<l.length:=by rw[x10]at hi;exact hi
  have hg:(x0e l)[i]=.int (Int.ofNat l[i]):=by simp[x0e]
  have hx:l[i]<n:=hm _ (List.getElem_mem hi')
  have ha:(l.take i).foldl f z<n:=L.fold_lt hz fun x m=>hm x (List.mem_of_mem_take m)
  refine⟨[some (x0p n f,9),some (.lst (x0e l),0),some (.int (Int.ofNat ((l.take i).foldl f z)),9),some (.int (Int.ofNat l[i]),9)],[some (x0p n f,9),some (.lst (x0e l),0),some (.int (Int.ofNat ((l.take (i+1)).foldl f z)),9),some (.int (Int.ofNat l[i]),9)],?_,.inl ?_,⟨_,rfl⟩⟩
  ·rw[hg];simp
  ·rw[List.take_succ_eq_append_getElem hi',List.foldl_append]
   simp[-Int.ofNat_eq_natCast,x6e ha,x6q hx]) ⟨none,rfl⟩
 rw[x10,List.take_length]at e
 refine(x0g ((x2o (ds:=x0e l) (ρ1:=[some (x0p n f,9),some (.lst (x0e l),0),some (.int (Int.ofNat z),9),none]) ?_).trans e)).trans ?_
 ·simp[x10,hl]
 ·simp[-Int.ofNat_eq_natCast]
end
section
variable {n:Nat}{f:Nat->Nat->Nat}
variable (L:Lad n f){z:Nat}(hz:z<n)(bz:∀ j,j<n->f z j=j)
include L hz bz
theorem y91(hn:n<=1000):x45 [x0p n f]=some (.int (Int.ofNat z),9):=by
 have b1:(-1000:Int)<=Int.ofNat n:=by show(-1000:Int)<=n;omega
 have b2:Int.ofNat n<=1000:=by show(n:Int)<=1000;omega
 have hr:x3f [.int (Int.ofNat n)]=some (.tup (x0e (List.range n)),9):=by
  unfold x3f x80
  simp[-Int.ofNat_eq_natCast,b1,b2]
  rfl
 have hi:j23 (.tup (x0e (List.range n))) ((List.range n).map fun i=>z06 n f i)=some z:=by
  unfold j23
  rw[y8p,List.map_map]
  have ev:∀ i,i<n->PyData.eqv (toP (z06 n f i)) (toP (.tup (x0e (List.range n))))=decide (i=z):=fun i hi=>(j0l _ _).trans (j2u L hz bz hi)
  refine x9k (x:=toP (z06 n f z)) ?_ ?_ ?_
  ·rw[List.getElem?_map,List.getElem?_range hz];rfl
  ·rw[ev z hz];simp
  ·intro i y hi hy
   have hi':i<n:=Nat.lt_trans hi hz
   rw[List.getElem?_map,List.getElem?_range hi']at hy
   cases hy
   refine(ev i hi').trans ?_
   simp;omega
 have h1:okD (.tup ((List.range n).map fun i=>z06 n f i))=true:=(j1k n f).ok
 have h2:okD (.tup (x0e (List.range n)))=true:=(z7g _).ok
 have hl:x7m (.tup ((List.range n).map fun i=>z06 n f i))=some n:=x2r (f:=f)
 unfold x45 y3k x0p
 simp[-Int.ofNat_eq_natCast,hr,hl,h1,h2,hi]
theorem z17(hn:n<=1000)(hl:l.length<=1000)(hm:∀ x∈l,x<n):x4e [x0p n f,.lst (x0e l)]=some (.int (Int.ofNat (l.foldl f z)),9):=by
 unfold x4e y0b
 refine x1l ?_
 refine(x0g (ρ1:=[some (x0p n f,9),some (.lst (x0e l),0),some (.int (Int.ofNat z),9),none]) ?_).trans ?_
 ·simp[-Int.ofNat_eq_natCast,y91 L hz bz hn]
 obtain⟨ρ',e,y,rfl⟩:=x48 (pt:=x0o 3) (body:=x1n 2 (eIx (x1e 0 (x05 2)) (x05 3))) (x0e l) (fun i ρ=>∃ y,ρ=[some (x0p n f,9),some (.lst (x0e l),0),some (.int (Int.ofNat ((l.take i).foldl f z)),9),y]) [some (x0p n f,9),some (.lst (x0e l),0),some (.int (Int.ofNat z),9),none] (fun i hi ρ hh0=>by
  obtain⟨y,hy⟩:=hh0
  subst hy
  have hi':i<l.length:=by rw[x10]at hi;exact hi
  have hg:(x0e l)[i]=.int (Int.ofNat l[i]):=by simp[x0e]
  have hx:l[i]<n:=hm _ (List.getElem_mem hi')
  have ha:(l.take i).foldl f z<n:=L.fold_lt hz fun x m=>hm x (List.mem_of_mem_take m)
  refine⟨[some (x0p n f,9),some (.lst (x0e l),0),some (.int (Int.ofNat ((l.take i).foldl f z)),9),some (.int (Int.ofNat l[i]),9)],[some (x0p n f,9),some (.lst (x0e l),0),some (.int (Int.ofNat ((l.take (i+1)).foldl f z)),9),some (.int (Int.ofNat l[i]),9)],?_,.inl ?_,⟨_,rfl⟩⟩
  ·rw[hg];simp
  ·rw[List.take_succ_eq_append_getElem hi',List.foldl_append]
   simp[-Int.ofNat_eq_natCast,x6e ha,x6q hx]) ⟨none,rfl⟩
 rw[x10,List.take_length]at e
 refine(x0g ((x2o (ds:=x0e l) (ρ1:=[some (x0p n f,9),some (.lst (x0e l),0),some (.int (Int.ofNat z),9),none]) ?_).trans e)).trans ?_
 ·simp[x10,hl]
 ·simp[-Int.ofNat_eq_natCast]
include L hz bz
theorem y77(hn:n<=1000):x2n [x0p n f]=some (.int (Int.ofNat ((List.range n).foldl f z)),9):=by
 unfold x2n x91
 refine x1l (x2y (ρ1:=[some (x0p n f,9)]) (x0s (ds:=[x0p n f,.lst (x0e (List.range n))]) (x1r (q:=9) (ρ1:=[some (x0p n f,9)]) rfl (x1i (y2a (x5b hn rfl x2r)))) rfl (z17 L hz bz hn (by simpa using hn) fun x m=>List.mem_range.mp m)))
include L hz bz
theorem y7w(ns:List Int)(t:Int)(h0:0<=t):∃ d:Nat->Nat,(∀ i,i<n->d i<n)/\x33 [scr ns,.int t,x0p n f]=some (x4l n (Lad.lr n f z d),9):=by
 have hn:n<=1000:=Nat.le_trans L.hi (by decide)
 have hnp:(0:Int)<Int.ofNat n:=by show(0:Int)<(n:Int);omega
 -- what is drawn for a worth
 have dr:∀ i,∃ v,v<n/\(i<n->∀ ρ:Rho,ρ[0]? = some (some (scr ns,0))->ρ[1]? = some (some (.int t,9))->ρ[2]? = some (some (x0p n f,9))->ρ[3]? = some (some (.int (Int.ofNat z),9))->ρ[5]? = some (some (.int (Int.ofNat i),9))->
   eIx (x5c (x02 (x05 3) (x02 (x05 5) (x02 (x0j x0f 3 (x02 (x05 0) (x02 (e2 x31 (x05 1) (x05 5)) (x02 (x1g 2) x0i)))) x0i)))) (x0j x0f 3 (x02 (x05 0) (x02 (e2 x31 (e2 x31 (x05 1) (eC (.int 8))) (x05 5)) (x02 (eC (.int 3)) x0i)))) ρ=some (.int (Int.ofNat v),9,ρ)):=fun i=>by
  have e1:=x76 ns (t+Int.ofNat i) (Int.ofNat n) (by show 0<=t+(i:Int);omega) hnp
  have e2':=x76 ns (t+8+Int.ofNat i) 3 (by show 0<=t+8+(i:Int);omega) (by decide)
  have l1:=x6c ns (t+Int.ofNat i) hnp
  have l2:=x79 ns (t+Int.ofNat i) hnp
  have k1:=x6c ns (t+8+Int.ofNat i) (m:=3) (by decide)
  have k2:=x79 ns (t+8+Int.ofNat i) (m:=3) (by decide)
  generalize x7o ns (t+Int.ofNat i) (Int.ofNat n)=a at *
  generalize x7o ns (t+8+Int.ofNat i) 3=b at *
  obtain⟨a',rfl⟩:∃ a':Nat,a=Int.ofNat a':=⟨a.toNat,by show a=(a.toNat:Int);omega⟩
  have ha':a'<n:=by have:(a':Int)<(n:Int):=l2;omega
  by_cases hi:i<n
  ·have hb:b=0\/b=1\/b=2:=by omega
   rcases hb with rfl|rfl|rfl
   ·refine⟨z,hz,fun _ ρ h0 h1 h2 h3 h5=>?_⟩
    simp[-Int.ofNat_eq_natCast,h0,h1,h2,h3,h5,x2r,e1,e2',atD,L2.atI,ixN]
   ·refine⟨i,hi,fun _ ρ h0 h1 h2 h3 h5=>?_⟩
    simp[-Int.ofNat_eq_natCast,h0,h1,h2,h3,h5,x2r,e1,e2',atD,L2.atI,ixN]
   ·refine⟨a',ha',fun _ ρ h0 h1 h2 h3 h5=>?_⟩
    simp[-Int.ofNat_eq_natCast,h0,h1,h2,h3,h5,x2r,e1,e2',atD,L2.atI,ixN]
  ·exact⟨z,hz,fun h=>absurd h hi⟩
 obtain⟨d,hd⟩:∃ d:Nat->Nat,∀ i,d i<n/\(i<n->∀ ρ:Rho,ρ[0]? = some (some (scr ns,0))->ρ[1]? = some (some (.int t,9))->ρ[2]? = some (some (x0p n f,9))->ρ[3]? = some (some (.int (Int.ofNat z),9))->ρ[5]? = some (some (.int (Int.ofNat i),9))->
   eIx (x5c (x02 (x05 3) (x02 (x05 5) (x02 (x0j x0f 3 (x02 (x05 0) (x02 (e2 x31 (x05 1) (x05 5)) (x02 (x1g 2) x0i)))) x0i)))) (x0j x0f 3 (x02 (x05 0) (x02 (e2 x31 (e2 x31 (x05 1) (eC (.int 8))) (x05 5)) (x02 (eC (.int 3)) x0i)))) ρ=some (.int (Int.ofNat (d i)),9,ρ)):=
  ⟨fun i=>(dr i).choose,fun i=>(dr i).choose_spec⟩
 refine⟨d,fun i _=>(hd i).1,?_⟩
 unfold x33 y2h
 refine x1l ?_
 have hs:x5v 7 [scr ns,.int t,x0p n f]=[some (scr ns,0),some (.int t,9),some (x0p n f,9),none,none,none,none]:=rfl
 rw[hs]
 refine(x0g (ρ1:=[some (scr ns,0),some (.int t,9),some (x0p n f,9),some (.int (Int.ofNat z),9),none,none,none]) ?_).trans ?_
 ·simp[-Int.ofNat_eq_natCast,z3w L hz bz hn]
 refine(x0g (ρ1:=[some (scr ns,0),some (.int t,9),some (x0p n f,9),some (.int (Int.ofNat z),9),some (.lst [],1),none,none]) ?_).trans ?_
 ·simp
 obtain⟨ρ',e,y,rfl⟩:=x48 (pt:=x0o 5) (body:=x3p (y1i 4 (x02 (eIx (x5c (x02 (x05 3) (x02 (x05 5) (x02 (x0j x0f 3 (x02 (x05 0) (x02 (e2 x31 (x05 1) (x05 5)) (x02 (x1g 2) x0i)))) x0i)))) (x0j x0f 3 (x02 (x05 0) (x02 (e2 x31 (e2 x31 (x05 1) (eC (.int 8))) (x05 5)) (x02 (eC (.int 3)) x0i))))) x0i))) (x19 n)
  (fun i ρ=>∃ y,ρ=[some (scr ns,0),some (.int t,9),some (x0p n f,9),some (.int (Int.ofNat z),9),some (.lst (x0e ((List.range i).map d)),1),y,none])
  [some (scr ns,0),some (.int t,9),some (x0p n f,9),some (.int (Int.ofNat z),9),some (.lst [],1),none,none] (fun i hi ρ hh0=>by
   obtain⟨y,hy⟩:=hh0
   subst hy
   have hi':i<n:=by rw[x0z]at hi;exact hi
   have hdi:=(hd i).2 hi' [some (scr ns,0),some (.int t,9),some (x0p n f,9),some (.int (Int.ofNat z),9),some (.lst (x0e ((List.range i).map d)),1),some (.int (Int.ofNat i),9),none] rfl rfl rfl rfl rfl
   refine⟨[some (scr ns,0),some (.int t,9),some (x0p n f,9),some (.int (Int.ofNat z),9),some (.lst (x0e ((List.range i).map d)),1),some (.int (Int.ofNat i),9),none],[some (scr ns,0),some (.int t,9),some (x0p n f,9),some (.int (Int.ofNat z),9),some (.lst (x0e ((List.range (i+1)).map d)),1),some (.int (Int.ofNat i),9),none],?_,.inl ?_,⟨_,rfl⟩⟩
   ·rw[show(x19 n)[i]=.int (Int.ofNat i)by simp[x19]];simp
   ·have ex:x0e ((List.range (i+1)).map d)=x0e ((List.range i).map d)++[.int (Int.ofNat (d i))]:=by rw[List.range_succ];simp[x0e]
    have hl:(x0e ((List.range i).map d)).length<=1000:=by rw[x10,List.length_map,List.length_range];omega
    exact y40 rfl (x1i hdi) rfl hl (by rw[ex];rfl)) ⟨none,rfl⟩
 rw[x0z]at e
 refine(x0g ((x2o (x5b hn rfl x2r)).trans e)).trans ?_
 refine(x0g (ρ1:=[some (scr ns,0),some (.int t,9),some (x0p n f,9),some (.int (Int.ofNat z),9),some (.lst (x0e ((List.range n).map d)),1),y,some (.lst [],1)]) ?_).trans ?_
 ·simp
 have hdn:∀ i,i<n->d i<n:=fun i _=>(hd i).1
 obtain⟨ρ',e,y',rfl⟩:=x48 (pt:=x0o 5) (body:=x3p (y1i 6 (x02 (x0j x3h 2 (x02 (x05 2) (x02 (x2w 1 (x50 (x0j x2j 2 (x02 (x05 2) (x02 (x05 5) x0i)))) (x0o 7) x25 (x1e 4 (x05 7)) false) x0i))) x0i))) (x19 n)
  (fun i ρ=>∃ y,ρ=[some (scr ns,0),some (.int t,9),some (x0p n f,9),some (.int (Int.ofNat z),9),some (.lst (x0e ((List.range n).map d)),1),y,some (.lst (x0e ((List.range i).map (Lad.lr n f z d))),1)])
  [some (scr ns,0),some (.int t,9),some (x0p n f,9),some (.int (Int.ofNat z),9),some (.lst (x0e ((List.range n).map d)),1),y,some (.lst [],1)] (fun i hi ρ hh0=>by
   obtain⟨y,hy⟩:=hh0
   subst hy
   have hi':i<n:=by rw[x0z]at hi;exact hi
   refine⟨[some (scr ns,0),some (.int t,9),some (x0p n f,9),some (.int (Int.ofNat z),9),some (.lst (x0e ((List.range n).map d)),1),some (.int (Int.ofNat i),9),some (.lst (x0e ((List.range i).map (Lad.lr n f z d))),1)],[some (scr ns,0),some (.int t,9),some (x0p n f,9),some (.int (Int.ofNat z),9),some (.lst (x0e ((List.range n).map d)),1),some (.int (Int.ofNat i),9),some (.lst (x0e ((List.range (i+1)).map (Lad.lr n f z d))),1)],?_,.inl ?_,⟨_,rfl⟩⟩
   ·rw[show(x19 n)[i]=.int (Int.ofNat i)by simp[x19]];simp
   ·have ex:x0e ((List.range (i+1)).map (Lad.lr n f z d))=x0e ((List.range i).map (Lad.lr n f z d))++[.int (Int.ofNat (Lad.lr n f z d i))]:=by rw[List.range_succ];simp[x0e]
    have hl:(x0e ((List.range i).map (Lad.lr n f z d))).length<=1000:=by rw[x10,List.length_map,List.length_range];omega
    have hlow:(Lad.low n f i).length<=1000:=by
     have:=List.length_filter_le (fun y=>decide (f y i=i)) (List.range n)
     rw[List.length_range]at this
     exact Nat.le_trans this hn
    have hit:x50 (x0j x2j 2 (x02 (x05 2) (x02 (x05 5) x0i))) [some (scr ns,0),some (.int t,9),some (x0p n f,9),some (.int (Int.ofNat z),9),some (.lst (x0e ((List.range n).map d)),1),some (.int (Int.ofNat i),9),some (.lst (x0e ((List.range i).map (Lad.lr n f z d))),1)]=some (x0e (Lad.low n f i),[some (scr ns,0),some (.int t,9),some (x0p n f,9),some (.int (Int.ofNat z),9),some (.lst (x0e ((List.range n).map d)),1),some (.int (Int.ofNat i),9),some (.lst (x0e ((List.range i).map (Lad.lr n f z d))),1)]):=by
     have hb:x2j [x0p n f,.int (Int.ofNat i)]=some (.lst (x0e (Lad.low n f i)),1):=z6l hn hi'
     simp[-Int.ofNat_eq_natCast,hb,x10,hlow]
    have hc:=x2a (k:=1) (te:=x1e 4 (x05 7)) (deep:=false) hit (j6p (i:=7) (Lad.low n f i) rfl (fun y=>.int (Int.ofNat (d y))) (fun _=>9) (fun y hy=>by
     have hyn:=(Lad.mem_low.mp hy).1
     have hat:atD (.lst (x0e ((List.range n).map d))) (Int.ofNat y)=some (.int (Int.ofNat (d y))):=x2p hyn
     simp[-Int.ofNat_eq_natCast,hat]))
    have hm:∀ y∈(Lad.low n f i).map d,y<n:=Lad.lr_mem L hz bz hdn
    have e':((Lad.low n f i).map fun y=>D.int (Int.ofNat (d y)))=x0e ((Lad.low n f i).map d):=by simp[x0e]
    rw[e']at hc
    have hj:x3h [x0p n f,.lst (x0e ((Lad.low n f i).map d))]=some (.int (Int.ofNat (Lad.lr n f z d i)),9):=z98 L hz bz hn (by rw[List.length_map];exact hlow) hm
    have ha:=x1i (x0s (n:=2) (x1r (f:=x05 2) (q:=9) (d:=x0p n f) (ρ:=[some (scr ns,0),some (.int t,9),some (x0p n f,9),some (.int (Int.ofNat z),9),some (.lst (x0e ((List.range n).map d)),1),some (.int (Int.ofNat i),9),some (.lst (x0e ((List.range i).map (Lad.lr n f z d))),1)]) (ρ1:=[some (scr ns,0),some (.int t,9),some (x0p n f,9),some (.int (Int.ofNat z),9),some (.lst (x0e ((List.range n).map d)),1),some (.int (Int.ofNat i),9),some (.lst (x0e ((List.range i).map (Lad.lr n f z d))),1)]) rfl (x1i hc)) rfl hj)
    exact y40 rfl ha rfl hl (by rw[ex];rfl)) ⟨y,rfl⟩
 rw[x0z]at e
 refine(x0g ((x2o (x5b hn rfl x2r)).trans e)).trans ?_
 exact x2y (x9q (x1i (q:=0) (ρ1:=[some (scr ns,0),some (.int t,9),some (x0p n f,9),some (.int (Int.ofNat z),9),some (.lst (x0e ((List.range n).map d)),1),y',some (.lst (x0e ((List.range n).map (Lad.lr n f z d))),0)]) rfl))
end
def x7a (n:Nat):D->Bool
 | .int i=>decide (0<=i)&&decide (i<(n:Int))
 | _=>false
def x70 (m n:Nat):D->Bool
 | .tup ds=>decide (ds.length=m)&&ds.all (x7a n)
 | _=>false
theorem x2u(d:D):x5r [d]=some (.bl (match d with|.int _=>true|_=>false),9):=by
 unfold x5r y3n
 cases d<;>simp[isD]
theorem y0c(n:Nat)(d:D):x1w [d,.int (Int.ofNat n)]=some (.bl (x7a n d),9):=by
 unfold x1w x7t
 cases d with
 | int i=>
  have h:=x2u (.int i)
  by_cases h0:0<=i
  ·by_cases h1:i<(n:Int)
   ·simp[h,x7a,h0,h1]
   ·simp[h,x7a,h0,h1]
  ·simp[h,x7a,h0]
 | non=>simp[x2u,x7a]
 | bl b=>simp[x2u,x7a]
 | str x=>simp[x2u,x7a]
 | tup ds=>simp[x2u,x7a]
 | lst ds=>simp[x2u,x7a]
 | dic ks ds=>simp[x2u,x7a]
 | exc nm=>simp[x2u,x7a]
 | ob f fo vs ds=>simp[x2u,x7a]
theorem z2d(m n:Nat)(d:D)(hl:∀ ds,d=.tup ds->ds.length<=1000):x36 [d,.int (Int.ofNat m),.int (Int.ofNat n)]=some (.bl (x70 m n d),9):=by
 unfold x36 x88
 cases d with
 | tup ds=>
  have hl:=hl ds rfl
  refine x1l ?_
  have hs:x5v 3 [.tup ds,.int (Int.ofNat m),.int (Int.ofNat n)]=[some (.tup ds,9),some (.int (Int.ofNat m),9),some (.int (Int.ofNat n),9)]:=rfl
  rw[hs]
  by_cases hm:ds.length=m
  ·refine(x0g (ρ1:=[some (.tup ds,9),some (.int (Int.ofNat m),9),some (.int (Int.ofNat n),9)]) ?_).trans ?_
   ·simp[-Int.ofNat_eq_natCast,isD,x7m,hm,y4f]
   ·have hi:x50 (x05 0) [some (.tup ds,9),some (.int (Int.ofNat m),9),some (.int (Int.ofNat n),9)]=some (ds,[some (.tup ds,9),some (.int (Int.ofNat m),9),some (.int (Int.ofNat n),9)]):=by simp[hl]
    have hc:=x4j (k:=1) (pt:=x0o 3) (tt:=x25) (te:=x0j x1w 2 (x02 (x05 3) (x02 (x05 2) x0i))) (deep:=false) ds (fun _=>[some (.tup ds,9),some (.int (Int.ofNat m),9),some (.int (Int.ofNat n),9)]) (fun _=>true) (fun i=>.bl (x7a n (ds.getD i .non))) (fun i hi=>by
     have hg:ds.getD i .non=ds[i]:=by simp[hi]
     refine⟨[some (.tup ds,9),some (.int (Int.ofNat m),9),some (.int (Int.ofNat n),9),some (ds[i],x9m ds[i])],[some (.tup ds,9),some (.int (Int.ofNat m),9),some (.int (Int.ofNat n),9),some (ds[i],x9m ds[i])],by simp[-x9m],rfl,?_⟩
     rw[if_pos rfl]
     refine⟨9,[some (.tup ds,9),some (.int (Int.ofNat m),9),some (.int (Int.ofNat n),9),some (ds[i],x9m ds[i])],?_,by simp,by simp⟩
     have hv:∃ q,x05 3 [some (.tup ds,9),some (.int (Int.ofNat m),9),some (.int (Int.ofNat n),9),some (ds[i],x9m ds[i])]=some (ds[i],q,[some (.tup ds,9),some (.int (Int.ofNat m),9),some (.int (Int.ofNat n),9),some (ds[i],x9m ds[i])]):=by
      cases hL:(ds[i]).isL with
      | false=>exact⟨9,by simp[-x9m,hL]⟩
      | true=>exact⟨0,by simp[hL]⟩
     obtain⟨q,hv⟩:=hv
     rw[hg]
     exact x0s (x1r hv (x1i (q:=9) rfl)) rfl (y0c n _))
    rw[show(List.range ds.length).filter (fun _=>true)=List.range ds.length by simp]at hc
    have e:(List.range ds.length).map (fun i=>D.bl (x7a n (ds.getD i .non)))=ds.map fun d=>.bl (x7a n d):=by
     apply List.ext_getElem?
     intro k
     by_cases hk:k<ds.length
     ·simp[hk]
     ·rw[List.getElem?_eq_none (by simp;omega),List.getElem?_eq_none (by simp;omega)]
    rw[e]at hc
    refine x2y (z94 (x1i (x2a (deep:=false) hi hc)) ?_)
    simp only[y9m,y9l,Option.map_some,x70,hm]
    simp[List.all_map,Function.comp_def]
  ·have e:x70 m n (.tup ds)=false:=by simp[x70,hm]
   rw[e]
   refine x5z ?_
   simp[-Int.ofNat_eq_natCast,isD,x7m,y4f,hm]
 | non=>simp[isD,x70]
 | bl b=>simp[isD,x70]
 | int i=>simp[isD,x70]
 | str x=>simp[isD,x70]
 | lst ds=>simp[isD,x70]
 | dic ks ds=>simp[isD,x70]
 | exc nm=>simp[isD,x70]
 | ob f fo vs ds=>simp[isD,x70]
theorem z00(m n:Nat)(hm:m<=1000)(d:D):x36 [d,.int (Int.ofNat m),.int (Int.ofNat n)]=some (.bl (x70 m n d),9):=by
 by_cases h:∀ ds,d=.tup ds->ds.length<=1000
 ·exact z2d m n d h
 ·cases d with
  | tup ds=>
   have hne:ds.length≠m:=fun e=>h fun ds' e'=>by cases e';omega
   have e:x70 m n (.tup ds)=false:=by simp[x70,hne]
   unfold x36 x88
   refine x1l ?_
   rw[e]
   refine x5z ?_
   simp[-Int.ofNat_eq_natCast,isD,x7m,y4f,hne]
  | _=>exact absurd (fun ds e=>nomatch e) h
theorem j4m(ds:List D)(hi:ρ.length=i)(v:D->D)(q:D->Nat)
  (he:∀ d,d∈ds->te (ρ++[some (d,x9m d)])=some (v d,q d,ρ++[some (d,x9m d)])) :
  x8c 1 (x0o i) x25 te false ds ρ=some (ds.map v,ρ):=by
 have h:=x4j (k:=1) (pt:=x0o i) (tt:=x25) (te:=te) (deep:=false) ds (fun _=>ρ) (fun _=>true) (fun j=>v (ds.getD j .non)) (fun j hj=>?_)
 ·rw[show(List.range ds.length).filter (fun _=>true)=List.range ds.length by simp]at h
  rw[h]
  have e:(List.range ds.length).map (fun j=>v (ds.getD j .non))=ds.map v:=by
   apply List.ext_getElem?
   intro k
   by_cases hk:k<ds.length
   ·simp[hk]
   ·rw[List.getElem?_eq_none (by simp;omega),List.getElem?_eq_none (by simp;omega)]
  rw[e]
 ·have hg:ds.getD j .non=ds[j]:=by simp[hj]
  refine⟨ρ++[some (ds[j],x9m ds[j])],_,?_,rfl,?_⟩
  ·unfold x0o
   rw[if_pos (by simp[hi])]
   subst hi
   simp[-x9m,List.set_append]
  ·rw[if_pos rfl,hg]
   exact⟨q _,_,he _ (List.getElem_mem hj),by simp,by simp⟩
theorem y9u{it:y4g}(hi:ρ.length=i)(hit:it ρ=some (ds,ρ))(b:D->Bool)(q:D->Nat)
  (he:∀ d,d∈ds->te (ρ++[some (d,x9m d)])=some (.bl (b d),q d,ρ++[some (d,x9m d)])) :
  eB y9m (x02 (x2w 1 it (x0o i) x25 te false) x0i) ρ=some (.bl (ds.all b),9,ρ):=by
 refine z94 (x1i (x2a (deep:=false) hit (j4m ds hi (fun d=>.bl (b d)) q he))) ?_
 simp only[y9m,y9l,Option.map_some]
 simp[List.all_map,Function.comp_def]
structure Cht where
 p:Nat
 W:List (Nat×Nat×(Nat->Nat))
 B:List (Nat×Nat)
def x6l (n:Nat)(w:Nat×Nat×(Nat->Nat)):D:=.tup [.int (Int.ofNat w.1),.int (Int.ofNat w.2.1),x4l n w.2.2]
def x7r (b:Nat×Nat):D:=.tup [.int (Int.ofNat b.1),.int (Int.ofNat b.2)]
def x06 (n:Nat)(C:Cht):D:=.tup [.int (Int.ofNat C.p),.tup (C.W.map (x6l n)),.tup (C.B.map x7r)]
def okW (n:Nat)(f:Nat->Nat->Nat)(p:Nat)(w:Nat×Nat×(Nat->Nat)):Prop:=w.1<p/\w.2.1<p/\(∀ i,i<n->w.2.2 i<n)/\∀ x y,x<n->y<n->f x y=y->f (w.2.2 x) (w.2.2 y)=w.2.2 y
def okB (n:Nat)(p:Nat)(b:Nat×Nat):Prop:=b.1<p/\b.2<n
structure Cht.Ok (n:Nat) (f:Nat->Nat->Nat) (C:Cht):Prop where
 p1:1<=C.p
 p8:C.p<=8
 w60:C.W.length<=60
 b60:C.B.length<=60
 ws:∀ w∈C.W,okW n f C.p w
 bs:∀ b∈C.B,okB n C.p b
@[simp] theorem j21{C:Cht}:(x06 n C).isL=false:=rfl
@[simp] theorem j5t{w:Nat×Nat×(Nat->Nat)}:(x6l n w).isL=false:=rfl
@[simp] theorem j62{b:Nat×Nat}:(x7r b).isL=false:=rfl
theorem x57(ns:List Int){k:Int}(hk:0<=k)(hm:0<m):∃ v:Nat,(v:Int)<m/\x0f [scr ns,.int k,.int m]=some (.int (Int.ofNat v),9):=by
 have h1:=x6c ns k hm
 have h2:=x79 ns k hm
 refine⟨(x7o ns k m).toNat,by omega,?_⟩
 rw[x76 ns k m hk hm]
 have:x7o ns k m=Int.ofNat (x7o ns k m).toNat:=by show _=(((x7o ns k m).toNat:Nat):Int);omega
 rw[<- this]
theorem x67{m:Nat}(hm:m<=1000){fe:Den}(h:fe ρ=some (.int (Int.ofNat m),q,ρ')):x17 (x02 fe x0i) ρ=some (x19 m,ρ'):=by
 have b1:(-1000:Int)<=Int.ofNat m:=by show(-1000:Int)<=m;omega
 have b2:Int.ofNat m<=1000:=by show(m:Int)<=1000;omega
 simp only[x17,x02,x0i,h]
 rw[if_pos ⟨b1,b2⟩]
 rfl
section
variable {n:Nat}{f:Nat->Nat->Nat}(L:Lad n f){z:Nat}(hz:z<n)(bz:∀ j,j<n->f z j=j)
include L hz bz
theorem z05(ns:List Int)(t:Int)(h0:0<=t)(hp:1<=p)(m:Nat)(hm:m<=7) :
  ∃ W:List (Nat×Nat×(Nat->Nat)),W.length=m/\(∀ w∈W,okW n f p w)/\∃ a b c,x8f (x0o 6) x5y (x19 m) [some (scr ns,0),some (.int t,9),some (x0p n f,9),some (.bl false,9),some (.int (Int.ofNat p),9),some (.lst [],1),none,none,none,none,none]=some (.nx [some (scr ns,0),some (.int t,9),some (x0p n f,9),some (.bl false,9),some (.int (Int.ofNat p),9),some (.lst (W.map (x6l n)),1),a,b,c,none,none]):=by
 have hpp:(0:Int)<Int.ofNat p:=by show(0:Int)<(p:Int);omega
 obtain⟨ρ',e,W,hl,hok,a,b,c,rfl⟩:=x48 (pt:=x0o 6) (body:=x5y) (x19 m) (fun i ρ=>∃ W:List (Nat×Nat×(Nat->Nat)),W.length=i/\(∀ w∈W,okW n f p w)/\∃ a b c,ρ=[some (scr ns,0),some (.int t,9),some (x0p n f,9),some (.bl false,9),some (.int (Int.ofNat p),9),some (.lst (W.map (x6l n)),1),a,b,c,none,none]) [some (scr ns,0),some (.int t,9),some (x0p n f,9),some (.bl false,9),some (.int (Int.ofNat p),9),some (.lst [],1),none,none,none,none,none] (fun i hi ρ hh0=>by
  obtain⟨W,hl,hok,a,b,c,hr⟩:=hh0
  subst hr
  have hi':i<m:=by rw[x0z]at hi;exact hi
  obtain⟨x,hx⟩:∃ x:Int,x=t+10+22*Int.ofNat i:=⟨_,rfl⟩
  have hx0:0<=x:=by have:Int.ofNat i=(i:Int):=rfl;omega
  obtain⟨d,hd,hR⟩:=y7w L hz bz ns (x+2) (by omega)
  obtain⟨s,hs,es⟩:=x57 ns hx0 hpp
  obtain⟨g,hg,eg⟩:=x57 ns (show 0<=x+1 by omega) hpp
  have hs':s<p:=by have:(s:Int)<(p:Int):=hs;omega
  have hg':g<p:=by have:(g:Int)<(p:Int):=hg;omega
  have hok':okW n f p (s,g,Lad.lr n f z d):=⟨hs',hg',fun i _=>L.lr_lt hz bz hd i,fun x y hx hy e=>L.lr_rises hz bz hd hx hy e⟩
  generalize Lad.lr n f z d=r at *
  have hW:W.length<=1000:=by omega
  refine⟨[some (scr ns,0),some (.int t,9),some (x0p n f,9),some (.bl false,9),some (.int (Int.ofNat p),9),some (.lst (W.map (x6l n)),1),some (.int (Int.ofNat i),9),b,c,none,none],[some (scr ns,0),some (.int t,9),some (x0p n f,9),some (.bl false,9),some (.int (Int.ofNat p),9),some (.lst ((W++[(s,g,r)]).map (x6l n)),1),some (.int (Int.ofNat i),9),some (.int x,9),some (x4l n r,9),none,none],by rw[x5s];simp,.inl ?_,W++[(s,g,r)],by simp[hl],fun w hw=>?_,_,_,_,rfl⟩
  ·unfold x5y
   refine(x0g (ρ1:=[some (scr ns,0),some (.int t,9),some (x0p n f,9),some (.bl false,9),some (.int (Int.ofNat p),9),some (.lst (W.map (x6l n)),1),some (.int (Int.ofNat i),9),some (.int x,9),c,none,none]) (by rw[hx];simp[-Int.ofNat_eq_natCast])).trans ?_
   refine(x0g (ρ1:=[some (scr ns,0),some (.int t,9),some (x0p n f,9),some (.bl false,9),some (.int (Int.ofNat p),9),some (.lst (W.map (x6l n)),1),some (.int (Int.ofNat i),9),some (.int x,9),some (x4l n r,9),none,none]) (by simp[-Int.ofNat_eq_natCast,hR])).trans ?_
   refine(x0g (ρ1:=[some (scr ns,0),some (.int t,9),some (x0p n f,9),some (.bl false,9),some (.int (Int.ofNat p),9),some (.lst (W.map (x6l n)),1),some (.int (Int.ofNat i),9),some (.int x,9),some (x4l n r,9),none,none]) (by simp[-Int.ofNat_eq_natCast])).trans ?_
   simp[-Int.ofNat_eq_natCast,es,eg,hW,x6l]
  ·rcases List.mem_append.mp hw with h|h
   ·exact hok w h
   ·rw[List.mem_singleton.mp h];exact hok') ⟨[],rfl,(fun _ z=>nomatch z),none,none,none,rfl⟩
 rw[x0z]at hl
 exact⟨W,hl,hok,a,b,c,e⟩
theorem z04(ns:List Int)(t:Int)(h0:0<=t)(hp:1<=p)(m:Nat)(hm:m<=3)(W:OD)(a b c:OD) :
  ∃ B:List (Nat×Nat),B.length=m/\(∀ w∈B,okB n p w)/\∃ a' h,x8f (x0o 6) x6d (x19 m) [some (scr ns,0),some (.int t,9),some (x0p n f,9),some (.bl false,9),some (.int (Int.ofNat p),9),W,a,b,c,some (.lst [],1),none]=some (.nx [some (scr ns,0),some (.int t,9),some (x0p n f,9),some (.bl false,9),some (.int (Int.ofNat p),9),W,a',b,c,some (.lst (B.map x7r),1),h]):=by
 have hpp:(0:Int)<Int.ofNat p:=by show(0:Int)<(p:Int);omega
 have hnp:(0:Int)<Int.ofNat n:=by have:=L.lo;show(0:Int)<(n:Int);omega
 obtain⟨ρ',e,B,hl,hok,a',h,rfl⟩:=x48 (pt:=x0o 6) (body:=x6d) (x19 m) (fun i ρ=>∃ B:List (Nat×Nat),B.length=i/\(∀ w∈B,okB n p w)/\∃ a h,ρ=[some (scr ns,0),some (.int t,9),some (x0p n f,9),some (.bl false,9),some (.int (Int.ofNat p),9),W,a,b,c,some (.lst (B.map x7r),1),h]) [some (scr ns,0),some (.int t,9),some (x0p n f,9),some (.bl false,9),some (.int (Int.ofNat p),9),W,a,b,c,some (.lst [],1),none] (fun i hi ρ hh0=>by
  obtain⟨B,hl,hok,a,h,hr⟩:=hh0
  subst hr
  have hi':i<m:=by rw[x0z]at hi;exact hi
  have hii:Int.ofNat i=(i:Int):=rfl
  obtain⟨v,hv,ev⟩:=x57 ns (show 0<=t+3+2*Int.ofNat i by omega) hnp
  obtain⟨g,hg,eg⟩:=x57 ns (show 0<=t+4+2*Int.ofNat i by omega) hpp
  have hv':v<n:=by have:(v:Int)<(n:Int):=hv;omega
  have hg':g<p:=by have:(g:Int)<(p:Int):=hg;omega
  have hB:B.length<=1000:=by omega
  refine⟨[some (scr ns,0),some (.int t,9),some (x0p n f,9),some (.bl false,9),some (.int (Int.ofNat p),9),W,some (.int (Int.ofNat i),9),b,c,some (.lst (B.map x7r),1),h],[some (scr ns,0),some (.int t,9),some (x0p n f,9),some (.bl false,9),some (.int (Int.ofNat p),9),W,some (.int (Int.ofNat i),9),b,c,some (.lst ((B++[(g,v)]).map x7r),1),some (.int (Int.ofNat v),9)],by rw[x5s];simp,.inl ?_,B++[(g,v)],by simp[hl],fun w hw=>?_,_,_,rfl⟩
  ·unfold x6d
   refine(x0g (ρ1:=[some (scr ns,0),some (.int t,9),some (x0p n f,9),some (.bl false,9),some (.int (Int.ofNat p),9),W,some (.int (Int.ofNat i),9),b,c,some (.lst (B.map x7r),1),some (.int (Int.ofNat v),9)]) (by simp[-Int.ofNat_eq_natCast,x2r,ev])).trans ?_
   simp[-Int.ofNat_eq_natCast,eg,hB,x7r]
  ·rcases List.mem_append.mp hw with h|h
   ·exact hok w h
   ·rw[List.mem_singleton.mp h];exact⟨hg',hv'⟩) ⟨[],rfl,(fun _ z=>nomatch z),a,none,rfl⟩
 rw[x0z]at hl
 exact⟨B,hl,hok,a',h,e⟩
theorem y5m(ns:List Int)(t:Int)(h0:0<=t):∃ C:Cht,C.Ok n f/\C.p<=5/\C.W.length<=7/\C.B.length<=3/\x4c [scr ns,.int t,x0p n f,.bl false]=some (x06 n C,9):=by
 obtain⟨p0,hp0,ep⟩:=x57 ns h0 (m:=5) (by decide)
 obtain⟨mw,hmw,ew⟩:=x57 ns (show 0<=t+1 by omega) (m:=8) (by decide)
 obtain⟨mb,hmb,eb⟩:=x57 ns (show 0<=t+2 by omega) (m:=4) (by decide)
 obtain⟨p,hp⟩:∃ p:Nat,p=p0+1:=⟨_,rfl⟩
 have hp':(1:Int)+Int.ofNat p0=Int.ofNat p:=by show(1:Int)+(p0:Int)=(p:Int);omega
 obtain⟨W,hWl,hWok,a,b,c,eW⟩:=z05 L hz bz ns t h0 (p:=p) (by omega) mw (by omega)
 obtain⟨B,hBl,hBok,a',h,eB⟩:=z04 L hz bz ns t h0 (p:=p) (by omega) mb (by omega) (some (.lst (W.map (x6l n)),1)) a b c
 refine⟨⟨p,W,B⟩,⟨by show 1<=p;omega,by show p<=8;omega,by show W.length<=60;omega,by show B.length<=60;omega,hWok,hBok⟩,by show p<=5;omega,by show W.length<=7;omega,by show B.length<=3;omega,?_⟩
 unfold x4c y0q
 refine x1l ?_
 show x0y _ _ [some (scr ns,0),some (.int t,9),some (x0p n f,9),some (.bl false,9),none,none,none,none,none,none,none]=_
 refine(x0g (ρ1:=[some (scr ns,0),some (.int t,9),some (x0p n f,9),some (.bl false,9),some (.int (Int.ofNat p),9),none,none,none,none,none,none]) (by simp[-Int.ofNat_eq_natCast,ep,hp'])).trans ?_
 refine(x0g (ρ1:=[some (scr ns,0),some (.int t,9),some (x0p n f,9),some (.bl false,9),some (.int (Int.ofNat p),9),some (.lst [],1),none,none,none,none,none]) (by simp)).trans ?_
 refine(x0g ((x2o (ρ1:=[some (scr ns,0),some (.int t,9),some (x0p n f,9),some (.bl false,9),some (.int (Int.ofNat p),9),some (.lst [],1),none,none,none,none,none]) (x67 (m:=mw) (by omega) (q:=9) (by simp[-Int.ofNat_eq_natCast,ew]))).trans eW)).trans ?_
 refine(x0g (ρ1:=[some (scr ns,0),some (.int t,9),some (x0p n f,9),some (.bl false,9),some (.int (Int.ofNat p),9),some (.lst (W.map (x6l n)),1),a,b,c,some (.lst [],1),none]) (by simp)).trans ?_
 refine(x0g ((x2o (ρ1:=[some (scr ns,0),some (.int t,9),some (x0p n f,9),some (.bl false,9),some (.int (Int.ofNat p),9),some (.lst (W.map (x6l n)),1),a,b,c,some (.lst [],1),none]) (x67 (m:=mb) (by omega) (q:=9) (by simp[-Int.ofNat_eq_natCast,eb]))).trans eB)).trans ?_
 simp[-Int.ofNat_eq_natCast,x06]
end
def x9e (b:Nat×Nat):ChS:=(b.1,fun _=>b.2)
def y4i (w:Nat×Nat×(Nat->Nat)):ChS:=(w.2.1,fun v=>w.2.2 (gv v w.1))
def x2i (C:Cht):List ChS:=C.B.map x9e++C.W.map y4i
def j19 (f:Nat->Nat->Nat)(C:Cht)(v:List Nat):Bool:=(C.W.all fun w=>decide (f (w.2.2 (gv v w.1)) (gv v w.2.1)=gv v w.2.1))&&(C.B.all fun b=>decide (f b.2 (gv v b.1)=gv v b.1))
theorem y99{C:Cht}:j19 f C v=true ↔ ClS f (x2i C) v:=by
 unfold j19 ClS x2i
 simp only[Bool.and_eq_true,List.all_eq_true,decide_eq_true_eq,List.mem_append,List.mem_map]
 constructor
 ·rintro ⟨h1,h2⟩ s (⟨b,hb,rfl⟩|⟨w,hw,rfl⟩)
  ·exact h2 b hb
  ·exact h1 w hw
 ·intro h
  exact⟨fun w hw=>h _ (.inr ⟨w,hw,rfl⟩),fun b hb=>h _ (.inl ⟨b,hb,rfl⟩)⟩
section
variable {n:Nat}{f:Nat->Nat->Nat}(L:Lad n f){C:Cht}(hC:C.Ok n f)
include L hC
theorem x3b:∀ s∈x2i C,OkS n C.p f s:=fun s hs=>by
 unfold x2i at hs
 rcases List.mem_append.mp hs with h|h
 ·obtain⟨b,hb,rfl⟩:=List.mem_map.mp h
  have k:=hC.bs b hb
  exact⟨k.1,fun _ _=>k.2,fun _ _ _ _ _=>L.idem _ k.2⟩
 ·obtain⟨w,hw,rfl⟩:=List.mem_map.mp h
  have k:=hC.ws w hw
  exact⟨k.2.1,fun v hv=>k.2.2.1 _ (hv.gv k.1),fun u v hu hv e=>k.2.2.2 _ _ (hu.gv k.1) (hv.gv k.1) (e _ k.1)⟩
theorem x98(hv:Vn n C.p v):x2k [x0p n f,x06 n C,.tup (x0e v)]=some (.tup (x0e ((x2i C).foldl (doS f) v)),9):=by
 have hW:=hC.w60
 have hB:=hC.b60
 obtain⟨j1,e1,hv1⟩:=x5p (J:=(OD×OD×OD×OD×OD×OD)) (pt:=y5k (x11 (x0o 3) (x11 (x0o 4) x63))) (body:=x7v) x7r (fun v a=>[some (x0p n f,9),some (x06 n C,9),some (.lst (x0e v),1),(a).1,(a).2.1,(a).2.2.1,(a).2.2.2.1,(a).2.2.2.2.1,(a).2.2.2.2.2]) (fun v b=>doS f v (x9e b)) (Vn n C.p) C.B v (none,none,none,none,none,none) hv (fun b hb v a hv=>by
  have k:=hC.bs b hb
  have ok:=x3b L hC (x9e b) (List.mem_append_left _ (List.mem_map.mpr ⟨b,hb,rfl⟩))
  refine⟨L.doS_V ok hv,[some (x0p n f,9),some (x06 n C,9),some (.lst (x0e v),1),((some (D.int (Int.ofNat b.1),9),some (D.int (Int.ofNat b.2),9),a.2.2)).1,((some (D.int (Int.ofNat b.1),9),some (D.int (Int.ofNat b.2),9),a.2.2)).2.1,((some (D.int (Int.ofNat b.1),9),some (D.int (Int.ofNat b.2),9),a.2.2)).2.2.1,((some (D.int (Int.ofNat b.1),9),some (D.int (Int.ofNat b.2),9),a.2.2)).2.2.2.1,((some (D.int (Int.ofNat b.1),9),some (D.int (Int.ofNat b.2),9),a.2.2)).2.2.2.2.1,((some (D.int (Int.ofNat b.1),9),some (D.int (Int.ofNat b.2),9),a.2.2)).2.2.2.2.2],(some (D.int (Int.ofNat b.1),9),some (D.int (Int.ofNat b.2),9),a.2.2),by simp[-Int.ofNat_eq_natCast,x7r],?_⟩
  have hl:b.1<v.length:=by rw[hv.len];exact k.1
  have a1:=j7h hl
  have a2:=x6e (f:=f) (hv.gv k.1)
  have a3:=x6q (f:=f) (i:=gv v b.1) k.2
  have a4:ixN (x0e v).length (Int.ofNat b.1)=some b.1:=x9x (by rw[x10];exact hl)
  have a5:=y8s v b.1 (f (gv v b.1) b.2)
  unfold x7v doS x9e
  simp[-Int.ofNat_eq_natCast,a1,a2,a3,a4,a5])
 obtain⟨j2,e2',hv2⟩:=x5p (J:=(OD×OD×OD×OD×OD×OD)) (pt:=y5k (x11 (x0o 5) (x11 (x0o 6) (x11 (x0o 7) x63)))) (body:=x7s) (x6l n) (fun v a=>[some (x0p n f,9),some (x06 n C,9),some (.lst (x0e v),1),(a).1,(a).2.1,(a).2.2.1,(a).2.2.2.1,(a).2.2.2.2.1,(a).2.2.2.2.2]) (fun v w=>doS f v (y4i w)) (Vn n C.p) C.W (C.B.foldl (fun v b=>doS f v (x9e b)) v) j1 hv1 (fun w hw v a hv=>by
  have k:=hC.ws w hw
  have ok:=x3b L hC (y4i w) (List.mem_append_right _ (List.mem_map.mpr ⟨w,hw,rfl⟩))
  refine⟨L.doS_V ok hv,[some (x0p n f,9),some (x06 n C,9),some (.lst (x0e v),1),((a.1,a.2.1,some (D.int (Int.ofNat w.1),9),some (D.int (Int.ofNat w.2.1),9),some (x4l n w.2.2,9),a.2.2.2.2.2)).1,((a.1,a.2.1,some (D.int (Int.ofNat w.1),9),some (D.int (Int.ofNat w.2.1),9),some (x4l n w.2.2,9),a.2.2.2.2.2)).2.1,((a.1,a.2.1,some (D.int (Int.ofNat w.1),9),some (D.int (Int.ofNat w.2.1),9),some (x4l n w.2.2,9),a.2.2.2.2.2)).2.2.1,((a.1,a.2.1,some (D.int (Int.ofNat w.1),9),some (D.int (Int.ofNat w.2.1),9),some (x4l n w.2.2,9),a.2.2.2.2.2)).2.2.2.1,((a.1,a.2.1,some (D.int (Int.ofNat w.1),9),some (D.int (Int.ofNat w.2.1),9),some (x4l n w.2.2,9),a.2.2.2.2.2)).2.2.2.2.1,((a.1,a.2.1,some (D.int (Int.ofNat w.1),9),some (D.int (Int.ofNat w.2.1),9),some (x4l n w.2.2,9),a.2.2.2.2.2)).2.2.2.2.2],(a.1,a.2.1,some (D.int (Int.ofNat w.1),9),some (D.int (Int.ofNat w.2.1),9),some (x4l n w.2.2,9),some (D.int (Int.ofNat (w.2.2 (gv v w.1))),9)),by simp[-Int.ofNat_eq_natCast,x6l],?_⟩
  have hl:w.2.1<v.length:=by rw[hv.len];exact k.2.1
  have hl0:w.1<v.length:=by rw[hv.len];exact k.1
  have a0:=j7h hl0
  have a1:=j7h hl
  have b0:=y16 (r:=w.2.2) (hv.gv k.1)
  have a2:=x6e (f:=f) (hv.gv k.2.1)
  have a3:=x6q (f:=f) (i:=gv v w.2.1) (k.2.2.1 _ (hv.gv k.1))
  have a4:ixN (x0e v).length (Int.ofNat w.2.1)=some w.2.1:=x9x (by rw[x10];exact hl)
  have a5:=y8s v w.2.1 (f (gv v w.2.1) (w.2.2 (gv v w.1)))
  unfold x7s doS y4i
  simp[-Int.ofNat_eq_natCast,a0,b0,a1,a2,a3,a4,a5])
 have ef:(x2i C).foldl (doS f) v=C.W.foldl (fun v w=>doS f v (y4i w)) (C.B.foldl (fun v b=>doS f v (x9e b)) v):=by
  unfold x2i
  rw[List.foldl_append,List.foldl_map,List.foldl_map]
 rw[ef]
 unfold x2k x8x
 refine x1l ?_
 show x0y _ _ [some (x0p n f,9),some (x06 n C,9),some (.tup (x0e v),9),none,none,none,none,none,none]=_
 refine(x0g (ρ1:=[some (x0p n f,9),some (x06 n C,9),some (.lst (x0e v),1),(((none,none,none,none,none,none):(OD×OD×OD×OD×OD×OD))).1,(((none,none,none,none,none,none):(OD×OD×OD×OD×OD×OD))).2.1,(((none,none,none,none,none,none):(OD×OD×OD×OD×OD×OD))).2.2.1,(((none,none,none,none,none,none):(OD×OD×OD×OD×OD×OD))).2.2.2.1,(((none,none,none,none,none,none):(OD×OD×OD×OD×OD×OD))).2.2.2.2.1,(((none,none,none,none,none,none):(OD×OD×OD×OD×OD×OD))).2.2.2.2.2]) (by simp)).trans ?_
 refine(x0g ((x2o (ds:=C.B.map x7r) (ρ1:=[some (x0p n f,9),some (x06 n C,9),some (.lst (x0e v),1),(((none,none,none,none,none,none):(OD×OD×OD×OD×OD×OD))).1,(((none,none,none,none,none,none):(OD×OD×OD×OD×OD×OD))).2.1,(((none,none,none,none,none,none):(OD×OD×OD×OD×OD×OD))).2.2.1,(((none,none,none,none,none,none):(OD×OD×OD×OD×OD×OD))).2.2.2.1,(((none,none,none,none,none,none):(OD×OD×OD×OD×OD×OD))).2.2.2.2.1,(((none,none,none,none,none,none):(OD×OD×OD×OD×OD×OD))).2.2.2.2.2]) (by
  have h:atD (x06 n C) 2=some (.tup (C.B.map x7r)):=rfl
  have hB':C.B.length<=1000:=by omega
  simp[h,hB'])).trans e1)).trans ?_
 refine(x0g ((x2o (ds:=C.W.map (x6l n)) (ρ1:=[some (x0p n f,9),some (x06 n C,9),some (.lst (x0e (C.B.foldl (fun v b=>doS f v (x9e b)) v)),1),(j1).1,(j1).2.1,(j1).2.2.1,(j1).2.2.2.1,(j1).2.2.2.2.1,(j1).2.2.2.2.2]) (by
  have h:atD (x06 n C) 1=some (.tup (C.W.map (x6l n))):=rfl
  have hW':C.W.length<=1000:=by omega
  simp[h,hW'])).trans e2')).trans ?_
 simp
theorem y0h(hv:Vn n C.p v):x32 [x0p n f,x06 n C,.tup (x0e v)]=some (.bl (j19 f C v),9):=by
 have hn:n<=1000:=Nat.le_trans L.hi (by decide)
 have hW:=hC.w60
 have hB:=hC.b60
 have hp8:=hC.p8
 obtain⟨w1,w2⟩:=y48 (J:=(OD×OD×OD×OD×OD)) (pt:=y5k (x11 (x0o 3) (x11 (x0o 4) (x11 (x0o 5) x63)))) (body:=x6w) (d:=.bl false) (q:=9) (x6l n) (fun w=>decide (f (w.2.2 (gv v w.1)) (gv v w.2.1)=gv v w.2.1)) (fun a=>[some (x0p n f,9),some (x06 n C,9),some (.tup (x0e v),9),(a).1,(a).2.1,(a).2.2.1,(a).2.2.2.1,(a).2.2.2.2]) C.W (none,none,none,none,none) (fun w hw a=>by
  have k:=hC.ws w hw
  have hl:w.2.1<v.length:=by rw[hv.len];exact k.2.1
  have hl0:w.1<v.length:=by rw[hv.len];exact k.1
  have a0:=j11 hl0
  have a1:=j11 hl
  have b0:=y16 (r:=w.2.2) (hv.gv k.1)
  have c0:=x83 (f:=f) (k.2.2.1 _ (hv.gv k.1)) (hv.gv k.2.1)
  refine⟨[some (x0p n f,9),some (x06 n C,9),some (.tup (x0e v),9),((some (D.int (Int.ofNat w.1),9),some (D.int (Int.ofNat w.2.1),9),some (x4l n w.2.2,9),a.2.2.2)).1,((some (D.int (Int.ofNat w.1),9),some (D.int (Int.ofNat w.2.1),9),some (x4l n w.2.2,9),a.2.2.2)).2.1,((some (D.int (Int.ofNat w.1),9),some (D.int (Int.ofNat w.2.1),9),some (x4l n w.2.2,9),a.2.2.2)).2.2.1,((some (D.int (Int.ofNat w.1),9),some (D.int (Int.ofNat w.2.1),9),some (x4l n w.2.2,9),a.2.2.2)).2.2.2.1,((some (D.int (Int.ofNat w.1),9),some (D.int (Int.ofNat w.2.1),9),some (x4l n w.2.2,9),a.2.2.2)).2.2.2.2],by simp[-Int.ofNat_eq_natCast,x6l],fun ok=>⟨(some (D.int (Int.ofNat w.1),9),some (D.int (Int.ofNat w.2.1),9),some (x4l n w.2.2,9),a.2.2.2),?_⟩,fun no=>?_⟩
  ·rw[ok]at c0
   unfold x6w
   simp[-Int.ofNat_eq_natCast,a0,b0,a1,c0]
  ·rw[no]at c0
   unfold x6w
   simp[-Int.ofNat_eq_natCast,a0,b0,a1,c0])
 have b12:∀ j:(OD×OD×OD×OD×OD),(C.B.all (fun b=>decide (f b.2 (gv v b.1)=gv v b.1))=true->∃ j':(OD×OD×OD×OD×OD),x8f (y5k (x11 (x0o 6) (x11 (x0o 7) x63))) x4b (C.B.map x7r) [some (x0p n f,9),some (x06 n C,9),some (.tup (x0e v),9),(j).1,(j).2.1,(j).2.2.1,(j).2.2.2.1,(j).2.2.2.2]=some (.nx [some (x0p n f,9),some (x06 n C,9),some (.tup (x0e v),9),(j').1,(j').2.1,(j').2.2.1,(j').2.2.2.1,(j').2.2.2.2]))/\(C.B.all (fun b=>decide (f b.2 (gv v b.1)=gv v b.1))=false->x8f (y5k (x11 (x0o 6) (x11 (x0o 7) x63))) x4b (C.B.map x7r) [some (x0p n f,9),some (x06 n C,9),some (.tup (x0e v),9),(j).1,(j).2.1,(j).2.2.1,(j).2.2.2.1,(j).2.2.2.2]=some (.rt (.bl false) 9)):=fun j=>
  y48 (J:=(OD×OD×OD×OD×OD)) (pt:=y5k (x11 (x0o 6) (x11 (x0o 7) x63))) (body:=x4b) (d:=.bl false) (q:=9) x7r (fun b=>decide (f b.2 (gv v b.1)=gv v b.1)) (fun a=>[some (x0p n f,9),some (x06 n C,9),some (.tup (x0e v),9),(a).1,(a).2.1,(a).2.2.1,(a).2.2.2.1,(a).2.2.2.2]) C.B j (fun b hb a=>by
  have k:=hC.bs b hb
  have hl:b.1<v.length:=by rw[hv.len];exact k.1
  have a1:=j11 hl
  have c0:=x83 (f:=f) k.2 (hv.gv k.1)
  refine⟨[some (x0p n f,9),some (x06 n C,9),some (.tup (x0e v),9),((a.1,a.2.1,a.2.2.1,some (D.int (Int.ofNat b.1),9),some (D.int (Int.ofNat b.2),9))).1,((a.1,a.2.1,a.2.2.1,some (D.int (Int.ofNat b.1),9),some (D.int (Int.ofNat b.2),9))).2.1,((a.1,a.2.1,a.2.2.1,some (D.int (Int.ofNat b.1),9),some (D.int (Int.ofNat b.2),9))).2.2.1,((a.1,a.2.1,a.2.2.1,some (D.int (Int.ofNat b.1),9),some (D.int (Int.ofNat b.2),9))).2.2.2.1,((a.1,a.2.1,a.2.2.1,some (D.int (Int.ofNat b.1),9),some (D.int (Int.ofNat b.2),9))).2.2.2.2],by simp[-Int.ofNat_eq_natCast,x7r],fun ok=>⟨(a.1,a.2.1,a.2.2.1,some (D.int (Int.ofNat b.1),9),some (D.int (Int.ofNat b.2),9)),?_⟩,fun no=>?_⟩
  ·rw[ok]at c0
   unfold x4b
   simp[-Int.ofNat_eq_natCast,a1,c0]
  ·rw[no]at c0
   unfold x4b
   simp[-Int.ofNat_eq_natCast,a1,c0])
 unfold x32 y1k
 refine x1l ?_
 show x0y _ _ [some (x0p n f,9),some (x06 n C,9),some (.tup (x0e v),9),(((none,none,none,none,none):(OD×OD×OD×OD×OD))).1,(((none,none,none,none,none):(OD×OD×OD×OD×OD))).2.1,(((none,none,none,none,none):(OD×OD×OD×OD×OD))).2.2.1,(((none,none,none,none,none):(OD×OD×OD×OD×OD))).2.2.2.1,(((none,none,none,none,none):(OD×OD×OD×OD×OD))).2.2.2.2]=_
 have r1:x36 [.tup (x0e v),D.int (Int.ofNat C.p),D.int (Int.ofNat n)]=some (.bl true,9):=by
  rw[z00 C.p n (by omega)]
  have e:x70 C.p n (.tup (x0e v))=true:=by
   unfold x70
   simp only[x10,hv.len,decide_true,Bool.true_and,List.all_eq_true]
   intro d hd
   obtain⟨x,hx,rfl⟩:=List.mem_map.mp hd
   have:=hv.lt x hx
   show(decide ((0:Int)<=(x:Int))&&decide ((x:Int)<(n:Int)))=true
   simp;omega
  rw[e]
 have c0:atD (x06 n C) 0=some (D.int (Int.ofNat C.p)):=rfl
 have c1:atD (x06 n C) 1=some (.tup (C.W.map (x6l n))):=rfl
 have c2:atD (x06 n C) 2=some (.tup (C.B.map x7r)):=rfl
 have hW':C.W.length<=1000:=by omega
 have hB':C.B.length<=1000:=by omega
 refine(x0g (ρ1:=[some (x0p n f,9),some (x06 n C,9),some (.tup (x0e v),9),(((none,none,none,none,none):(OD×OD×OD×OD×OD))).1,(((none,none,none,none,none):(OD×OD×OD×OD×OD))).2.1,(((none,none,none,none,none):(OD×OD×OD×OD×OD))).2.2.1,(((none,none,none,none,none):(OD×OD×OD×OD×OD))).2.2.2.1,(((none,none,none,none,none):(OD×OD×OD×OD×OD))).2.2.2.2]) (by simp[-Int.ofNat_eq_natCast,c0,x2r,r1])).trans ?_
 have i1:x50 (x1e 1 (eC (.int 1))) [some (x0p n f,9),some (x06 n C,9),some (.tup (x0e v),9),(((none,none,none,none,none):(OD×OD×OD×OD×OD))).1,(((none,none,none,none,none):(OD×OD×OD×OD×OD))).2.1,(((none,none,none,none,none):(OD×OD×OD×OD×OD))).2.2.1,(((none,none,none,none,none):(OD×OD×OD×OD×OD))).2.2.2.1,(((none,none,none,none,none):(OD×OD×OD×OD×OD))).2.2.2.2]=some (C.W.map (x6l n),[some (x0p n f,9),some (x06 n C,9),some (.tup (x0e v),9),(((none,none,none,none,none):(OD×OD×OD×OD×OD))).1,(((none,none,none,none,none):(OD×OD×OD×OD×OD))).2.1,(((none,none,none,none,none):(OD×OD×OD×OD×OD))).2.2.1,(((none,none,none,none,none):(OD×OD×OD×OD×OD))).2.2.2.1,(((none,none,none,none,none):(OD×OD×OD×OD×OD))).2.2.2.2]):=by simp[c1,hW']
 unfold j19
 cases h1:C.W.all fun w=>decide (f (w.2.2 (gv v w.1)) (gv v w.2.1)=gv v w.2.1)with
 | false=>exact x5z ((x2o i1).trans (w2 h1))
 | true=>
  obtain⟨j,e1⟩:=w1 h1
  refine(x0g ((x2o i1).trans e1)).trans ?_
  have i2:x50 (x1e 1 (eC (.int 2))) [some (x0p n f,9),some (x06 n C,9),some (.tup (x0e v),9),(j).1,(j).2.1,(j).2.2.1,(j).2.2.2.1,(j).2.2.2.2]=some (C.B.map x7r,[some (x0p n f,9),some (x06 n C,9),some (.tup (x0e v),9),(j).1,(j).2.1,(j).2.2.1,(j).2.2.2.1,(j).2.2.2.2]):=by simp[c2,hB']
  rw[Bool.true_and]
  cases h2:C.B.all fun b=>decide (f b.2 (gv v b.1)=gv v b.1)with
  | false=>exact x5z ((x2o i2).trans ((b12 j).2 h2))
  | true=>
   obtain⟨j',e2'⟩:=(b12 j).1 h2
   exact(x0g ((x2o i2).trans e2')).trans rfl
include L hC
theorem y3y(ns:List Int)(t:Int)(h0:0<=t):∃ v,Vn n C.p v/\x3m [scr ns,.int t,x0p n f,x06 n C]=some (.tup (x0e v),9):=by
 have hnp:(0:Int)<Int.ofNat n:=by have:=L.lo;show(0:Int)<(n:Int);omega
 have hp8:=hC.p8
 have hk:∀ k:Nat,∃ v:Nat,v<n/\x0f [scr ns,.int (t+Int.ofNat k),.int (Int.ofNat n)]=some (.int (Int.ofNat v),9):=fun k=>by
  obtain⟨v,hv,e⟩:=x57 ns (show 0<=t+Int.ofNat k by show 0<=t+(k:Int);omega) hnp
  exact⟨v,by have:(v:Int)<(n:Int):=hv;omega,e⟩
 obtain⟨g,hg⟩:=Classical.axiomOfChoice hk
 refine⟨(List.range C.p).map g,Vn.map fun i _=>(hg i).1,?_⟩
 have c0:atD (x06 n C) 0=some (.int (Int.ofNat C.p)):=rfl
 unfold x3m x9l
 refine x1l (x2y (ρ1:=[some (scr ns,0),some (.int t,9),some (x0p n f,9),some (x06 n C,9)]) ?_)
 have hcm:=x2a (k:=1) (tt:=x25) (te:=x0j x0f 3 (x02 (x05 0) (x02 (e2 x31 (x05 1) (x05 4)) (x02 (x1g 2) x0i)))) (deep:=false) (x67 (m:=C.p) (by omega) (ρ:=[some (scr ns,0),some (.int t,9),some (x0p n f,9),some (x06 n C,9)]) (ρ':=[some (scr ns,0),some (.int t,9),some (x0p n f,9),some (x06 n C,9)]) (fe:=x1e 3 (eC (.int 0))) (q:=9) (by simp[-Int.ofNat_eq_natCast,c0])) (y5d (i:=4) rfl (fun _=>true) (fun k=>.int (Int.ofNat (g k))) (fun _=>9) (fun k hk=>rfl) (fun k hk _=>by
  simp[-Int.ofNat_eq_natCast,x2r,(hg k).2]))
 rw[show(List.range C.p).filter (fun _=>true)=List.range C.p by simp]at hcm
 refine(x9q (x1i hcm)).trans ?_
 rw[y3u]
include L hC
structure Low (n:Nat) (f:Nat->Nat->Nat) (C:Cht) (v u:List Nat):Prop where
 V:Vn n C.p u
 cl:ClS f (x2i C) u
 up:leV f C.p v u
 le:∀ a,Vn n C.p a->ClS f (x2i C) a->leV f C.p v a->leV f C.p u a
theorem y3s(hv:Vn n C.p v):∃ u,Low n f C v u/\x3z [x0p n f,x06 n C,.tup (x0e v)]=some (.tup (x0e u),9):=by
 have hS:=x3b L hC
 have hp8:=hC.p8
 have hn8:=L.hi
 have hmu:=Lad.mu_le (f:=f) hv
 have hmu':C.p*n<=8*16:=Nat.mul_le_mul hp8 hn8
 obtain⟨ρ',e,u,hu,rfl⟩:=y30 (c:=x3d (e2 dNe (x05 3) (x05 2))) (b:=x7z) (Q:=fun ρ=>∃ u,Low n f C v u/\ρ=[some (x0p n f,9),some (x06 n C,9),some (.tup (x0e u),9),some (.tup (x0e u),9)])
  (fun k ρ=>∃ w,Vn n C.p w/\leV f C.p v w/\(∀ a,Vn n C.p a->ClS f (x2i C) a->leV f C.p v a->leV f C.p w a)/\Lad.mu n f w=k/\ρ=[some (x0p n f,9),some (x06 n C,9),some (.tup (x0e w),9),some (.tup (x0e ((x2i C).foldl (doS f) w)),9)])
  (k:=Lad.mu n f v) (ρ:=[some (x0p n f,9),some (x06 n C,9),some (.tup (x0e v),9),some (.tup (x0e ((x2i C).foldl (doS f) v)),9)]) (by omega) ⟨v,hv,L.leV_refl hv,fun a ha _ h=>h,rfl,rfl⟩ (fun k ρ hh0=>by
   obtain⟨w,hw,h1,h2,h3,hr⟩:=hh0
   subst hr
   have hw':=L.foldS_V hS hw
   by_cases e:(x2i C).foldl (doS f) w=w
   ·refine .inl ⟨[some (x0p n f,9),some (x06 n C,9),some (.tup (x0e w),9),some (.tup (x0e w),9)],?_,w,⟨hw,(L.foldS_fix hS hw).mp e,h1,h2⟩,rfl⟩
    rw[e]
    simp[y4y]
   ·refine .inr ⟨[some (x0p n f,9),some (x06 n C,9),some (.tup (x0e w),9),some (.tup (x0e ((x2i C).foldl (doS f) w)),9)],[some (x0p n f,9),some (x06 n C,9),some (.tup (x0e ((x2i C).foldl (doS f) w)),9),some (.tup (x0e ((x2i C).foldl (doS f) ((x2i C).foldl (doS f) w))),9)],Lad.mu n f ((x2i C).foldl (doS f) w),?_,?_,?_,_,hw',L.leV_trans hv hw hw' h1 (L.foldS_up hS hw),fun a ha ca hva=>L.foldS_below ha hS hw ca (h2 a ha ca hva),rfl,rfl⟩
    ·simp[y4y,e]
    ·have r:=x98 L hC hw'
     generalize (x2i C).foldl (doS f) w=w' at *
     unfold x7z
     simp[r]
    ·rw[<- h3]
     exact L.mu_lt hw hw' (L.foldS_up hS hw) (fun z=>e z.symm))
 refine⟨u,hu,?_⟩
 unfold x3z x9c
 refine x1l ?_
 show x0y _ _ [some (x0p n f,9),some (x06 n C,9),some (.tup (x0e v),9),none]=_
 refine(x0g (ρ1:=[some (x0p n f,9),some (x06 n C,9),some (.tup (x0e v),9),some (.tup (x0e ((x2i C).foldl (doS f) v)),9)]) (by simp[x98 L hC hv])).trans ?_
 refine(x0g e).trans ?_
 simp
end
abbrev Sn:=Bool×Nat
def x08 (s:Sn):D:=.tup [.str (if s.1 then "begin" else "way"),.int (Int.ofNat s.2)]
@[simp] theorem j29{s:Sn}:(x08 s).isL=false:=rfl
def okN (C:Cht)(s:Sn):Prop:=s.2<(if s.1 then C.B.length else C.W.length)
def x2h (C:Cht)(s:Sn):ChS:=if s.1 then x9e (C.B.getD s.2 (0,0))else y4i (C.W.getD s.2 (0,0,id))
def y15 (C:Cht):List Sn:=(List.range C.B.length).map (fun k=>(true,k))++(List.range C.W.length).map (fun k=>(false,k))
theorem y41(C:Cht):∀ s∈y15 C,okN C s:=fun s hs=>by
 unfold y15 at hs
 rcases List.mem_append.mp hs with h|h
 ·obtain⟨k,hk,rfl⟩:=List.mem_map.mp h
  exact List.mem_range.mp hk
 ·obtain⟨k,hk,rfl⟩:=List.mem_map.mp h
  exact List.mem_range.mp hk
theorem y92{α β:Type}(l:List α)(d:α)(g:α->β):(List.range l.length).map (fun k=>g (l.getD k d))=l.map g:=by
 apply List.ext_getElem?
 intro k
 by_cases hk:k<l.length
 ·simp[hk]
 ·rw[List.getElem?_eq_none (by simp;omega),List.getElem?_eq_none (by simp;omega)]
theorem y95(C:Cht):(y15 C).map (x2h C)=x2i C:=by
 unfold y15 x2i
 rw[List.map_append,List.map_map,List.map_map,<- y92 C.B (0,0) x9e,<- y92 C.W (0,0,id) y4i]
 rfl
theorem x3u{C:Cht}{s:Sn}(h:okN C s):x2h C s∈x2i C:=by
 unfold okN at h
 unfold x2h x2i
 cases hb:s.1 with
 | true=>
  rw[hb]at h
  have h':s.2<C.B.length:=h
  refine List.mem_append_left _ (List.mem_map.mpr ⟨C.B.getD s.2 (0,0),?_,rfl⟩)
  rw[List.getD_eq_getElem?_getD,List.getElem?_eq_getElem h']
  exact List.getElem_mem h'
 | false=>
  rw[hb]at h
  have h':s.2<C.W.length:=h
  refine List.mem_append_right _ (List.mem_map.mpr ⟨C.W.getD s.2 (0,0,id),?_,rfl⟩)
  rw[List.getD_eq_getElem?_getD,List.getElem?_eq_getElem h']
  exact List.getElem_mem h'
theorem y8u:dEq (.str "begin") (.str "begin")=some (.bl true):=by
 have h:okD (.str "begin")=true:=by decide +kernel
 unfold dEq
 rw[if_pos ⟨h,h⟩]
 rfl
theorem z7w:dEq (.str "way") (.str "begin")=some (.bl false):=by
 have h:okD (.str "begin")=true:=by decide +kernel
 have h':okD (.str "way")=true:=by decide +kernel
 have e:eqD (.str "way") (.str "begin")=false:=by decide +kernel
 unfold dEq
 rw[if_pos ⟨h',h⟩,e]
theorem z7j(hp:p<v.length):L3.z7k (x0e v) none (some (Int.ofNat p))=x0e (v.take p):=by
 unfold L3.z7k
 have e1:HT.sIx (x0e v).length 0 none=0:=rfl
 have e2:HT.sIx (x0e v).length (x0e v).length (some (Int.ofNat p))=p:=by
  rw[x10]
  have:¬ ((p:Int)<0):=by omega
  simp[HT.sIx,this]
  omega
 rw[e1,e2,List.drop_zero,Nat.sub_zero]
 simp only[x0e,List.map_take]
theorem y9h(hp:p<v.length):L3.z7k (x0e v) (some (Int.ofNat p+1)) none=x0e (v.drop (p+1)):=by
 unfold L3.z7k
 have e1:HT.sIx (x0e v).length 0 (some (Int.ofNat p+1))=p+1:=by
  rw[x10]
  have:¬ ((p:Int)+1<0):=by omega
  simp[HT.sIx,this]
  omega
 have e2:HT.sIx (x0e v).length (x0e v).length none=(x0e v).length:=rfl
 rw[e1,e2,List.take_of_length_le (by rw[List.length_drop];exact Nat.le_refl _)]
 simp only[x0e,List.map_drop]
theorem z2w{x:Nat}(hp:p<v.length):x0e (v.take p)++[.int (Int.ofNat x)]++x0e (v.drop (p+1))=x0e (v.set p x):=by
 rw[List.set_eq_take_append_cons_drop,if_pos hp]
 simp[x0e]
def Rz (f:Nat->Nat->Nat)(C:Cht):List Nat->List Sn->Prop
 | _,[]=>True
 | v,s::R=>doS f v (x2h C s)≠v/\Rz f C (doS f v (x2h C s)) R
theorem Rz.snoc{C:Cht}{s:Sn}:∀ {R:List Sn} {v:List Nat},Rz f C v R->doS f ((R.map (x2h C)).foldl (doS f) v) (x2h C s)≠(R.map (x2h C)).foldl (doS f) v->Rz f C v (R++[s])
 | [],_,_,h=>⟨h,trivial⟩
 | _::_,_,r,h=>⟨r.1,Rz.snoc r.2 h⟩
section
variable {n:Nat}{f:Nat->Nat->Nat}(L:Lad n f){C:Cht}(hC:C.Ok n f)
include L hC
theorem z4g(hv:Vn n C.p v){s:Sn}(hs:okN C s):x2e [x06 n C,.tup (x0e v),x08 s]=some (.tup [.int (Int.ofNat (x2h C s).1),.int (Int.ofNat ((x2h C s).2 v))],9):=by
 obtain⟨b,k⟩:=s
 unfold okN at hs
 unfold x2e x5j
 have c1:atD (x06 n C) 1=some (.tup (C.W.map (x6l n))):=rfl
 have c2:atD (x06 n C) 2=some (.tup (C.B.map x7r)):=rfl
 cases b with
 | true=>
  have hk:k<C.B.length:=hs
  have s0:atD (x08 (true,k)) 0=some (.str "begin"):=rfl
  have s1:atD (x08 (true,k)) 1=some (.int (Int.ofNat k)):=rfl
  have e:atD (.tup (C.B.map x7r)) (Int.ofNat k)=some (x7r (C.B.getD k (0,0))):=y0k (by rw[List.getElem?_map,List.getElem?_eq_getElem hk];simp[hk])
  have hst:x2h C (true,k)=x9e (C.B.getD k (0,0)):=rfl
  rw[hst]
  generalize C.B.getD k (0,0)=b at *
  generalize x08 (true,k)=sd at *
  have hb:x7r b=.tup [.int (Int.ofNat (x9e b).1),.int (Int.ofNat ((x9e b).2 v))]:=rfl
  rw[<- hb]
  simp[-Int.ofNat_eq_natCast,s0,s1,c2,e,y8u]
 | false=>
  have hk:k<C.W.length:=hs
  have s0:atD (x08 (false,k)) 0=some (.str "way"):=rfl
  have s1:atD (x08 (false,k)) 1=some (.int (Int.ofNat k)):=rfl
  have e:atD (.tup (C.W.map (x6l n))) (Int.ofNat k)=some (x6l n (C.W.getD k (0,0,id))):=y0k (by rw[List.getElem?_map,List.getElem?_eq_getElem hk];simp[hk])
  have hst:x2h C (false,k)=y4i (C.W.getD k (0,0,id)):=rfl
  have hw:C.W.getD k (0,0,id)∈C.W:=by
   rw[List.getD_eq_getElem?_getD,List.getElem?_eq_getElem hk]
   exact List.getElem_mem hk
  have ok:=hC.ws _ hw
  rw[hst]
  generalize C.W.getD k (0,0,id)=w at *
  have w0:atD (x6l n w) 0=some (.int (Int.ofNat w.1)):=rfl
  have w1:atD (x6l n w) 1=some (.int (Int.ofNat w.2.1)):=rfl
  have w2:atD (x6l n w) 2=some (x4l n w.2.2):=rfl
  have a0:=j11 (v:=v) (i:=w.1) (by rw[hv.len];exact ok.1)
  have a1:=y16 (r:=w.2.2) (hv.gv ok.1)
  have hst':x08 (false,k)=x08 (false,k):=rfl
  generalize hsd:x08 (false,k)=sd at *
  have hL:sd.isL=false:=by rw[<- hsd];rfl
  show _=some (D.tup [.int (Int.ofNat w.2.1),.int (Int.ofNat (w.2.2 (gv v w.1)))],9)
  generalize hwt:x6l n w=wt at *
  have hL2:wt.isL=false:=by rw[<- hwt];rfl
  simp[-Int.ofNat_eq_natCast,s0,s1,c1,e,z7w,w0,w1,w2,a0,a1,hL,hL2]
theorem y6m(hv:Vn n C.p v){s:Sn}(hs:okN C s):x18 [x0p n f,x06 n C,.tup (x0e v),x08 s]=some (.tup (x0e (doS f v (x2h C s))),9):=by
 have ok:=x3b L hC _ (x3u hs)
 have hp:=z4g L hC hv hs
 have hx:=ok.lt v hv
 have hg:=hv.gv ok.pl
 have hpl:(x2h C s).1<v.length:=by rw[hv.len];exact ok.pl
 have hp8:=hC.p8
 have hl:=hv.len
 unfold doS
 generalize (x2h C s).1=g at *
 generalize (x2h C s).2 v=x at *
 have a0:=j11 hpl
 have a1:=x6e (f:=f) hg
 have a2:=x6q (f:=f) (i:=gv v g) hx
 have s1:=z7j hpl
 have s2:=y9h hpl
 have s3:=z2w (x:=f (gv v g) x) hpl
 have l1:(x0e (v.take g)).length=g:=by rw[x10,List.length_take];omega
 have l2:(x0e (v.drop (g+1))).length=v.length-(g+1):=by rw[x10,List.length_drop]
 unfold x18 x6s
 refine x1l ?_
 show x0y _ _ [some (x0p n f,9),some (x06 n C,9),some (.tup (x0e v),9),some (x08 s,9),none,none,none]=_
 refine(x0g (ρ1:=[some (x0p n f,9),some (x06 n C,9),some (.tup (x0e v),9),some (x08 s,9),some (.tup [.int (Int.ofNat g),.int (Int.ofNat x)],9),none,none]) (by simp[-Int.ofNat_eq_natCast,hp])).trans ?_
 have t0:atD (.tup [.int (Int.ofNat g),.int (Int.ofNat x)]) 0=some (.int (Int.ofNat g)):=rfl
 have t1:atD (.tup [.int (Int.ofNat g),.int (Int.ofNat x)]) 1=some (.int (Int.ofNat x)):=rfl
 refine(x0g (ρ1:=[some (x0p n f,9),some (x06 n C,9),some (.tup (x0e v),9),some (x08 s,9),some (.tup [.int (Int.ofNat g),.int (Int.ofNat x)],9),some (.int (Int.ofNat g),9),none]) (by simp[-Int.ofNat_eq_natCast,t0])).trans ?_
 refine(x0g (ρ1:=[some (x0p n f,9),some (x06 n C,9),some (.tup (x0e v),9),some (x08 s,9),some (.tup [.int (Int.ofNat g),.int (Int.ofNat x)],9),some (.int (Int.ofNat g),9),some (.int (Int.ofNat (f (gv v g) x)),9)]) (by simp[-Int.ofNat_eq_natCast,a0,a1,a2,t1])).trans ?_
 rw[<- s3]
 have m1:(x0e (v.take g)).length+1<=1000:=by omega
 have m2:(x0e (v.take g)).length+1+(x0e (v.drop (g+1))).length<=1000:=by omega
 generalize x0e (v.take g)=u1 at *
 generalize x0e (v.drop (g+1))=u2 at *
 have m1':u1.length<=999:=by omega
 simp[-Int.ofNat_eq_natCast,s1,s2,m1,m1',m2]
structure LowS (n:Nat) (f:Nat->Nat->Nat) (p:Nat) (l:List ChS) (v u:List Nat):Prop where
 V:Vn n p u
 cl:ClS f l u
 up:leV f p v u
 le:∀ a,Vn n p a->ClS f l a->leV f p v a->leV f p u a
theorem y9v(hv:Vn n C.p v){l:List Sn}(hl:∀ s∈l,okN C s)(hlen:l.length<=1000) :
  ∃ (u:List Nat) (R:List Sn),LowS n f C.p (l.map (x2h C)) v u/\(∀ s∈R,s∈l)/\(R.map (x2h C)).foldl (doS f) v=u/\(Lad.mu n f u+R.length<=Lad.mu n f v/\Rz f C v R)/\x69 [x0p n f,x06 n C,.lst (l.map x08),.tup (x0e v)]=some (.tup [.tup (x0e u),.lst (R.map x08)],9):=by
 have hp8:=hC.p8
 have hn8:=L.hi
 have hmu:=Lad.mu_le (f:=f) hv
 have hmu':C.p*n<=8*16:=Nat.mul_le_mul hp8 hn8
 have hS:∀ t∈l.map (x2h C),OkS n C.p f t:=fun t ht=>by
  obtain⟨s,hs,rfl⟩:=List.mem_map.mp ht
  exact x3b L hC _ (x3u (hl s hs))
 -- one round
 have round:∀ (w:List Nat) (R:List Sn) (a:OD) (j:(OD×OD)),Vn n C.p w->(∀ s∈R,s∈l)->(R.map (x2h C)).foldl (doS f) v=w->(Lad.mu n f w+R.length<=Lad.mu n f v/\Rz f C v R)->
   ∃ (R':List Sn) (j':(OD×OD)),(∀ s∈R',s∈l)/\(R'.map (x2h C)).foldl (doS f) v=(l.map (x2h C)).foldl (doS f) w/\(Lad.mu n f ((l.map (x2h C)).foldl (doS f) w)+R'.length<=Lad.mu n f v/\Rz f C v R') /\
    x8f (x0o 6) y13 (l.map x08) [some (x0p n f,9),some (x06 n C,9),some (.lst (l.map x08),0),some (.tup (x0e w),9),some (.lst ((R).map x08),1),a,(j).1,(j).2]=some (.nx [some (x0p n f,9),some (x06 n C,9),some (.lst (l.map x08),0),some (.tup (x0e ((l.map (x2h C)).foldl (doS f) w)),9),some (.lst ((R').map x08),1),a,(j').1,(j').2]):=fun w R a j hw h1 h2 h3=>by
  obtain⟨j',e,i1,i2,i3,i4⟩:=x5p (J:=(OD×OD)) (pt:=x0o 6) (body:=y13) x08 (fun(σ:List Nat×List Sn) j=>[some (x0p n f,9),some (x06 n C,9),some (.lst (l.map x08),0),some (.tup (x0e σ.1),9),some (.lst ((σ.2).map x08),1),a,(j).1,(j).2]) (fun σ s=>(doS f σ.1 (x2h C s),if doS f σ.1 (x2h C s)=σ.1 then σ.2 else σ.2++[s]))
   (fun σ=>Vn n C.p σ.1/\(∀ s∈σ.2,s∈l)/\(σ.2.map (x2h C)).foldl (doS f) v=σ.1/\(Lad.mu n f σ.1+σ.2.length<=Lad.mu n f v/\Rz f C v σ.2)) l (w,R) j ⟨hw,h1,h2,h3⟩ (fun s hs σ j hh0=>by
    obtain⟨k1,k2,k3,k4⟩:=hh0
    obtain⟨x,Q⟩:=σ
    dsimp only at k1 k2 k3 k4 ⊢
    have ok:=x3b L hC _ (x3u (hl s hs))
    have hb:=y6m L hC k1 (hl s hs)
    have hx':=L.doS_V ok k1
    by_cases he:doS f x (x2h C s)=x
    ·rw[if_pos he]
     refine⟨⟨hx',k2,by rw[he];exact k3,by rw[he];exact k4⟩,[some (x0p n f,9),some (x06 n C,9),some (.lst (l.map x08),0),some (.tup (x0e x),9),some (.lst ((Q).map x08),1),a,(((some (x08 s,9),j.2):(OD×OD))).1,(((some (x08 s,9),j.2):(OD×OD))).2],(some (x08 s,9),some (.tup (x0e (doS f x (x2h C s))),9)),by simp,?_⟩
     unfold y13
     refine(x0g (ρ1:=[some (x0p n f,9),some (x06 n C,9),some (.lst (l.map x08),0),some (.tup (x0e x),9),some (.lst ((Q).map x08),1),a,(((some (x08 s,9),some (.tup (x0e (doS f x (x2h C s))),9)):(OD×OD))).1,(((some (x08 s,9),some (.tup (x0e (doS f x (x2h C s))),9)):(OD×OD))).2]) (by simp[hb])).trans ?_
     refine(x0g (ρ1:=[some (x0p n f,9),some (x06 n C,9),some (.lst (l.map x08),0),some (.tup (x0e x),9),some (.lst ((Q).map x08),1),a,(((some (x08 s,9),some (.tup (x0e (doS f x (x2h C s))),9)):(OD×OD))).1,(((some (x08 s,9),some (.tup (x0e (doS f x (x2h C s))),9)):(OD×OD))).2]) (by rw[he];simp[y4y])).trans ?_
     simp
    ·rw[if_neg he]
     have hlt:=L.mu_lt k1 hx' (L.doS_up ok k1) (fun z=>he z.symm)
     refine⟨⟨hx',fun t ht=>?_,?_,⟨by rw[List.length_append];show _+(Q.length+1)<=_;have:=k4.1;omega,k4.2.snoc (by rw[k3];exact he)⟩⟩,[some (x0p n f,9),some (x06 n C,9),some (.lst (l.map x08),0),some (.tup (x0e x),9),some (.lst ((Q).map x08),1),a,(((some (x08 s,9),j.2):(OD×OD))).1,(((some (x08 s,9),j.2):(OD×OD))).2],(some (x08 s,9),some (.tup (x0e (doS f x (x2h C s))),9)),by simp,?_⟩
     ·rcases List.mem_append.mp ht with h|h
      ·exact k2 t h
      ·rw[List.mem_singleton.mp h];exact hs
     ·rw[List.map_append,List.foldl_append,k3];rfl
     ·unfold y13
      have hQ:Q.length<=1000:=by have:=k4.1;omega
      refine(x0g (ρ1:=[some (x0p n f,9),some (x06 n C,9),some (.lst (l.map x08),0),some (.tup (x0e x),9),some (.lst ((Q).map x08),1),a,(((some (x08 s,9),some (.tup (x0e (doS f x (x2h C s))),9)):(OD×OD))).1,(((some (x08 s,9),some (.tup (x0e (doS f x (x2h C s))),9)):(OD×OD))).2]) (by simp[hb])).trans ?_
      refine(x0g (ρ1:=[some (x0p n f,9),some (x06 n C,9),some (.lst (l.map x08),0),some (.tup (x0e x),9),some (.lst (((Q++[s])).map x08),1),a,(((some (x08 s,9),some (.tup (x0e (doS f x (x2h C s))),9)):(OD×OD))).1,(((some (x08 s,9),some (.tup (x0e (doS f x (x2h C s))),9)):(OD×OD))).2]) (by
       generalize doS f x (x2h C s)=y at *
       simp[y4y,he,hQ])).trans ?_
      simp)
  have ef:∀ (l:List Sn) (σ:List Nat×List Sn),(l.foldl (fun(σ:List Nat×List Sn) s=>(doS f σ.1 (x2h C s),if doS f σ.1 (x2h C s)=σ.1 then σ.2 else σ.2++[s])) σ).1=(l.map (x2h C)).foldl (doS f) σ.1:=by
   intro l
   induction l with
   | nil=>intro σ;rfl
   | cons s l ih=>intro σ;exact ih _
  have ef':=ef l (w,R)
  generalize l.foldl (fun(σ:List Nat×List Sn) s=>(doS f σ.1 (x2h C s),if doS f σ.1 (x2h C s)=σ.1 then σ.2 else σ.2++[s])) (w,R)=σ at *
  obtain⟨x,Q⟩:=σ
  dsimp only at ef' i1 i2 i3 i4 e
  have ef2:x=(l.map (x2h C)).foldl (doS f) w:=ef'
  subst ef2
  exact⟨Q,j',i2,i3,i4,e⟩
 -- all rounds
 obtain⟨ρ',e,u,R,j,hu,hR1,hR2,hR3,rfl⟩:=y30 (c:=x3d (e2 dNe (x05 3) (x05 5))) (b:=y54)
  (Q:=fun ρ=>∃ (u:List Nat) (R:List Sn),∃ j:(OD×OD),LowS n f C.p (l.map (x2h C)) v u/\(∀ s∈R,s∈l)/\(R.map (x2h C)).foldl (doS f) v=u/\(Lad.mu n f u+R.length<=Lad.mu n f v/\Rz f C v R)/\ρ=[some (x0p n f,9),some (x06 n C,9),some (.lst (l.map x08),0),some (.tup (x0e u),9),some (.lst ((R).map x08),1),some (.tup (x0e u),9),(j).1,(j).2])
  (fun k ρ=>∃ (w:List Nat) (R:List Sn),∃ j:(OD×OD),∃ a:D,Vn n C.p w/\leV f C.p v w/\(∀ x,Vn n C.p x->ClS f (l.map (x2h C)) x->leV f C.p v x->leV f C.p w x)/\(∀ s∈R,s∈l)/\(R.map (x2h C)).foldl (doS f) v=w/\(Lad.mu n f w+R.length<=Lad.mu n f v/\Rz f C v R) /\
    ((a=.non/\k=Lad.mu n f w+1)\/∃ y,a=.tup (x0e y)/\Vn n C.p y/\w=(l.map (x2h C)).foldl (doS f) y/\k=Lad.mu n f w+(if y=w then 0 else 1))/\ρ=[some (x0p n f,9),some (x06 n C,9),some (.lst (l.map x08),0),some (.tup (x0e w),9),some (.lst ((R).map x08),1),some (a,9),(j).1,(j).2])
  (k:=Lad.mu n f v+1) (ρ:=[some (x0p n f,9),some (x06 n C,9),some (.lst (l.map x08),0),some (.tup (x0e v),9),some (.lst ((([]:List Sn)).map x08),1),some (.non,9),(((none,none):(OD×OD))).1,(((none,none):(OD×OD))).2]) (by omega) ⟨v,[],(none,none),.non,hv,L.leV_refl hv,fun x _ _ h=>h,(fun _ z=>nomatch z),rfl,⟨Nat.le_refl _,trivial⟩,.inl ⟨rfl,rfl⟩,rfl⟩ (fun k ρ hh0=>by
   obtain⟨w,R,j,a,hw,h1,h2,h3,h4,h5,h6,hr⟩:=hh0
   subst hr
   have next:(x3d (e2 dNe (x05 3) (x05 5)) [some (x0p n f,9),some (x06 n C,9),some (.lst (l.map x08),0),some (.tup (x0e w),9),some (.lst ((R).map x08),1),some (a,9),(j).1,(j).2]=some (true,[some (x0p n f,9),some (x06 n C,9),some (.lst (l.map x08),0),some (.tup (x0e w),9),some (.lst ((R).map x08),1),some (a,9),(j).1,(j).2]))->Lad.mu n f w+1<=k->∃ ρ1 ρ2 k',x3d (e2 dNe (x05 3) (x05 5)) [some (x0p n f,9),some (x06 n C,9),some (.lst (l.map x08),0),some (.tup (x0e w),9),some (.lst ((R).map x08),1),some (a,9),(j).1,(j).2]=some (true,ρ1)/\y54 ρ1=some (.nx ρ2)/\k'<k/\∃ (w:List Nat) (R:List Sn),∃ j:(OD×OD),∃ a:D,Vn n C.p w/\leV f C.p v w/\(∀ x,Vn n C.p x->ClS f (l.map (x2h C)) x->leV f C.p v x->leV f C.p w x)/\(∀ s∈R,s∈l)/\(R.map (x2h C)).foldl (doS f) v=w/\(Lad.mu n f w+R.length<=Lad.mu n f v/\Rz f C v R) /\
   ((a=.non/\k'=Lad.mu n f w+1)\/∃ y,a=.tup (x0e y)/\Vn n C.p y/\w=(l.map (x2h C)).foldl (doS f) y/\k'=Lad.mu n f w+(if y=w then 0 else 1))/\ρ2=[some (x0p n f,9),some (x06 n C,9),some (.lst (l.map x08),0),some (.tup (x0e w),9),some (.lst ((R).map x08),1),some (a,9),(j).1,(j).2]:=fun ht hk=>by
    obtain⟨R',j',r1,r2,r3,r4⟩:=round w R (some (.tup (x0e w),9)) j hw h3 h4 h5
    have hw':=L.foldS_V hS hw
    have up:=L.foldS_up hS hw
    refine⟨_,[some (x0p n f,9),some (x06 n C,9),some (.lst (l.map x08),0),some (.tup (x0e ((l.map (x2h C)).foldl (doS f) w)),9),some (.lst ((R').map x08),1),some (.tup (x0e w),9),(j').1,(j').2],Lad.mu n f ((l.map (x2h C)).foldl (doS f) w)+(if w=(l.map (x2h C)).foldl (doS f) w then 0 else 1),ht,?_,?_,_,R',j',.tup (x0e w),hw',L.leV_trans hv hw hw' h1 up,fun x hx cx hvx=>L.foldS_below hx hS hw cx (h2 x hx cx hvx),r1,r2,r3,.inr ⟨w,rfl,hw,rfl,rfl⟩,rfl⟩
    ·unfold y54
     refine(x0g (ρ1:=[some (x0p n f,9),some (x06 n C,9),some (.lst (l.map x08),0),some (.tup (x0e w),9),some (.lst ((R).map x08),1),some (.tup (x0e w),9),(j).1,(j).2]) (by simp)).trans ?_
     exact(x2o (ds:=l.map x08) (ρ1:=[some (x0p n f,9),some (x06 n C,9),some (.lst (l.map x08),0),some (.tup (x0e w),9),some (.lst ((R).map x08),1),some (.tup (x0e w),9),(j).1,(j).2]) (by simp[hlen])).trans r4
    ·by_cases he:w=(l.map (x2h C)).foldl (doS f) w
     ·rw[if_pos he,<- he];omega
     ·rw[if_neg he]
      have:=L.mu_lt hw hw' up he
      omega
   rcases h6 with⟨rfl,hk⟩|⟨y,rfl,hy,hwy,hk⟩
   ·refine .inr (next ?_ (by omega))
    have hne:dNe (.tup (x0e w)) .non=some (.bl true):=by
     unfold dNe
     rw[if_pos ⟨(z7g w).ok,(Sh.non (k:=0)).ok⟩]
     rfl
    simp[hne]
   ·by_cases hyw:y=w
    ·subst hyw
     refine .inl ⟨[some (x0p n f,9),some (x06 n C,9),some (.lst (l.map x08),0),some (.tup (x0e y),9),some (.lst ((R).map x08),1),some (.tup (x0e y),9),(j).1,(j).2],by simp[y4y],y,R,j,⟨hw,(L.foldS_fix hS hw).mp hwy.symm,h1,h2⟩,h3,h4,h5,rfl⟩
    ·rw[if_neg hyw]at hk
     refine .inr (next ?_ (by omega))
     have:¬ (w=y):=fun z=>hyw z.symm
     simp[y4y,this])
 refine⟨u,R,hu,hR1,hR2,hR3,?_⟩
 unfold x69 z3i
 refine x1l ?_
 show x0y _ _ [some (x0p n f,9),some (x06 n C,9),some (.lst (l.map x08),0),some (.tup (x0e v),9),none,none,none,none]=_
 refine(x0g (ρ1:=[some (x0p n f,9),some (x06 n C,9),some (.lst (l.map x08),0),some (.tup (x0e v),9),some (.lst [],1),none,none,none]) (by simp)).trans ?_
 refine(x0g (ρ1:=[some (x0p n f,9),some (x06 n C,9),some (.lst (l.map x08),0),some (.tup (x0e v),9),some (.lst ((([]:List Sn)).map x08),1),some (.non,9),(((none,none):(OD×OD))).1,(((none,none):(OD×OD))).2]) (by simp)).trans ?_
 refine(x0g e).trans ?_
 simp
theorem z4v(hv:Vn n C.p v){l:List Sn}(hl:∀ s∈l,okN C s)(hlen:l.length<=1000) :
  ∃ (u:List Nat) (R:List Sn),LowS n f C.p (l.map (x2h C)) v u/\(∀ s∈R,s∈l)/\(R.map (x2h C)).foldl (doS f) v=u/\Lad.mu n f u+R.length<=Lad.mu n f v/\x69 [x0p n f,x06 n C,.lst (l.map x08),.tup (x0e v)]=some (.tup [.tup (x0e u),.lst (R.map x08)],9):=by
 obtain⟨u,R,h1,h2,h3,h4,e⟩:=y9v L hC hv hl hlen
 exact⟨u,R,h1,h2,h3,h4.1,e⟩
end
theorem dg1(a b:D):y6p ["begin","way"] [a,b] "begin" = some a:=by unfold y6p;rw[if_pos rfl]
theorem dg2(a b:D):y6p ["begin","way"] [a,b] "way" = some b:=by
 unfold y6p
 rw[if_neg (by decide)]
 unfold y6p
 rw[if_pos rfl]
section
variable {n:Nat}{f:Nat->Nat->Nat}{C:Cht}
def y56 (C:Cht)(s:Sn):Bool:=decide (s.2<(if s.1 then C.B.length else C.W.length))
theorem x7d{s:Sn}:y56 C s=true ↔ okN C s:=decide_eq_true_iff
theorem y59(m k:Nat):x7a m (.int (Int.ofNat k))=decide (k<m):=by
 show(decide ((0:Int)<=(k:Int))&&decide ((k:Int)<(m:Int)))=_
 simp
theorem z3m(s:Sn):x2c [x08 s,.dic ["begin","way"] [.int (Int.ofNat C.B.length),.int (Int.ofNat C.W.length)]]=some (.bl (y56 C s),9):=by
 obtain⟨b,k⟩:=s
 have l2:dNe (.int 2) (.int 2)=some (.bl false):=(j09 _ _).trans (by simp)
 have n1:=fun m=>y0c m (.int (Int.ofNat k))
 have g1:=dg1 (.int (Int.ofNat C.B.length)) (.int (Int.ofNat C.W.length))
 have g2:=dg2 (.int (Int.ofNat C.B.length)) (.int (Int.ofNat C.W.length))
 have s0:∀ x:Str,atD (.tup [.str x,.int (Int.ofNat k)]) 0=some (.str x):=fun _=>rfl
 have s1:∀ x:Str,atD (.tup [.str x,.int (Int.ofNat k)]) 1=some (.int (Int.ofNat k)):=fun _=>rfl
 have ll:∀ x:Str,x7m (.tup [.str x,.int (Int.ofNat k)])=some 2:=fun _=>rfl
 unfold x2c x5k
 cases b with
 | true=>
  show fnD _ _ [.tup [.str "begin",.int (Int.ofNat k)],_]=some (.bl (decide (k<C.B.length)),9)
  simp[-Int.ofNat_eq_natCast,isD,ll,l2,s0,s1,g1,n1,y59]
 | false=>
  show fnD _ _ [.tup [.str "way",.int (Int.ofNat k)],_]=some (.bl (decide (k<C.W.length)),9)
  simp[-Int.ofNat_eq_natCast,isD,ll,l2,s0,s1,g2,n1,y59]
theorem x85(s:Sn):x1c [x06 n C,x08 s]=some (.bl (y56 C s),9):=by
 have h:=z3m (C:=C) s
 unfold x1c y2e
 have e1:x5q 0 2 [some (x06 n C,9),some (x08 s,9)]=some (Int.ofNat C.B.length):=by
  show some (Int.ofNat (C.B.map x7r).length)=_
  rw[List.length_map]
 have e2':x5q 0 1 [some (x06 n C,9),some (x08 s,9)]=some (Int.ofNat C.W.length):=by
  show some (Int.ofNat (C.W.map (x6l n)).length)=_
  rw[List.length_map]
 have ed:y6a "begin" "way" (x5q 0 2) (x5q 0 1) [some (x06 n C,9),some (x08 s,9)]=some (.dic ["begin","way"] [.int (Int.ofNat C.B.length),.int (Int.ofNat C.W.length)],9,[some (x06 n C,9),some (x08 s,9)]):=by
  unfold y6a
  rw[e1,e2']
 exact x1l (x2y (x0s (x1r (f:=x05 1) (d:=x08 s) (q:=9) (ρ:=[some (x06 n C,9),some (x08 s,9)]) (ρ1:=[some (x06 n C,9),some (x08 s,9)]) rfl (x1i ed)) rfl h))
theorem z0t{s:Sn}(hs:okN C s):x1c [x06 n C,x08 s]=some (.bl true,9):=by rw[x85,x7d.mpr hs]
theorem x5i{l:List Sn}(hl:∀ s∈l,okN C s)(hlen:l.length<=1000):x1m [x06 n C,.lst (l.map x08)]=some (.non,9):=by
 have hit:x50 (x05 1) [some (x06 n C,9),some (.lst (l.map x08),0)]=some (l.map x08,[some (x06 n C,9),some (.lst (l.map x08),0)]):=by simp[hlen]
 have e:=y9u (i:=2) (te:=x0j x1c 2 (x02 (x05 0) (x02 (x05 2) x0i))) (ρ:=[some (x06 n C,9),some (.lst (l.map x08),0)]) rfl hit (fun _=>true) (fun _=>9) (fun d hd=>by
  obtain⟨s,hs,rfl⟩:=List.mem_map.mp hd
  simp[z0t (n:=n) (hl s hs)])
 have ea:(l.map x08).all (fun _=>true)=true:=by simp
 rw[ea]at e
 unfold x1m x6g
 show(match sIf _ _ _ [some (x06 n C,9),some (.lst (l.map x08),0)]with|some (.rt d q)=>some (d,q)|some (.nx _)=>some (D.non,9)|_=>none)=_
 have ei:sIf (x4d (x7x (eB y9m (x02 (x2w 1 (x50 (x05 1)) (x0o 2) x25 (x0j x1c 2 (x02 (x05 0) (x02 (x05 2) x0i))) false) x0i)))) y9f x5t [some (x06 n C,9),some (.lst (l.map x08),0)]=some (.nx [some (x06 n C,9),some (.lst (l.map x08),0)]):=by
  refine(y43 ?_).trans rfl
  unfold x4d x7x
  rw[e]
  rfl
 rw[ei]
theorem y4o:(y15 C).length=C.B.length+C.W.length:=by simp[y15]
theorem y0g(hB:C.B.length<=60)(hW:C.W.length<=60):x37 [x06 n C]=some (.lst ((y15 C).map x08),1):=by
 unfold x37 y1t
 refine x1l ?_
 show x0y _ _ [some (x06 n C,9),none]=_
 have c1:atD (x06 n C) 1=some (.tup (C.W.map (x6l n))):=rfl
 have c2:atD (x06 n C) 2=some (.tup (C.B.map x7r)):=rfl
 have lB:x7m (.tup (C.B.map x7r))=some C.B.length:=by simp[x7m]
 have lW:x7m (.tup (C.W.map (x6l n)))=some C.W.length:=by simp[x7m]
 have h1:=x2a (k:=1) (tt:=x25) (te:=x8a (x02 (eC (.str "begin")) (x02 (x05 2) x0i))) (deep:=false) (x67 (m:=C.B.length) (by omega) (fe:=eB y7h (x02 (x1e 0 (eC (.int 2))) x0i)) (ρ:=[some (x06 n C,9),none]) (ρ':=[some (x06 n C,9),none]) (q:=9) (by simp[-Int.ofNat_eq_natCast,c2,lB])) (y5d (i:=2) rfl (fun _=>true) (fun k=>x08 (true,k)) (fun _=>9) (fun k hk=>rfl) (fun k hk _=>by simp[-Int.ofNat_eq_natCast,x08]))
 rw[show(List.range C.B.length).filter (fun _=>true)=List.range C.B.length by simp]at h1
 refine(x0g (ρ1:=[some (x06 n C,9),some (.lst ((List.range C.B.length).map fun k=>x08 (true,k)),1)]) (x1s h1 rfl)).trans ?_
 have h2:=x2a (k:=1) (tt:=x25) (te:=x8a (x02 (eC (.str "way")) (x02 (x05 2) x0i))) (deep:=false) (x67 (m:=C.W.length) (by omega) (fe:=eB y7h (x02 (x1e 0 (eC (.int 1))) x0i)) (ρ:=[some (x06 n C,9),some (.lst ((List.range C.B.length).map fun k=>x08 (true,k)),0)]) (ρ':=[some (x06 n C,9),some (.lst ((List.range C.B.length).map fun k=>x08 (true,k)),0)]) (q:=9) (by simp[-Int.ofNat_eq_natCast,c1,lW])) (y5d (i:=2) rfl (fun _=>true) (fun k=>x08 (false,k)) (fun _=>9) (fun k hk=>rfl) (fun k hk _=>by simp[-Int.ofNat_eq_natCast,x08]))
 rw[show(List.range C.W.length).filter (fun _=>true)=List.range C.W.length by simp]at h2
 have ea:(y15 C).map x08=((List.range C.B.length).map fun k=>x08 (true,k))++((List.range C.W.length).map fun k=>x08 (false,k)):=by
  unfold y15
  rw[List.map_append,List.map_map,List.map_map]
  rfl
 rw[ea]
 refine x2y (ρ1:=[some (x06 n C,9),some (.lst ((List.range C.B.length).map fun k=>x08 (true,k)),0)]) ?_
 have v1:x05 1 [some (x06 n C,9),some (.lst ((List.range C.B.length).map fun k=>x08 (true,k)),1)]=some (.lst ((List.range C.B.length).map fun k=>x08 (true,k)),0,[some (x06 n C,9),some (.lst ((List.range C.B.length).map fun k=>x08 (true,k)),0)]):=rfl
 unfold x65
 rw[v1]
 have hl:((List.range C.B.length).map fun k=>x08 (true,k)).length+((List.range C.W.length).map fun k=>x08 (false,k)).length<=1000:=by
  rw[List.length_map,List.length_map,List.length_range,List.length_range];omega
 generalize ((List.range C.B.length).map fun k=>x08 (true,k))=x at *
 generalize ((List.range C.W.length).map fun k=>x08 (false,k))=y at *
 rw[if_neg (by decide)]at h2
 simp only[h2,if_pos hl]
end
section
variable {n:Nat}{f:Nat->Nat->Nat}(L:Lad n f){z:Nat}(hz:z<n)(bz:∀ j,j<n->f z j=j){C:Cht}(hC:C.Ok n f)
def x71 (p z:Nat):List Nat:=List.replicate p z
theorem y1j(hz:z<n):Vn n p (x71 p z):=⟨by simp[x71],fun x hx=>by rw[(List.mem_replicate.mp hx).2];exact hz⟩
theorem j0p(hi:i<p):gv (x71 p z) i=z:=by unfold gv x71;simp[hi]
theorem j1c(bz:∀ j,j<n->f z j=j)(hv:Vn n p v):leV f p (x71 p z) v:=fun i hi=>by rw[j0p hi];exact bz _ (hv.gv hi)
include L hz bz hC
theorem y1f:x46 [x0p n f,x06 n C]=some (.tup (x0e (x71 C.p z)),9):=by
 have hn:n<=1000:=Nat.le_trans L.hi (by decide)
 have hp8:=hC.p8
 have c0:atD (x06 n C) 0=some (.int (Int.ofNat C.p)):=rfl
 have hl:=y91 L hz bz hn
 unfold x46 y9n
 have e:(List.replicate C.p [D.int (Int.ofNat z)]).flatten=x0e (x71 C.p z):=by
  simp[x0e,x71,List.flatten_replicate_singleton]
 have b1:(-1000:Int)<=Int.ofNat C.p:=by show(-1000:Int)<=(C.p:Int);omega
 have b2:Int.ofNat C.p<=1000:=by show(C.p:Int)<=1000;omega
 have b3:(Int.ofNat C.p).toNat=C.p:=rfl
 have b4:C.p<=1000:=by omega
 simp[-Int.ofNat_eq_natCast,-List.flatten_replicate_singleton,hl,c0,b1,b2,b3,b4,e]
theorem y7q{l:List Sn}(hl:∀ s∈l,okN C s)(hlen:l.length<=1000) :
  ∃ (u:List Nat) (R:List Sn),LowS n f C.p (l.map (x2h C)) (x71 C.p z) u/\(∀ s∈R,s∈l)/\(R.map (x2h C)).foldl (doS f) (x71 C.p z)=u/\Lad.mu n f u+R.length<=Lad.mu n f (x71 C.p z)/\x5o [x0p n f,x06 n C,.lst (l.map x08)]=some (.tup [.tup (x0e u),.int (Int.ofNat R.length)],9):=by
 obtain⟨u,R,h1,h2,h3,h4,e⟩:=z4v L hC (y1j (p:=C.p) hz) hl hlen
 refine⟨u,R,h1,h2,h3,h4,?_⟩
 have r0:=x5i (n:=n) hl hlen
 have r1:=y1f L hz bz hC
 have a0:atD (.tup [.tup (x0e u),.lst (R.map x08)]) 0=some (.tup (x0e u)):=rfl
 have a1:atD (.tup [.tup (x0e u),.lst (R.map x08)]) 1=some (.lst (R.map x08)):=rfl
 have a2:x7m (.lst (R.map x08))=some R.length:=by simp[x7m]
 unfold x5o y3i
 simp[-Int.ofNat_eq_natCast,r0,r1,e,a0,a1,a2]
theorem y87:∃ u,LowS n f C.p (x2i C) (x71 C.p z) u/\y26 [x0p n f,x06 n C]=some (.tup (x0e u),9):=by
 have hB:=hC.b60
 have hW:=hC.w60
 obtain⟨u,R,h1,h2,h3,h4,e⟩:=y7q L hz bz hC (y41 C) (by rw[y4o];omega)
 rw[y95]at h1
 refine⟨u,h1,?_⟩
 have r0:=y0g (n:=n) hB hW
 have a0:atD (.tup [.tup (x0e u),.int (Int.ofNat R.length)]) 0=some (.tup (x0e u)):=rfl
 unfold y26 z1i
 simp[-Int.ofNat_eq_natCast,r0,e,a0]
end
theorem z3a(s:Sn):Sh 1 (x08 s):=by
 obtain⟨b,k⟩:=s
 refine Sh.tup fun d hd=>?_
 rcases List.mem_cons.mp hd with rfl|hd
 ·cases b
  ·show Sh 0 (.str "way")
   exact⟨by decide +kernel,by decide +kernel⟩
  ·show Sh 0 (.str "begin")
   exact⟨by decide +kernel,by decide +kernel⟩
 ·rw[List.mem_singleton.mp hd]
  exact .int _
section
variable {n:Nat}{f:Nat->Nat->Nat}(L:Lad n f){C:Cht}(hC:C.Ok n f)
include L hC
theorem x9g:x14 [x06 n C]=some (.lst ((y15 C).map x08),1):=by
 have hB:=hC.b60
 have hW:=hC.w60
 have c1:atD (x06 n C) 1=some (.tup (C.W.map (x6l n))):=rfl
 have c2:atD (x06 n C) 2=some (.tup (C.B.map x7r)):=rfl
 have lB:x7m (.tup (C.B.map x7r))=some C.B.length:=by simp[x7m]
 have lW:x7m (.tup (C.W.map (x6l n)))=some C.W.length:=by simp[x7m]
 have h1:=x2a (k:=1) (tt:=x25) (te:=x8a (x02 (eC (.str "begin")) (x02 (x05 1) x0i))) (deep:=false) (x67 (m:=C.B.length) (by omega) (fe:=eB y7h (x02 (x1e 0 (eC (.int 2))) x0i)) (ρ:=[some (x06 n C,9)]) (ρ':=[some (x06 n C,9)]) (q:=9) (by simp[-Int.ofNat_eq_natCast,c2,lB])) (y5d (i:=1) rfl (fun _=>true) (fun k=>x08 (true,k)) (fun _=>9) (fun k hk=>rfl) (fun k hk _=>by simp[-Int.ofNat_eq_natCast,x08]))
 rw[show(List.range C.B.length).filter (fun _=>true)=List.range C.B.length by simp,if_neg (by decide)]at h1
 have h2:=x2a (k:=1) (tt:=x25) (te:=x8a (x02 (eC (.str "way")) (x02 (x05 1) x0i))) (deep:=false) (x67 (m:=C.W.length) (by omega) (fe:=eB y7h (x02 (x1e 0 (eC (.int 1))) x0i)) (ρ:=[some (x06 n C,9)]) (ρ':=[some (x06 n C,9)]) (q:=9) (by simp[-Int.ofNat_eq_natCast,c1,lW])) (y5d (i:=1) rfl (fun _=>true) (fun k=>x08 (false,k)) (fun _=>9) (fun k hk=>rfl) (fun k hk _=>by simp[-Int.ofNat_eq_natCast,x08]))
 rw[show(List.range C.W.length).filter (fun _=>true)=List.range C.W.length by simp,if_neg (by decide)]at h2
 have ea:(y15 C).map x08=((List.range C.B.length).map fun k=>x08 (true,k))++((List.range C.W.length).map fun k=>x08 (false,k)):=by
  unfold y15
  rw[List.map_append,List.map_map,List.map_map]
  rfl
 rw[ea]
 have hl:((List.range C.B.length).map fun k=>x08 (true,k)).length+((List.range C.W.length).map fun k=>x08 (false,k)).length<=1000:=by
  rw[List.length_map,List.length_map,List.length_range,List.length_range];omega
 unfold x14 x5u
 refine x1l (x2y (ρ1:=[some (x06 n C,9)]) ?_)
 show x65 _ _ [some (x06 n C,9)]=_
 unfold x65
 rw[h1]
 simp only[h2,if_pos hl]
theorem y23(hv:Vn n C.p v){s:Sn}(hs:okN C s):x2t [x0p n f,x06 n C,.tup (x0e v),x08 s]=some (.tup (x0e (doS f v (x2h C s))),9):=by
 have ok:=x3b L hC _ (x3u hs)
 have hx:=ok.lt v hv
 have hg:=hv.gv ok.pl
 have hpl:(x2h C s).1<v.length:=by rw[hv.len];exact ok.pl
 have hp8:=hC.p8
 have hl:=hv.len
 have head:∃ c d,sIf (x3d (e2 dEq (x1e 3 (eC (.int 0))) (eC (.str "begin")))) (z8e (eIx (x1e 1 (eC (.int 2))) (x1e 3 (eC (.int 1)))) (y5k (x11 (x0o 4) (x11 (x0o 5) x63)))) (x0y (z8e (eIx (x1e 1 (eC (.int 1))) (x1e 3 (eC (.int 1)))) (y5k (x11 (x0o 6) (x11 (x0o 4) (x11 (x0o 7) x63))))) (x1n 5 (x1e 7 (x1e 2 (x05 6))))) [some (x0p n f,9),some (x06 n C,9),some (.tup (x0e v),9),some (x08 s,9),none,none,none,none] =
   some (.nx [some (x0p n f,9),some (x06 n C,9),some (.tup (x0e v),9),some (x08 s,9),some (.int (Int.ofNat (x2h C s).1),9),some (.int (Int.ofNat ((x2h C s).2 v)),9),c,d]):=by
  have c1:atD (x06 n C) 1=some (.tup (C.W.map (x6l n))):=rfl
  have c2:atD (x06 n C) 2=some (.tup (C.B.map x7r)):=rfl
  obtain⟨b,k⟩:=s
  unfold okN at hs
  cases b with
  | true=>
   have hk:k<C.B.length:=hs
   have s0:atD (x08 (true,k)) 0=some (.str "begin"):=rfl
   have s1:atD (x08 (true,k)) 1=some (.int (Int.ofNat k)):=rfl
   have e:atD (.tup (C.B.map x7r)) (Int.ofNat k)=some (x7r (C.B.getD k (0,0))):=y0k (by rw[List.getElem?_map,List.getElem?_eq_getElem hk];simp[hk])
   have hst:x2h C (true,k)=x9e (C.B.getD k (0,0)):=rfl
   rw[hst]
   refine⟨none,none,?_⟩
   generalize C.B.getD k (0,0)=b at *
   unfold x7r x9e at *
   simp[-Int.ofNat_eq_natCast,s0,s1,c2,e,y8u]
  | false=>
   have hk:k<C.W.length:=hs
   have s0:atD (x08 (false,k)) 0=some (.str "way"):=rfl
   have s1:atD (x08 (false,k)) 1=some (.int (Int.ofNat k)):=rfl
   have e:atD (.tup (C.W.map (x6l n))) (Int.ofNat k)=some (x6l n (C.W.getD k (0,0,id))):=y0k (by rw[List.getElem?_map,List.getElem?_eq_getElem hk];simp[hk])
   have hst:x2h C (false,k)=y4i (C.W.getD k (0,0,id)):=rfl
   have hw:C.W.getD k (0,0,id)∈C.W:=by
    rw[List.getD_eq_getElem?_getD,List.getElem?_eq_getElem hk]
    exact List.getElem_mem hk
   have okw:=hC.ws _ hw
   rw[hst]
   generalize C.W.getD k (0,0,id)=w at *
   have a0:=j11 (v:=v) (i:=w.1) (by rw[hv.len];exact okw.1)
   have a1:=y16 (r:=w.2.2) (hv.gv okw.1)
   refine⟨some (.int (Int.ofNat w.1),9),some (x4l n w.2.2,9),?_⟩
   have e':atD (.tup (C.W.map (x6l n))) (Int.ofNat k)=some (.tup [.int (Int.ofNat w.1),.int (Int.ofNat w.2.1),x4l n w.2.2]):=e
   show _=some (Out.nx [_,_,_,_,some (.int (Int.ofNat w.2.1),9),some (.int (Int.ofNat (w.2.2 (gv v w.1))),9),_,_])
   simp[-Int.ofNat_eq_natCast,s0,s1,c1,e',z7w,a0,a1]
 obtain⟨c,d,head⟩:=head
 unfold doS
 generalize (x2h C s).1=g at *
 generalize (x2h C s).2 v=x at *
 have a0:=j11 hpl
 have a1:=x6e (f:=f) hg
 have a2:=x6q (f:=f) (i:=gv v g) hx
 have s1:=z7j hpl
 have s2:=y9h hpl
 have s3:=z2w (x:=f (gv v g) x) hpl
 have l1:(x0e (v.take g)).length=g:=by rw[x10,List.length_take];omega
 have l2:(x0e (v.drop (g+1))).length=v.length-(g+1):=by rw[x10,List.length_drop]
 unfold x2t y1g
 refine x1l ?_
 show x0y _ _ [some (x0p n f,9),some (x06 n C,9),some (.tup (x0e v),9),some (x08 s,9),none,none,none,none]=_
 refine(x0g head).trans ?_
 rw[<- s3]
 have m1:(x0e (v.take g)).length+1<=1000:=by omega
 have m2:(x0e (v.take g)).length+1+(x0e (v.drop (g+1))).length<=1000:=by omega
 generalize x0e (v.take g)=u1 at *
 generalize x0e (v.drop (g+1))=u2 at *
 have m1':u1.length<=999:=by omega
 simp[-Int.ofNat_eq_natCast,a0,a1,a2,s1,s2,m1,m1',m2]
end
theorem y8t{x:D×Nat}(h:ρ[i]? = some (some x)):ρ.set i (some x)=ρ:=by
 apply List.ext_getElem?
 intro k
 by_cases hk:i=k
 ·subst hk
  rw[h,List.getElem?_set_self (List.getElem?_eq_some_iff.mp h).1]
 ·rw[List.getElem?_set_ne hk]
theorem y4q(h:ρ[i]? = some (some (.lst ds,q))):x05 i ρ=some (.lst ds,0,ρ.set i (some (.lst ds,0))):=by
 unfold x05
 rw[h]
 by_cases hq:q=0
 ·subst hq
  rw[y8t h]
  rfl
 ·simp[hq]
theorem z56{h:x1u}(e:g ρ=some (false,ρ1)):y6o g h ρ=h ρ1:=by unfold y6o;rw[e];rfl
theorem z3e(e:g ρ=some (b,ρ1)):x4d g ρ=some (!b,ρ1):=by unfold x4d;rw[e]
theorem y85{f:Den}(h:f ρ=some (.bl b,q,ρ1)):x7x f ρ=some (b,ρ1):=by unfold x7x;rw[h];cases b<;>rfl
theorem y4k(h:ρ[i]? = some (some (d,q)))(hl:x7m d=some n):x1g i ρ=some (.int (Int.ofNat n),9,ρ):=by unfold x1g;rw[h];simp only[hl]
theorem y60(h:ρ[i]? = some (some (d,q)))(hd:d.isL=false):x05 i ρ=some (d,9,ρ):=by unfold x05;rw[h];simp[hd]
theorem y7r{b:Den}{k:Int}(hb:b ρ=some (.int k,q',ρ))(h:ρ[i]? = some (some (x,q)))(ha:atD x k=some d)(hd:d.isL=false):x1e i b ρ=some (d,9,ρ):=by
 unfold x1e
 rw[h]
 simp only[hb,h,ha,hd,x9m]
 simp
theorem y89(ns:List Int){c:Int}(hc:0<=c)(hn:0<n):∃ v,v<n/\x0f [scr ns,.int c,.int (Int.ofNat n)]=some (.int (Int.ofNat v),9):=by
 have hnp:(0:Int)<Int.ofNat n:=by show(0:Int)<(n:Int);omega
 have h1:=x6c ns c hnp
 have h2:=x79 ns c hnp
 have h3:Int.ofNat n=(n:Int):=rfl
 obtain⟨v,hv⟩:=Int.eq_ofNat_of_zero_le h1
 refine⟨v,by rw[hv,h3]at h2;omega,?_⟩
 rw[x76 ns c _ hc hnp,hv]
 rfl
theorem z77{pt:x6m}{body:x13}(h1:pt d ρ=some ρ1)(h2:body ρ1=some (.bk ρ2)):x8f pt body (d::ds) ρ=some (.nx ρ2):=by
 unfold x8f
 rw[h1]
 simp only[h2]
theorem z7a(h63:ns.length<=63){m:Nat}(hm:m+1<=1000)(once:∀ ns':List Int,x34 [scr ns']=some (.bl true,9)):∃ x,x7l (x17 (x02 (eC (.int (Int.ofNat (m+1)))) x0i)) (x0o 1) y9y [some (scr ns,0),none]=some (.nx [some (scr ns,0),x]):=by
 have hl:(ns.map D.int).length<=1000:=by rw[List.length_map];omega
 have hc:∀ (t:Nat),x2w 1 (x50 (x05 0)) (x0o 2) x25 (e2 x31 (x05 2) (e2 y0x (eC (.int 7919)) (x05 1))) false [some (scr ns,0),some (.int (Int.ofNat t),9)]=some (scr (ns.map fun x=>x+7919*Int.ofNat t),1,[some (scr ns,0),some (.int (Int.ofNat t),9)]):=fun t=>by
  have h:=j4m (i:=2) (te:=e2 x31 (x05 2) (e2 y0x (eC (.int 7919)) (x05 1))) (ρ:=[some (scr ns,0),some (.int (Int.ofNat t),9)]) (ns.map D.int) rfl (fun d=>match d with|.int x=>.int (x+7919*Int.ofNat t)|d=>d) (fun _=>9) (fun d hd=>by
   obtain⟨x,_,rfl⟩:=List.mem_map.mp hd
   simp[-Int.ofNat_eq_natCast])
  have hl':ns.length<=1000:=by omega
  refine(x2a (deep:=false) (by simp[hl']) h).trans ?_
  simp[-Int.ofNat_eq_natCast,Function.comp_def]
 have step:∀ (t:Nat),y9y [some (scr ns,0),some (.int (Int.ofNat t),9)]=some (if ns=[]then .bk [some (scr ns,0),some (.int (Int.ofNat t),9)]else .nx [some (scr ns,0),some (.int (Int.ofNat t),9)]):=fun t=>by
  have h1:=once (ns.map fun x=>x+7919*Int.ofNat t)
  unfold y9y
  refine(x0g (ρ1:=[some (scr ns,0),some (.int (Int.ofNat t),9)]) ?_).trans ?_
  ·have e:=x0s (F:=x34) (n:=1) (x1i (hc t)) rfl h1
   simp only[sIf,x4d,x7x,e]
   rfl
  ·have e:=z3c ns
   by_cases hns:ns=[]
   ·rw[if_pos hns]
    rw[decide_eq_true hns]at e
    simp[-Int.ofNat_eq_natCast,e]
   ·rw[if_neg hns]
    rw[decide_eq_false hns]at e
    simp[-Int.ofNat_eq_natCast,e]
 have hr:x17 (x02 (eC (.int (Int.ofNat (m+1)))) x0i) [some (scr ns,0),none]=some (x19 (m+1),[some (scr ns,0),none]):=by
  simp only[x17,x1i (f:=eC (.int (Int.ofNat (m+1)))) (q:=9) (ρ:=[some (scr ns,0),none]) rfl]
  rw[if_pos ⟨by show(-1000:Int)<=((m+1:Nat):Int);omega,by show((m+1:Nat):Int)<=1000;omega⟩]
  rfl
 rw[x2o hr]
 by_cases hns:ns=[]
 ·refine⟨some (.int (Int.ofNat 0),9),?_⟩
  have h:=step 0
  rw[if_pos hns]at h
  have e:x19 (m+1)=.int (Int.ofNat 0)::(x19 (m+1)).tail:=by
   unfold x19
   rw[List.range_succ_eq_map]
   rfl
  rw[e]
  exact z77 (ρ1:=[some (scr ns,0),some (.int (Int.ofNat 0),9)]) (by simp) h
 ·obtain⟨ρ',e,x,rfl⟩:=x48 (pt:=x0o 1) (body:=y9y) (x19 (m+1)) (fun _ ρ=>∃ x,ρ=[some (scr ns,0),x]) [some (scr ns,0),none] (fun i hi ρ ⟨x,hx⟩=>by
   subst hx
   have h:=step i
   rw[if_neg hns]at h
   refine⟨[some (scr ns,0),some (.int (Int.ofNat i),9)],_,by rw[x5s];simp,.inl h,_,rfl⟩) ⟨none,rfl⟩
  exact⟨x,e⟩
section
variable {n:Nat}{f:Nat->Nat->Nat}
variable (L:Lad n f){z:Nat}(hz:z<n)(bz:∀ j,j<n->f z j=j)
include L hz bz
theorem z7m:(List.range n).foldl f z<n:=L.fold_lt hz fun x m=>List.mem_range.mp m
end
theorem y65{α:Type}{p q:α->Bool}:∀ {l:List α},(∀ a∈l,p a=true->q a=true)->(∃ a∈l,q a=true/\p a=false)->(l.filter p).length<(l.filter q).length
 | [],_,h=>by obtain⟨a,ha,_⟩:=h;cases ha
 | b::l,h1,h2=>by
  have le:(l.filter p).length<=(l.filter q).length:=by
   have h1':∀ a∈l,p a=true->q a=true:=fun a m=>h1 a (List.mem_cons_of_mem _ m)
   clear h1 h2
   induction l with
   | nil=>exact Nat.le_refl _
   | cons c l ih=>
    have ih':=ih fun a m=>h1' a (List.mem_cons_of_mem _ m)
    rw[List.filter_cons,List.filter_cons]
    cases hp:p c with
    | true=>rw[h1' c List.mem_cons_self hp];simpa using ih'
    | false=>cases q c<;>simp<;>omega
  obtain⟨a,ha,hq,hp⟩:=h2
  rw[List.filter_cons,List.filter_cons]
  rcases List.mem_cons.mp ha with rfl|ha
  ·rw[hq,hp]
   simp
   omega
  ·have ih:=y65 (fun a m=>h1 a (List.mem_cons_of_mem _ m)) ⟨a,ha,hq,hp⟩
   cases hpb:p b with
   | true=>rw[h1 b List.mem_cons_self hpb];simpa using ih
   | false=>cases q b<;>simp<;>omega
def cb (n:Nat)(f:Nat->Nat->Nat)(w:Nat):Nat:=((List.range n).filter fun x=>decide (f x w=w)).length
def tbw (n:Nat)(f:Nat->Nat->Nat)(w:Nat):List Nat:=((List.range n).filter fun x=>decide (f x w=w)).filter fun x=>!decide (x=w)
theorem x9y{w x:Nat}:x∈tbw n f w ↔ x<n/\f x w=w/\x≠w:=by
 unfold tbw
 rw[List.mem_filter,List.mem_filter,List.mem_range]
 simp
 constructor
 ·rintro ⟨⟨a,b⟩,c⟩;exact⟨a,b,c⟩
 ·rintro ⟨a,b,c⟩;exact⟨⟨a,b⟩,c⟩
theorem z9o{w:Nat}:(tbw n f w).length<=n:=by
 unfold tbw
 refine Nat.le_trans (List.length_filter_le _ _) (Nat.le_trans (List.length_filter_le _ _) ?_)
 rw[List.length_range]
 exact Nat.le_refl _
theorem z70(hn:n<=1000){w:Nat}(hw:w<n):x2l [x0p n f,.int (Int.ofNat w)]=some (.lst (x0e (tbw n f w)),1):=by
 unfold x2l x8o
 have hit:x50 (x0j x4h 2 (x02 (x05 0) (x02 (x05 1) x0i))) [some (x0p n f,9),some (.int (Int.ofNat w),9)]=some (x0e ((List.range n).filter fun x=>decide (f x w=w)),[some (x0p n f,9),some (.int (Int.ofNat w),9)]):=by
  have e:=x0s (F:=x4h) (n:=2) (g:=x02 (x05 0) (x02 (x05 1) x0i)) (ρ:=[some (x0p n f,9),some (.int (Int.ofNat w),9)]) (ds:=[x0p n f,.int (Int.ofNat w)]) rfl rfl (y9o hn hw)
  unfold x50
  rw[e]
  exact if_pos (by
   rw[x10]
   refine Nat.le_trans (List.length_filter_le _ _) ?_
   rw[List.length_range];exact hn)
 exact x1l (x2y (x2a (deep:=false) hit (j4v (i:=2) _ rfl (fun x=>!decide (x=w)) (fun x=>.int (Int.ofNat x)) (fun _=>9) (fun x hx=>x5f (x8b (fa:=x05 2) (fb:=x05 1) (q:=9) (q':=9) rfl rfl (y4f x w))) (fun x hx _=>rfl))))
structure IsH (n:Nat) (f:Nat->Nat->Nat) (H:Nat->Nat):Prop where
 up:∀ x w,x<n->w<n->f x w=w->x≠w->H x+1<=H w
 at':∀ w,w<n->0<H w->∃ x,x<n/\f x w=w/\x≠w/\H x+1=H w
theorem j4z:∀ {l:List Nat} {a:Nat},a∈l->a<=l.foldr max 0
 | b::l,a,h=>by
  rcases List.mem_cons.mp h with rfl|h
  ·exact Nat.le_max_left _ _
  ·exact Nat.le_trans (j4z h) (Nat.le_max_right _ _)
theorem z84:∀ {l:List Nat},0<l.foldr max 0->l.foldr max 0∈l
 | [],h=>absurd h (Nat.lt_irrefl _)
 | b::l,h=>by
  show max b (l.foldr max 0)∈b::l
  by_cases hb:l.foldr max 0<=b
  ·rw[Nat.max_eq_left hb];exact List.mem_cons_self
  ·rw[Nat.max_eq_right (by omega)]
   exact List.mem_cons_of_mem _ (z84 (by omega))
section
variable {n:Nat}{f:Nat->Nat->Nat}(L:Lad n f)
include L
theorem j2x{x w:Nat}(hx:x<n)(hw:w<n)(h:f x w=w)(ne:x≠w):cb n f x<cb n f w:=by
 refine y65 (fun a ha hp=>?_) ⟨w,List.mem_range.mpr hw,decide_eq_true (L.idem w hw),decide_eq_false fun z=>ne (L.le_anti hx hw h z)⟩
 exact decide_eq_true (L.le_trans (List.mem_range.mp ha) hx hw (of_decide_eq_true hp) h)
theorem j3x{w:Nat}(hw:w<n):0<cb n f w:=List.length_pos_iff.mpr (List.ne_nil_of_mem (List.mem_filter.mpr ⟨List.mem_range.mpr hw,decide_eq_true (L.idem w hw)⟩))
theorem j8j(c:Nat):∃ H:Nat->Nat,∀ w,w<n->cb n f w<=c->(∀ x,x<n->f x w=w->x≠w->H x+1<=H w)/\(0<H w->∃ x,x<n/\f x w=w/\x≠w/\H x+1=H w):=by
 induction c with
 | zero=>exact⟨fun _=>0,fun w hw h=>absurd (j3x L hw) (by omega)⟩
 | succ c ih=>
  obtain⟨H,hH⟩:=ih
  refine⟨fun w=>if cb n f w<=c then H w else((tbw n f w).map fun x=>H x+1).foldr max 0,fun w hw hc=>?_⟩
  have old:∀ x,x<n->f x w=w->x≠w->(if cb n f x<=c then H x else((tbw n f x).map fun x=>H x+1).foldr max 0)=H x:=fun x hx h ne=>if_pos (by have:=j2x L hx hw h ne;omega)
  dsimp only
  by_cases hw':cb n f w<=c
  ·rw[if_pos hw']
   obtain⟨h1,h2⟩:=hH w hw hw'
   refine⟨fun x hx h ne=>by rw[old x hx h ne];exact h1 x hx h ne,fun p=>?_⟩
   obtain⟨x,hx,h,ne,e⟩:=h2 p
   exact⟨x,hx,h,ne,by rw[old x hx h ne];exact e⟩
  ·rw[if_neg hw']
   refine⟨fun x hx h ne=>by rw[old x hx h ne];exact j4z (List.mem_map.mpr ⟨x,x9y.mpr ⟨hx,h,ne⟩,rfl⟩),fun p=>?_⟩
   obtain⟨x,hx,e⟩:=List.mem_map.mp (z84 p)
   obtain⟨a,b,c'⟩:=x9y.mp hx
   exact⟨x,a,b,c',by rw[old x a b c'];exact e⟩
theorem j7l:∃ H,IsH n f H:=by
 obtain⟨H,hH⟩:=j8j L n
 have cn:∀ w,cb n f w<=n:=fun w=>by
  have:=List.length_filter_le (fun x=>decide (f x w=w)) (List.range n)
  rw[List.length_range]at this
  exact this
 exact⟨H,fun x w hx hw h ne=>(hH w hw (cn w)).1 x hx h ne,fun w hw p=>(hH w hw (cn w)).2 p⟩
end
theorem j15{l:List Int}{M:Int}(h1:∀ a∈l,a<=M)(h2:M∈l\/(l=[]/\M=0)):j24 0 l=M:=by
 cases l with
 | nil=>
  rcases h2 with h|h
  ·cases h
  ·rw[h.2];rfl
 | cons k ks=>
  obtain⟨a,b,c⟩:=y81 ks k
  show z6x k ks=M
  rcases h2 with h|h
  ·have le:=h1 _ c
   rcases List.mem_cons.mp h with z|z
   ·omega
   ·have:=b M z;omega
  ·cases h.1
section
variable {n:Nat}{f:Nat->Nat->Nat}(L:Lad n f){z:Nat}(hz:z<n)(bz:∀ j,j<n->f z j=j)
include L hz bz
theorem z2u(hH:IsH n f H):x4v [x0p n f]=some (.int (Int.ofNat (H ((List.range n).foldl f z))),9):=by
 have hn:n<=1000:=Nat.le_trans L.hi (by decide)
 have h16:=L.hi
 have mem:∀ k∈y9e n,∃ w:Nat,w<n/\k=Int.ofNat w:=fun k hk=>by
  obtain⟨w,hw,rfl⟩:=List.mem_map.mp hk
  exact⟨w,List.mem_range.mp hw,rfl⟩
 have hg:Hgt x68 x2l x2n (x0p n f) (Int.ofNat (H ((List.range n).foldl f z))):=by
  refine⟨rfl,n,fun k=>Int.ofNat (cb n f k.toNat),fun k=>(tbw n f k.toNat).map Int.ofNat,fun k=>Int.ofNat (H k.toNat),Int.ofNat ((List.range n).foldl f z),x2r,by omega,⟨z1q n,by rw[List.length_map,List.length_range];omega,fun k hk x hx=>?_⟩,fun k hk=>?_,fun k hk=>?_,⟨9,y77 L hz bz hn⟩,List.mem_map.mpr ⟨_,List.mem_range.mpr (z7m L hz bz),rfl⟩,rfl⟩
  ·obtain⟨w,hw,rfl⟩:=mem k hk
   obtain⟨y,hy,rfl⟩:=List.mem_map.mp hx
   obtain⟨a,b,c⟩:=x9y.mp hy
   refine⟨List.mem_map.mpr ⟨y,List.mem_range.mpr a,rfl⟩,?_⟩
   have:=j2x L a hw b c
   show((cb n f y:Nat):Int)<((cb n f w:Nat):Int)
   omega
  ·obtain⟨w,hw,rfl⟩:=mem k hk
   have e:x68 (x5v ([D.int (Int.ofNat w)]++[x0p n f]).length ([D.int (Int.ofNat w)]++[x0p n f]))=some (.int (Int.ofNat (cb n f w)),9,[some (.int (Int.ofNat w),9),some (x0p n f,9)]):=by
    have e1:=x0s (F:=x4h) (n:=2) (g:=x02 (x05 1) (x02 (x05 0) x0i)) (ρ:=[some (.int (Int.ofNat w),9),some (x0p n f,9)]) (ds:=[x0p n f,.int (Int.ofNat w)]) rfl rfl (y9o hn hw)
    have e2:eB y7h (x02 (x0j x4h 2 (x02 (x05 1) (x02 (x05 0) x0i))) x0i) [some (.int (Int.ofNat w),9),some (x0p n f,9)]=some (.int (Int.ofNat (cb n f w)),9,[some (.int (Int.ofNat w),9),some (x0p n f,9)]):=z94 (x1i e1) (by
     show some (D.int (Int.ofNat (x0e ((List.range n).filter fun x=>decide (f x w=w))).length))=_
     rw[x10];rfl)
    exact e2
   unfold z7o
   rw[e]
   rfl
  ·obtain⟨w,hw,rfl⟩:=mem k hk
   refine⟨⟨1,?_⟩,?_,?_⟩
   ·rw[z70 hn hw]
    show _=some (D.lst (((tbw n f w).map Int.ofNat).map D.int),1)
    rw[List.map_map]
    rfl
   ·rw[List.length_map]
    exact Nat.le_trans z9o hn
   ·refine(j15 (fun a ha=>?_) ?_).symm
    ·obtain⟨x,hx,rfl⟩:=List.mem_map.mp ha
     obtain⟨y,hy,rfl⟩:=List.mem_map.mp hx
     obtain⟨a,b,c⟩:=x9y.mp hy
     have:=hH.up y w a hw b c
     show((H y:Nat):Int)+1<=((H w:Nat):Int)
     omega
    ·by_cases h0:0<H w
     ·obtain⟨x,a,b,c,e⟩:=hH.at' w hw h0
      refine .inl (List.mem_map.mpr ⟨Int.ofNat x,List.mem_map.mpr ⟨x,x9y.mpr ⟨a,b,c⟩,rfl⟩,?_⟩)
      show((H x:Nat):Int)+1=((H w:Nat):Int)
      omega
     ·refine .inr ⟨?_,by show((H w:Nat):Int)=0;omega⟩
      have:tbw n f w=[]:=List.eq_nil_iff_forall_not_mem.mpr fun x hx=>by
       obtain⟨a,b,c⟩:=x9y.mp hx
       have:=hH.up x w a hw b c
       omega
      show(((tbw n f w).map Int.ofNat).map _)=[]
      rw[this]
      rfl
 unfold x4v
 refine x1l ?_
 unfold y1w j61
 show(match j1y x68 x2l x2n [x0p n f]with|some (d,q)=>some (Out.rt d q)|none=>none)=_
 rw[j1p hg]
end
def hs (H:Nat->Nat)(v:List Nat):Nat:=(v.map H).sum
theorem j2v(h:IsH n f H):∀ (u v:List Nat),u.length=v.length->(∀ x∈u,x<n)->(∀ x∈v,x<n)->(∀ i,i<u.length->f (gv u i) (gv v i)=gv v i)->hs H u<=hs H v/\(u≠v->hs H u<hs H v)
 | [],[],_,_,_,_=>⟨Nat.le_refl _,fun h=>absurd rfl h⟩
 | [],_::_,hl,_,_,_=>nomatch hl
 | _::_,[],hl,_,_,_=>nomatch hl
 | x::u,y::v,hl,h1,h2,h3=>by
  obtain⟨i1,i2⟩:=j2v h u v (by simpa using hl) (fun z m=>h1 z (List.mem_cons_of_mem _ m)) (fun z m=>h2 z (List.mem_cons_of_mem _ m)) fun i hi=>h3 (i+1) (by simpa using hi)
  have e0:f x y=y:=h3 0 (by simp)
  have e1:hs H (x::u)=H x+hs H u:=by unfold hs;rw[List.map_cons,List.sum_cons]
  have e2:hs H (y::v)=H y+hs H v:=by unfold hs;rw[List.map_cons,List.sum_cons]
  rw[e1,e2]
  by_cases e:x=y
  ·subst e
   exact⟨by omega,fun h=>by have:=i2 (fun z=>h (by rw[z]));omega⟩
  ·have:=h.up x y (h1 x List.mem_cons_self) (h2 y List.mem_cons_self) e0 e
   exact⟨by omega,fun _=>by omega⟩
theorem j31{m:Nat}:∀ {v:List Nat},(∀ x∈v,H x<=m)->hs H v<=v.length*m
 | [],_=>Nat.zero_le _
 | x::v,h=>by
  have i:=j31 (v:=v) fun y hy=>h y (List.mem_cons_of_mem _ hy)
  have:=h x List.mem_cons_self
  show hs H (x::v)<=(v.length+1)*m
  have e1:hs H (x::v)=H x+hs H v:=by unfold hs;rw[List.map_cons,List.sum_cons]
  rw[e1,Nat.succ_mul]
  omega
theorem z67(h:ρ[i]? = some (some (.lst ds,0)))(hl:ds.length<=1000):x50 (x05 i) ρ=some (ds,ρ):=by
 unfold x50
 rw[y4q h,y8t h]
 exact if_pos hl
theorem j43{a:Bool}(ha:fa ρ=some (.bl a,q,ρ))(hb:fb ρ=some (.bl b,9,ρ)):z43 fa fb ρ=some (.bl (a&&b),9,ρ):=by
 unfold z43
 rw[ha]
 cases a
 ·rfl
 ·exact hb
theorem j5w{a b:List D}(ha:fa ρ=some (.lst a,q,ρ1))(hb:fb ρ1=some (.lst b,q',ρ2))(h:a.length+b.length<=1000):x65 fa fb ρ=some (.lst (a++b),1,ρ2):=by
 unfold x65
 rw[ha]
 simp only[hb,if_pos h]
theorem z86{g:Den}(h:g ρ=some (d,q,ρ1)):x3p g ρ=some (.nx ρ1):=by unfold x3p;rw[h]
def stB (n:Nat)(C:Cht)(d:D):Bool:=match x1c [x06 n C,d]with|some (.bl b,_)=>b|_=>false
section
variable {n:Nat}{f:Nat->Nat->Nat}{C:Cht}
theorem y8z(s:Sn):stB n C (x08 s)=y56 C s:=by unfold stB;rw[x85]
theorem y7b(l:List Sn):(l.map x08).all (stB n C)=l.all (y56 C):=by
 rw[List.all_map]
 congr 1
 funext s
 exact y8z s
theorem y25:x1c [x06 n C,.non]=some (.bl false,9):=by
 unfold x1c y2e
 have e1:x5q 0 2 [some (x06 n C,9),some (.non,9)]=some (Int.ofNat C.B.length):=by
  show some (Int.ofNat (C.B.map x7r).length)=_
  rw[List.length_map]
 have e2':x5q 0 1 [some (x06 n C,9),some (.non,9)]=some (Int.ofNat C.W.length):=by
  show some (Int.ofNat (C.W.map (x6l n)).length)=_
  rw[List.length_map]
 have ed:y6a "begin" "way" (x5q 0 2) (x5q 0 1) [some (x06 n C,9),some (.non,9)]=some (.dic ["begin","way"] [.int (Int.ofNat C.B.length),.int (Int.ofNat C.W.length)],9,[some (x06 n C,9),some (.non,9)]):=by
  unfold y6a
  rw[e1,e2']
 exact x1l (x2y (x0s (x1r (f:=x05 1) (d:=.non) (q:=9) (ρ:=[some (x06 n C,9),some (.non,9)]) (ρ1:=[some (x06 n C,9),some (.non,9)]) rfl (x1i ed)) rfl rfl))
abbrev Sd (ds:List D):Prop:=∀ d∈ds,d=.non\/∃ s,d=x08 s
theorem Sd.map(l:List Sn):Sd (l.map x08):=fun d hd=>by
 obtain⟨s,_,rfl⟩:=List.mem_map.mp hd
 exact .inr ⟨s,rfl⟩
theorem z1b(h:d=.non\/∃ s,d=x08 s):x1c [x06 n C,d]=some (.bl (stB n C d),9):=by
 rcases h with rfl|⟨s,rfl⟩
 ·unfold stB;rw[y25]
 ·rw[y8z,x85]
theorem j83(hd:Sd ds)(hlen:ds.length<=1000){k:Nat}(hk:ρ.length=k)(hi:ρ[i]? = some (some (.lst ds,0)))(hc:ρ[c]? = some (some (x06 n C,9))) :
  eB y9m (x02 (x2w 1 (x50 (x05 i)) (x0o k) x25 (x0j x1c 2 (x02 (x05 c) (x02 (x05 k) x0i))) false) x0i) ρ=some (.bl (ds.all (stB n C)),9,ρ):=by
 refine y9u hk (z67 hi hlen) (stB n C) (fun _=>9) fun d hd'=>?_
 have i1:(ρ++[some (d,x9m d)])[c]? = some (some (x06 n C,9)):=by rw[List.getElem?_append_left (List.getElem?_eq_some_iff.mp hc).1];exact hc
 have i2:(ρ++[some (d,x9m d)])[k]? = some (some (d,x9m d)):=by subst hk;simp
 have dl:d.isL=false:=by
  rcases hd d hd' with rfl|⟨s,rfl⟩
  ·rfl
  ·rfl
 exact x0s (x1r (y60 i1 rfl) (x1i (y60 i2 dl))) rfl (z1b (hd d hd'))
theorem z4c(a b:Sn):PyData.eqv (toP (x08 a)) (toP (x08 b))=decide (a=b):=by
 obtain⟨x,i⟩:=a
 obtain⟨y,j⟩:=b
 show(PyData.eqv (toP (.str (if x then "begin" else "way"))) (toP (.str (if y then "begin" else "way")))&&(PyData.eqv (toP (.int (Int.ofNat i))) (toP (.int (Int.ofNat j)))&&true))=_
 have e1:PyData.eqv (toP (.int (Int.ofNat i))) (toP (.int (Int.ofNat j)))=decide (i=j):=y7m i j
 have e2:PyData.eqv (toP (.str (if x then "begin" else "way"))) (toP (.str (if y then "begin" else "way")))=decide (x=y):=by
  cases x<;>cases y<;>decide +kernel
 rw[e1,e2,Bool.and_true,<- Bool.decide_and]
 exact decide_eq_decide.mpr ⟨fun⟨p,q⟩=>by rw[p,q],fun e=>by cases e;exact⟨rfl,rfl⟩⟩
theorem y8j{s:Sn}:s∈y15 C ↔ y56 C s=true:=by
 rw[x7d]
 refine⟨y41 C s,fun h=>?_⟩
 obtain⟨b,k⟩:=s
 unfold okN at h
 unfold y15
 cases b with
 | true=>exact List.mem_append_left _ (List.mem_map.mpr ⟨k,List.mem_range.mpr h,rfl⟩)
 | false=>exact List.mem_append_right _ (List.mem_map.mpr ⟨k,List.mem_range.mpr h,rfl⟩)
theorem z09(s:Sn):x8y (x08 s) (.lst ((y15 C).map x08))=some (.bl (!y56 C s)):=by
 have sh:Sh 2 (.lst ((y15 C).map x08)):=.lst fun d hd=>by
  obtain⟨t,_,rfl⟩:=List.mem_map.mp hd
  exact z3a t
 unfold x8y
 rw[if_pos ⟨(z3a s).ok,sh.ok⟩]
 have e:inD (x08 s) (.lst ((y15 C).map x08))=some (y56 C s):=by
  show some ((x6t ((y15 C).map x08)).any fun y=>PyData.eqv y (toP (x08 s)))=_
  have e:∀ l:List Sn,((x6t (l.map x08)).any fun y=>PyData.eqv y (toP (x08 s)))=decide (s∈l):=by
   intro l
   induction l with
   | nil=>rfl
   | cons a l ih=>
    have h1:x6t ((a::l).map x08)=toP (x08 a)::x6t (l.map x08):=rfl
    rw[h1,List.any_cons,ih,z4c]
    by_cases h:a=s
    ·simp[h]
    ·have h':¬ s=a:=fun q=>h q.symm
     simp[h,h']
  rw[e]
  congr 1
  cases h:y56 C s with
  | true=>exact decide_eq_true (y8j.mpr h)
  | false=>exact decide_eq_false fun m=>by rw[y8j.mp m]at h;cases h
 rw[e]
 rfl
variable (L:Lad n f){z:Nat}(hz:z<n)(bz:∀ j,j<n->f z j=j)(hC:C.Ok n f)
include L hC
theorem z88(h:IsH n f H):∀ {R:List Sn} {v:List Nat},Vn n C.p v->Rz f C v R->(∀ s∈R,okN C s)->R.length+hs H v<=hs H ((R.map (x2h C)).foldl (doS f) v)
 | [],_,_,_,_=>by rw[List.length_nil,Nat.zero_add];exact Nat.le_refl _
 | s::R,v,hv,r,ok=>by
  have o:=x3b L hC _ (x3u (ok s List.mem_cons_self))
  have V:=L.doS_V o hv
  have i:=z88 h V r.2 fun t ht=>ok t (List.mem_cons_of_mem _ ht)
  have up:=L.doS_up o hv
  have:=(j2v h v (doS f v (x2h C s)) (hv.len.trans V.len.symm) hv.lt V.lt fun i hi=>up i (by rw[<- hv.len];exact hi)).2 fun e=>r.1 e.symm
  show R.length+1+hs H v<=hs H ((R.map (x2h C)).foldl (doS f) (doS f v (x2h C s)))
  omega
abbrev fo (f:Nat->Nat->Nat)(C:Cht)(v:List Nat)(l:List Sn):List Nat:=(l.map (x2h C)).foldl (doS f) v
theorem j8v{l:List Sn}(hl:∀ s∈l,okN C s)(hv:Vn n C.p v):Vn n C.p (fo f C v l):=L.foldS_V (fun t ht=>by
 obtain⟨s,hs,rfl⟩:=List.mem_map.mp ht
 exact x3b L hC _ (x3u (hl s hs))) hv
include hz bz
theorem z18{l:List Sn}(hl:∀ s∈l,okN C s)(hlen:l.length<=1000):y28 [x0p n f,x06 n C,.lst (l.map x08)]=some (.tup (x0e (fo f C (x71 C.p z) l)),9):=by
 have r0:=x5i (n:=n) hl hlen
 have r1:=y1f L hz bz hC
 unfold y28 z7z
 refine x1l ?_
 show x0y _ _ ([some (x0p n f,9),some (x06 n C,9),some (.lst (l.map x08),0),none,none])=_
 refine(x0g (ρ1:=[some (x0p n f,9),some (x06 n C,9),some (.lst (l.map x08),0),none,none]) (z86 (x0s (ds:=[x06 n C,.lst (l.map x08)]) rfl rfl r0))).trans ?_
 refine(x0g (ρ1:=[some (x0p n f,9),some (x06 n C,9),some (.lst (l.map x08),0),(some (.tup (x0e (x71 C.p z)),9)),none]) (x1s (x0s (ds:=[x0p n f,x06 n C]) rfl rfl r1) rfl)).trans ?_
 obtain⟨j',e,_⟩:=x5p (J:=OD) (pt:=x0o 4) (body:=x1n 3 (x0j x18 4 (x02 (x05 0) (x02 (x05 1) (x02 (x05 3) (x02 (x05 4) x0i)))))) x08 (fun v j=>[some (x0p n f,9),some (x06 n C,9),some (.lst (l.map x08),0),(some (.tup (x0e v),9)),j]) (fun v s=>doS f v (x2h C s)) (fun v=>Vn n C.p v) l (x71 C.p z) none (y1j hz) (fun s hs v j hv=>⟨L.doS_V (x3b L hC _ (x3u (hl s hs))) hv,[some (x0p n f,9),some (x06 n C,9),some (.lst (l.map x08),0),(some (.tup (x0e v),9)),(some (x08 s,9))],some (x08 s,9),rfl,x1s (x0s (ds:=[x0p n f,x06 n C,.tup (x0e v),x08 s]) rfl rfl (y6m L hC hv (hl s hs))) rfl⟩)
 refine(x0g ((x2o (ds:=l.map x08) (z67 rfl (by rw[List.length_map];exact hlen))).trans e)).trans ?_
 unfold fo
 rw[List.foldl_map]
 rfl
theorem y64:∃ (u:List Nat) (R:List Sn),LowS n f C.p (x2i C) (x71 C.p z) u/\(∀ s∈R,okN C s)/\fo f C (x71 C.p z) R=u/\R.length<=300/\Rz f C (x71 C.p z) R/\x4t [x0p n f,x06 n C]=some (.lst (R.map x08),0):=by
 have hB:=hC.b60
 have hW:=hC.w60
 obtain⟨u,R,h1,h2,h3,h4,e⟩:=y9v L hC (y1j (p:=C.p) hz) (y41 C) (by rw[y4o];omega)
 rw[y95]at h1
 have hm:=Lad.mu_le (f:=f) (y1j (p:=C.p) hz)
 have hp8:=hC.p8
 have hmu':C.p*n<=8*16:=Nat.mul_le_mul hp8 L.hi
 have h41:=h4.1
 refine⟨u,R,h1,fun s hs=>y41 C s (h2 s hs),h3,by omega,h4.2,?_⟩
 have r0:=y0g (n:=n) hB hW
 have r1:=y1f L hz bz hC
 have c:x0j x69 4 (x02 (x05 0) (x02 (x05 1) (x02 (x0j x37 1 (x02 (x05 1) x0i)) (x02 (x0j x46 2 (x02 (x05 0) (x02 (x05 1) x0i))) x0i)))) [some (x0p n f,9),some (x06 n C,9)]=some (.tup [.tup (x0e u),.lst (R.map x08)],9,[some (x0p n f,9),some (x06 n C,9)]):=
  x0s (x1r (f:=x05 0) (q:=9) rfl (x1r (f:=x05 1) (q:=9) rfl (x1r (x0s (ds:=[x06 n C]) rfl rfl r0) (x1i (x0s (ds:=[x0p n f,x06 n C]) rfl rfl r1))))) rfl e
 unfold x4t y2d
 refine x1l (x2y (ρ1:=[some (x0p n f,9),some (x06 n C,9)]) ?_)
 show eIx _ _ [some (x0p n f,9),some (x06 n C,9)]=_
 unfold eIx
 rw[c]
 rfl
omit L hz bz hC in
theorem z2s:x1j [x0p n f,x06 n C,.tup (x0e v),.tup ds]=some (.bl false,9):=by
 unfold x1j x7g
 refine x1l ?_
 show x0y _ _ [some (x0p n f,9),some (x06 n C,9),some (.tup (x0e v),9),some (.tup ds,9)]=_
 exact x5z ((z5d (ρ1:=[some (x0p n f,9),some (x06 n C,9),some (.tup (x0e v),9),some (.tup ds,9)]) rfl).trans rfl)
omit L hz bz hC in
theorem y37(hd:Sd ds)(hlen:ds.length<=1000):y6o (x4d (x7x (z48 .list (x05 3)))) (x4d (x7x (eB y9m (x02 (x2w 1 (x50 (x05 3)) (x0o 4) x25 (x0j x1c 2 (x02 (x05 1) (x02 (x05 4) x0i))) false) x0i)))) [some (x0p n f,9),some (x06 n C,9),some (.tup (x0e v),9),some (.lst ds,0)]=some (!ds.all (stB n C),[some (x0p n f,9),some (x06 n C,9),some (.tup (x0e v),9),some (.lst ds,0)]):=
 (z56 (ρ1:=[some (x0p n f,9),some (x06 n C,9),some (.tup (x0e v),9),some (.lst ds,0)]) rfl).trans (z3e (y85 (j83 hd hlen rfl rfl rfl)))
omit L hz bz hC in
theorem y8x(hd:Sd ds)(hlen:ds.length<=1000)(no:ds.all (stB n C)=false):x1j [x0p n f,x06 n C,.tup (x0e v),.lst ds]=some (.bl false,9):=by
 have h:=y37 (n:=n) (f:=f) (C:=C) (v:=v) hd hlen
 rw[no]at h
 unfold x1j x7g
 refine x1l ?_
 show x0y _ _ [some (x0p n f,9),some (x06 n C,9),some (.tup (x0e v),9),some (.lst ds,0)]=_
 exact x5z ((z5d h).trans rfl)
theorem y9q(hv:Vn n C.p v){l:List Sn}(hl:∀ s∈l,okN C s)(hlen:l.length<=1000):x1j [x0p n f,x06 n C,.tup (x0e v),.lst (l.map x08)]=some (.bl (j19 f C v&&decide (fo f C (x71 C.p z) l=v)),9):=by
 have h:=y37 (n:=n) (f:=f) (C:=C) (v:=v) (Sd.map l) (by rw[List.length_map];exact hlen)
 rw[y7b,List.all_eq_true.mpr fun s hs=>x7d.mpr (hl s hs)]at h
 have g:=z18 L hz bz hC hl hlen
 have a:=y0h L hC hv
 unfold x1j x7g
 refine x1l ?_
 show x0y _ _ [some (x0p n f,9),some (x06 n C,9),some (.tup (x0e v),9),some (.lst (l.map x08),0)]=_
 refine(x0g ((y43 h).trans rfl)).trans (x2y (j43 (x0s (ds:=[x0p n f,x06 n C,.tup (x0e v)]) rfl rfl a) (x8b (fb:=x05 2) (q':=9) (x0s (ds:=[x0p n f,x06 n C,.lst (l.map x08)]) rfl rfl g) rfl (j1n _ _))))
def due (f:Nat->Nat->Nat)(C:Cht)(z:Nat)(l:List Sn):D:=if l.all (y56 C)=true then .tup (x0e (fo f C (x71 C.p z) l))else .str "no step"
omit L hC hz bz in
theorem z1e:(List.replicate p [D.int (Int.ofNat z)]).flatten=x0e (x71 p z):=by simp[x0e,x71,List.flatten_replicate_singleton]
theorem z1u:∀ (m l:List Sn) (v:List Nat) (j:OD),Vn n C.p v->∃ j',x8f (x0o 4) x4a (m.map x08) ([some (x0p n f,9),some (x06 n C,9),some (.lst (l.map x08),0),(some (.tup (x0e v),9)),j])=some (if m.all (y56 C)=true then .nx ([some (x0p n f,9),some (x06 n C,9),some (.lst (l.map x08),0),(some (.tup (x0e (fo f C v m)),9)),j'])else .rt (.str "no step") 9)
 | [],l,v,j,hv=>⟨j,rfl⟩
 | s::m,l,v,j,hv=>by
  have t:x3d (e2 x8y (x05 4) (x0j x14 1 (x02 (x05 1) x0i))) ([some (x0p n f,9),some (x06 n C,9),some (.lst (l.map x08),0),(some (.tup (x0e v),9)),(some (x08 s,9))])=some (!y56 C s,[some (x0p n f,9),some (x06 n C,9),some (.lst (l.map x08),0),(some (.tup (x0e v),9)),(some (x08 s,9))]):=
   x5f (x8b (fa:=x05 4) (q:=9) rfl (x0s (ds:=[x06 n C]) rfl rfl (x9g L hC)) (z09 s))
  cases hs:y56 C s with
  | false=>
   rw[hs]at t
   refine⟨j,?_⟩
   rw[List.all_cons,hs,Bool.false_and,if_neg (by decide)]
   refine z2o (ρ1:=[some (x0p n f,9),some (x06 n C,9),some (.lst (l.map x08),0),(some (.tup (x0e v),9)),(some (x08 s,9))]) rfl ?_
   unfold x4a
   exact x5z ((z5d t).trans rfl)
  | true=>
   rw[hs]at t
   have o:=x7d.mp hs
   have V:=L.doS_V (x3b L hC _ (x3u o)) hv
   obtain⟨j',e⟩:=z1u m l _ (some (x08 s,9)) V
   refine⟨j',?_⟩
   rw[List.all_cons,hs,Bool.true_and]
   refine(y4d (ρ1:=[some (x0p n f,9),some (x06 n C,9),some (.lst (l.map x08),0),(some (.tup (x0e v),9)),(some (x08 s,9))]) (ρ2:=[some (x0p n f,9),some (x06 n C,9),some (.lst (l.map x08),0),(some (.tup (x0e (doS f v (x2h C s))),9)),(some (x08 s,9))]) rfl ?_).trans e
   unfold x4a
   exact(x0g ((y43 t).trans rfl)).trans (x1s (x0s (ds:=[x0p n f,x06 n C,.tup (x0e v),x08 s]) rfl rfl (y23 L hC hv o)) rfl)
theorem z1f(h1:ρ[i]? = some (some (x0p n f,9)))(h2:ρ[c]? = some (some (x06 n C,9))):y1d (x8a (x02 (x0j x1k 1 (x02 (x05 i) x0i)) x0i)) (x1e c (eC (.int 0))) ρ=some (.tup (x0e (x71 C.p z)),9,ρ):=by
 have hp1:=hC.p1
 have hp8:=hC.p8
 have hn:n<=1000:=Nat.le_trans L.hi (by decide)
 have a:x8a (x02 (x0j x1k 1 (x02 (x05 i) x0i)) x0i) ρ=some (.tup [.int (Int.ofNat z)],9,ρ):=by
  unfold x8a
  rw[x1i (x0s (F:=x1k) (n:=1) (x1i (y60 h1 rfl)) rfl (z3w L hz bz hn))]
  rfl
 have b:x1e c (eC (.int 0)) ρ=some (.int (Int.ofNat C.p),9,ρ):=y7r (q':=9) rfl h2 rfl rfl
 unfold y1d
 rw[a]
 simp only[b]
 show(if _/\(1:Int)<=Int.ofNat C.p/\1*C.p<=1000 then some (D.tup (List.replicate C.p [D.int (Int.ofNat z)]).flatten,9,_)else none)=_
 rw[if_pos ⟨rfl,by show(1:Int)<=(C.p:Int);omega,by omega⟩,z1e]
theorem z3z{l:List Sn}(hlen:l.length<=1000):x3x [x0p n f,x06 n C,.lst (l.map x08)]=some (due f C z l,9):=by
 obtain⟨j',e⟩:=z1u L hz bz hC l l (x71 C.p z) none (y1j hz)
 have rp:=(x2o (it:=x50 (x05 2)) (pt:=x0o 4) (body:=x4a) (ds:=l.map x08) (ρ:=[some (x0p n f,9),some (x06 n C,9),some (.lst (l.map x08),0),(some (.tup (x0e (x71 C.p z)),9)),none]) (z67 rfl (by rw[List.length_map];exact hlen))).trans e
 unfold x3x x97
 refine x1l ?_
 show x0y _ _ ([some (x0p n f,9),some (x06 n C,9),some (.lst (l.map x08),0),none,none])=_
 refine(x0g (ρ1:=[some (x0p n f,9),some (x06 n C,9),some (.lst (l.map x08),0),(some (.tup (x0e (x71 C.p z)),9)),none]) (x1s (q:=9) (ρ1:=[some (x0p n f,9),some (x06 n C,9),some (.lst (l.map x08),0),none,none]) (z1f L hz bz hC rfl rfl) rfl)).trans ?_
 unfold due
 cases h:l.all (y56 C)with
 | true=>
  rw[h,if_pos rfl]at rp
  rw[if_pos rfl]
  exact(x0g rp).trans rfl
 | false=>
  rw[h,if_neg (by decide)]at rp
  rw[if_neg (by decide)]
  exact x5z rp
omit L hz bz hC in
theorem j7i{l:List Sn}(hlen:l.length<=1000):x9p [x0p n f,x06 n C,.lst (l.map x08)]=if l.all (y56 C)=true then none else some ("NoStep":Str):=by
 have t:=z3e (y85 (j83 (n:=n) (C:=C) (i:=1) (c:=0) (k:=2) (ρ:=[some (x06 n C,9),some (.lst (l.map x08),0)]) (Sd.map l) (by rw[List.length_map];exact hlen) rfl rfl rfl))
 rw[y7b]at t
 show j1z (x4d (x7x (eB y9m (x02 (x2w 1 (x50 (x05 1)) (x0o 2) x25 (x0j x1c 2 (x02 (x05 0) (x02 (x05 2) x0i))) false) x0i)))) (y9s "NoStep") z55 [some (x06 n C,9),some (.lst (l.map x08),0)]=_
 unfold j1z
 rw[t]
 cases l.all (y56 C)<;>rfl
theorem y72{l:List Sn}(hlen:l.length<=1000):x4y [x0p n f,x06 n C,.lst (l.map x08)]=some (due f C z l,9):=by
 have x:=j7i (n:=n) (f:=f) (C:=C) (l:=l) hlen
 have y:z2e x9p 3 (x02 (x05 0) (x02 (x05 1) (x02 (x05 2) x0i))) ([some (x0p n f,9),some (x06 n C,9),some (.lst (l.map x08),0),(some (.non,9)),(some (.non,9)),none])=(x9p [x0p n f,x06 n C,.lst (l.map x08)]).map fun nm=>(nm,[some (x0p n f,9),some (x06 n C,9),some (.lst (l.map x08),0),(some (.non,9)),(some (.non,9)),none]):=rfl
 unfold x4y y1l
 refine x1l ?_
 show x0y _ _ ([some (x0p n f,9),some (x06 n C,9),some (.lst (l.map x08),0),none,none,none])=_
 refine(x0g (ρ1:=[some (x0p n f,9),some (x06 n C,9),some (.lst (l.map x08),0),(some (.non,9)),none,none]) rfl).trans ?_
 refine(x0g (ρ1:=[some (x0p n f,9),some (x06 n C,9),some (.lst (l.map x08),0),(some (.non,9)),(some (.non,9)),none]) rfl).trans ?_
 unfold due
 cases h:l.all (y56 C)with
 | true=>
  rw[h,if_pos rfl]at x
  rw[x]at y
  have hl:∀ s∈l,okN C s:=fun s hs=>x7d.mp (List.all_eq_true.mp h s hs)
  rw[if_pos rfl]
  refine(x0g (ρ1:=[some (x0p n f,9),some (x06 n C,9),some (.lst (l.map x08),0),(some (.non,9)),(some (.tup (x0e (fo f C (x71 C.p z) l)),9)),none]) ?_).trans ?_
  ·unfold z0c
   rw[y]
   exact x1s (x0s (ds:=[x0p n f,x06 n C,.lst (l.map x08)]) rfl rfl (z18 L hz bz hC hl hlen)) rfl
  ·exact x5z ((z5d (ρ1:=[some (x0p n f,9),some (x06 n C,9),some (.lst (l.map x08),0),(some (.non,9)),(some (.tup (x0e (fo f C (x71 C.p z) l)),9)),none]) rfl).trans rfl)
 | false=>
  rw[h,if_neg (by decide)]at x
  rw[x]at y
  rw[if_neg (by decide)]
  refine(x0g (ρ1:=[some (x0p n f,9),some (x06 n C,9),some (.lst (l.map x08),0),(some (.exc "NoStep",9)),(some (.non,9)),none]) ?_).trans ?_
  ·unfold z0c
   rw[y]
   rfl
  ·refine(x0g (ρ1:=[some (x0p n f,9),some (x06 n C,9),some (.lst (l.map x08),0),(some (.exc "NoStep",9)),(some (.non,9)),none]) ((y43 (ρ1:=[some (x0p n f,9),some (x06 n C,9),some (.lst (l.map x08),0),(some (.exc "NoStep",9)),(some (.non,9)),none]) rfl).trans rfl)).trans ?_
   exact x2y (x0s (F:=x6b) (ds:=[.exc "NoStep"]) (ρ1:=[some (x0p n f,9),some (x06 n C,9),some (.lst (l.map x08),0),(some (.exc "NoStep",9)),(some (.non,9)),none]) rfl rfl rfl)
end
theorem y1c(l:List Sn)(lo hi:Option Int):∃ l':List Sn,l'.length<=l.length/\L3.z7k (l.map x08) lo hi=l'.map x08:=by
 refine⟨(l.drop (HT.sIx l.length 0 lo)).take (HT.sIx l.length l.length hi-HT.sIx l.length 0 lo),?_,?_⟩
 ·rw[List.length_take,List.length_drop];omega
 ·unfold L3.z7k
  rw[List.length_map,List.map_take,List.map_drop]
theorem j3f{b:Den}{k:Int}(hb:b ρ=some (.int k,q',ρ))(h:ρ[i]? = some (some (x,1)))(ha:atD x k=some d):x1e i b ρ=some (d,x9m d,ρ):=by
 unfold x1e
 rw[h]
 simp only[hb,h,ha]
 rw[if_neg fun z=>absurd z.2.1 (by decide)]
theorem y19(l:List Sn):x7m (.lst (l.map x08))=some l.length:=by
 show some (l.map x08).length=_
 rw[List.length_map]
theorem j6a(h:ρ[i]? = some (some (.lst ds,q)))(hl:ds.length<=1000):x50 (x05 i) ρ=some (ds,ρ.set i (some (.lst ds,0))):=by
 unfold x50
 rw[y4q h]
 exact if_pos hl
theorem z8p{a b:D}(ha:fa ρ=some (a,q,ρ1))(hb:fb ρ1=some (b,q',ρ')):x5c (x02 fa (x02 fb x0i)) ρ=some (.lst [a,b],1,ρ'):=by
 unfold x5c
 rw[x1r ha (x1i hb)]
 rfl
theorem j8q{i j:Int}(c:(-(2 ^ 64)<i/\i<2 ^ 64)\/(-(2 ^ 64)<j/\j<2 ^ 64)):y0x (.int i) (.int j)=some (.int (i*j)):=by
 unfold y0x gI
 dsimp only
 rw[if_pos c]
theorem smI(h:a<1000):-(2 ^ 64)<(Int.ofNat a)/\(Int.ofNat a)<2 ^ 64:=by
 have e:Int.ofNat a=(a:Int):=rfl
 rw[e]
 constructor<;>omega
theorem j88{b:Nat}(h:a<1000):y0x (.int (Int.ofNat a)) (.int (Int.ofNat b))=some (.int (Int.ofNat (a*b))):=by
 rw[j8q (.inl (smI h))]
 rfl
theorem z9m:Sh 0 (.str "no step"):=⟨by decide +kernel,by decide +kernel⟩
abbrev OS (ns:List Int)(n:Nat)(f:Nat->Nat->Nat)(C:Cht)(u:List Nat)(R:List Sn)(a5 a6 a7 a8 a9 a10 a11 a12:OD):Rho:=[some (scr ns,0),some (x0p n f,9),some (x06 n C,9),some (.tup (x0e u),9),some (.lst (R.map x08),0),a5,a6,a7,a8,a9,a10,a11,a12]
abbrev MS (ns:List Int)(n:Nat)(f:Nat->Nat->Nat)(C:Cht)(u:List Nat)(R l:List Sn)(d:D)(j:OD×OD)(a10 a11 a12:OD):Rho:=OS ns n f C u R (some (.tup (x0e u),9)) j.1 j.2 (some (.lst (l.map x08),0)) (some (d,9)) a10 a11 a12
abbrev WS (ns:List Int)(n:Nat)(C:Cht)(l:List Sn)(k:Nat)(c d e:OD):Rho:=[some (scr ns,0),some (.int 200,9),some (x06 n C,9),some (.lst (l.map x08),0),some (.lst ((y15 C++[(false,60)]).map x08),1),some (.int (Int.ofNat k),9),c,d,e]
abbrev B2 (a b:List Sn):List D:=[.lst (a.map x08),.lst (b.map x08)]
section
variable {n:Nat}{f:Nat->Nat->Nat}{C:Cht}(L:Lad n f){z:Nat}(hz:z<n)(bz:∀ j,j<n->f z j=j)(hC:C.Ok n f)
include L hC
theorem z37(ns:List Int){l:List Sn}(hl:l.length<=300):∃ l':List Sn,l'.length<=1000/\x20 [scr ns,.int 200,x06 n C,.lst (l.map x08)]=some (.lst (l'.map x08),0):=by
 have hB:=hC.b60
 have hW:=hC.w60
 obtain⟨k,hk,ek⟩:=y89 ns (c:=200) (by decide) (n:=l.length+1) (by omega)
 obtain⟨j,hj,ej⟩:=y89 ns (c:=201) (by decide) (n:=(y15 C++[(false,60)]).length) (by rw[List.length_append];exact Nat.succ_pos _)
 obtain⟨i,hi,ei⟩:=y89 ns (c:=202) (by decide) (n:=5) (by decide)
 obtain⟨a1,b1,c1⟩:=y1c l none (some (Int.ofNat k))
 obtain⟨a2,b2,c2⟩:=y1c l (some (Int.ofNat k+1)) none
 obtain⟨a3,b3,c3⟩:=y1c l (some (Int.ofNat k)) none
 obtain⟨a4,b4,c4⟩:=y1c l (some (Int.ofNat k)) (some (Int.ofNat k+2))
 obtain⟨a5,b5,c5⟩:=y1c l (some (Int.ofNat k+2)) none
 obtain⟨sj,hsj⟩:∃ sj,(y15 C++[(false,60)])[j]? = some sj:=⟨_,List.getElem?_eq_getElem hj⟩
 have aE:atD (.lst ((y15 C++[(false,60)]).map x08)) (Int.ofNat j)=some (x08 sj):=y0k (by rw[List.getElem?_map,hsj];rfl)
 have s1:∀ c d e,y6q (x05 3) x78 (x51 (x05 5)) (WS ns n C l k c d e)=some (.lst (a1.map x08),1,WS ns n C l k c d e):=fun c d e=>by rw[<- c1];rfl
 have s2:∀ c d e,y6q (x05 3) (x51 (e2 x31 (x05 5) (eC (.int 1)))) x78 (WS ns n C l k c d e)=some (.lst (a2.map x08),1,WS ns n C l k c d e):=fun c d e=>by rw[<- c2];rfl
 have s3:∀ c d e,y6q (x05 3) (x51 (x05 5)) x78 (WS ns n C l k c d e)=some (.lst (a3.map x08),1,WS ns n C l k c d e):=fun c d e=>by rw[<- c3];rfl
 have s4:∀ c d e,y6q (x05 3) (x51 (x05 5)) (x51 (e2 x31 (x05 5) (eC (.int 2)))) (WS ns n C l k c d e)=some (.lst (a4.map x08),1,WS ns n C l k c d e):=fun c d e=>by rw[<- c4];rfl
 have s5:∀ c d e,y6q (x05 3) (x51 (e2 x31 (x05 5) (eC (.int 2)))) x78 (WS ns n C l k c d e)=some (.lst (a5.map x08),1,WS ns n C l k c d e):=fun c d e=>by rw[<- c5];rfl
 have cat:∀ {fa fb:Den} {ρ:Rho} {a b:List Sn} {q q':Nat},fa ρ=some (.lst (a.map x08),q,ρ)->fb ρ=some (.lst (b.map x08),q',ρ)->a.length+b.length<=1000->x65 fa fb ρ=some (.lst ((a++b).map x08),1,ρ):=fun ha hb h=>by
  rw[j5w ha hb (by rw[List.length_map,List.length_map];exact h),List.map_append]
 have hal:=y4o (C:=C)
 have fin:∃ l':List Sn,l'.length<=1000/\atD (.lst ((B2 (a1++a2) (a1++[sj]++a3))++(B2 (l++a1) l.reverse)++[D.lst ((a1++a4.reverse++a5).map x08)])) (Int.ofNat i)=some (.lst (l'.map x08)):=by
  match i,hi with
  | 0,_=>exact⟨a1++a2,by rw[List.length_append];omega,rfl⟩
  | 1,_=>exact⟨a1++[sj]++a3,by rw[List.length_append,List.length_append];show _+1+_<=_;omega,rfl⟩
  | 2,_=>exact⟨l++a1,by rw[List.length_append];omega,rfl⟩
  | 3,_=>exact⟨l.reverse,by rw[List.length_reverse];omega,rfl⟩
  | 4,_=>exact⟨a1++a4.reverse++a5,by rw[List.length_append,List.length_append,List.length_reverse];omega,rfl⟩
 obtain⟨l',hl',e'⟩:=fin
 refine⟨l',hl',?_⟩
 unfold x20 x4s
 refine x1l ?_
 show x0y _ _ ([some (scr ns,0),some (.int 200,9),some (x06 n C,9),some (.lst (l.map x08),0),none,none,none,none,none])=_
 refine(x0g (ρ1:=[some (scr ns,0),some (.int 200,9),some (x06 n C,9),some (.lst (l.map x08),0),(some (.lst ((y15 C++[(false,60)]).map x08),1)),none,none,none,none]) (x1s (q:=1) (cat (b:=[(false,60)]) (q':=1) (x0s (ds:=[x06 n C]) rfl rfl (x9g L hC)) rfl (by show _+1<=_;omega)) rfl)).trans ?_
 refine(x0g (ρ1:=WS ns n C l k none none none) (x1s (x0s (ds:=[scr ns,.int 200,.int (Int.ofNat (l.length+1))]) (x1r (f:=x05 0) (q:=0) rfl (x1r (f:=x05 1) (q:=9) rfl (x1i (x8b (fb:=eC (.int 1)) (q':=9) (y4k rfl (y19 l)) rfl rfl)))) rfl ek) rfl)).trans ?_
 refine(x0g (ρ1:=WS ns n C l k (some (x08 sj,9)) none none) (x1s (y7r (i:=4) (q:=1) (x0s (ds:=[scr ns,.int 201,.int (Int.ofNat (y15 C++[(false,60)]).length)]) (x1r (f:=x05 0) (q:=0) rfl (x1r (f:=e2 x31 (x05 1) (eC (.int 1))) (q:=9) rfl (x1i (y4k rfl (y19 _))))) rfl ej) rfl aE rfl) rfl)).trans ?_
 refine(x0g (ρ1:=WS ns n C l k (some (x08 sj,9)) (some (.lst (B2 (a1++a2) (a1++[sj]++a3)),1)) none) (x1s (z8p (cat (s1 _ _ _) (s2 _ _ _) (by omega)) (cat (cat (s1 _ _ _) (b:=[sj]) (q':=1) rfl (by show _+1<=_;omega)) (s3 _ _ _) (by rw[List.length_append];show _+1+_<=_;omega))) rfl)).trans ?_
 refine(x0g (ρ1:=WS ns n C l k (some (x08 sj,9)) (some (.lst ((B2 (a1++a2) (a1++[sj]++a3))++(B2 (l++a1) l.reverse)),1)) none) (z86 (d:=.non) (q:=9) ?_)).trans ?_
 ·have h:=z8p (ρ':=WS ns n C l k (some (x08 sj,9)) (some (.lst (B2 (a1++a2) (a1++[sj]++a3)),1)) none) (cat (fa:=x05 3) (q:=0) (a:=l) rfl (s1 _ _ _) (by omega)) (fb:=j0w (x05 3)) (q':=1) (b:=.lst (l.reverse.map x08)) (by rw[List.map_reverse];rfl)
  have hI:y7x (WS ns n C l k (some (x08 sj,9)) (some (.lst (B2 (a1++a2) (a1++[sj]++a3)),1)) none)[7]? = true:=rfl
  unfold j1w
  rw[if_pos hI,h]
  rfl
 refine(x0g (ρ1:=WS ns n C l k (some (x08 sj,9)) (some (.lst ((B2 (a1++a2) (a1++[sj]++a3))++(B2 (l++a1) l.reverse)),1)) (some (.lst (a4.map x08),1))) (x1s (s4 _ _ _) rfl)).trans ?_
 refine(x0g (ρ1:=WS ns n C l k (some (x08 sj,9)) (some (.lst ((B2 (a1++a2) (a1++[sj]++a3))++(B2 (l++a1) l.reverse)++[D.lst ((a1++a4.reverse++a5).map x08)]),1)) (some (.lst (a4.map x08),0))) ?_).trans ?_
 ·have h1:j0w (x05 8) (WS ns n C l k (some (x08 sj,9)) (some (.lst ((B2 (a1++a2) (a1++[sj]++a3))++(B2 (l++a1) l.reverse)),1)) (some (.lst (a4.map x08),1)))=some (.lst (a4.map x08).reverse,1,WS ns n C l k (some (x08 sj,9)) (some (.lst ((B2 (a1++a2) (a1++[sj]++a3))++(B2 (l++a1) l.reverse)),1)) (some (.lst (a4.map x08),0))):=rfl
  rw[<- List.map_reverse (l:=a4)]at h1
  have h2:=j5w (s1 _ _ _) h1 (by rw[List.length_map,List.length_map,List.length_reverse];omega)
  have h3:=j5w h2 (s5 _ _ _) (by rw[List.length_append,List.length_map,List.length_map,List.length_map,List.length_reverse];omega)
  rw[<- List.map_append,<- List.map_append]at h3
  exact y40 rfl (x1i h3) rfl (by show 4<=1000;decide) rfl
 exact x2y (j3f (x0s (ds:=[scr ns,.int 202,.int (Int.ofNat 5)]) rfl rfl ei) rfl e')
include hz bz
theorem y5z(ns:List Int){u:List Nat}{R0:List Sn}:∀ (R:List Sn) (v:List Nat) (j:OD×OD),Vn n C.p v->Rz f C v R->(∀ s∈R,okN C s)->∃ j':OD×OD,x8f (x0o 6) y0m (R.map x08) (OS ns n f C u R0 (some (.tup (x0e v),9)) j.1 j.2 none none none none none)=some (.nx (OS ns n f C u R0 (some (.tup (x0e (fo f C v R)),9)) j'.1 j'.2 none none none none none))
 | [],v,j,_,_,_=>⟨j,rfl⟩
 | s::R,v,j,hv,r,ok=>by
  have o:=ok s List.mem_cons_self
  have V:=L.doS_V (x3b L hC _ (x3u o)) hv
  obtain⟨j',e⟩:=y5z ns R _ (some (x08 s,9),some (.tup (x0e (doS f v (x2h C s))),9)) V r.2 fun t ht=>ok t (List.mem_cons_of_mem _ ht)
  refine⟨j',(y4d (ρ1:=OS ns n f C u R0 (some (.tup (x0e v),9)) (some (x08 s,9)) j.2 none none none none none) rfl ?_).trans e⟩
  unfold y0m
  refine(x0g (ρ1:=OS ns n f C u R0 (some (.tup (x0e v),9)) (some (x08 s,9)) (some (.tup (x0e (doS f v (x2h C s))),9)) none none none none none) (x1s (x0s (ds:=[x0p n f,x06 n C,.tup (x0e v),x08 s]) rfl rfl (y23 L hC hv o)) rfl)).trans ?_
  refine(x0g (ρ1:=OS ns n f C u R0 (some (.tup (x0e v),9)) (some (x08 s,9)) (some (.tup (x0e (doS f v (x2h C s))),9)) none none none none none) ((y43 ?_).trans rfl)).trans rfl
  have t:=x5f (x8b (g:=dEq) (fa:=x05 7) (fb:=x05 5) (ρ:=OS ns n f C u R0 (some (.tup (x0e v),9)) (some (x08 s,9)) (some (.tup (x0e (doS f v (x2h C s))),9)) none none none none none) (q:=9) (q':=9) rfl rfl (j1n _ _))
  rw[decide_eq_false r.1]at t
  exact t
end
theorem z8v(ns:List Int):x34 [scr ns]=some (.bl true,9):=by
 obtain⟨n,f,L,hL⟩:=j4e ns 0 (Int.le_refl 0)
 obtain⟨z,hz,bz⟩:=L.bot
 have hn:n<=1000:=Nat.le_trans L.hi (by decide)
 obtain⟨C,hC,hp5,hW7,hB3,eCt⟩:=y5m L hz bz ns 20 (by decide)
 have hp1:=hC.p1
 have hlow:=y1j (p:=C.p) hz
 obtain⟨u,hu,eu⟩:=y87 L hz bz hC
 obtain⟨u',R0,hu',okR,foR,lenR,rz,ep⟩:=y64 L hz bz hC
 have e1:u'=u:=L.leV_anti hu'.V hu.V (hu'.le u hu.V hu.cl hu.up) (hu.le u' hu'.V hu'.cl hu'.up)
 subst e1
 obtain⟨H,hH⟩:=j7l L
 have hk:=z2u L hz bz hH
 obtain⟨l,hl,el⟩:=z37 L hC ns lenR
 have ew:=z3z L hz bz hC (l:=l) hl
 have eg:=y72 L hz bz hC (l:=l) hl
 obtain⟨w,hw,eww⟩:=y3y L hC ns 210 (by decide)
 obtain⟨a,ha,ea⟩:=y3s L hC (y1j (p:=C.p) L.lo)
 have p1:=y9q L hz bz hC hu.V okR (by omega)
 rw[y99.mpr hu.cl,foR,decide_eq_true rfl]at p1
 have tt:=z7m L hz bz
 have bound:R0.length<=C.p*H ((List.range n).foldl f z):=by
  have h1:=z88 L hC hH hlow rz okR
  have h2:hs H u'<=u'.length*H ((List.range n).foldl f z):=j31 fun x hx=>by
   have hx':=hu.V.lt x hx
   by_cases e:x=(List.range n).foldl f z
   ·rw[e];exact Nat.le_refl _
   ·have:=hH.up x _ hx' tt ((L.top_uniq hz _ tt).mpr rfl x hx') e
    omega
  have h3:R0.length+hs H (x71 C.p z)<=hs H u':=by rw[<- foR];exact h1
  rw[hu.V.len]at h2
  omega
 -- what the spoilt steps are worth
 obtain⟨X,Y,hX,hY,hXY,hfin,hdd⟩:∃ X Y:List Nat->Bool,(∀ v,Vn n C.p v->x1j [x0p n f,x06 n C,.tup (x0e v),.lst (l.map x08)]=some (.bl (X v),9))/\(∀ v,dEq (due f C z l) (.tup (x0e v))=some (.bl (Y v)))/\(∀ v,X v=(Y v&&j19 f C v))/\(∀ v,X v=true->v=u')/\dNe (due f C z l) (due f C z l)=some (.bl false):=by
  unfold due
  cases h:l.all (y56 C)with
  | true=>
   have ok:∀ s∈l,okN C s:=fun s hs=>x7d.mp (List.all_eq_true.mp h s hs)
   rw[if_pos rfl]
   refine⟨fun v=>j19 f C v&&decide (fo f C (x71 C.p z) l=v),fun v=>decide (fo f C (x71 C.p z) l=v),fun v hv=>y9q L hz bz hC hv ok hl,fun v=>j1n _ _,fun v=>Bool.and_comm _ _,fun v hv=>?_,by rw[y4y,decide_eq_true rfl];rfl⟩
   rw[Bool.and_eq_true,decide_eq_true_eq]at hv
   obtain⟨h1,h2⟩:=hv
   have V:=j8v L hC ok hlow
   rw[h2]at V
   have hS:∀ t∈l.map (x2h C),OkS n C.p f t:=fun t ht=>by
    obtain⟨s,hs,rfl⟩:=List.mem_map.mp ht
    exact x3b L hC _ (x3u (ok s hs))
   have cl:ClS f (l.map (x2h C)) u':=fun t ht=>by
    obtain⟨s,hs,rfl⟩:=List.mem_map.mp ht
    exact hu.cl _ (x3u (ok s hs))
   have le:=L.foldS_below hu.V hS hlow cl hu.up
   have le':leV f C.p v u':=by rw[<- h2];exact le
   exact L.leV_anti V hu.V le' (hu.le v V (y99.mp h1) (j1c bz V))
  | false=>
   rw[if_neg (by decide)]
   refine⟨fun _=>false,fun _=>false,fun v hv=>y8x (Sd.map l) (by rw[List.length_map];exact hl) (by rw[y7b];exact h),fun v=>?_,fun v=>rfl,(fun v hv=>nomatch hv),?_⟩
   ·unfold dEq
    rw[if_pos ⟨z9m.ok,(z7g v).ok⟩]
    rfl
   ·unfold dNe
    rw[if_pos ⟨z9m.ok,z9m.ok⟩]
    have:eqD (.str "no step") (.str "no step")=true:=by decide +kernel
    rw[this]
    rfl
 have pt:=z2s (n:=n) (f:=f) (C:=C) (v:=u') (ds:=R0.map x08)
 have pn:=y8x (n:=n) (f:=f) (C:=C) (v:=u') (ds:=R0.map x08++[.non]) (fun d hd=>by
  rcases List.mem_append.mp hd with h|h
  ·exact Sd.map R0 d h
  ·exact .inl (List.mem_singleton.mp h)) (by rw[List.length_append,List.length_map];show _+1<=_;omega) (by
  rw[List.all_append]
  have:[D.non].all (stB n C)=false:=by
   show(stB n C .non&&true)=false
   unfold stB
   rw[y25]
   rfl
  rw[this,Bool.and_false])
 unfold x34 y2i
 refine x1l ?_
 show x0y _ _ [some (scr ns,0),none,none,none,none,none,none,none,none,none,none,none,none]=_
 refine(x0g (ρ1:=[some (scr ns,0),some (x0p n f,9),none,none,none,none,none,none,none,none,none,none,none]) (x1s (x0s (ds:=[scr ns,.int 0]) rfl rfl hL) rfl)).trans ?_
 refine(x0g (ρ1:=[some (scr ns,0),some (x0p n f,9),some (x06 n C,9),none,none,none,none,none,none,none,none,none,none]) (x1s (x0s (ds:=[scr ns,.int 20,x0p n f,.bl false]) rfl rfl eCt) rfl)).trans ?_
 refine(x0g (ρ1:=[some (scr ns,0),some (x0p n f,9),some (x06 n C,9),(some (.tup (x0e u'),9)),none,none,none,none,none,none,none,none,none]) (x1s (x0s (ds:=[x0p n f,x06 n C]) rfl rfl eu) rfl)).trans ?_
 refine(x0g (ρ1:=OS ns n f C u' R0 none none none none none none none none) (x1s (x0s (ds:=[x0p n f,x06 n C]) rfl rfl ep) rfl)).trans ?_
 refine(x0g (ρ1:=OS ns n f C u' R0 none none none none none none none none) ((y43 ?_).trans rfl)).trans ?_
 ·refine(z56 (ρ1:=OS ns n f C u' R0 none none none none none none none none) (x5f (x8b (fb:=eC (.bl true)) (q':=9) (x0s (ds:=[x0p n f,x06 n C,.tup (x0e u'),.lst (R0.map x08)]) rfl rfl p1) rfl rfl))).trans ?_
  have m1:y0x (.int (Int.ofNat C.p)) (.int (Int.ofNat (H ((List.range n).foldl f z))))=some (.int (Int.ofNat (C.p*H ((List.range n).foldl f z)))):=j88 (by omega)
  refine(x5f (x8b (g:=dGt) (d:=.bl (decide (Int.ofNat (C.p*H ((List.range n).foldl f z))<Int.ofNat R0.length))) (y4k (i:=4) rfl (y19 R0)) (x8b (fa:=x1e 2 (eC (.int 0))) (q:=9) (y7r (q':=9) rfl rfl rfl rfl) (x0s (ds:=[x0p n f]) rfl rfl hk) m1) rfl)).trans ?_
  rw[decide_eq_false]
  show ¬ ((C.p*H ((List.range n).foldl f z):Nat):Int)<((R0.length:Nat):Int)
  omega
 refine(x0g (ρ1:=OS ns n f C u' R0 (some (.tup (x0e (x71 C.p z)),9)) none none none none none none none) (x1s (z1f L hz bz hC (i:=1) (c:=2) rfl rfl) rfl)).trans ?_
 obtain⟨j,e⟩:=y5z L hz bz hC ns (u:=u') (R0:=R0) R0 (x71 C.p z) (none,none) hlow rz okR
 rw[show fo f C (x71 C.p z) R0=u' from foR]at e
 refine(x0g ((x2o (ds:=R0.map x08) (z67 (i:=4) rfl (by rw[List.length_map];omega))).trans e)).trans ?_
 clear e
 refine(x0g (ρ1:=OS ns n f C u' R0 (some (.tup (x0e u'),9)) j.1 j.2 (some (.lst (l.map x08),0)) none none none none) (x1s (x0s (ds:=[scr ns,.int 200,x06 n C,.lst (R0.map x08)]) rfl rfl el) rfl)).trans ?_
 refine(x0g (ρ1:=MS ns n f C u' R0 l (due f C z l) j none none none) (x1s (x0s (ds:=[x0p n f,x06 n C,.lst (l.map x08)]) rfl rfl ew) rfl)).trans ?_
 have dl:(due f C z l).isL=false:=by unfold due;split<;>rfl
 refine(x0g (ρ1:=MS ns n f C u' R0 l (due f C z l) j none none none) ((y43 ?_).trans rfl)).trans ?_
 ·refine(z56 (ρ1:=MS ns n f C u' R0 l (due f C z l) j none none none) ?_).trans ?_
  ·refine(x5f (x8b (fa:=x05 5) (fb:=x05 3) (q:=9) (q':=9) rfl rfl (y4y _ _))).trans ?_
   rw[decide_eq_true rfl]
   rfl
  ·exact x5f (x8b (x0s (ds:=[x0p n f,x06 n C,.lst (l.map x08)]) rfl rfl eg) (y60 rfl dl) hdd)
 refine(x0g (ρ1:=MS ns n f C u' R0 l (due f C z l) j (some (.lst [.tup (x0e u'),.tup (x0e w)],1)) none none) (x1s (z8p (fa:=x05 3) (q:=9) rfl (x0s (ds:=[scr ns,.int 210,x0p n f,x06 n C]) rfl rfl eww)) rfl)).trans ?_
 refine(x0g (ρ1:=MS ns n f C u' R0 l (due f C z l) j (some (.lst ([u',w,a].map fun v=>D.tup (x0e v)),1)) none none) (y40 (ρ1:=MS ns n f C u' R0 l (due f C z l) j (some (.lst [.tup (x0e u'),.tup (x0e w)],1)) none none) (ds:=[.tup (x0e u'),.tup (x0e w)]) rfl (x1i (x0s (x1r (f:=x05 1) (q:=9) rfl (x1r (f:=x05 2) (q:=9) rfl (x1i (q:=9) (d:=.tup (x0e (x71 C.p 0))) ?_))) rfl ea)) rfl (by show 2<=1000;decide) rfl)).trans ?_
 ·show y1d _ _ (MS ns n f C u' R0 l (due f C z l) j (some (.lst [.tup (x0e u'),.tup (x0e w)],1)) none none)=_
  have b:x1e 2 (eC (.int 0)) (MS ns n f C u' R0 l (due f C z l) j (some (.lst [.tup (x0e u'),.tup (x0e w)],1)) none none)=some (.int (Int.ofNat C.p),9,MS ns n f C u' R0 l (due f C z l) j (some (.lst [.tup (x0e u'),.tup (x0e w)],1)) none none):=rfl
  have a':x8a (x02 (eC (.int 0)) x0i) (MS ns n f C u' R0 l (due f C z l) j (some (.lst [.tup (x0e u'),.tup (x0e w)],1)) none none)=some (.tup [.int (Int.ofNat 0)],9,MS ns n f C u' R0 l (due f C z l) j (some (.lst [.tup (x0e u'),.tup (x0e w)],1)) none none):=rfl
  unfold y1d
  rw[a']
  simp only[b]
  show(if _/\(1:Int)<=Int.ofNat C.p/\1*C.p<=1000 then some (D.tup (List.replicate C.p [D.int (Int.ofNat 0)]).flatten,9,_)else none)=_
  rw[if_pos ⟨rfl,by show(1:Int)<=(C.p:Int);omega,by omega⟩,z1e]
 obtain⟨k,e,_⟩:=x5p (J:=OD×OD) (pt:=x0o 11) (body:=y0f) (fun v:List Nat=>D.tup (x0e v)) (fun(_:Unit) k=>MS ns n f C u' R0 l (due f C z l) j (some (.lst ([u',w,a].map fun v=>D.tup (x0e v)),0)) k.1 k.2) (fun _ _=>()) (fun _=>True) [u',w,a] () (none,none) trivial (fun v hv _ k _=>by
  have V:Vn n C.p v:=by
   rcases List.mem_cons.mp hv with rfl|hv
   ·exact hu.V
   rcases List.mem_cons.mp hv with rfl|hv
   ·exact hw
   rw[List.mem_singleton.mp hv]
   exact ha.V
  refine⟨trivial,MS ns n f C u' R0 l (due f C z l) j (some (.lst ([u',w,a].map fun v=>D.tup (x0e v)),0)) (some (.tup (x0e v),9)) k.2,((some (.tup (x0e v),9)),(some (.bl (X v),9))),rfl,?_⟩
  unfold y0f
  refine(x0g (ρ1:=MS ns n f C u' R0 l (due f C z l) j (some (.lst ([u',w,a].map fun v=>D.tup (x0e v)),0)) (some (.tup (x0e v),9)) (some (.bl (X v),9))) (x1s (x0s (ds:=[x0p n f,x06 n C,.tup (x0e v),.lst (l.map x08)]) rfl rfl (hX v V)) rfl)).trans ?_
  refine(y43 ?_).trans rfl
  refine(z56 (ρ1:=MS ns n f C u' R0 l (due f C z l) j (some (.lst ([u',w,a].map fun v=>D.tup (x0e v)),0)) (some (.tup (x0e v),9)) (some (.bl (X v),9))) ?_).trans ?_
  ·have ed:e2 dEq (x05 9) (x05 11) (MS ns n f C u' R0 l (due f C z l) j (some (.lst ([u',w,a].map fun v=>D.tup (x0e v)),0)) (some (.tup (x0e v),9)) (some (.bl (X v),9)))=some (.bl (Y v),9,MS ns n f C u' R0 l (due f C z l) j (some (.lst ([u',w,a].map fun v=>D.tup (x0e v)),0)) (some (.tup (x0e v),9)) (some (.bl (X v),9))):=x8b (fb:=x05 11) (q':=9) (y60 rfl dl) rfl (hY v)
   refine(x5f (x8b (fa:=x05 12) (q:=9) rfl (j43 ed (x0s (ds:=[x0p n f,x06 n C,.tup (x0e v)]) rfl rfl (y0h L hC V))) (j3z _ _))).trans ?_
   rw[hXY v,decide_eq_true rfl]
   rfl
  ·have t1:=y85 (f:=x05 12) (ρ:=MS ns n f C u' R0 l (due f C z l) j (some (.lst ([u',w,a].map fun v=>D.tup (x0e v)),0)) (some (.tup (x0e v),9)) (some (.bl (X v),9))) (ρ1:=MS ns n f C u' R0 l (due f C z l) j (some (.lst ([u',w,a].map fun v=>D.tup (x0e v)),0)) (some (.tup (x0e v),9)) (some (.bl (X v),9))) (b:=X v) (q:=9) rfl
   unfold z0b
   rw[t1]
   cases hx:X v with
   | false=>rfl
   | true=>
    have:=hfin v hx
    subst this
    show x3d _ _=_
    refine(x5f (x8b (fa:=x05 11) (fb:=x05 3) (q:=9) (q':=9) rfl rfl (y4y _ _))).trans ?_
    rw[decide_eq_true rfl]
    rfl)
 refine(x0g ((x2o (ds:=[u',w,a].map fun v=>D.tup (x0e v)) (j6a (i:=10) (q:=1) rfl (by show 3<=1000;decide))).trans e)).trans ?_
 refine(x0g (ρ1:=MS ns n f C u' R0 l (due f C z l) j (some (.lst ([u',w,a].map fun v=>D.tup (x0e v)),0)) k.1 k.2) ((y43 ?_).trans rfl)).trans ?_
 ·exact x5f (x8b (fb:=eC (.bl false)) (q':=9) (x0s (ds:=[x0p n f,x06 n C,.tup (x0e u'),.tup (R0.map x08)]) rfl rfl pt) rfl rfl)
 ·exact x2y (x8b (fb:=eC (.bl false)) (q':=9) (x0s (ds:=[x0p n f,x06 n C,.tup (x0e u'),.lst (R0.map x08++[.non])]) (x1r (f:=x05 1) (q:=9) rfl (x1r (f:=x05 2) (q:=9) rfl (x1r (f:=x05 3) (q:=9) rfl (x1i (j5w (fb:=x5c (x02 (eC .non) x0i)) (q':=1) (y4q rfl) rfl (by rw[List.length_map];show _+1<=_;omega)))))) rfl pn) rfl rfl)
theorem law_true(ns:List Int)(h63:ns.length<=63):∃ q,z0s [.lst (ns.map D.int)]=some (.bl true,q):=by
 obtain⟨x,e⟩:=z7a h63 (m:=7) (by decide) z8v
 refine⟨9,?_⟩
 unfold z0s j4g
 exact x1l ((x0g e).trans rfl)
def A0 (K:PySem.W.Frag)(mg:Str->Option Value)(x:Str)(st:Stmt):Prop:=∃ f fd,Fun K x x st f fd/\mg x=some (.ref f)
theorem A0.mk{K:PySem.W.Frag}{mg:Str->Option Value}{x:Str}{f:Addr}{od an:Option Addr}{sl:Array (Option Value)}{oc kV dc pm cd ct:Value}(X:K.In h)(G:h.Ns mainGlobals mg)(a:PySem.W.nsIn K mainGlobals x=some (some (.ref f)))(l:K.lookup f=some ⟨oc,od,.func (PySem.W.fnOf x x (x6z st) (x35 st) (x0b st) .none kV dc pm an cd ct),sl⟩)(c:PySem.W.codeIn K cd x=true)(k:PySem.W.keepIn K (.ref f)=true):A0 K mg x st:=⟨_,_,z7p l c k,PySem.W.mg_of X G a⟩
theorem A0.at{K:PySem.W.Frag}{mg:Str->Option Value}{x:Str}{ps:List Str}(a:A0 K mg x st)(h:∀ (kV doc pm:Value) (an:Option Addr) (cdv ct:Value) (us:List Value),us.length=ps.length->bindArgs (PySem.W.fnOf x x (x6z st) (x35 st) (x0b st) .none kV doc pm an cdv ct) ⟨us,[]⟩=pure (ps.zip us)):At K mg x st ps:=by
 obtain⟨f,fd,F,m⟩:=a
 exact⟨f,fd,F,m,F.binds h⟩
theorem all_mk{l:PySem.W.OpenLaw}{w:World}{K:PySem.W.Frag}{mg:Str->Option Value}{fa:Addr}{f50:Addr}{od50 an50:Option Addr}{sl50:Array (Option Value)}{oc50 kV50 dc50 pm50 cd50 ct50:Value}{xr xe0 y0 y1 y2 y3 y4:Addr}(X:K.In h)(G:h.Ns mainGlobals mg)(hfa:mg "law" = some (.ref fa))
  (A1:A0 K mg "is_below" (top 17))
  (A2:A0 K mg "below" (top 18))
  (A3:A0 K mg "_law_cell" (top 38))
  (A4:A0 K mg "_law_pick" (top 39))
  (A5:A0 K mg "_law_chain" (top 40))
  (A6:A0 K mg "_law_couples" (top 41))
  (A7:A0 K mg "_law_side_by_side" (top 42))
  (A8:A0 K mg "_law_base" (top 43))
  (A9:A0 K mg "_law_ladder" (top 44))
  (A10:A0 K mg "_law_low" (top 45))
  (A11:A0 K mg "_law_join" (top 46))
  (A12:A0 K mg "_law_under" (top 47))
  (A13:A0 K mg "_law_rule" (top 48))
  (A14:A0 K mg "_law_spreads" (top 49))
  (A15:A0 K mg "_law_spread_rule" (top 50))
  (A16:A0 K mg "_law_chart" (top 51))
  (A17:A0 K mg "is_whole" (top 9))
  (A18:A0 K mg "is_number_of" (top 10))
  (A19:A0 K mg "is_named_number" (top 12))
  (A20:A0 K mg "is_step" (top 28))
  (A21:A0 K mg "refuse_no_step" (top 29))
  (A22:A0 K mg "place_and_worth" (top 30))
  (A23:A0 K mg "worths_behind" (top 31))
  (A24:A0 K mg "risen" (top 33))
  (A25:A0 K mg "row_of_least" (top 14))
  (A26:A0 K mg "least_of" (top 15))
  (A27:A0 K mg "lowest" (top 25))
  (A28:A0 K mg "least_by" (top 34))
  (A29:A0 K mg "all_steps" (top 27))
  (A30:A0 K mg "least" (top 26))
  (A31:A0 K mg "paper_for" (top 36))
  (A32:A0 K mg "_law_every_step" (top 58))
  (A33:A0 K mg "_law_spoilt_steps" (top 62))
  (A34:A0 K mg "_law_step" (top 59))
  (A35:A0 K mg "_law_walked" (top 61))
  (A36:A0 K mg "_law_worths" (top 55))
  (A37:A0 K mg "_law_raised" (top 52))
  (A38:A0 K mg "_law_lowest" (top 53))
  (A39:A0 K mg "is_row_of" (top 11))
  (A40:A0 K mg "is_answer" (top 23))
  (A41:A0 K mg "gone" (top 32))
  (A42:A0 K mg "is_paper" (top 35))
  (A43:A0 K mg "_law_word" (top 57))
  (A44:A0 K mg "_law_gone" (top 60))
  (A45:A0 K mg "joined_all" (top 20))
  (A46:A0 K mg "greatest_of" (top 16))
  (A47:A0 K mg "truly_below" (top 19))
  (A48:A0 K mg "height_of" (top 21))
  (A49:A0 K mg "_law_once" (top 63))
  (a50:PySem.W.nsIn K mainGlobals "law" = some (some (.ref f50))) (l50:K.lookup f50=some ⟨oc50,od50,.func (PySem.W.fnOf "law" "law" (x6z (top 64)) (x35 (top 64)) (x0b (top 64)) .none kV50 dc50 pm50 an50 cd50 ct50),sl50⟩) (c50:PySem.W.codeIn K cd50 "law" = true) (k50:PySem.W.keepIn K (.ref f50)=true)
  (z1:PySem.W.nsIn K mainGlobals "ValueError" = some none) (z2:PySem.W.nsIn K mainGlobals "all" = some none) (z3:PySem.W.nsIn K mainGlobals "bool" = some none) (z4:PySem.W.nsIn K mainGlobals "int" = some none) (z5:PySem.W.nsIn K mainGlobals "isinstance" = some none) (z6:PySem.W.nsIn K mainGlobals "len" = some none) (z7:PySem.W.nsIn K mainGlobals "list" = some none) (z8:PySem.W.nsIn K mainGlobals "max" = some none) (z9:PySem.W.nsIn K mainGlobals "range" = some none) (z10:PySem.W.nsIn K mainGlobals "sorted" = some none) (z11:PySem.W.nsIn K mainGlobals "str" = some none) (z12:PySem.W.nsIn K mainGlobals "tuple" = some none) (t_height_of:∃ c Pt,PySem.W.tabIn K "height_of" = some (c,Pt)) (xrN:PySem.W.nsIn K mainGlobals "RiseError" = some (some (.ref xr))) (xcg:PySem.W.specialIn K (.builtin "object.__class__") "__get__" = some (some (.builtin "getset_descriptor.__get__"))) (xct:PySem.W.takesIn K (.builtin "object.__class__")=some true) (xrg:PySem.W.findIn K (.ref xr) "__getattribute__" = some (some (.builtin "BaseException.__getattribute__"))) (xrt:PySem.W.findIn K (.ref xr) "__getattr__" = some none) (xrc:PySem.W.findIn K (.ref xr) "__class__" = some (some (.builtin "object.__class__"))) (xro:PySem.W.mroIn K xr (.type "object")=some true) (xrb:PySem.W.mroIn K xr (.type "BaseException")=some true) (xrT:PySem.W.typeIn K (.ref xr)=some (.type "type")) (xe0N:PySem.W.nsIn K mainGlobals "NoStep" = some (some (.ref xe0))) (xe0g:PySem.W.findIn K (.ref xe0) "__getattribute__" = some (some (.builtin "BaseException.__getattribute__"))) (xe0t:PySem.W.findIn K (.ref xe0) "__getattr__" = some none) (xe0c:PySem.W.findIn K (.ref xe0) "__class__" = some (some (.builtin "object.__class__"))) (xe0o:PySem.W.mroIn K xe0 (.type "object")=some true) (xe0b:PySem.W.mroIn K xe0 (.type "BaseException")=some true) (xe0V:PySem.W.mroIn K xe0 (.type "ValueError")=some true) (xe0n0:PySem.W.mroIn K xe0 (.type "int")=some false) (xe0n1:PySem.W.mroIn K xe0 (.type "bool")=some false) (xe0n2:PySem.W.mroIn K xe0 (.type "tuple")=some false) (xe0n3:PySem.W.mroIn K xe0 (.type "list")=some false) (xe0n4:PySem.W.mroIn K xe0 (.type "str")=some false) (xe0R:PySem.W.mroIn K xe0 (.ref xr)=some true) (xe0X:PySem.W.excIn K xe0 L3.bmV "ValueError.__new__" = true) (y0N:PySem.W.nsIn K mainGlobals "NoHouse" = some (some (.ref y0))) (y0O:PySem.W.mroIn K y0 (.type "object")=some true) (y0T:PySem.W.typeIn K (.ref y0)=some (.type "type")) (y0Sxe0:PySem.W.mroIn K xe0 (.ref y0)=some false) (y0Dxe0:xe0≠y0) (y1N:PySem.W.nsIn K mainGlobals "NoMap" = some (some (.ref y1))) (y1O:PySem.W.mroIn K y1 (.type "object")=some true) (y1T:PySem.W.typeIn K (.ref y1)=some (.type "type")) (y1Sxe0:PySem.W.mroIn K xe0 (.ref y1)=some false) (y1Dxe0:xe0≠y1) (y2N:PySem.W.nsIn K mainGlobals "NoPlace" = some (some (.ref y2))) (y2O:PySem.W.mroIn K y2 (.type "object")=some true) (y2T:PySem.W.typeIn K (.ref y2)=some (.type "type")) (y2Sxe0:PySem.W.mroIn K xe0 (.ref y2)=some false) (y2Dxe0:xe0≠y2) (y3N:PySem.W.nsIn K mainGlobals "NoRule" = some (some (.ref y3))) (y3O:PySem.W.mroIn K y3 (.type "object")=some true) (y3T:PySem.W.typeIn K (.ref y3)=some (.type "type")) (y3Sxe0:PySem.W.mroIn K xe0 (.ref y3)=some false) (y3Dxe0:xe0≠y3) (y4N:PySem.W.nsIn K mainGlobals "TooGreat" = some (some (.ref y4))) (y4O:PySem.W.mroIn K y4 (.type "object")=some true) (y4T:PySem.W.typeIn K (.ref y4)=some (.type "type")) (y4Sxe0:PySem.W.mroIn K xe0 (.ref y4)=some false) (y4Dxe0:xe0≠y4) :
  ∃ fd:FuncData,(∀ (s:Shared) (v:Value),BindsTo s fd ⟨[v],[]⟩ [("_law_script",v)])/\∀ base:Heap,K.In base->base.Ns mainGlobals mg->Lm K mg base->FnOk l.prog w K mg base CX0 9 fa fd ["_law_script"] (spD K 1 z0s):=by
 have e:=hfa.symm.trans (PySem.W.mg_of X G a50)
 cases e
 have B:Bt mg:=⟨PySem.W.mg_none_of X G z1,PySem.W.mg_none_of X G z2,PySem.W.mg_none_of X G z3,PySem.W.mg_none_of X G z4,PySem.W.mg_none_of X G z5,PySem.W.mg_none_of X G z6,PySem.W.mg_none_of X G z7,PySem.W.mg_none_of X G z8,PySem.W.mg_none_of X G z9,PySem.W.mg_none_of X G z10,PySem.W.mg_none_of X G z11,PySem.W.mg_none_of X G z12⟩
 have xk_xe0:XKls K "NoStep" xe0:=XKls.of xe0N ⟨L3.j67 xe0o,xe0g,xe0t,xe0c,xcg,xct,xe0o,xe0b⟩ xe0X xe0V xe0n0 xe0n1 xe0n2 xe0n3 xe0n4
 have T:Xt K mg:=⟨(y2s.cons (y2s.nil ⟨L3.j67 xro,xrg,xrt,xrc,xcg,xct,xro,xrb⟩ xrT (PySem.W.mg_of X G xrN)) (PySem.W.mg_of X G xrN) xk_xe0 xe0R),⟨xe0,⟨xk_xe0,PySem.W.mg_of X G xe0N⟩⟩,(IsC.other (IsC.nil (PySem.W.mg_of X G y0N)) xe0N (PySem.W.mg_of X G y0N) (by decide) y0Dxe0 y0T y0O y0Sxe0),(IsC.other (IsC.nil (PySem.W.mg_of X G y1N)) xe0N (PySem.W.mg_of X G y1N) (by decide) y1Dxe0 y1T y1O y1Sxe0),(IsC.other (IsC.nil (PySem.W.mg_of X G y2N)) xe0N (PySem.W.mg_of X G y2N) (by decide) y2Dxe0 y2T y2O y2Sxe0),(IsC.other (IsC.nil (PySem.W.mg_of X G y3N)) xe0N (PySem.W.mg_of X G y3N) (by decide) y3Dxe0 y3T y3O y3Sxe0),(IsC.self (IsC.nil (PySem.W.mg_of X G xe0N)) xe0N (PySem.W.mg_of X G xe0N)),(IsC.other (IsC.nil (PySem.W.mg_of X G y4N)) xe0N (PySem.W.mg_of X G y4N) (by decide) y4Dxe0 y4T y4O y4Sxe0)⟩
 refine⟨PySem.W.fnOf "law" "law" (x6z (top 64)) (x35 (top 64)) (x0b (top 64)) .none kV50 dc50 pm50 an50 cd50 ct50,fun s v=>.of_eq rfl,fun base KX NG L=>?_⟩
 have E_is_below:∀ base:Heap,Cal l.prog w K mg base 1 "is_below" 3 x2d:=fun base=>y3c B (A1.at fun _ _ _ _ _ _ _ h=>by obtain⟨_,_,_,rfl⟩:=L3.j84 h;rfl)
 have E_below:∀ base:Heap,Cal l.prog w K mg base 2 "below" 2 x4h:=fun base=>z2k B (E_is_below base) (A2.at fun _ _ _ _ _ _ _ h=>by obtain⟨_,_,rfl⟩:=L3.j8m h;rfl)
 have D_is_below:=y3c (P:=l.prog) (w:=w) (base:=base) B (A1.at fun _ _ _ _ _ _ _ h=>by obtain⟨_,_,_,rfl⟩:=L3.j84 h;rfl)
 have D_below:=z2k B D_is_below (A2.at fun _ _ _ _ _ _ _ h=>by obtain⟨_,_,rfl⟩:=L3.j8m h;rfl)
 have D__law_cell:=y8b (P:=l.prog) (w:=w) (base:=base) B (A3.at fun _ _ _ _ _ _ _ h=>by obtain⟨_,_,rfl⟩:=L3.j8m h;rfl)
 have D__law_pick:=y8a B D__law_cell (A4.at fun _ _ _ _ _ _ _ h=>by obtain⟨_,_,_,rfl⟩:=L3.j84 h;rfl)
 have D__law_chain:=y62 (P:=l.prog) (w:=w) (base:=base) B (A5.at fun _ _ _ _ _ _ _ h=>by obtain⟨_,rfl⟩:=L3.j8e h;rfl)
 have D__law_couples:=y2x (P:=l.prog) (w:=w) (base:=base) B (A6.at fun _ _ _ _ _ _ _ h=>by obtain⟨_,_,rfl⟩:=L3.j8m h;rfl)
 have D__law_side_by_side:=x82 (P:=l.prog) (w:=w) (base:=base) B (A7.at fun _ _ _ _ _ _ _ h=>by obtain⟨_,rfl⟩:=L3.j8e h;rfl)
 have D__law_base:=y86 B D__law_pick D__law_chain D__law_couples D__law_side_by_side (A8.at fun _ _ _ _ _ _ _ h=>by obtain⟨_,_,rfl⟩:=L3.j8m h;rfl)
 have D__law_ladder:=y53 B D__law_base D__law_pick (A9.at fun _ _ _ _ _ _ _ h=>by obtain⟨_,_,rfl⟩:=L3.j8m h;rfl)
 have D__law_low:=z0i (P:=l.prog) (w:=w) (base:=base) B (A10.at fun _ _ _ _ _ _ _ h=>by obtain⟨_,rfl⟩:=L3.j8e h;rfl)
 have D__law_join:=y7o B D__law_low (A11.at fun _ _ _ _ _ _ _ h=>by obtain⟨_,_,rfl⟩:=L3.j8m h;rfl)
 have D__law_under:=y67 (P:=l.prog) (w:=w) (base:=base) B (A12.at fun _ _ _ _ _ _ _ h=>by obtain⟨_,_,rfl⟩:=L3.j8m h;rfl)
 have D__law_rule:=y7a B D__law_low D__law_pick D__law_join D__law_under (A13.at fun _ _ _ _ _ _ _ h=>by obtain⟨_,_,_,rfl⟩:=L3.j84 h;rfl)
 have D__law_spreads:=y2t (P:=l.prog) (w:=w) (base:=base) B (A14.at fun _ _ _ _ _ _ _ h=>by obtain⟨_,_,rfl⟩:=L3.j8m h;rfl)
 have D__law_spread_rule:=x8m B D__law_rule D__law_spreads D__law_pick (A15.at fun _ _ _ _ _ _ _ h=>by obtain⟨_,_,_,rfl⟩:=L3.j84 h;rfl)
 have D__law_chart:=y5q B D__law_pick D__law_rule D__law_spread_rule (A16.at fun _ _ _ _ _ _ _ h=>by obtain⟨_,_,_,_,rfl⟩:=L3.j92 h;rfl)
 have D_is_whole:=z0u (P:=l.prog) (w:=w) (base:=base) B (A17.at fun _ _ _ _ _ _ _ h=>by obtain⟨_,rfl⟩:=L3.j8e h;rfl)
 have D_is_number_of:=y2j B D_is_whole (A18.at fun _ _ _ _ _ _ _ h=>by obtain⟨_,_,rfl⟩:=L3.j8m h;rfl)
 have D_is_named_number:=x9o B D_is_number_of (A19.at fun _ _ _ _ _ _ _ h=>by obtain⟨_,_,rfl⟩:=L3.j8m h;rfl)
 have D_is_step:=z1w B D_is_named_number (A20.at fun _ _ _ _ _ _ _ h=>by obtain⟨_,_,rfl⟩:=L3.j8m h;rfl)
 have D_refuse_no_step:=y0u B D_is_step (A21.at fun _ _ _ _ _ _ _ h=>by obtain⟨_,_,rfl⟩:=L3.j8m h;rfl)
 have DX_refuse_no_step:=x9w B T D_is_step (A21.at fun _ _ _ _ _ _ _ h=>by obtain⟨_,_,rfl⟩:=L3.j8m h;rfl)
 have D_place_and_worth:=x9t (P:=l.prog) (w:=w) (base:=base) B (A22.at fun _ _ _ _ _ _ _ h=>by obtain⟨_,_,_,rfl⟩:=L3.j84 h;rfl)
 have D_worths_behind:=y1r B D_place_and_worth (A23.at fun _ _ _ _ _ _ _ h=>by obtain⟨_,_,_,_,rfl⟩:=L3.j92 h;rfl)
 have D_risen:=z8o B D_worths_behind (A24.at fun _ _ _ _ _ _ _ h=>by obtain⟨_,_,_,_,rfl⟩:=L3.j92 h;rfl)
 have D_row_of_least:=y2u (P:=l.prog) (w:=w) (base:=base) B (A25.at fun _ _ _ _ _ _ _ h=>by obtain⟨_,rfl⟩:=L3.j8e h;rfl)
 have D_least_of:=z0g B D_row_of_least (A26.at fun _ _ _ _ _ _ _ h=>by obtain⟨_,rfl⟩:=L3.j8e h;rfl)
 have D_lowest:=z59 B D_least_of (A27.at fun _ _ _ _ _ _ _ h=>by obtain⟨_,_,rfl⟩:=L3.j8m h;rfl)
 have D_least_by:=y9z B D_refuse_no_step D_risen D_lowest (A28.at fun _ _ _ _ _ _ _ h=>by obtain⟨_,_,_,rfl⟩:=L3.j84 h;rfl)
 have D_all_steps:=y6v (P:=l.prog) (w:=w) (base:=base) B (A29.at fun _ _ _ _ _ _ _ h=>by obtain⟨_,rfl⟩:=L3.j8e h;rfl)
 have D_least:=z9p B D_least_by D_all_steps (A30.at fun _ _ _ _ _ _ _ h=>by obtain⟨_,_,rfl⟩:=L3.j8m h;rfl)
 have D_paper_for:=y75 B D_risen D_all_steps D_lowest (A31.at fun _ _ _ _ _ _ _ h=>by obtain⟨_,_,rfl⟩:=L3.j8m h;rfl)
 have D__law_every_step:=y03 (P:=l.prog) (w:=w) (base:=base) B (A32.at fun _ _ _ _ _ _ _ h=>by obtain⟨_,rfl⟩:=L3.j8e h;rfl)
 have D__law_spoilt_steps:=x8e B D__law_every_step D__law_pick (A33.at fun _ _ _ _ _ _ _ h=>by obtain⟨_,_,_,_,rfl⟩:=L3.j92 h;rfl)
 have D__law_step:=y6w (P:=l.prog) (w:=w) (base:=base) B (A34.at fun _ _ _ _ _ _ _ h=>by obtain⟨_,_,_,_,rfl⟩:=L3.j92 h;rfl)
 have D__law_walked:=y4m B D__law_low D__law_every_step D__law_step (A35.at fun _ _ _ _ _ _ _ h=>by obtain⟨_,_,_,rfl⟩:=L3.j84 h;rfl)
 have D__law_worths:=y4x B D__law_pick (A36.at fun _ _ _ _ _ _ _ h=>by obtain⟨_,_,_,_,rfl⟩:=L3.j92 h;rfl)
 have D__law_raised:=y51 (P:=l.prog) (w:=w) (base:=base) B (A37.at fun _ _ _ _ _ _ _ h=>by obtain⟨_,_,_,rfl⟩:=L3.j84 h;rfl)
 have D__law_lowest:=y4e B D__law_raised (A38.at fun _ _ _ _ _ _ _ h=>by obtain⟨_,_,_,rfl⟩:=L3.j84 h;rfl)
 have D_is_row_of:=y8g B D_is_number_of (A39.at fun _ _ _ _ _ _ _ h=>by obtain⟨_,_,_,rfl⟩:=L3.j84 h;rfl)
 have D_is_answer:=y7g B D_is_row_of D_is_below (A40.at fun _ _ _ _ _ _ _ h=>by obtain⟨_,_,_,rfl⟩:=L3.j84 h;rfl)
 have D_gone:=j2q B D_refuse_no_step D_lowest D_worths_behind (A41.at fun _ _ _ _ _ _ _ h=>by obtain⟨_,_,_,rfl⟩:=L3.j84 h;rfl)
 have DX_gone:=z9k B T DX_refuse_no_step (A41.at fun _ _ _ _ _ _ _ h=>by obtain⟨_,_,_,rfl⟩:=L3.j84 h;rfl)
 have D_is_paper:=z0w B D_is_step D_is_answer D_gone (A42.at fun _ _ _ _ _ _ _ h=>by obtain⟨_,_,_,_,rfl⟩:=L3.j92 h;rfl)
 have D__law_word:=y8d (P:=l.prog) (w:=w) (base:=base) B T (A43.at fun _ _ _ _ _ _ _ h=>by obtain⟨_,rfl⟩:=L3.j8e h;rfl)
 have D__law_gone:=y7d B T D_gone D__law_word DX_gone (A44.at fun _ _ _ _ _ _ _ h=>by obtain⟨_,_,_,rfl⟩:=L3.j84 h;rfl)
 have D_joined_all:=y5j B D_least_of (A45.at fun _ _ _ _ _ _ _ h=>by obtain⟨_,_,rfl⟩:=L3.j8m h;rfl)
 have D_greatest_of:=y42 B D_joined_all (A46.at fun _ _ _ _ _ _ _ h=>by obtain⟨_,rfl⟩:=L3.j8e h;rfl)
 have D_truly_below:=y52 B D_below (A47.at fun _ _ _ _ _ _ _ h=>by obtain⟨_,_,rfl⟩:=L3.j8m h;rfl)
 have D_height_of:=y7n B L KX NG t_height_of E_below D_truly_below D_greatest_of (A48.at fun _ _ _ _ _ _ _ h=>by obtain⟨_,rfl⟩:=L3.j8e h;rfl)
 have D__law_once:=y76 B D__law_ladder D__law_chart D_least D_paper_for D_is_paper D_height_of D__law_low D__law_step D__law_spoilt_steps D__law_walked D__law_gone D__law_worths D__law_lowest D_is_answer (A49.at fun _ _ _ _ _ _ _ h=>by obtain⟨_,rfl⟩:=L3.j8e h;rfl)
 exact j1q B D__law_once (z7p (st:=top 64) l50 c50 k50)
theorem walk{l:PySem.W.OpenLaw}{q:Program}{loose:List Str}{XP:(Str->Option Value)->Heap->Prop}{YP:World->Heap->Prop}{d:DefRec}{K:Params->PySem.W.Frag}(hn:l.most=some 63)(hdf:d.params.defaults=[])
  (hY:∀ (w:World) (h:Heap),YP w h->(K w.params).In h)
  (F:∀ (w:World) (mg:Str->Option Value) (fa:Addr) (h:Heap),(K w.params).In h->h.Ns mainGlobals mg->mg d.name=some (.ref fa)->j60 q (K w.params)/\PySem.W.noTabs (K w.params)=true /\
    ∃ fd:FuncData,(∀ (s:Shared) (u:Value),BindsTo s fd ⟨[u],[]⟩ [("_law_script",u)])/\∀ base:Heap,(K w.params).In base->base.Ns mainGlobals mg->Lm (K w.params) mg base->FnOk l.prog w (K w.params) mg base CX0 9 fa fd ["_law_script"] (spD (K w.params) 1 z0s)) :
  PySem.W.WalkO q loose XP YP l.row.toRowW d [] (fun f vs=>PySem.call f vs):=
 z5q (n:=63) (k:=9) (x:="_law_script") (CX:=fun _=>CX0) (sp:=fun w=>spD (K w.params) 1 z0s) hn (by decide) hdf ⟨rfl,by decide,by decide⟩ hY F (fun _ _ a ns hl tb hS=>j4d law_true hl hS tb) fun _ _ _ _ _ z=>z
end My
namespace PySem.W.Fast
def tw10027638631789472320:=0
def tw10129907185107370030:=0
def tw10145272196562519825:=0
def tw10188210552734440399:=0
def tw10273002846949588904:=0
def tw10290060072308342969:=0
def tw1039145188454489239:=0
def tw10400571971912712301:=0
def tw10466032846764359901:=0
def tw10565354438133485406:=0
def tw10585257810721205362:=0
def tw10589796535372121957:=0
def tw10606063961586674592:=0
def tw10629053832085030686:=0
def tw10630439096298363790:=0
def tw10634883003883851040:=0
def tw10669572733869594281:=0
def tw10706537673941321364:=0
def tw1071658002172251805:=0
def tw10741389846101678657:=0
def tw10745504683867230700:=0
def tw10746221711266817529:=0
def tw10747922098627840049:=0
def tw10814452789038649185:=0
def tw10826566051643932541:=0
def tw10831481905237325989:=0
def tw1088335804250050:=0
def tw1091427859438888892:=0
def tw10934955753474462648:=0
def tw1095319981414952960:=0
def tw10956982795079597523:=0
def tw11031565992191041753:=0
def tw1106544354372492431:=0
def tw11163401245363969453:=0
def tw11179749361630847468:=0
def tw11184070349750884109:=0
def tw11184464539806944436:=0
def tw11215388222566310139:=0
def tw11232947197700703157:=0
def tw11265247744234615316:=0
def tw11355274949118567855:=0
def tw11402765106355082549:=0
def tw11436303703448988243:=0
def tw11456382072077115161:=0
def tw11650577831336050731:=0
def tw11656234414867870434:=0
def tw11783310291279052718:=0
def tw11785869381755081957:=0
def tw11847964449221431236:=0
def tw11906064655584258787:=0
def tw11925677367348256059:=0
def tw11972171009133903721:=0
def tw11991323963114623678:=0
def tw12003614889225800453:=0
def tw12011470230812195854:=0
def tw1208606887299386067:=0
def tw12086107942998971638:=0
def tw12106343438904382140:=0
def tw12119090588653314024:=0
def tw12237264054862548175:=0
def tw12276871396223185056:=0
def tw122885407451470420:=0
def tw12319915576485913224:=0
def tw12320260281127219645:=0
def tw12372656120448279166:=0
def tw12527981154615837464:=0
def tw12528309782790568625:=0
def tw12535446914150414970:=0
def tw12578248654368656735:=0
def tw12685758143290991073:=0
def tw12708352548670766854:=0
def tw12715143065795933130:=0
def tw12723009632284653061:=0
def tw12844149073813146725:=0
def tw12977309361090755243:=0
def tw13028078449681488552:=0
def tw13134189781775681329:=0
def tw13158624067416689749:=0
def tw13216832882849429367:=0
def tw13217079366311487419:=0
def tw13217610335765863186:=0
def tw13355688319808206072:=0
def tw13469475361970540147:=0
def tw1350700030290476076:=0
def tw13531896785708759398:=0
def tw13610166990338208461:=0
def tw13753649689602524054:=0
def tw13757870290594349076:=0
def tw13772572727903370272:=0
def tw13862867612695113284:=0
def tw13901054427190789203:=0
def tw14002268179603576435:=0
def tw14021863524330045154:=0
def tw14064417818037323536:=0
def tw14092130809718456367:=0
def tw14156277449227790929:=0
def tw14180905646044480307:=0
def tw1421428914839285102:=0
def tw14215050818391897184:=0
def tw14265438279538700188:=0
def tw14314879161787055633:=0
def tw14361420375901133497:=0
def tw14371210978950955865:=0
def tw14421406327191266511:=0
def tw14421775822544600488:=0
def tw14451536826808405491:=0
def tw14480245508838075175:=0
def tw14497518902495497472:=0
def tw14504435527746949079:=0
def tw14512687660945246304:=0
def tw14515749562065455601:=0
def tw14532153576116491534:=0
def tw14537803043754432384:=0
def tw14550660958884635094:=0
def tw14552244605884114256:=0
def tw14599458600978816353:=0
def tw14629679051860481084:=0
def tw14630169112209075764:=0
def tw14661782869320881430:=0
def tw146755814535712800:=0
def tw14706295030410076479:=0
def tw14829995479995496066:=0
def tw14858624624194860633:=0
def tw14958906374448614538:=0
def tw149723812769098979:=0
def tw14973233451432483500:=0
def tw15019717646537084508:=0
def tw15034703358046282030:=0
def tw15080342231194950893:=0
def tw15204610367612173256:=0
def tw15209038845717938602:=0
def tw15209557983660414209:=0
def tw15264832641887718386:=0
def tw15268605652404631385:=0
def tw15274953624137910847:=0
def tw1532490677858230870:=0
def tw15326274120454478663:=0
def tw15329383188379816901:=0
def tw15392939746933872623:=0
def tw15418040196879861159:=0
def tw15441255110048359570:=0
def tw15511507528009491540:=0
def tw15529142058627251615:=0
def tw15658913781940696912:=0
def tw15670162981755779454:=0
def tw15714748066957087698:=0
def tw1573459880331400296:=0
def tw1583801666050081604:=0
def tw15856682024095593857:=0
def tw15878039689788591000:=0
def tw15954997098675647285:=0
def tw15970032047980111590:=0
def tw16046354112094389315:=0
def tw1612174589404952480:=0
def tw16204142637089362589:=0
def tw16271837473716185150:=0
def tw16311798389445785561:=0
def tw16490049017378238230:=0
def tw16499382033363485264:=0
def tw16519697144478020101:=0
def tw16520412579090760016:=0
def tw16627885643684442485:=0
def tw16791829381796989356:=0
def tw16801750994910413579:=0
def tw16814941357405545885:=0
def tw16821232231257884468:=0
def tw16972689955410860148:=0
def tw17271947116184274232:=0
def tw17338484030232535627:=0
def tw17360832580799625380:=0
def tw17366514140027350914:=0
def tw17367175784543751863:=0
def tw17377845611211985978:=0
def tw17417627727688895669:=0
def tw17423799206589027342:=0
def tw17446337350714383223:=0
def tw1746956909330558474:=0
def tw17548584273204530869:=0
def tw17584815148964096000:=0
def tw17635657536672709664:=0
def tw17733541086893520508:=0
def tw17755916038186025385:=0
def tw17803924746236145582:=0
def tw17822902196089420019:=0
def tw17834879256886188596:=0
def tw17870498566296442616:=0
def tw17877723523150119921:=0
def tw17944856936161814997:=0
def tw17953287180003140007:=0
def tw17982925993019078851:=0
def tw17988874894685208011:=0
def tw18007814622519350650:=0
def tw18031660354169422139:=0
def tw18053012528325585263:=0
def tw18055480642783781819:=0
def tw18061061481234870307:=0
def tw18200961185624462016:=0
def tw18286279422831506899:=0
def tw18294769377655952353:=0
def tw18303846482010050022:=0
def tw18307443454399331223:=0
def tw18310195101549679629:=0
def tw18312441163404555805:=0
def tw18333521854867608808:=0
def tw18366285192160803402:=0
def tw18397654543687065205:=0
def tw1845912519601545973:=0
def tw1904789766955636065:=0
def tw2171777346311241375:=0
def tw2241600045302960431:=0
def tw2242169175512020656:=0
def tw2366151565919745992:=0
def tw2372258866941222766:=0
def tw2377166228296939072:=0
def tw2414988579275196425:=0
def tw2557183472954714541:=0
def tw2620932582585161829:=0
def tw2627144656394951503:=0
def tw2629765744060552750:=0
def tw2668212289422806470:=0
def tw2684308087206517141:=0
def tw2686646048009821723:=0
def tw2697985351465168787:=0
def tw2720740810678106085:=0
def tw2905039276716340141:=0
def tw297264646821638022:=0
def tw2977067097917567841:=0
def tw3046429366403404528:=0
def tw3049647856730743872:=0
def tw3060641406093969054:=0
def tw3081491768421192456:=0
def tw3086305420410296570:=0
def tw3125385162532260505:=0
def tw3154320141125920514:=0
def tw315598236014445991:=0
def tw3162349088439898409:=0
def tw318163026604959719:=0
def tw3182475852523165104:=0
def tw3247393123993217008:=0
def tw3341888364336536033:=0
def tw3401338614990765240:=0
def tw3421974803748634789:=0
def tw3459359510297391278:=0
def tw3464707629750024606:=0
def tw3518626425269671678:=0
def tw3523749839626439670:=0
def tw3530242325552202387:=0
def tw371163682423958537:=0
def tw3717460706304349802:=0
def tw373960950861744915:=0
def tw3779036706548818066:=0
def tw3846003302349109939:=0
def tw3860959316927887450:=0
def tw3916802432241573851:=0
def tw3926996180229656148:=0
def tw3934216992951044932:=0
def tw3951316682162403315:=0
def tw3956002924166942834:=0
def tw3956957444728251126:=0
def tw3973326701885132852:=0
def tw3976910785772461294:=0
def tw3978058107222381922:=0
def tw4066300341324568155:=0
def tw4085552206092581592:=0
def tw4092527910993387785:=0
def tw4136882421489467122:=0
def tw4162136451618633222:=0
def tw4167664880850089268:=0
def tw4255901580410668254:=0
def tw4314253434439245293:=0
def tw4359137924809633217:=0
def tw4384774567428176267:=0
def tw4397097274809317101:=0
def tw4403932715145094485:=0
def tw4413844956906069664:=0
def tw4416586894233317556:=0
def tw4455116423721559155:=0
def tw4457695506112637439:=0
def tw4461446684666203843:=0
def tw4554615678180461080:=0
def tw4555964289167199266:=0
def tw4641907077166224536:=0
def tw4651978077175618487:=0
def tw4684278594829125832:=0
def tw4690837657203524107:=0
def tw4730584523561534073:=0
def tw4741751420976079853:=0
def tw4770622660132769429:=0
def tw4782440459305151704:=0
def tw4813458839079493812:=0
def tw4917964032466033071:=0
def tw4999329697567575459:=0
def tw5003198758937637489:=0
def tw505693749512790329:=0
def tw5105126296240940444:=0
def tw5217529853279054574:=0
def tw52248450499285888:=0
def tw5246323241631401280:=0
def tw5284918924947856777:=0
def tw5435825919741883561:=0
def tw5489612060581936942:=0
def tw5507063167516761871:=0
def tw5587076640318260898:=0
def tw5633385802029076905:=0
def tw5663438149429416732:=0
def tw5723082850277079364:=0
def tw573534529102707631:=0
def tw5772678891144619425:=0
def tw5822322559412610836:=0
def tw5854902163591735531:=0
def tw5903610824607535605:=0
def tw5905055954578866173:=0
def tw591406757295858228:=0
def tw5950045800449119621:=0
def tw596134713928342958:=0
def tw5965737410559136696:=0
def tw6049027800844910970:=0
def tw6051483242165301792:=0
def tw613343135467519173:=0
def tw6237008381252303401:=0
def tw6367517829062955118:=0
def tw6390638227286046238:=0
def tw6460538419868608388:=0
def tw6475189381610120395:=0
def tw6513628016451201385:=0
def tw6563566234517508750:=0
def tw6607017229508425542:=0
def tw6612177102577580166:=0
def tw6636820992795816505:=0
def tw6691168784098612078:=0
def tw6703520891460423509:=0
def tw6744360351371160378:=0
def tw6772440229895819198:=0
def tw6817985420320232253:=0
def tw6917263964681800945:=0
def tw6921617941124658690:=0
def tw697293957298136752:=0
def tw700153833178801383:=0
def tw7044037029795704453:=0
def tw7070778980326890819:=0
def tw7093549595913478952:=0
def tw7103237530576659645:=0
def tw7139747321061850700:=0
def tw7171925162720480986:=0
def tw7236643369373198151:=0
def tw7266068799934791825:=0
def tw7294645487872138121:=0
def tw7299795330926189841:=0
def tw7325192408232198222:=0
def tw7454423791576665456:=0
def tw7471917255346995297:=0
def tw7480760263923196278:=0
def tw7525550817418192728:=0
def tw7603053801357393612:=0
def tw7627974546939863589:=0
def tw7649840566785991847:=0
def tw7781517267404325870:=0
def tw7789537790772454152:=0
def tw7830379469086939810:=0
def tw7908743647147285217:=0
def tw7938643869978591352:=0
def tw8077032133094657132:=0
def tw809465739841977694:=0
def tw8117344597430357203:=0
def tw8123508483397008853:=0
def tw8146194138819447224:=0
def tw8157291235817286745:=0
def tw8170074321280265129:=0
def tw8198089594556847200:=0
def tw8212978980690643594:=0
def tw8379916053028325988:=0
def tw8521366494079823104:=0
def tw8533121973568363319:=0
def tw8545740620809730343:=0
def tw8562343056164106331:=0
def tw8592487523863348980:=0
def tw8607048157237698528:=0
def tw8704361923823126251:=0
def tw8849795843312589418:=0
def tw8868309782829546266:=0
def tw8888229048098659655:=0
def tw8892913693507979365:=0
def tw8935583318615869456:=0
def tw8955073406913090402:=0
def tw8963650513460141561:=0
def tw9088960118110406947:=0
def tw9103952630384197543:=0
def tw9197758221019385583:=0
def tw9223577842625887330:=0
def tw9226480495640121957:=0
def tw9310981373860521855:=0
def tw9343568909977170864:=0
def tw9384319303953984823:=0
def tw942678242226855147:=0
def tw9492931355543121972:=0
def tw9508626566847240396:=0
def tw954205099080669568:=0
def tw9546669582679544918:=0
def tw9576545418019606915:=0
def tw9585742098509980950:=0
def tw9671349263486051036:=0
def tw9807152604648404003:=0
def tw9883316466758503576:=0
def tw9906474836723399035:=0
def tw9932022691704873074:=0
def tw9935028790243361055:=0
end PySem.W.Fast
open PySem PySem.W PyProof.Rows
set_option maxRecDepth 100000 in
set_option maxHeartbeats 0 in
theorem PySem.Challenge.cw_ladderhall_k32_whole_papers_holds : PySem.Challenge.rw_ladderhall_k32_whole_papers.Holds := by
  w_on; o_law; k_head; (case hw => w_witness2)
  k_fill
  refine My.walk (l := PySem.Challenge.rw_ladderhall_k32_whole_papers) rfl rfl (fun w h Y => PySem.W.km_in_of Y) ?F
  case F =>
    intro w mg fa h KX G hmg
    refine' ⟨L3.j60.of ?r1 ?r2 ?r3 ?r4 ?r5 ?r6, ?nt, ?al⟩
    (case r1 => refine' .inr (L3.j65 ?_); k_is)
    (case r2 => refine' .inr (L3.j65 ?_); k_is)
    (case r3 => refine' .inr (L3.j65 ?_); k_is)
    (case r4 => refine' .inr (L3.j65 ?_); k_is)
    (case r5 => exact .inl ⟨_, rfl⟩)
    (case r6 => refine' .inr (L3.j65 ?_); k_is)
    (case nt => kernel_rfl)
    refine' My.all_mk KX G hmg ?A1 ?A2 ?A3 ?A4 ?A5 ?A6 ?A7 ?A8 ?A9 ?A10 ?A11 ?A12 ?A13 ?A14 ?A15 ?A16 ?A17 ?A18 ?A19 ?A20 ?A21 ?A22 ?A23 ?A24 ?A25 ?A26 ?A27 ?A28 ?A29 ?A30 ?A31 ?A32 ?A33 ?A34 ?A35 ?A36 ?A37 ?A38 ?A39 ?A40 ?A41 ?A42 ?A43 ?A44 ?A45 ?A46 ?A47 ?A48 ?A49 ?a50 ?l50 ?c50 ?k50 ?z1 ?z2 ?z3 ?z4 ?z5 ?z6 ?z7 ?z8 ?z9 ?z10 ?z11 ?z12 ?t_height_of ?xrN ?xcg ?xct ?xrg ?xrt ?xrc ?xro ?xrb ?xrT ?xe0N ?xe0g ?xe0t ?xe0c ?xe0o ?xe0b ?xe0V ?xe0n0 ?xe0n1 ?xe0n2 ?xe0n3 ?xe0n4 ?xe0R ?xe0X ?y0N ?y0O ?y0T ?y0Sxe0 ?y0Dxe0 ?y1N ?y1O ?y1T ?y1Sxe0 ?y1Dxe0 ?y2N ?y2O ?y2T ?y2Sxe0 ?y2Dxe0 ?y3N ?y3O ?y3T ?y3Sxe0 ?y3Dxe0 ?y4N ?y4O ?y4T ?y4Sxe0 ?y4Dxe0
    (case A1 | A2 | A3 | A4 | A5 | A6 | A7 | A8 | A9 | A10 | A11 | A12 | A13 | A14 | A15 | A16 | A17 | A18 | A19 | A20 | A21 | A22 | A23 | A24 | A25 | A26 | A27 | A28 | A29 | A30 | A31 | A32 | A33 | A34 | A35 | A36 | A37 | A38 | A39 | A40 | A41 | A42 | A43 | A44 | A45 | A46 | A47 | A48 | A49 => refine' My.A0.mk KX G ?a ?l ?c ?k; (case a => k_is); (case l => k_is); (case c => k_is); (case k => k_is))
    (case a50 => k_is)
    (case l50 => k_is)
    (case c50 => k_is)
    (case k50 => k_is)
    (case z1 => k_is)
    (case z2 => k_is)
    (case z3 => k_is)
    (case z4 => k_is)
    (case z5 => k_is)
    (case z6 => k_is)
    (case z7 => k_is)
    (case z8 => k_is)
    (case z9 => k_is)
    (case z10 => k_is)
    (case z11 => k_is)
    (case z12 => k_is)
    (case t_height_of => refine' L3.j7x ?a ?l ?c ?m ?v; (case a => k_is); (case l => k_is); (case c => exact rfl); (case m => k_is); (case v => exact rfl))
    (case xrN => k_is)
    (case xcg => k_is)
    (case xct => k_is)
    (case xrg => k_is)
    (case xrt => k_is)
    (case xrc => k_is)
    (case xro => k_is)
    (case xrb => k_is)
    (case xrT => k_is)
    (case xe0N => k_is)
    (case xe0g => k_is)
    (case xe0t => k_is)
    (case xe0c => k_is)
    (case xe0o => k_is)
    (case xe0b => k_is)
    (case xe0V => k_is)
    (case xe0n0 => k_is)
    (case xe0n1 => k_is)
    (case xe0n2 => k_is)
    (case xe0n3 => k_is)
    (case xe0n4 => k_is)
    (case xe0R => k_is)
    (case xe0X => k_exc)
    (case y0N => k_is)
    (case y0O => k_is)
    (case y0T => k_is)
    (case y0Sxe0 => k_is)
    (case y0Dxe0 => decide)
    (case y1N => k_is)
    (case y1O => k_is)
    (case y1T => k_is)
    (case y1Sxe0 => k_is)
    (case y1Dxe0 => decide)
    (case y2N => k_is)
    (case y2O => k_is)
    (case y2T => k_is)
    (case y2Sxe0 => k_is)
    (case y2Dxe0 => decide)
    (case y3N => k_is)
    (case y3O => k_is)
    (case y3T => k_is)
    (case y3Sxe0 => k_is)
    (case y3Dxe0 => decide)
    (case y4N => k_is)
    (case y4O => k_is)
    (case y4T => k_is)
    (case y4Sxe0 => k_is)
    (case y4Dxe0 => decide)
