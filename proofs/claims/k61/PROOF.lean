import PyProof.Rows.All
import Wide.All
import OpenK.AllK
import Wide.FinOn
import Lean
import PyProof.EqAt
import PyProof.EqKinds
import PyProof.TupleCall
import KE.KIsNot
import PyProof.ExcArgs
import OpenK.KOwn
import KE.LcSums
import PyProof.EnumMake
import PyProof.Draws
import PyProof.Rows.EnumRows
import PyProof.ExcBaseAll.ValueError
import PyProof.NsDelKeeps
import PyProof.Rows.SetFrom
import PyProof.WalksMore
import KE.KDictSum
import PyProof.Rows.MinMaxN
import PyProof.Rows.CallKwBuiltin
import KE.KMinKey
import KE.KSortKey
import PyProof.DictWalks
import PySem.SetOps
import PyProof.TupleKey
import PyProof.SetKind
import PyProof.IsRules
import PyProof.Rules
import PyProof.DictKinds
import KE.KSortAsk
import KE.KSortTup
import PyProof.PureInt
import PyProof.DictIter
import KE.KItemsList
import PyProof.DictUpdate
import PyProof.DictRoadsH
import PySem.Challenge.RW_ladderhall_k61_whole_any_coming
set_option Elab.async false
set_option linter.all false
set_option maxRecDepth 100000
set_option maxHeartbeats 0
noncomputable section
def Qa:=@List.mem_cons_of_mem
def Qb:=@PySem.wpAny_bind
def Qc:=@Nat.le_refl
def Qd:=@List.mem_cons_self
def Qe:=@if_pos
def Qf:=@PySem.Heap.get?_push_of_some
def Qg:=@List.size_toArray
def Qh:=@if_neg
def Qi:=@List.mem_append_right
def Qj:=@List.getElem?_eq_getElem
def Qk:=@PySem.wpAny_pure
def Ql:=@Nat.lt_of_lt_of_le
def Qm:=@List.length_map
def Qn:=@PySem.Heap.lt_size
def Qo:=@List.getElem?_map
def Qp:=@Option.some.inj
def Qq:=@List.getD_eq_getElem?_getD
def Qr:=@List.mem_cons
def Qs:=@PySem.Heap.get?_push_size
def Qt:=@List.length_append
def Qu:=@List.getElem?_eq_none
def Qv:=@List.getElem?_eq_some_iff
def Qw:=@List.getElem?_append_left
def Qx:=@List.getElem?_set_ne
def Qy:=@List.length_cons
def Qz:=@List.getElem?_set_self
def QA:=@PySem.PassesOwn.never
def QB:=@List.mem_singleton
def QC:=@PySem.mem_of_lookup
def QF:=@List.mem_map
def QG:=@Bool.and_eq_true_iff
def QH:=@PyProof.Rows.boot_tuple
def QI:=@List.not_mem_nil
def QJ:=@List.length_set
def QK:=@Nat.le_trans
def QL:=@Nat.lt_irrefl
def QM:=@List.mem_append_left
def QN:=@List.mem_append
def QO:=@List.length_range
def QP:=@List.mem_range
def QR:=@List.lookup_cons
def QS:=@PyProof.Rows.slot_tuple_getitem
def QT:=@PySem.W.kia_one
def QU:=@Nat.lt_succ_self
def QV:=@List.getElem?_append_right
def QW:=@List.getElem_mem
def QX:=@Nat.ne_of_lt
def QY:=@PySem.W.mg_none_of
def QZ:=@List.getElem?_range
def Q0:=@List.length_eq_zero_iff
def Q1:=@List.filter_cons_of_pos
def Q2:=@decide_eq_false
def Q3:=@List.map_cons
def Q4:=@List.length_replicate
def Q5:=@List.getElem?_replicate
def Q6:=@decide_eq_true
def Q7:=@Nat.lt_succ_of_lt
def Q8:=@List.ext_getElem?
def Q9:=@PySem.SeqAt.canLay_of_shaped
def Za:=@Array.length_toList
def Zb:=@List.replicate_succ
def Zc:=@List.length_take
def Zd:=@PySem.Heap.size_push
def Ze:=@PySem.wpAny_newObj_type
def Zf:=@List.filter_cons_of_neg
def Zg:=@List.append_nil
def Zh:=@Option.map_some
def Zi:=@List.map_append
def Zj:=@List.map_map
def Zk:=@List.all_eq_true
def Zl:=@List.drop_eq_getElem_cons
def Zm:=@PySem.wpAny_passesOwn
def Zn:=@List.nodup_cons
def Zo:=@PySem.wpAny_truthy_bool
def Zp:=@List.flatten_cons
def Zq:=@decide_eq_true_eq
def Zr:=@PySem.wpAny_mono
def Zs:=@PySem.wpAny_holding
def Zt:=@beq_iff_eq
def Zu:=@Option.isSome_iff_exists
def Zv:=@List.getElem?_take_of_lt
def Zw:=@beq_eq_false_iff_ne
def Zx:=@List.map_congr_left
def Zy:=@List.length_drop
def Zz:=@Bool.and_eq_true
def ZA:=@beq_self_eq_true
def ZB:=@List.getElem?_cons_succ
def ZC:=@Nat.zero_le
def ZD:=@PySem.W.cellsFrom_some
def ZE:=@List.range_succ_eq_map
def ZF:=@PyProof.Rows.boot_list
def ZG:=@congrArg
def ZH:=@List.find?_cons
def ZI:=@Array.getElem?_toList
def ZJ:=@PyProof.Rows.callWith_type1
def ZK:=@PySem.F.typeOf_object_class
def ZL:=@Function.comp_def
def ZM:=@Nat.le_succ
def ZN:=@PySem.codeAny_call_builtin
def ZO:=@Nat.le_of_lt
def ZP:=@PySem.F.args_tuple_add_2
def ZQ:=@PySem.pushCells_keeps
def ZR:=@Bool.false_ne_true
def ZS:=@PySem.wpAny_Call_Name_kw
def ZT:=@PySem.call_meets
def ZU:=@Bool.false_eq_true
def ZV:=@PySem.F.entry_tuple_add
def ZW:=@PySem.F.slot_tuple_add
def ZX:=@if_true
def ZY:=@List.append_assoc
def ZZ:=@List.flatten_replicate_singleton
def Z0:=@List.eraseIdx_eq_take_drop_succ
def Z1:=@PySem.W.methodCall_KW
def Z2:=@PySem.F.slot_dict_get
def Z3:=@List.length_filter_le
def Z4:=@PySem.F.slot_tuple_mul
def Z5:=@Ne.symm
def Z6:=@Bool.true_and
def Z7:=@PySem.wpAny_execs_nil
def Z8:=@PySem.F.slot_int_rmul
def Z9:=@PySem.codeAny_builtin
def Ja:=@Nat.not_lt_zero
def Jb:=@List.range_succ
def Jc:=@List.filterMap_cons
def Jd:=@PySem.W.plainGet_of
def Je:=@PySem.F.slot_gs_get
def Jf:=@List.length_pos_iff
def Jg:=@PySem.codeAny_mono
def Jh:=@List.map_nil
def Ji:=@Nat.lt_trans
def Jj:=@List.idxOf_lt_length_of_mem
def Jk:=@PySem.Calls.Name_function_global
def Jl:=@PySem.Calls.spliced_cons
def Jm:=@PySem.W.callWith_K
def Jn:=@PySem.F.excAttr_ValueError
def Jo:=@List.getElem?_take_eq_none
def Jp:=@Int.emod_lt_of_pos
def Jq:=@PySem.wpAny_binaryOp_repeat_ref
def Jr:=@List.ne_nil_of_length_pos
def Js:=@PySem.wpAny_pyIter_list
def Jt:=@PySem.W.kitx_list
def Ju:=@of_decide_eq_true
def Jv:=@List.foldl_append
def Jw:=@PySem.F.slot_tuple_index
def Jx:=@PySem.noFill_tuple_add
def Jy:=@if_false
def Jz:=@Nat.succ_le_succ
def JA:=@PySem.F.args_dict_get_3
def JB:=@PySem.F.plainAttrs_list
def JC:=@List.getElem_map
def JD:=@PySem.concat_meets
def JE:=@PySem.wpAny_typeOf
def JF:=@PySem.typeIs_int
def JG:=@PySem.F.entry_dict_get
def JH:=@List.take_of_length_le
def JI:=@Nat.succ.inj
def JJ:=@List.all_map
def JK:=@List.of_mem_zip
def JL:=@List.nil_append
def JM:=@Nat.le_antisymm
def JN:=@List.set_append
def JO:=@Int.emod_nonneg
def JP:=@PyProof.Rows.boot_max
def JQ:=@PySem.sizeLine_eq
def JR:=@List.mem_of_getElem?
def JS:=@PySem.boot_len
def JT:=@List.drop_zero
def JU:=@Int.toNat_of_nonneg
def JV:=@List.all_cons
def JW:=@PySem.W.mg_of
def JX:=@Nat.mul_comm
def JY:=@Sum.inr.inj
def JZ:=@Int.le_refl
namespace L2
open PySem PySem.Spec PyProof.Rows
variable {A:Around}{C a b dx it:Addr}{E Q:Value->Shared->Prop}{K:PySem.W.Frag}{M:Model}{N ps:List Str}{P:Program}{base h:Heap}{body:List Stmt}{c e tg:Expr}{es:List Expr}{f:Value->Value->Sem Value}{fp:List Addr}{g:Int->Int->Int}{i j n:Nat}{kindOf:Str->Option NameKind}{kw:List (Str×Value)}{m qual x:Str}{mA mg:Str->Option Value}{o:Obj}{op:CmpOp}{outer:List Env}{pins:List (Addr×Obj)}{pl:Sem Bool}{s s':Shared}{sc scope:Scope}{u v:Value}{us:List Value}{w:World}
abbrev Key:=Sum Int Str
def pj:Key->Value->Bool
 | .inl k,v=>Value.isInt k v
 | .inr x,v=>Value.isStrOf x v
def Es (w:World):Key->Int
 | .inl k=>hashInt k
 | .inr x=>hashStr w x
theorem kS:∀ {k:Key} {v:Value},pj k v=true->(∃ i t,k=Sum.inl i/\v=Value.int i t)\/(∃ x t,k=Sum.inr x/\v=Value.str x t)
 | .inl i,v,h=>by
  obtain⟨t,e⟩:=Value.isInt_shape (k:=i) (v:=v) h
  exact .inl ⟨i,t,rfl,e⟩
 | .inr x,v,h=>by
  obtain⟨t,e⟩:=Value.isStrOf_shape (x:=x) (v:=v) h
  exact .inr ⟨x,t,rfl,e⟩
theorem Et(i:Int)(t:Tok):pj (.inl i) (.int i t)=true:=by simp[pj,Value.isInt]
theorem Eu(x:Str)(t:Tok):pj (.inr x) (.str x t)=true:=by simp[pj,Value.isStrOf]
theorem Ew(a b:Int):decide ((Sum.inl a:Key)=Sum.inl b)=(a==b):=by
 by_cases e:a=b
 ·subst e;simp
 ·have h:¬ (Sum.inl a:Key)=Sum.inl b:=fun q=>e (Sum.inl.inj q)
  rw[Q2 h]
  exact(Zw.mpr e).symm
theorem Ex(a b:Str):decide ((Sum.inr a:Key)=Sum.inr b)=decide (a=b):=by
 by_cases e:a=b
 ·subst e;simp
 ·have h:¬ (Sum.inr a:Key)=Sum.inr b:=fun q=>e (JY q)
  rw[Q2 h,Q2 e]
theorem Ey(a:Int)(b:Str):decide ((Sum.inl a:Key)=Sum.inr b)=false:=Q2 (fun q=>nomatch q)
theorem Ez(a:Str)(b:Int):decide ((Sum.inr a:Key)=Sum.inl b)=false:=Q2 (fun q=>nomatch q)
def gJ (prog:Program)(w:World):PySem.KeyKind prog w Key where
 is:=pj
 hash:=Es w
 inj:=fun v a b ha hb=>by
  rcases kS ha with⟨i,t,rfl,rfl⟩|⟨x,t,rfl,rfl⟩
  ·rcases kS hb with⟨j,u,rfl,e⟩|⟨y,u,rfl,e⟩
   ·injection e with e1 _;rw[e1]
   ·exact nomatch e
  ·rcases kS hb with⟨j,u,rfl,e⟩|⟨y,u,rfl,e⟩
   ·exact nomatch e
   ·injection e with e1 _;rw[e1]
 byValue:=fun k v h=>by
  rcases kS h with⟨i,t,rfl,rfl⟩|⟨x,t,rfl,rfl⟩<;>rfl
 pyHash:=fun hv h=>by
  rcases kS hv with⟨i,t,rfl,rfl⟩|⟨x,t,rfl,rfl⟩
  ·exact wpAny_pyHash_int h
  ·exact wpAny_pyHash_str h
 eqBool:=fun hu hv h=>by
  rcases kS hu with⟨i,t,rfl,rfl⟩|⟨x,t,rfl,rfl⟩
  ·rcases kS hv with⟨j,u,rfl,rfl⟩|⟨y,u,rfl,rfl⟩
   ·rw[Ew]at h;exact wpAny_eqBool_int h
   ·rw[Ey]at h;exact SeqAt.EqAt.int_str i t y u _ _ _ _ h
  ·rcases kS hv with⟨j,u,rfl,rfl⟩|⟨y,u,rfl,rfl⟩
   ·rw[Ez]at h;exact SeqAt.EqAt.str_int x t j u _ _ _ _ h
   ·rw[Ex]at h;exact wpAny_eqBool_str h
 «strs»:=fun k x t v h=>by
  rcases kS h with⟨i,u,rfl,e⟩|⟨y,u,rfl,e⟩
  ·exact nomatch e
  ·injection e with e1 _
   subst e1
   cases v<;>rfl
theorem EA(prog:Program)(w:World)(i:Int)(t:Tok):(gJ prog w).is (.inl i) (.int i t)=true:=Et i t
theorem EB(prog:Program)(w:World)(x:Str)(t:Tok):(gJ prog w).is (.inr x) (.str x t)=true:=Eu x t
inductive V where
 | aS|bl (b:Bool)|int (i:Int)|str (x:Str)|pq (b:Array UInt8)|nF (b:UInt64)|ref (a:Addr)|ty (n:String)
 deriving DecidableEq
def bj:V->Value->Prop
 | .aS,u=>u=Value.none
 | .bl b,u=>u=Value.bool b
 | .int i,u=>∃ t,u=Value.int i t
 | .str x,u=>∃ t,u=Value.str x t
 | .pq b,u=>∃ t,u=Value.bytes b t
 | .nF b,u=>∃ t,u=Value.float b t
 | .ref a,u=>u=Value.ref a
 | .ty n,u=>u=Value.type n
abbrev aR:List V->List Value->Prop:=Paired bj
theorem aR.length{xs:List V}(r:aR xs us):xs.length=us.length:=Paired.length r
theorem aR.get:∀ {xs:List V} {us:List Value} {i:Nat} {x:V},aR xs us->xs[i]? = some x->∃ u,us[i]? = some u/\bj x u
 | _,_,_,_,.nil,e=>by simp at e
 | _,_,0,_,.cons r _,e=>by simp at e;subst e;exact⟨_,rfl,r⟩
 | _,_,i+1,x,.cons _ t,e=>by
  obtain⟨u,h1,h2⟩:=aR.get (i:=i) (x:=x) t (by simpa using e)
  exact⟨u,by simpa using h1,h2⟩
theorem aR.set{x:V}(r:bj x u):∀ {xs:List V} {us:List Value} (i:Nat),aR xs us->aR (xs.set i x) (us.set i u)
 | _,_,_,.nil=>.nil
 | _,_,0,.cons _ t=>.cons r t
 | _,_,i+1,.cons q t=>.cons q (aR.set r i t)
theorem aR.append:∀ {xs ys:List V} {us ws:List Value},aR xs us->aR ys ws->aR (xs++ys) (us++ws)
 | _,_,_,_,.nil,s=>s
 | _,_,_,_,.cons r t,s=>.cons r (aR.append t s)
theorem aR.take:∀ {xs:List V} {us:List Value} (n:Nat),aR xs us->aR (xs.take n) (us.take n)
 | _,_,0,_=>.nil
 | _,_,_+1,.nil=>.nil
 | _,_,n+1,.cons r t=>.cons r (aR.take n t)
theorem aR.drop:∀ {xs:List V} {us:List Value} (n:Nat),aR xs us->aR (xs.drop n) (us.drop n)
 | _,_,0,r=>r
 | _,_,_+1,.nil=>.nil
 | _,_,n+1,.cons _ t=>aR.drop n t
def iH:Option V->Option Value->Prop
 | some v,some u=>bj v u
 | none,none=>True
 | _,_=>False
def KV {κ:Type}:List (κ×V)->List (κ×Value)->Prop:=Paired fun(p:κ×V) (q:κ×Value)=>p.1=q.1/\bj p.2 q.2
def kV:Key->V
 | .inl i=>.int i
 | .inr x=>.str x
inductive HO where
 | lst (xs:List V)
 | tup (xs:List V)
 | dK (aw:List (Key×V))|dT (aw:List (List Key×V))
 | set (S:Int->Bool) (n:Nat)
 | ins (C dx:Addr) (fs:List (Str×V))
 | own (x:Addr)
 | xd (fs:List (Str×V))
 | met (f x:Addr)
 | jH (lo hi:Int)
 | dZ (o:Obj) (u:HO)
 | ia (ps:Array Value)
 | ext (φ:Heap->Prop)
abbrev Hp:=Addr->Option HO
def upd (H:Hp)(a:Addr)(o:HO):Hp:=fun b=>if b=a then some o else H b
theorem fi{H:Hp}{o:HO}:upd H a o a=some o:=by unfold upd;rw[Qe rfl]
theorem ba{H:Hp}{o:HO}(h:b≠a):upd H a o b=H b:=by unfold upd;rw[Qh h]
theorem EC{H:Hp}{o u:HO}:upd (upd H a o) a u=upd H a u:=by
 funext b;unfold upd;split<;>rfl
theorem ib{H:Hp}{o:HO}(h:H a=some o)(h':H b=none):a≠b:=by
 intro e;subst e;rw[h]at h';cases h'
def jz (h:Heap)(a:Addr)(items:Array Value):Prop:=∃ o,h.get? a=some o/\o.cls=.type "tuple" /\ (∃ n,o.data=.seq items n)/\o.dict=none
theorem jz.tup{h:Heap}{a:Addr}{items:Array Value}(x:jz h a items):IsTup h a items:=let ⟨o,e,c,n,_⟩:=x;⟨o,e,c,n⟩
theorem jz.new(h:Heap)(items:Array Value):jz (h.push { cls:=.type "tuple",data:=.seq items }) h.objs.size items:=⟨_,Qs _ rfl,rfl,⟨_,rfl⟩,rfl⟩
theorem jz.lt{items:Array Value}(x:jz h a items):a<h.objs.size:=let ⟨_,e,_⟩:=x;Qn e
section
variable (P:Program)(w:World)
def cM (H:Hp)(h:Heap)(a:Addr):HO->Prop
 | .lst xs=>xs.length<=sizeLine/\∃ (ak:List Value) (n:Nat),aR xs ak/\h.get? a=some { cls:=.type "list",data:=.seq ak.toArray n }
 | .tup xs=>xs.length<=sizeLine/\∃ ak:List Value,aR xs ak/\jz h a ak.toArray
 | .dK aw=>aw.length<=sizeLine/\(a==sysModules)=false/\∃ vs,KV aw vs/\h.DictOf (gJ P w) a vs
 | .dT aw=>aw.length<=sizeLine/\(a==sysModules)=false/\∃ xs:List (List Key×Addr×Value),
   Paired (fun(p:List Key×V) (q:List Key×Addr×Value)=>p.1=q.1/\H q.2.1=some (.tup (p.1.map kV))/\bj p.2 q.2.2) aw xs /\
   ∃ o es ep,h.get? a=some o/\o.ExactDict/\o.data=.dict es ep/\es.toList=xs.map (entryOfKey (tupleKind (gJ P w)))/\(xs.map (·.1)).Nodup
 | .set S n=>h.SetOf (intKind P w) a S n
 | .ins C dx fs=>H dx=some (.own a)/\fs.length<=1000/\dx≠a/\h.get? a=some (PySem.W.instObj C dx) /\
   ∃ mA,h.Ns1 dx mA/\(∀ f,iH (fs.lookup f) (mA f))/\PySem.Within mA (fs.map (·.1))
 | .own _=>∃ o,h.get? a=some o
 | .xd fs=>∃ mA,h.Ns1 a mA/\∀ f,iH (fs.lookup f) (mA f)
 | .jH lo hi=>∃ t u v,h.get? a=some { cls:=.type "range",data:=.fields #[.int lo t,.int hi u,.int 1 v] }
 | .dZ o u=>h.get? a=some o/\cM H h a u
 | .ia ps=>h.get? a=some { cls:=.none,data:=.fields ps }
 | .met f x=>h.get? a=some (PySem.W.methodObj (.ref f) (.ref x))
 | .ext φ=>φ h/\(∃ o,h.get? a=some o)/\∀ h1 h2:Heap,φ h1->(∀ o,h1.get? a=some o->h2.get? a=some o)->φ h2
def cN (H:Hp)(h:Heap):Prop:=∀ a o,H a=some o->cM P w H h a o
end
section
variable {P:Program}{w:World}{H H':Hp}{h h':Heap}{a:Addr}{o:HO}
theorem cM.lt(x:cM P w H h a o):a<h.objs.size:=by
 cases o with
 | lst xs=>obtain⟨_,_,_,_,e⟩:=x;exact Qn e
 | tup xs=>obtain⟨_,_,_,p⟩:=x;exact p.lt
 | dK aw=>obtain⟨_,_,_,_,o,_,_,e,_⟩:=x;exact Qn e
 | dT aw=>obtain⟨_,_,_,_,o,_,_,e,_⟩:=x;exact Qn e
 | set S n=>obtain⟨o,_,_,_,e,_⟩:=x;exact Qn e
 | ins C dx fs=>obtain⟨_,_,_,e,_⟩:=x;exact Qn e
 | own y=>obtain⟨_,e⟩:=x;exact Qn e
 | xd fs=>obtain⟨_,⟨_,_,_,e,_⟩,_⟩:=x;exact Qn e
 | jH lo hi=>obtain⟨_,_,_,e⟩:=x;exact Qn e
 | dZ ob u=>obtain⟨e,_⟩:=x;exact Qn e
 | ia ps=>exact Qn (show h.get? a=some _ from x)
 | met f y=>exact Qn (show h.get? a=some _ from x)
 | ext φ=>obtain⟨_,⟨_,e⟩,_⟩:=x;exact Qn e
theorem Paired.qu{α β:Type}{F G:α->β->Prop}:∀ {qw:List α} {qx:List β},Paired F qw qx->(∀ a b,F a b->G a b)->Paired G qw qx
 | _,_,.nil,_=>.nil
 | _,_,.cons r t,f=>.cons (f _ _ r) (Paired.qu t f)
theorem cM.ji(x:cM P w H h a o)(k:∀ b u,(b=a\/H b=some (.own a))->h.get? b=some u->h'.get? b=some u)
  (ho:∀ b,H b=some (.own a)->H' b=some (.own a)) (ht:∀ b xs,H b=some (.tup xs)->H' b=some (.tup xs)):cM P w H' h' a o:=by
 induction o with
 | lst xs=>obtain⟨z,ak,n,r,e⟩:=x;exact⟨z,ak,n,r,k _ _ (.inl rfl) e⟩
 | tup xs=>obtain⟨z,ak,r,ob,e,c⟩:=x;exact⟨z,ak,r,ob,k _ _ (.inl rfl) e,c⟩
 | dK aw=>obtain⟨z,y,vs,r,ob,es,ep,e,c⟩:=x;exact⟨z,y,vs,r,ob,es,ep,k _ _ (.inl rfl) e,c⟩
 | dT aw=>
  obtain⟨z,y,xs,r,ob,es,ep,e,c⟩:=x
  exact⟨z,y,xs,Paired.qu r fun p q z=>⟨z.1,ht _ _ z.2.1,z.2.2⟩,ob,es,ep,k _ _ (.inl rfl) e,c⟩
 | set S n=>obtain⟨ob,es,ep,t,e,c⟩:=x;exact⟨ob,es,ep,t,k _ _ (.inl rfl) e,c⟩
 | ins C dx fs=>
  obtain⟨d,z,ne,e,mA,⟨od,es,ep,e2,c⟩,r⟩:=x
  exact⟨ho _ d,z,ne,k _ _ (.inl rfl) e,mA,⟨od,es,ep,k _ _ (.inr d) e2,c⟩,r⟩
 | own y=>obtain⟨ob,e⟩:=x;exact⟨ob,k _ _ (.inl rfl) e⟩
 | xd fs=>obtain⟨mA,⟨od,es,ep,e,c⟩,r⟩:=x;exact⟨mA,⟨od,es,ep,k _ _ (.inl rfl) e,c⟩,r⟩
 | jH lo hi=>obtain⟨t,u,v,e⟩:=x;exact⟨t,u,v,k _ _ (.inl rfl) e⟩
 | dZ ob u ih=>obtain⟨e,q⟩:=x;exact⟨k _ _ (.inl rfl) e,ih q⟩
 | ia ps=>
  have e:h.get? a=some { cls:=.none,data:=.fields ps }:=x
  show h'.get? a=some { cls:=.none,data:=.fields ps }
  exact k a _ (.inl rfl) e
 | met f y=>
  have e:h.get? a=some (PySem.W.methodObj (.ref f) (.ref y)):=x
  show h'.get? a=some (PySem.W.methodObj (.ref f) (.ref y))
  exact k a _ (.inl rfl) e
 | ext φ=>obtain⟨p,⟨o,e⟩,st⟩:=x;exact⟨st _ _ p fun o q=>k _ _ (.inl rfl) q,⟨o,k _ _ (.inl rfl) e⟩,st⟩
theorem cN.lt(x:cN P w H h)(e:H a=some o):a<h.objs.size:=(x a o e).lt
theorem cN.fresh(x:cN P w H h)(e:h.objs.size<=a):H a=none:=by
 cases q:H a with
 | none=>rfl
 | some u=>exact absurd (Ql (x.lt q) e) (QL _)
theorem cN.kept(x:cN P w H h)(k:∀ b u,h.get? b=some u->h'.get? b=some u):cN P w H h':=fun a o e=>
 (x a o e).ji (fun b u _ q=>k b u q) (fun _ q=>q) fun _ _ q=>q
theorem cN.laid(x:cN P w H h)(k:∀ b u,h.get? b=some u->h'.get? b=some u)(hp:h.objs.size<=a)(new:cM P w (upd H a o) h' a o):cN P w (upd H a o) h':=fun b u e=>by
 have hn:=x.fresh hp
 by_cases hb:b=a
 ·subst hb;rw[fi]at e;cases e;exact new
 ·rw[ba hb]at e
  exact(x b u e).ji (fun c v _ q=>k c v q) (fun c q=>by rw[ba (ib q hn)];exact q) fun c xs q=>by rw[ba (ib q hn)];exact q
end
def Rd (H:Hp)(a:Addr)(u:HO):Prop:=H a=some u\/∃ o,H a=some (.dZ o u)
theorem Rd.of{H:Hp}{u:HO}(h:H a=some u):Rd H a u:=.inl h
theorem Rd.ok{H:Hp}{u:HO}(r:Rd H a u)(x:cN P w H h):cM P w H h a u:=by
 rcases r with r|⟨o,r⟩
 ·exact x a u r
 ·obtain⟨_,q⟩:=x a _ r
  exact q
def qy:Option HO->Prop
 | some (.lst _)=>True
 | some (.dK _)=>True
 | some (.dT _)=>True
 | some (.set _ _)=>True
 | some (.ins _ _ _)=>True
 | some (.ext _)=>True
 | _=>False
section
variable {P:Program}{w:World}{H:Hp}{h h':Heap}{x e:Addr}{o':HO}
theorem cN.write(ok:cN P w H h)(mu:qy (H x))(he:e=x\/H e=some (.own x))(k:∀ b u,b≠e->h.get? b=some u->h'.get? b=some u)(pw:∃ u,h'.get? e=some u)
  (new:cM P w (upd H x o') h' x o'):cN P w (upd H x o') h':=fun b u q=>by
 have qz:∀ c y,H c=some (.own y)->c≠x:=fun c y r z=>by subst z;rw[r]at mu;exact mu
 have vw:∀ c xs,H c=some (.tup xs)->c≠x:=fun c xs r z=>by subst z;rw[r]at mu;exact mu
 by_cases hb:b=x
 ·subst hb;rw[fi]at q;cases q;exact new
 ·rw[ba hb]at q
  by_cases nG:b=e
  ·have q':H b=some (.own x):=by
    rcases he with z|z
    ·exact absurd (nG.trans z) hb
    ·rw[nG];exact z
   rw[q]at q';cases q'
   obtain⟨v,hv⟩:=pw
   exact⟨v,by rw[nG];exact hv⟩
  ·refine(ok b u q).ji (fun c v hc r=>k c v ?_ r) (fun c r=>by rw[ba (qz c b r)];exact r) fun c xs r=>by rw[ba (vw c xs r)];exact r
   rcases hc with rfl|hc
   ·exact nG
   ·rintro rfl
    rcases he with z|z
    ·exact qz c b hc z
    ·rw[hc]at z;cases z;exact hb rfl
end
structure Un (fs ex:List Addr) (H H':Hp) (h h':Heap):Prop where
 keep:∀ b o,h.get? b=some o->H b=none->b ∉ fs->b ∉ ex->h'.get? b=some o
 slot:∀ b o,h.get? b=some o->H b=none->b∈fs->b ∉ ex->∃ sl,h'.get? b=some { o with slots:=sl }
 free:∀ b o,h.get? b=some o->H b=none->b ∉ ex->H' b=none
 there:∀ b o,h.get? b=some o->b ∉ ex->∃ o',h'.get? b=some o'
 f9:∀ b xs,H b=some (.tup xs)->H' b=some (.tup xs)
 fz:∀ b o u,H b=some (.dZ o u)->H' b=some (.dZ o u)
 f_:∀ b ps,H b=some (.ia ps)->∃ more,H' b=some (.ia (ps++more))
section
variable {fs b8 ex RK:List Addr}{H H1 H2:Hp}{h h1 h2 h':Heap}{a x e:Addr}{o:HO}
theorem Un.any(u:Un fs ex H H1 h h1){ob:Obj}(q:h.get? b=some ob)(n:H b=none)(hx:b ∉ ex):∃ sl,h1.get? b=some { ob with slots:=sl }:=by
 by_cases hb:b∈fs
 ·exact u.slot b ob q n hb hx
 ·exact⟨ob.slots,u.keep b ob q n hb hx⟩
theorem Un.kept(k:∀ b u,h.get? b=some u->h'.get? b=some u):Un fs ex H H h h':=
 ⟨fun b ob q _ _ _=>k b ob q,fun b ob q _ _ _=>⟨ob.slots,k b ob q⟩,fun _ _ _ n _=>n,fun b ob q _=>⟨ob,k b ob q⟩,fun _ _ q=>q,fun _ _ _ q=>q,fun _ ps q=>⟨#[],by rw[q];simp⟩⟩
theorem Un.refl:Un fs ex H H h h:=Un.kept fun _ _ q=>q
theorem Un.laid(k:∀ b u,h.get? b=some u->h'.get? b=some u)(hp:h.objs.size<=a)(hn:H a=none):Un fs ex H (upd H a o) h h' where
 keep:=fun b u q _ _ _=>k b u q
 slot:=fun b u q _ _ _=>⟨u.slots,k b u q⟩
 free:=fun b u q n _=>by rw[ba (QX (Ql (Qn q) hp))];exact n
 there:=fun b u q _=>⟨u,k b u q⟩
 f9:=fun b xs q=>by rw[ba (ib q hn)];exact q
 fz:=fun b u xs q=>by rw[ba (ib q hn)];exact q
 f_:=fun b ps q=>⟨#[],by rw[ba (ib q hn),q];simp⟩
theorem Un.write(mu:qy (H x))(he:e=x\/H e=some (.own x))(k:∀ b u,b≠e->h.get? b=some u->h'.get? b=some u)(pw:∃ u,h'.get? e=some u):Un fs ex H (upd H x o) h h':=by
 have hx:∀ b,H b=none->b≠x:=fun b n z=>by subst z;rw[n]at mu;exact mu
 have hb:∀ b,H b=none->b≠e:=fun b n z=>by
  subst z
  rcases he with r|r
  ·exact hx b n r
  ·rw[n]at r;cases r
 have hm:∀ b u,H b=some u->¬ qy (some u)->b≠x:=fun b u q nm z=>by subst z;rw[q]at mu;exact nm mu
 refine⟨fun b u q n _ _=>k b u (hb b n) q,fun b u q n _ _=>⟨u.slots,k b u (hb b n) q⟩,fun b u q n _=>by rw[ba (hx b n)];exact n,fun b u q _=>?_,
  fun b xs q=>by rw[ba (hm b _ q fun z=>z)];exact q,fun b u xs q=>by rw[ba (hm b _ q fun z=>z)];exact q,fun b ps q=>⟨#[],by rw[ba (hm b _ q fun z=>z),q];simp⟩⟩
 by_cases nG:b=e
 ·subst nG;exact pw
 ·exact⟨u,k b u nG q⟩
end
def qA (h:Heap)(H:Hp):List Addr:=(List.range h.objs.size).filter fun a=>(H a).isSome
def kT (h:Heap)(H:Hp):Heap:=PySem.W.hideAll h (qA h H)
theorem ED(h:Heap)(H:Hp):(kT h H).objs.size=h.objs.size:=PySem.W.hideAll_size _ _
theorem EE{H:Hp}(e:h.get? b=some o)(n:H b=none):(kT h H).get? b=some o:=
 PySem.W.hideAll_get _ e fun hm=>by
  have q:(H b).isSome=true:=(List.mem_filter.mp hm).2
  rw[n]at q;simp at q
theorem EF{H:Hp}(e:(kT h H).get? b=some o):h.get? b=some o/\H b=none:=by
 have e':h.get? b=some o:=PySem.W.of_hideAll (qA h H) e
 refine⟨e',?_⟩
 cases q:H b with
 | none=>rfl
 | some x=>
  have hm:b∈qA h H:=List.mem_filter.mpr ⟨QP.mpr (Qn e'),by simp[q]⟩
  have z:(kT h H).get? b=none:=PySem.W.hideAll_none (qA h H) hm
  rw[z]at e;cases e
def EG (g h:Heap)(L:Addr):List (Addr×Obj):=(List.range h.objs.size).filterMap fun a=>if a=L\/(g.get? a).isSome=true then none else(h.get? a).map fun o=>(a,o)
def bC (g h:Heap)(L d:Addr):List (Addr×Obj):=(EG g h L).filter fun p=>decide (p.1≠d)
structure Mod (K:PySem.W.Frag) (mg:Str->Option Value) (base:Heap):Prop where
 qB:K.In base
 glob:base.Ns mainGlobals mg
 blt:∃ mb,base.Ns builtinsNs mb/\∀ x:Str,x ≠ "__name__"->mb x=bootBuiltins x
 nolimit:base.NoLimit
structure Cx where
 prog:Program
 w:World
 K:PySem.W.Frag
 mg:Str->Option Value
 base:Heap
 A:Around
 N:List Str
 bL:Shared
 gf:Hp
 env:Env
 outer:List Env
 stack:List Env
 ex:List Addr
 fn:Str->Bool
 calm:Bool
 pn:List (Addr×Obj)
 xe:Value->Shared->Prop
def g_ (l:List Env):List Addr:=l.filterMap (·.frame)
abbrev Cx.fs (X:Cx):List Addr:=g_ X.outer
def px (sc:Scope)(x:Str):Prop:=sc.names.lookup x=some .local\/sc.names.lookup x=some .cell\/sc.names.lookup x=some .free
def Loc (sc:Scope)(x:Str):Prop:=sc.names.lookup x=some .local\/sc.names.lookup x=some .cell
def EH (env:Env)(h:Heap)(m:Str->Option Value)(x:Str)(u:Value):Prop:=
 (env.kindOf x=some .local/\m x=some u)\/((env.kindOf x=some .cell\/env.kindOf x=some .free)/\∃ c,env.cells.lookup x=some c/\h.IsCell c (some u))
structure Cx.Ok (X:Cx):Prop where
 mod:Mod X.K X.mg X.base
 kind:X.env.scope.kind=.function
 glob:X.env.globals=mainGlobals
 blt:X.env.builtins=builtinsNs
 above:X.bL.heap.objs.size<=X.env.locals
 inj:∀ x y c,X.env.cells.lookup x=some c->X.env.cells.lookup y=some c->x=y
 has:∀ x,(X.env.kindOf x=some .cell\/X.env.kindOf x=some .free)->∃ c,X.env.cells.lookup x=some c
 qC:∀ x c,X.fn x=true->X.env.cells.lookup x=some c->X.bL.heap.objs.size<=c
 hd:X.calm=true->X.A.handled=none
 frames:X.A.frames=some X.stack
 tq:X.stack=X.outer\/(X.stack=X.env::X.outer/\X.env.frame=some X.env.locals)
 vx:∀ b∈X.ex,b≠X.env.locals/\∀ x c,X.env.cells.lookup x=some c->c≠b
 bs:∀ b o,X.base.get? b=some o->X.bL.heap.get? b=some o/\X.gf b=none
 jI:X.base.objs.size<=X.bL.heap.objs.size
 jJ:∀ b o,X.base.get? b=some o->b ∉ X.ex
 jK:∀ b∈X.ex,b ∉ X.fs
 d4:X.bL.heap.FunFrames X.base X.outer
 nH:∀ b∈X.fs,X.gf b=none
structure Inv (X:Cx) (pins:List (Addr×Obj)) (σ:List (Option V)) (H:Hp) (s:Shared):Prop where
 ok:X.Ok
 os:s.os=X.bL.os
 bare:AllBare s.gens
 base:Un X.fs X.ex X.gf H X.bL.heap s.heap
 loc:∃ m,s.heap.Ns X.env.locals m/\∀ (i:Nat) (x:Str) (v:V),X.N[i]? = some x->σ[i]? = some (some v)->px X.env.scope x->∃ u,bj v u/\EH X.env s.heap m x u
 cell:∀ x c,X.env.cells.lookup x=some c->∃ v,s.heap.IsCell c v
 free:H X.env.locals=none
 cB:∀ x c,X.env.cells.lookup x=some c->H c=none
 pin:∀ p∈X.pn++pins,s.heap.get? p.1=some p.2/\H p.1=none/\p.1≠X.env.locals/\p.1 ∉ X.fs/\∀ v,p.2.data ≠ .cell v
 aF:cN X.prog X.w H s.heap
 len:σ.length=X.N.length
section
variable {X:Cx}{pins:List (Addr×Obj)}{σ:List (Option V)}{H H':Hp}{s:Shared}{h':Heap}
theorem Cx.Ok.vy(ok:X.Ok)(e:X.base.get? b=some o):b ∉ X.fs:=fun hb=>by
 have:=(ok.d4.mem hb).1
 rw[e]at this;cases this
theorem Inv.bs(I:Inv X pins σ H s):∀ b o,X.base.get? b=some o->s.heap.get? b=some o/\H b=none:=fun b o e=>
 ⟨I.base.keep b o (I.ok.bs b o e).1 (I.ok.bs b o e).2 (I.ok.vy e) (I.ok.jJ b o e),I.base.free b o (I.ok.bs b o e).1 (I.ok.bs b o e).2 (I.ok.jJ b o e)⟩
theorem Inv.bk(I:Inv X pins σ H s):∀ b o,X.base.get? b=some o->s.heap.get? b=some o:=fun b o e=>(I.bs b o e).1
theorem Inv.mod(I:Inv X pins σ H s):Mod X.K X.mg X.base:=I.ok.mod
theorem Inv.di(I:Inv X pins σ H s):X.K.In s.heap:=I.ok.mod.qB.keeps I.bk
theorem Inv.fr(I:Inv X pins σ H s):∃ m,Fr X.base X.env.locals s.heap m:=
 let ⟨m,hn,_⟩:=I.loc
 ⟨m,hn,I.bk,QK I.ok.jI I.ok.above⟩
theorem Inv.lt(I:Inv X pins σ H s):X.env.locals<s.heap.objs.size:=let ⟨_,hn,_⟩:=I.loc;hn.lt
theorem Inv.sz(I:Inv X pins σ H s):X.bL.heap.objs.size<=s.heap.objs.size:=QK I.ok.above (ZO I.lt)
theorem Inv.qD(I:Inv X pins σ H s)(h:s.heap.objs.size<=a):a ∉ X.fs:=fun hb=>by
 obtain⟨_,o,ho,_⟩:=I.ok.d4.mem hb
 exact absurd (Ql (Qn ho) (QK I.sz h)) (QL _)
theorem Inv.nI(I:Inv X pins σ H s):∀ x c,X.env.cells.lookup x=some c->c≠X.env.locals:=fun x c e z=>by
 obtain⟨v,o,ho,hd⟩:=I.cell x c e
 obtain⟨m,⟨o',es,ep,iI,l_,_⟩,_⟩:=I.loc
 rw[z,iI]at ho;cases ho;rw[l_]at hd;cases hd
theorem Inv.d4(I:Inv X pins σ H s):s.heap.FunFrames X.base X.outer:=by
 have all:∀ (l:List Env),(∀ b∈g_ l,b∈X.fs)->X.bL.heap.FunFrames X.base l->s.heap.FunFrames X.base l:=by
  intro l
  induction l with
  | nil=>intro _ _;trivial
  | cons env r ih=>
   intro hs hl
   obtain⟨hk,⟨L,o,hf,hn,ho,hd⟩,hr⟩:=hl
   have hL:L∈X.fs:=hs L (by unfold g_;rw[Jc,hf];exact Qd)
   obtain⟨sl,e⟩:=I.base.slot L o ho (I.ok.nH L hL) hL fun z=>I.ok.jK L z hL
   exact⟨hk,⟨L,_,hf,hn,e,hd⟩,ih (fun b hb=>hs b (by unfold g_;rw[Jc,hf];exact Qa _ hb)) hr⟩
 exact all X.outer (fun _ hb=>hb) I.ok.d4
theorem Inv.stack(I:Inv X pins σ H s):s.heap.FunFrames X.base X.stack:=by
 rcases I.ok.tq with e|⟨e,hf⟩
 ·rw[e];exact I.d4
 ·rw[e]
  obtain⟨m,hn,_⟩:=I.loc
  refine .cons (by rw[I.ok.kind];decide) hf hn ?_ I.d4
  exact Heap.get?_none_of_le (QK I.ok.jI I.ok.above)
theorem Inv.gh(I:Inv X pins σ H s):∀ b∈g_ X.stack,b∈X.env.locals::X.fs:=fun b hb=>by
 rcases I.ok.tq with e|⟨e,hf⟩
 ·rw[e]at hb;exact Qa _ hb
 ·rw[e]at hb
  unfold g_ at hb
  rw[Jc,hf]at hb
  exact hb
theorem Inv.iJ(I:Inv X pins σ H s):∀ b∈g_ X.stack,H b=none:=fun b hb=>by
 rcases Qr.mp (I.gh b hb)with e|hb
 ·rw[e];exact I.free
 ·obtain⟨_,o,ho,_⟩:=I.ok.d4.mem hb
  exact I.base.free b o ho (I.ok.nH b hb) fun z=>I.ok.jK b z hb
theorem Inv.step{g':Array GenState}{t':Nat}{d':Drawn}{ch:List Addr}(I:Inv X pins σ H s)
  (kn:∀ b∈ch,(b∈X.ex\/X.bL.heap.objs.size<=b)/\b≠X.env.locals/\(∀ x c,X.env.cells.lookup x=some c->c≠b)/\∀ p∈X.pn++pins,p.1≠b)
  (keep:∀ b o,b≠X.env.locals->b ∉ X.fs->b ∉ ch->s.heap.get? b=some o->H b=none->h'.get? b=some o)
  (slot:∀ b o,b≠X.env.locals->b∈X.fs->b ∉ ch->s.heap.get? b=some o->H b=none->∃ sl,h'.get? b=some { o with slots:=sl }) (free:∀ b o,b ∉ ch->s.heap.get? b=some o->H b=none->H' b=none)
  (there:∀ b o,b ∉ ch->s.heap.get? b=some o->∃ o',h'.get? b=some o')
  (f9:∀ b xs,H b=some (.tup xs)->H' b=some (.tup xs)) (fz:∀ b o u,H b=some (.dZ o u)->H' b=some (.dZ o u)) (f_:∀ b ps,H b=some (.ia ps)->∃ more,H' b=some (.ia (ps++more)))
  (ns:∀ m,s.heap.Ns X.env.locals m->h'.Ns X.env.locals m) (aF:cN X.prog X.w H' h') (hg:AllBare g') :
  Inv X pins σ H' { s with heap:=h',gens:=g',drawn:=d',toks:=t' }:=by
 have zg:∀ b o,X.bL.heap.get? b=some o->b≠X.env.locals:=fun b o e=>QX (Ql (Qn e) I.ok.above)
 have tu:∀ b o,X.bL.heap.get? b=some o->b ∉ X.ex->b ∉ ch:=fun b o e hx hb=>by
  rcases(kn b hb).1 with z|z
  ·exact hx z
  ·exact absurd (Ql (Qn e) z) (QL _)
 have cellK:∀ x c,X.env.cells.lookup x=some c->∀ v,s.heap.IsCell c v->h'.IsCell c v:=fun x c e v ai=>by
  obtain⟨o,ho,hd⟩:=ai
  have qE:c ∉ ch:=fun z=>(kn c z).2.2.1 x c e rfl
  by_cases hc:c∈X.fs
  ·obtain⟨sl,q⟩:=slot c o (I.nI x c e) hc qE ho (I.cB x c e)
   exact⟨_,q,hd⟩
  ·exact⟨o,keep c o (I.nI x c e) hc qE ho (I.cB x c e),hd⟩
 refine⟨I.ok,I.os,hg,⟨fun b o e n hb hx=>?_,fun b o e n hb hx=>?_,fun b o e n hx=>?_,fun b o e hx=>?_,fun b xs e=>f9 b xs (I.base.f9 b xs e),fun b o xs e=>fz b o xs (I.base.fz b o xs e),fun b ps e=>?_⟩,?_,fun x c e=>?_,?_,fun x c e=>?_,fun p hp=>?_,aF,I.len⟩
 ·exact keep b o (zg b o e) hb (tu b o e hx) (I.base.keep b o e n hb hx) (I.base.free b o e n hx)
 ·obtain⟨sl,e1⟩:=I.base.slot b o e n hb hx
  obtain⟨zh,e2⟩:=slot b _ (zg b o e) hb (tu b o e hx) e1 (I.base.free b o e n hx)
  exact⟨zh,e2⟩
 ·obtain⟨o',e1⟩:=I.base.there b o e hx
  exact free b o' (tu b o e hx) e1 (I.base.free b o e n hx)
 ·obtain⟨o',e1⟩:=I.base.there b o e hx
  exact there b o' (tu b o e hx) e1
 ·obtain⟨m1,e1⟩:=I.base.f_ b ps e
  obtain⟨m2,e2⟩:=f_ b _ e1
  exact⟨m1++m2,by rw[e2,Array.append_assoc]⟩
 ·obtain⟨m,hn,hl⟩:=I.loc
  refine⟨m,ns m hn,fun i x v e1 e2 e3=>?_⟩
  obtain⟨u,r,l⟩:=hl i x v e1 e2 e3
  refine⟨u,r,?_⟩
  rcases l with l|⟨k,c,e,z⟩
  ·exact .inl l
  ·exact .inr ⟨k,c,e,cellK x c e _ z⟩
 ·obtain⟨v,z⟩:=I.cell x c e
  exact⟨v,cellK x c e v z⟩
 ·obtain⟨m,⟨o,_,_,ho,_⟩,_⟩:=I.loc
  exact free _ o (fun z=>(kn _ z).2.1 rfl) ho I.free
 ·obtain⟨v,o,ho,hd⟩:=I.cell x c e
  exact free c o (fun z=>(kn c z).2.2.1 x c e rfl) ho (I.cB x c e)
 ·obtain⟨e,n,ne,nf,d⟩:=I.pin p hp
  have qE:p.1 ∉ ch:=fun z=>(kn p.1 z).2.2.2 p hp rfl
  exact⟨keep p.1 p.2 ne nf qE e n,free p.1 p.2 qE e n,ne,nf,d⟩
theorem Inv.un{t':Nat}(I:Inv X pins σ H s)(u:Un X.fs [] H H' s.heap h')(aF:cN X.prog X.w H' h'):Inv X pins σ H' { s with heap:=h',toks:=t' }:=by
 obtain⟨m,⟨o,es,ep,ho,r⟩,_⟩:=id I.loc
 obtain⟨sl,hL⟩:=u.any ho I.free (by simp)
 exact I.step (g':=s.gens) (d':=s.drawn) (ch:=[]) (fun _ z=>nomatch z) (fun b o _ hb _ e n=>u.keep b o e n hb (by simp)) (fun b o _ hb _ e n=>u.slot b o e n hb (by simp)) (fun b o _ e n=>u.free b o e n (by simp)) (fun b o _ e=>u.there b o e (by simp)) u.f9 u.fz u.f_ (fun m' hm=>by
  obtain⟨o',vz,vA,iI,r'⟩:=hm
  rw[ho]at iI;cases iI
  exact⟨_,vz,vA,hL,r'⟩) aF I.bare
theorem Inv.call{g':Array GenState}{t':Nat}{d':Drawn}{ch:List Addr}(I:Inv X pins σ H s)(u:Un (g_ X.stack) ch H H' s.heap h')(aF:cN X.prog X.w H' h')(hg:AllBare g')
  (kn:∀ b∈ch,(b∈X.ex\/X.bL.heap.objs.size<=b)/\b≠X.env.locals/\(∀ x c,X.env.cells.lookup x=some c->c≠b)/\∀ p∈X.pn++pins,p.1≠b) :
  Inv X pins σ H' { s with heap:=h',gens:=g',drawn:=d',toks:=t' }:=by
 obtain⟨m,⟨o,es,ep,ho,r⟩,_⟩:=id I.loc
 obtain⟨sl,hL⟩:=u.any ho I.free fun z=>(kn _ z).2.1 rfl
 exact I.step (ch:=ch) kn (fun b o hL hb hc e n=>u.keep b o e n (fun z=>(Qr.mp (I.gh b z)).elim hL hb) hc) (fun b o _ _ hc e n=>u.any e n hc) (fun b o hc e n=>u.free b o e n hc) (fun b o hc e=>u.there b o e hc) u.f9 u.fz u.f_ (fun m' hm=>by
  obtain⟨o',vz,vA,iI,r'⟩:=hm
  rw[ho]at iI;cases iI
  exact⟨_,vz,vA,hL,r'⟩) aF hg
theorem Inv.turned{t':Nat}(I:Inv X pins σ H s)(k:∀ b o,b≠it->s.heap.get? b=some o->h'.get? b=some o)(hn:H it=none)(hL:it≠X.env.locals)
  (h1:it∈X.ex\/X.bL.heap.objs.size<=it) (h2:∀ x c,X.env.cells.lookup x=some c->c≠it) (h3:∀ p∈X.pn++pins,p.1≠it):Inv X pins σ H { s with heap:=h',toks:=t' }:=by
 have zi:∀ b u,H b=some u->b≠it:=fun b u e z=>by rw[z,hn]at e;cases e
 refine I.step (g':=s.gens) (d':=s.drawn) (ch:=[it]) (fun b hb=>?_) (fun b o _ _ hc e _=>k b o (fun z=>hc (by simp[z])) e) (fun b o _ _ hc e _=>⟨o.slots,k b o (fun z=>hc (by simp[z])) e⟩) (fun _ _ _ _ n=>n)
  (fun b o hc e=>⟨o,k b o (fun z=>hc (by simp[z])) e⟩) (fun _ _ e=>e) (fun _ _ _ e=>e) (fun b ps e=>⟨#[],by rw[e];simp⟩) (fun m hm=>?_) (fun b u e=>?_) I.bare
 ·have e:b=it:=by simpa using hb
  subst e
  exact⟨h1,hL,h2,h3⟩
 ·obtain⟨o,es,ep,ho,r⟩:=hm
  exact⟨o,es,ep,k _ o (Z5 hL) ho,r⟩
 ·refine(I.aF b u e).ji (fun c v hc q=>k c v ?_ q) (fun _ q=>q) fun _ _ q=>q
  rcases hc with z|z
  ·rw[z];exact zi b u e
  ·exact zi c _ z
theorem Inv.tok(I:Inv X pins σ H s)(t:Nat):Inv X pins σ H { s with toks:=t }:=I.un (h':=s.heap) (t':=t) Un.refl I.aF
theorem Inv.kept{t':Nat}(I:Inv X pins σ H s)(k:∀ b u,s.heap.get? b=some u->h'.get? b=some u):Inv X pins σ H { s with heap:=h',toks:=t' }:=I.un (Un.kept k) (I.aF.kept k)
theorem Inv.laid{o:HO}{t':Nat}(I:Inv X pins σ H s)(k:∀ b u,s.heap.get? b=some u->h'.get? b=some u)(hp:s.heap.objs.size<=a)(new:cM X.prog X.w (upd H a o) h' a o) :
  Inv X pins σ (upd H a o) { s with heap:=h',toks:=t' }:=I.un (Un.laid k hp (I.aF.fresh hp)) (I.aF.laid k hp new)
theorem Inv.write{x e:Addr}{o:HO}{t':Nat}(I:Inv X pins σ H s)(mu:qy (H x))(he:e=x\/H e=some (.own x))(k:∀ b u,b≠e->s.heap.get? b=some u->h'.get? b=some u)(pw:∃ u,h'.get? e=some u)
  (new:cM X.prog X.w (upd H x o) h' x o):Inv X pins σ (upd H x o) { s with heap:=h',toks:=t' }:=I.un (Un.write mu he k pw) (I.aF.write mu he k pw new)
theorem Inv.weak{aA:List (Option V)}(I:Inv X pins σ H s)(hl:aA.length=σ.length)(w:∀ (i:Nat) v,aA[i]? = some (some v)->σ[i]? = some (some v)):Inv X pins aA H s:=
 ⟨I.ok,I.os,I.bare,I.base,let ⟨m,hn,fj⟩:=I.loc;⟨m,hn,fun i x v e1 e2 e3=>fj i x v e1 (w i v e2) e3⟩,I.cell,I.free,I.cB,I.pin,I.aF,hl.trans I.len⟩
theorem Inv.eF{pins':List (Addr×Obj)}(I:Inv X pins σ H s)(h:∀ p∈pins',s.heap.get? p.1=some p.2/\H p.1=none/\p.1≠X.env.locals/\p.1 ∉ X.fs/\∀ v,p.2.data ≠ .cell v):Inv X pins' σ H s:=
 ⟨I.ok,I.os,I.bare,I.base,I.loc,I.cell,I.free,I.cB,fun p hp=>(QN.mp hp).elim (fun z=>I.pin p (QM _ z)) (h p),I.aF,I.len⟩
theorem zj(hN:N.Nodup)(a:N[i]? = some x)(b:N[j]? = some x):i=j:=by
 obtain⟨h1,e1⟩:=Qv.mp a
 obtain⟨h2,e2⟩:=Qv.mp b
 exact(List.getElem_inj hN).mp (e1.trans e2.symm)
theorem zk{M:Model}{A:Around}{E:Value->Shared->Prop}{v:V}{Q:Unit->Shared->Prop}(I:Inv X pins σ H s)(hN:X.N.Nodup)(hi:X.N[i]? = some x)(hx:Loc X.env.scope x)(r:bj v u)
  (h:∀ s',Inv X pins (σ.set i (some v)) H s'->(∃ a,Heap.SameBut a s.heap s'.heap/\(a=X.env.locals\/X.env.cells.lookup x=some a))->Q () s') (hf:X.fn x=true\/X.env.scope.names.lookup x=some .local:=by first|exact .inl rfl|exact .inr rfl|assumption):wpAny M A (storeName X.env x u) Q E s:=by
 obtain⟨m,hn,hl⟩:=id I.loc
 have vB:(X.env.scope.kind == .class||(X.env.scope.kind == .module&&X.env.locals != X.env.globals))=false:=by rw[I.ok.kind];rfl
 have qF:i<σ.length:=by rw[I.len];exact(Qv.mp hi).1
 have nI:=I.nI
 have tracked:∀ {a:Addr} {h':Heap},(∃ o,s.heap.get? a=some o/\H a=none)->Heap.SameBut a s.heap h'->cN X.prog X.w H h':=fun {a h'} ha hs b ob e=>by
  obtain⟨_,_,ma⟩:=ha
  refine(I.aF b ob e).ji (fun c w' hc q=>(hs.2 c ?_).trans q) (fun _ q=>q) fun _ _ q=>q
  rintro rfl
  rcases hc with rfl|hc
  ·rw[ma]at e;cases e
  ·rw[ma]at hc;cases hc
 rcases hx with hk|hk
 ·refine wpAny_storeName_local hk hn (fun h' vC hs=>?_) vB
  obtain⟨oL,_,_,EI,_⟩:=id hn
  refine h _ ⟨I.ok,I.os,I.bare,⟨fun b o e n hb hx=>?_,fun b o e n hb hx=>?_,I.base.free,fun b o e hx=>?_,I.base.f9,I.base.fz,I.base.f_⟩,⟨_,vC,fun j y v' e1 e2 e3=>?_⟩,fun y c e=>?_,I.free,I.cB,fun p hp=>?_,tracked ⟨oL,EI,I.free⟩ hs,by simpa using I.len⟩ ⟨_,hs,.inl rfl⟩
  ·exact(hs.2 b (QX (Ql (Qn e) I.ok.above))).trans (I.base.keep b o e n hb hx)
  ·obtain⟨sl,e1⟩:=I.base.slot b o e n hb hx
   exact⟨sl,(hs.2 b (QX (Ql (Qn e) I.ok.above))).trans e1⟩
  ·obtain⟨o',e1⟩:=I.base.there b o e hx
   exact⟨o',(hs.2 b (QX (Ql (Qn e) I.ok.above))).trans e1⟩
  ·by_cases hj:j=i
   ·subst hj
    rw[hi]at e1;cases e1
    rw[Qz qF]at e2
    cases e2
    exact⟨u,r,.inl ⟨hk,by simp⟩⟩
   ·rw[Qx (Z5 hj)]at e2
    obtain⟨u',r',q⟩:=hl j y v' e1 e2 e3
    refine⟨u',r',?_⟩
    rcases q with⟨k,e⟩|⟨k,c,e,z⟩
    ·refine .inl ⟨k,?_⟩
     have:y≠x:=fun e=>hj (zj hN e1 (e ▸ hi))
     simp[this,e]
    ·exact .inr ⟨k,c,e,z.sameBut hs (nI y c e)⟩
  ·obtain⟨w',z⟩:=I.cell y c e
   exact⟨w',z.sameBut hs (nI y c e)⟩
  ·obtain⟨e,n,ne,nf,d⟩:=I.pin p hp
   exact⟨(hs.2 p.1 ne).trans e,n,ne,nf,d⟩
 ·have vD:X.fn x=true:=by
   rcases hf with z|z
   ·exact z
   ·rw[z]at hk;cases hk
  obtain⟨c,hc⟩:=I.ok.has x (.inl hk)
  obtain⟨w',z⟩:=I.cell x c hc
  refine wpAny_storeName_cell I.ok.kind hk hc z (fun h' me hs=>?_)
  obtain⟨oc,zl,vE⟩:=id z
  refine h { s with heap:=h' } ⟨I.ok,I.os,I.bare,⟨fun b o e n hb hx=>?_,fun b o e n hb hx=>?_,I.base.free,fun b o e hx=>?_,I.base.f9,I.base.fz,I.base.f_⟩,⟨m,hn.sameBut hs (Z5 (nI x c hc)),fun j y v' e1 e2 e3=>?_⟩,fun y c' e=>?_,I.free,I.cB,fun p hp=>?_,tracked ⟨oc,zl,I.cB x c hc⟩ hs,by simpa using I.len⟩ ⟨c,hs,.inr hc⟩
  ·exact(hs.2 b (QX (Ql (Qn e) (I.ok.qC x c vD hc)))).trans (I.base.keep b o e n hb hx)
  ·obtain⟨sl,e1⟩:=I.base.slot b o e n hb hx
   exact⟨sl,(hs.2 b (QX (Ql (Qn e) (I.ok.qC x c vD hc)))).trans e1⟩
  ·obtain⟨o',e1⟩:=I.base.there b o e hx
   exact⟨o',(hs.2 b (QX (Ql (Qn e) (I.ok.qC x c vD hc)))).trans e1⟩
  ·by_cases hj:j=i
   ·subst hj
    rw[hi]at e1;cases e1
    rw[Qz qF]at e2
    cases e2
    exact⟨u,r,.inr ⟨.inl hk,c,hc,me⟩⟩
   ·rw[Qx (Z5 hj)]at e2
    obtain⟨u',r',q⟩:=hl j y v' e1 e2 e3
    refine⟨u',r',?_⟩
    rcases q with q|⟨k,c',e,z'⟩
    ·exact .inl q
    ·refine .inr ⟨k,c',e,z'.sameBut hs ?_⟩
     rintro rfl
     exact hj (zj hN e1 (I.ok.inj _ _ _ e hc ▸ hi))
  ·by_cases zm:c'=c
   ·subst zm;exact⟨_,me⟩
   ·obtain⟨w2,z2⟩:=I.cell y c' e
    exact⟨w2,z2.sameBut hs zm⟩
  ·obtain⟨e,n,ne,nf,d⟩:=I.pin p hp
   refine⟨(hs.2 p.1 ?_).trans e,n,ne,nf,d⟩
   intro q
   rw[q,zl]at e
   have q':oc=p.2:=Qp e
   exact d w' (by rw[<- q'];exact vE)
theorem zo{M:Model}{A:Around}{E:Value->Shared->Prop}{v:V}{Q:Unit->Shared->Prop}(I:Inv X pins σ H s)(hN:X.N.Nodup)(hi:X.N[i]? = some x)(hx:Loc X.env.scope x)(r:bj v u)
  (h:∀ s',Inv X pins (σ.set i (some v)) H s'->Q () s') (hf:X.fn x=true\/X.env.scope.names.lookup x=some .local:=by first|exact .inl rfl|exact .inr rfl|assumption):wpAny M A (storeName X.env x u) Q E s:=
 zk I hN hi hx r (fun s' I' _=>h s' I') hf
theorem Inv.qG{ch:List Addr}(I:Inv X pins σ H s)(ho:s'.os=s.os)(u:Un (g_ X.stack) ch H H' s.heap s'.heap)(aF:cN X.prog X.w H' s'.heap)(hg:AllBare s'.gens)
  (kn:∀ b∈ch,(b∈X.ex\/X.bL.heap.objs.size<=b)/\b≠X.env.locals/\(∀ x c,X.env.cells.lookup x=some c->c≠b)/\∀ p∈X.pn++pins,p.1≠b):Inv X pins σ H' s':=by
 obtain⟨h',g',d',t',o'⟩:=s'
 have e:o'=s.os:=ho
 subst e
 exact I.call (g':=g') (t':=t') (d':=d') u aF hg kn
end
abbrev XK:=Value->Option Addr->Hp->Prop
abbrev St:=List (Option V)
abbrev VK:=V->Hp->Prop
abbrev TE:=St->Hp->VK->Prop
abbrev TT:=St->Hp->(Bool->Hp->Prop)->Prop
abbrev TA:=St->Hp->(List V->Hp->Prop)->Prop
structure Ends where
 nx:St->Hp->Prop
 rt:VK
 bk:St->Hp->Prop:=fun _ _=>False
 ct:St->Hp->Prop:=fun _ _=>False
abbrev TS:=Ends->St->Hp->Prop
def EP (X:Cx)(pins:List (Addr×Obj))(σ:St)(Q:VK)(u:Value)(s':Shared):Prop:=∃ v H',Inv X pins σ H' s'/\bj v u/\Q v H'
def TP (X:Cx)(pins:List (Addr×Obj))(σ:St)(Q:Bool->Hp->Prop)(b:Bool)(s':Shared):Prop:=∃ H',Inv X pins σ H' s'/\Q b H'
def AP (X:Cx)(pins:List (Addr×Obj))(σ:St)(Q:List V->Hp->Prop)(us:List Value)(s':Shared):Prop:=∃ vs H',Inv X pins σ H' s'/\aR vs us/\Q vs H'
def SP (X:Cx)(pins:List (Addr×Obj))(D:Ends)(f:Flow)(s':Shared):Prop:=
 match f with
 | .next=>∃ aA H',Inv X pins aA H' s'/\D.nx aA H'
 | .brk=>∃ aA H',Inv X pins aA H' s'/\D.bk aA H'
 | .cont=>∃ aA H',Inv X pins aA H' s'/\D.ct aA H'
 | .ret u=>∃ v aA H',Inv X pins aA H' s'/\bj v u/\D.rt v H'
def PE (X:Cx)(e:Expr)(t:TE):Prop:=
 ∀ (pins:List (Addr×Obj)) (s:Shared) (σ:St) (H:Hp) (Q:VK),Inv X pins σ H s->t σ H Q->wpAny (model X.prog X.w) X.A (eval e X.env) (EP X pins σ Q) X.xe s
structure QE (X:Cx) (e:Expr) (t:TE):Prop where mk::o:PE X e t
def PT (X:Cx)(e:Expr)(t:TT):Prop:=
 ∀ (pins:List (Addr×Obj)) (s:Shared) (σ:St) (H:Hp) (Q:Bool->Hp->Prop),Inv X pins σ H s->t σ H Q->wpAny (model X.prog X.w) X.A (isTrue e X.env (eval e X.env)) (TP X pins σ Q) X.xe s
def PW (X:Cx)(e:Expr)(t:TT):Prop:=
 ∀ (whole:Sem Value) (pins:List (Addr×Obj)) (s:Shared) (σ:St) (H:Hp) (Q:Bool->Hp->Prop),Inv X pins σ H s->t σ H Q->wpAny (model X.prog X.w) X.A (isTrue e X.env whole) (TP X pins σ Q) X.xe s
theorem PW.pt{X:Cx}{t:TT}(h:PW X e t):PT X e t:=h _
def PA (X:Cx)(es:List Expr)(t:TA):Prop:=
 ∀ (pos:Pos) (pins:List (Addr×Obj)) (s:Shared) (σ:St) (H:Hp) (Q:List V->Hp->Prop),Inv X pins σ H s->t σ H Q->wpAny (model X.prog X.w) X.A (spliced (backTo pos (starEach es X.env))) (AP X pins σ Q) X.xe s
def PS (X:Cx)(st:Stmt)(t:TS):Prop:=
 ∀ (pins:List (Addr×Obj)) (s:Shared) (σ:St) (H:Hp) (D:Ends),Inv X pins σ H s->t D σ H->wpAny (model X.prog X.w) X.A (exec st X.env) (SP X pins D) X.xe s
def gi (X:Cx)(st:List Stmt)(t:TS):Prop:=
 ∀ (pins:List (Addr×Obj)) (s:Shared) (σ:St) (H:Hp) (D:Ends),Inv X pins σ H s->t D σ H->wpAny (model X.prog X.w) X.A (execs st X.env) (SP X pins D) X.xe s
theorem aV{α:Type}{t:Sem α}{Q Q':α->Shared->Prop}(h:wpAny M A t Q E s)(hQ:∀ a s,Q a s->Q' a s):wpAny M A t Q' E s:=Zr h hQ fun _ _ x=>x
section
variable {X:Cx}
def fO (i:Nat):TE:=fun σ H Q=>∃ v,σ[i]? = some (some v)/\Q v H
def tC (v:V):TE:=fun _ H Q=>Q v H
theorem EJ{pos:Pos}(hN:X.N[i]? = some x)(hv:px X.env.scope x)(hd:(x==("__debug__":Str))=false:=by decide)(fA:(x==("__classdict__":Str))=false:=by decide):PE X (.Name x pos) (fO i):=by
 intro pins s σ H Q I h
 obtain⟨v,e,h⟩:=h
 obtain⟨m,hn,hl⟩:=I.loc
 obtain⟨u,r,l⟩:=hl i x v hN e hv
 have fin:EP X pins σ Q u s:=⟨v,H,I,r,h⟩
 rcases l with⟨hk,hm⟩|⟨hk,c,hc,iK⟩
 ·exact wpAny_Name (wpAny_loadName_local I.ok.kind hk hn hm fin) hd
 ·rcases hk with hk|hk
  ·exact wpAny_Name (wpAny_loadName_cell I.ok.kind hk hc iK fin) hd
  ·exact wpAny_Name (wpAny_loadName_free I.ok.kind hk hc iK fin fA) hd
theorem zp{i j pos}:PE X (.Constant (.int i) j pos) (tC (.int i)):=fun _ _ _ H _ I h=>wpAny_Constant_int ⟨.int i,H,I.tok _,⟨_,rfl⟩,h⟩
theorem EK{b j pos}:PE X (.Constant (.bool b) j pos) (tC (.bl b)):=fun _ _ _ H _ I h=>Constant_bool ⟨.bl b,H,I,rfl,h⟩
theorem EL{j pos}:PE X (.Constant .none j pos) (tC .aS):=fun _ _ _ H _ I h=>Constant_none ⟨.aS,H,I,rfl,h⟩
theorem vF{x j pos}:PE X (.Constant (.str x) j pos) (tC (.str x)):=fun _ _ _ H _ I h=>Calls.Constant_str ⟨.str x,H,I.tok _,⟨_,rfl⟩,h⟩
def Gl (X:Cx)(x:Str):Prop:=X.env.kindOf x=some .globalImplicit
theorem zq{E:Value->Shared->Prop}{σ:St}{H:Hp}{pos:Pos}(I:Inv X pins σ H s)(hg:Gl X x)(hm:X.mg x=some u)(h:Q u s)
  (hd:(x==("__debug__":Str))=false:=by decide):wpAny (model X.prog X.w) X.A (eval (.Name x pos) X.env) Q E s:=
 Jk I.ok.kind hg (Calls.loadGlobal_global (by rw[I.ok.glob];exact I.mod.glob.keeps I.bk) hm h) hd
theorem qH{E:Value->Shared->Prop}{σ:St}{H:Hp}{pos:Pos}(I:Inv X pins σ H s)(hg:Gl X x)(hm:X.mg x=none)(hv:bootBuiltins x=some u)(h:Q u s)
  (hn:x ≠ "__name__":=by decide) (hd:(x==("__debug__":Str))=false:=by decide):wpAny (model X.prog X.w) X.A (eval (.Name x pos) X.env) Q E s:=by
 obtain⟨mb,h1,h2⟩:=I.mod.blt
 exact Jk I.ok.kind hg (Calls.loadGlobal_builtin (by rw[I.ok.glob];exact I.mod.glob.keeps I.bk) hm (by rw[I.ok.blt];exact h1.keeps I.bk) ((h2 x hn).trans hv) h) hd
theorem EM{v:V}{pos:Pos}(hg:Gl X x)(hm:X.mg x=none)(hv:bootBuiltins x=some u)(r:bj v u)(hn:x ≠ "__name__":=by decide)(hd:(x==("__debug__":Str))=false:=by decide):PE X (.Name x pos) (tC v):=
 fun _ _ _ H _ I h=>qH I hg hm hv ⟨v,H,I,r,h⟩ hn hd
variable {a b:Expr}{ta tb:TE}{pos:Pos}
variable {tA zr:TT}{bC:List Expr}
def EN (t u:TT):TT:=fun σ H Q=>t σ H fun c H1=>if c=true then Q true H1 else u σ H1 Q
def EO (t:TT):TT:=fun σ H Q=>t σ H fun c H1=>Q (!c) H1
theorem ER(ha:PT X a tA):PW X (.BoolOp .Or [a] pos) tA:=by
 intro wh pins s σ H Q I h
 refine isTrue_or (aV (ha pins s σ H Q I h) fun c s1 e=>?_)
 cases c with
 | false=>exact isTrue_or_nil e
 | true=>exact e
theorem ES(ha:PT X a tA)(hb:PW X (.BoolOp .Or (b::bC) pos) zr):PW X (.BoolOp .Or (a::b::bC) pos) (EN tA zr):=by
 intro wh pins s σ H Q I h
 refine isTrue_or (aV (ha pins s σ H _ I h) fun c s1 ai=>?_)
 obtain⟨H1,I1,q1⟩:=ai
 cases c with
 | true=>exact⟨H1,I1,q1⟩
 | false=>exact hb wh pins s1 σ H1 Q I1 q1
theorem ET(ha:PT X a tA):PT X (.UnaryOp .Not a pos) (EO tA):=by
 intro pins s σ H Q I h
 exact isTrue_not (ha pins s σ H (fun c H1=>Q (!c) H1) I h)
def EU (ta tb:TE):TE:=fun σ H Q=>ta σ H fun x H1=>∃ c,x=.bl c/\if c=true then tb σ H1 Q else Q (.bl false) H1
def EV (ta:TE):TE:=fun σ H Q=>ta σ H fun x H1=>∃ c,x=.bl c/\Q (.bl (!c)) H1
theorem EW{op}{t:TE}(h:PE X a t):PE X (.BoolOp op [a] pos) t:=fun pins s σ H Q I hw=>BoolOp_one (h pins s σ H Q I hw)
theorem EX(ha:PE X a ta)(hb:PE X (.BoolOp .And (b::bC) pos) tb):PE X (.BoolOp .And (a::b::bC) pos) (EU ta tb):=by
 intro pins s σ H Q I h
 refine BoolOp_and (aV (ha pins s σ H _ I h) fun v s1 ai=>?_)
 obtain⟨x,H1,I1,r1,q1⟩:=ai
 obtain⟨c,rfl,q1⟩:=q1
 cases r1
 refine Zo ?_
 cases c with
 | true=>exact hb pins s1 σ H1 Q I1 q1
 | false=>exact⟨.bl false,H1,I1,rfl,q1⟩
theorem EY(ha:PE X a ta):PE X (.UnaryOp .Not a pos) (EV ta):=by
 intro pins s σ H Q I h
 refine UnaryOp_ (aV (ha pins s σ H _ I h) fun v s1 ai=>?_)
 obtain⟨x,H1,I1,r1,q1⟩:=ai
 obtain⟨c,rfl,q1⟩:=q1
 cases r1
 exact not_of (Zo ⟨.bl (!c),H1,I1,rfl,q1⟩)
def EZ (t:TT)(ta tb:TE):TE:=fun σ H Q=>t σ H fun c H1=>if c=true then ta σ H1 Q else tb σ H1 Q
theorem E1(hc:PT X c tA)(ha:PE X a ta)(hb:PE X b tb):PE X (.IfExp c a b pos) (EZ tA ta tb):=by
 intro pins s σ H Q I h
 refine wpAny_IfExp (aV (hc pins s σ H _ I h) fun d s1 ai=>?_)
 obtain⟨H1,I1,q1⟩:=ai
 cases d with
 | true=>exact ha pins s1 σ H1 Q I1 q1
 | false=>exact hb pins s1 σ H1 Q I1 q1
end
def bX (K:PySem.W.Frag)(H:Hp)(a:Addr)(xs:List V):Prop:=
 Rd H a (.lst xs) \/
  ∃ (o:Obj) (ak:Array Value) (n:Nat),K.lookup a=some o/\o.cls=.type "list" /\ o.dict=none/\o.data=.seq ak n/\ak.size<=sizeLine/\aR xs ak.toList
def cC (K:PySem.W.Frag)(H:Hp)(a:Addr)(xs:List V):Prop:=
 Rd H a (.tup xs) \/
  ∃ (o:Obj) (ak:Array Value) (n:Nat),K.lookup a=some o/\o.cls=.type "tuple" /\ o.data=.seq ak n/\ak.size<=sizeLine/\aR xs ak.toList
def E2:Value->Option V
 | .none=>some .aS
 | .bool b=>some (.bl b)
 | .int i _=>some (.int i)
 | .str x _=>some (.str x)
 | .bytes b _=>some (.pq b)
 | .float b _=>some (.nF b)
 | .ref a=>some (.ref a)
 | .type n=>some (.ty n)
 | _=>none
theorem bj.abs{x:V}(r:bj x u):E2 u=some x:=by
 cases x with
 | aS=>cases r;rfl
 | bl _=>cases r;rfl
 | int _=>obtain⟨t,rfl⟩:=r;rfl
 | str _=>obtain⟨t,rfl⟩:=r;rfl
 | pq _=>obtain⟨t,rfl⟩:=r;rfl
 | nF _=>obtain⟨t,rfl⟩:=r;rfl
 | ref _=>cases r;rfl
 | ty _=>cases r;rfl
theorem bj.inj{x y:V}(r:bj x u)(q:bj y u):x=y:=Qp (r.abs.symm.trans q.abs)
theorem aR.inj:∀ {xs ys:List V} {us:List Value},aR xs us->aR ys us->xs=ys
 | _,_,_,.nil,.nil=>rfl
 | _,_,_,.cons r t,.cons r' t'=>by rw[r.inj r',aR.inj t t']
section
variable {X:Cx}{pins:List (Addr×Obj)}{σ:St}{H:Hp}{s:Shared}{a:Addr}{xs ys:List V}
theorem bX.of(h:H a=some (.lst xs)):bX K H a xs:=.inl (.inl h)
theorem cC.of(h:H a=some (.tup xs)):cC K H a xs:=.inl (.inl h)
theorem Inv.list(I:Inv X pins σ H s)(h:bX X.K H a xs):∃ ak:List Value,aR xs ak/\PlainL s.heap a ak.toArray/\xs.length<=sizeLine:=by
 rcases h with h|⟨o,ak,n,hk,hc,hd,hs,hz,r⟩
 ·obtain⟨z,ak,n,r,e⟩:=h.ok I.aF
  exact⟨ak,r,⟨_,n,e,rfl,rfl,rfl⟩,z⟩
 ·refine⟨ak.toList,r,⟨o,n,I.di a o hk,hc,hd,by simpa using hs⟩,?_⟩
  have e:=r.length
  simp only[Za]at e
  omega
theorem Inv.tuple(I:Inv X pins σ H s)(h:cC X.K H a xs):∃ ak:List Value,aR xs ak/\IsTup s.heap a ak.toArray/\xs.length<=sizeLine:=by
 rcases h with h|⟨o,ak,n,hk,hc,hs,hz,r⟩
 ·obtain⟨z,ak,r,p⟩:=h.ok I.aF
  exact⟨ak,r,p.tup,z⟩
 ·refine⟨ak.toList,r,⟨o,I.di a o hk,hc,n,by simpa using hs⟩,?_⟩
  have e:=r.length
  simp only[Za]at e
  omega
theorem Inv.jL(I:Inv X pins σ H s)(h:bX X.K H a xs)(h':bX X.K H a ys):xs=ys:=by
 obtain⟨ak,r,⟨o,n,e,_,_,d⟩,_⟩:=I.list h
 obtain⟨its',r',⟨o',n',e',_,_,d'⟩,_⟩:=I.list h'
 rw[e]at e';cases e'
 rw[d]at d'
 injection d' with d1 _
 have:ak=its':=by simpa using ZG Array.toList d1
 subst this
 exact r.inj r'
theorem Inv.jj(I:Inv X pins σ H s)(h:cC X.K H a xs)(h':cC X.K H a ys):xs=ys:=by
 obtain⟨ak,r,⟨o,e,_,n,d⟩,_⟩:=I.tuple h
 obtain⟨its',r',⟨o',e',_,n',d'⟩,_⟩:=I.tuple h'
 rw[e]at e';cases e'
 rw[d]at d'
 injection d' with d1 _
 have:ak=its':=by simpa using ZG Array.toList d1
 subst this
 exact r.inj r'
end
abbrev Cx.fB (X:Cx)(E:Value->Shared->Prop):Cx:={ X with xe:=E }
abbrev Cx.gj (X:Cx):Cx:=X.fB fun _ _=>False
theorem Cx.Ok.fB{X:Cx}(ok:X.Ok)(E:Value->Shared->Prop):(X.fB E).Ok:=
 ⟨ok.mod,ok.kind,ok.glob,ok.blt,ok.above,ok.inj,ok.has,ok.qC,ok.hd,ok.frames,ok.tq,ok.vx,ok.bs,ok.jI,ok.jJ,ok.jK,ok.d4,ok.nH⟩
theorem Cx.Ok.cD{X:Cx}(ok:(X.fB E).Ok):X.Ok:=
 ⟨ok.mod,ok.kind,ok.glob,ok.blt,ok.above,ok.inj,ok.has,ok.qC,ok.hd,ok.frames,ok.tq,ok.vx,ok.bs,ok.jI,ok.jJ,ok.jK,ok.d4,ok.nH⟩
section
variable {X:Cx}{pins:List (Addr×Obj)}{σ:St}{H:Hp}{s:Shared}{E:Value->Shared->Prop}
theorem Inv.fB(I:Inv X pins σ H s)(E:Value->Shared->Prop):Inv (X.fB E) pins σ H s:=⟨I.ok.fB E,I.os,I.bare,I.base,I.loc,I.cell,I.free,I.cB,I.pin,I.aF,I.len⟩
theorem Inv.cD(I:Inv (X.fB E) pins σ H s):Inv X pins σ H s:=⟨I.ok.cD,I.os,I.bare,I.base,I.loc,I.cell,I.free,I.cB,I.pin,I.aF,I.len⟩
theorem SP.cD{D:Ends}{f:Flow}(h:SP (X.fB E) pins D f s'):SP X pins D f s':=by
 cases f with
 | next=>obtain⟨aA,H',I,q⟩:=h;exact⟨aA,H',I.cD,q⟩
 | brk=>obtain⟨aA,H',I,q⟩:=h;exact⟨aA,H',I.cD,q⟩
 | cont=>obtain⟨aA,H',I,q⟩:=h;exact⟨aA,H',I.cD,q⟩
 | ret u=>obtain⟨v,aA,H',I,r,q⟩:=h;exact⟨v,aA,H',I.cD,r,q⟩
theorem gi.gj{st:List Stmt}{t:TS}(h:gi X.gj st t):gi X st t:=fun pins s σ H D I hw=>
 Zr (h pins s σ H D (I.fB _) hw) (fun _ _ q=>q.cD) fun _ _ z=>False.elim z
end
section
variable {X:Cx}{st:Stmt}{bC:List Stmt}{t u:TS}{e:Expr}{te:TE}{pos:Pos}
def E3:TS:=fun D σ H=>D.nx σ H
def E4 (t u:TS):TS:=fun D σ H=>t { D with nx:=u D } σ H
theorem E5:gi X [] E3:=fun _ _ σ H _ I h=>Z7 ⟨σ,H,I,h⟩
theorem E6(h1:PS X st t)(h2:gi X bC u):gi X (st::bC) (E4 t u):=by
 intro pins s σ H D I h
 refine wpAny_execs_cons (aV (h1 pins s σ H { D with nx:=u D } I h) fun f s1 q=>?_)
 cases f with
 | next=>
  obtain⟨aA,H',I',q⟩:=q
  exact h2 pins s1 aA H' D I' q
 | ret v=>exact q
 | brk=>exact q
 | cont=>exact q
theorem zt(h1:PS X st t):gi X [st] t:=by
 intro pins s σ H D I h
 refine wpAny_execs_cons (aV (h1 pins s σ H D I h) fun f s1 q=>?_)
 cases f with
 | next=>exact Z7 q
 | ret v=>exact q
 | brk=>exact q
 | cont=>exact q
def E7:TS:=fun D σ H=>D.bk σ H
theorem E8:PS X (.Break pos) E7:=fun _ _ σ H _ I h=>wpAny_Break ⟨σ,H,I,h⟩
theorem Inv.quiet{σ:St}{H:Hp}(I:Inv X pins σ H s):interactive X.env=false:=by simp[interactive,I.ok.kind]
def zu (te:TE):TS:=fun D σ H=>te σ H fun _ H1=>D.nx σ H1
theorem zw(he:PE X e te)(hs:swapsWith e none pos.line X.env=pure false:=by rfl):PS X (.Expr e pos) (zu te):=by
 intro pins s σ H D I h
 exact wpAny_Expr_any (aV (he pins s σ H _ I h) fun v s1 ⟨x,H1,I1,r1,q1⟩=>⟨σ,H1,I1,q1⟩) I.quiet hs
def E9 (te:TE):TS:=fun D σ H=>te σ H D.rt
theorem E_(he:PE X e te):PS X (.Return (some e) pos) (E9 te):=by
 intro pins s σ H D I h
 exact wpAny_Return_some (aV (he pins s σ H _ I h) fun v s1 ⟨x,H1,I1,r1,q1⟩=>⟨x,σ,H1,I1,r1,q1⟩)
def Fb (c:TT)(t u:TS):TS:=fun D σ H=>c σ H fun b H1=>if b=true then t D σ H1 else u D σ H1
theorem Fc{a b:List Stmt}{tc:TT}(hc:PT X c tc)(ha:gi X a t)(hb:gi X b u):PS X (.If c a b pos) (Fb tc t u):=by
 intro pins s σ H D I h
 refine wpAny_If (aV (hc pins s σ H _ I h) fun d s1 ai=>?_)
 obtain⟨H1,I1,q1⟩:=ai
 cases d with
 | true=>exact ha pins s1 σ H1 D I1 q1
 | false=>exact hb pins s1 σ H1 D I1 q1
def Fd:TS:=fun _ _ _=>False
theorem Fe:PS X st Fd:=fun _ _ _ _ _ _ h=>h.elim
end
abbrev TG:=V->St->Hp->(St->Hp->Prop)->Prop
abbrev kU:=List V->St->Hp->(St->Hp->Prop)->Prop
def PG (X:Cx)(target:Expr)(t:TG):Prop:=
 ∀ (pins:List (Addr×Obj)) (s:Shared) (σ:St) (H:Hp) (v:V) (u:Value) (Q:St->Hp->Prop),Inv X pins σ H s->bj v u->t v σ H Q->
  wpAny (model X.prog X.w) X.A (assign target X.env u) (fun _ s'=>∃ aA H',Inv X pins aA H' s'/\Q aA H') X.xe s
def ko (X:Cx)(ts:List Expr)(t:kU):Prop:=
 ∀ (pins:List (Addr×Obj)) (s:Shared) (σ:St) (H:Hp) (vs:List V) (us:List Value) (Q:St->Hp->Prop),Inv X pins σ H s->aR vs us->t vs σ H Q->
  wpAny (model X.prog X.w) X.A (assignInOrder ((assignEach ts X.env).map (·.2)) us) (fun _ s'=>∃ aA H',Inv X pins aA H' s'/\Q aA H') X.xe s
abbrev vG:=V->V->V->Hp->(Hp->Prop)->Prop
def zx (X:Cx)(t:vG):Prop:=
 ∀ (pins:List (Addr×Obj)) (s:Shared) (σ:St) (H:Hp) (o i v:V) (ov iv u:Value) (Q:Hp->Prop),Inv X pins σ H s->bj o ov->bj i iv->bj v u->t o i v H Q->
  wpAny (model X.prog X.w) X.A (setItem ov iv u) (fun _ s'=>∃ H',Inv X pins σ H' s'/\Q H') X.xe s
section
variable {X:Cx}{pos:Pos}
def vH (i:Nat):TG:=fun v σ H Q=>Q (σ.set i (some v)) H
theorem zy(hN:X.N.Nodup)(hi:X.N[i]? = some x)(hx:Loc X.env.scope x)(hf:X.fn x=true\/X.env.scope.names.lookup x=some .local:=by first|exact .inl rfl|exact .inr rfl|assumption):PG X (.Name x pos) (vH i):=by
 intro pins s σ H v u Q I r h
 exact wpAny_assign_Name (zo I hN hi hx r (fun s' I'=>⟨_,H,I',h⟩) hf)
def Ff:kU:=fun vs σ H Q=>vs=[]/\Q σ H
def Fg (t:TG)(u:kU):kU:=fun vs σ H Q=>∃ v r,vs=v::r/\t v σ H fun aA H'=>u r aA H' Q
theorem Fh:ko X [] Ff:=by
 intro pins s σ H vs us Q I r h
 obtain⟨e,h⟩:=h
 subst e
 cases r
 exact assignInOrder_nil ⟨σ,H,I,h⟩
theorem Fi{t:TG}{u:kU}(h1:PG X e t)(h2:ko X es u)
  (hs:(assignEach (e::es) X.env).map (·.2)=assign e X.env::(assignEach es X.env).map (·.2):=by rfl):ko X (e::es) (Fg t u):=by
 intro pins s σ H vs us Q I r h
 obtain⟨v,vr,e1,h⟩:=h
 subst e1
 cases r with
 | cons r rr=>
  rw[hs]
  refine assignInOrder_cons (aV (h1 pins s σ H _ _ _ I r h) fun _ s1 ai=>?_)
  obtain⟨nJ,H1,I1,q1⟩:=ai
  exact h2 pins s1 nJ H1 _ _ Q I1 rr q1
def Fj (K:PySem.W.Frag)(n:Nat)(t:kU):TG:=fun v σ H Q=>∃ a xs,v=.ref a/\cC K H a xs/\xs.length=n/\t xs σ H Q
theorem Fl{k:Nat}{t:kU}(hc:X.calm=true)(h:ko X es t)
  (hn:(assignEach es X.env).length=n:=by rfl) (jM:(assignEach es X.env).findIdx? (·.1)=none:=by rfl):PG X (.Tuple es k pos) (Fj X.K n t):=by
 intro pins s σ H v u Q I r hw
 obtain⟨a,xs,e1,hq,hl,hw⟩:=hw
 subst e1
 cases r
 obtain⟨ak,rv,ht,hz⟩:=I.tuple hq
 refine assign_Tuple_tuple (I.ok.hd hc) ht (by simp[hn,<- hl,rv.length]) jM fun h' hx=>?_
 have I1:Inv X pins σ H { s with heap:=h' }:=I.kept (t':=s.toks) fun b o e=>hx b o (QX (Qn e)) e
 exact h pins _ σ H xs _ Q I1 (by simpa using rv) hw
def Fm (to ti:TE)(t:vG):TG:=fun v σ H Q=>to σ H fun o H1=>ti σ H1 fun i H2=>t o i v H2 fun H3=>Q σ H3
theorem Fn{o i:Expr}{to ti:TE}{t:vG}(ho:PE X o to)(hi:PE X i ti)(hs:zx X t)
  (ha:∀ v,assign (.Subscript o i pos) X.env v=(do
    let ov <- holding [v] (eval o X.env)
    let iv <- holding [v,ov] (eval i X.env)
    standAt pos
    holding [v,ov,iv] (setItem ov iv v)
    release [v,ov,iv] []):=by intro _;rfl):PG X (.Subscript o i pos) (Fm to ti t):=by
 intro pins s σ H v u Q I r h
 rw[ha]
 refine Qb (Zs (aV (ho pins s σ H _ I h) fun ov s1 ai=>?_))
 obtain⟨x,H1,I1,r1,q1⟩:=ai
 refine Qb (Zs (aV (hi pins s1 σ H1 _ I1 q1) fun iv s2 ai=>?_))
 obtain⟨y,H2,I2,r2,q2⟩:=ai
 refine Qb (wpAny_standAt (Qb (Zs (aV (hs pins s2 σ H2 x y v ov iv u _ I2 r1 r2 r q2) fun _ s3 ai=>?_))))
 obtain⟨H3,I3,q3⟩:=ai
 exact wpAny_release ⟨σ,H3,I3,q3⟩
def vI (te:TE)(g:TG):TS:=fun D σ H=>te σ H fun x H1=>g x σ H1 D.nx
theorem zz{te:TE}{g:TG}(he:PE X e te)(hg:PG X tg g)(hs:swapsWithSole [tg] e pos.line X.env=pure false:=by rfl)(hw:swappedStores [tg] e X.env=pure none:=by rfl)
  (h1:(assignEach [tg] X.env).map (·.2)=[assign tg X.env]:=by rfl):PS X (.Assign [tg] e pos) (vI te g):=by
 intro pins s σ H D I h
 refine wpAny_Assign_stores (aV (he pins s σ H _ I h) fun v s1 ⟨x,H1,I1,r1,q1⟩=>?_) hs hw
 rw[h1]
 exact aV (hg pins s1 σ H1 x v _ I1 r1 q1) fun _ s2 q=>q
theorem Fp{te:TE}{pos':Pos}(hN:X.N.Nodup)(hi:X.N[i]? = some x)(hx:Loc X.env.scope x)(he:PE X e te)(hs:swapsWith e (some (.Name x pos')) pos.line X.env=pure false:=by rfl)(hf:X.fn x=true\/X.env.scope.names.lookup x=some .local:=by first|exact .inl rfl|exact .inr rfl|assumption) :
  PS X (.Assign [.Name x pos'] e pos) (vI te (vH i)):=by
 intro pins s σ H D I h
 refine wpAny_Assign_Name (aV (he pins s σ H _ I h) fun v s1 ⟨y,H1,I1,r1,q1⟩=>?_) hs
 exact zo I1 hN hi hx r1 (fun s2 I2=>⟨_,H1,I2,q1⟩) hf
def Fq (c:TT)(tb:TS):TS:=fun D σ H=>∃ W:Nat->St->Hp->Prop,(∃ m,W m σ H)/\∀ m σ H,W m σ H->
 c σ H fun b H1=>if b=true then ∃ N:St->Hp->Prop,(∀ aA H',N aA H'->∃ m',m'<m/\W m' aA H')/\tb { D with nx:=N,ct:=N,bk:=D.nx } σ H1 else D.nx σ H1
theorem Ft{tc:TT}{tb:TS}(hp:PassesOwn (model X.prog X.w) X.A X.env X.xe)(hc:PT X c tc)(hb:gi X body tb):PS X (.While c body [] pos) (Fq tc tb):=by
 intro pins s σ H D I h
 obtain⟨W,⟨m0,w0⟩,turn⟩:=h
 refine wpAny_While (codeAny_whileLoop (fun n s'=>∃ aA H',Inv X pins aA H' s'/\W n aA H') ?_ m0 ⟨σ,H,I,w0⟩)
 rintro n s1 ⟨nJ,H1,I1,w1⟩
 refine Zm hp (aV (hc pins s1 nJ H1 _ I1 (turn n nJ H1 w1)) fun b s2 ai=>?_)
 obtain⟨H2,I2,q2⟩:=ai
 cases b with
 | true=>
  obtain⟨N,hN,q2⟩:=q2
  rw[Qe rfl]
  refine Zm hp (aV (hb pins s2 nJ H2 _ I2 q2) fun f s3 q3=>?_)
  cases f with
  | next=>
   obtain⟨hE,H3,I3,n3⟩:=q3
   obtain⟨m',hm,w3⟩:=hN hE H3 n3
   exact⟨m',hm,hE,H3,I3,w3⟩
  | cont=>
   obtain⟨hE,H3,I3,n3⟩:=q3
   obtain⟨m',hm,w3⟩:=hN hE H3 n3
   exact⟨m',hm,hE,H3,I3,w3⟩
  | brk=>exact q3
  | ret v=>exact q3
 | false=>
  rw[Qh ZR]
  exact Z7 ⟨nJ,H2,I2,q2⟩
end
structure It where
 go:Nat->Hp->Prop
 nK:Nat->Hp->V->Hp->Prop
 stop:Nat->Hp->Prop
def kq (X:Cx)(pins:List (Addr×Obj))(H:Hp)(b:Addr):Prop:=
 H b=none/\b≠X.env.locals/\b ∉ X.fs/\(b∈X.ex\/X.bL.heap.objs.size<=b)/\(∀ x c,X.env.cells.lookup x=some c->c≠b)/\∀ p∈X.pn++pins,p.1≠b
theorem Inv.kW{X:Cx}{σ:St}{H H':Hp}(I:Inv X pins σ H s)(hb:s.heap.objs.size<=b)(hn:H' b=none):kq X pins H' b:=by
 refine⟨hn,Nat.ne_of_gt (Ql I.lt hb),I.qD hb,.inr (QK I.sz hb),fun x c e z=>?_,fun p hp z=>?_⟩
 ·obtain⟨v,q⟩:=I.cell x c e
  exact absurd (Ql q.lt (by rw[z];exact hb)) (QL _)
 ·exact absurd (Ql (Qn (I.pin p hp).1) (by rw[z];exact hb)) (QL _)
structure Turn (P:Program) (w:World) (K:PySem.W.Frag) (tg:Expr) (J:It) (fp:List Addr) (it:Addr) (tn:Nat->Heap->Prop):Prop where
 mem:it∈fp
 obj:∀ i h,tn i h->∀ b∈fp,∃ o,h.get? b=some o/\∀ v,o.data ≠ .cell v
 keep:∀ i h h',tn i h->(∀ b∈fp,∀ o,h.get? b=some o->h'.get? b=some o)->tn i h'
 item:∀ (X:Cx),X.prog=P->X.w=w->X.K=K->X.calm=true->∀ (i:Nat) (pins:List (Addr×Obj)) (s:Shared) (σ:St) (H:Hp) (E:Value->Shared->Prop),Inv X pins σ H s->(∀ b∈fp,kq X pins H b)->tn i s.heap->J.go i H->
  wpAny (model P w) X.A (pyNext (.ref it)) (fun r s1=>∃ u,r=some u /\
   wpAny (model P w) X.A (letOwnedTupleGo tg (.ref it) u) (fun _ s2=>∃ x H',Inv X pins σ H' s2/\bj x u/\J.nK i H x H'/\tn (i+1) s2.heap/\∀ b∈fp,H' b=none) E s1) E s
 done:∀ (X:Cx),X.prog=P->X.w=w->X.K=K->X.calm=true->∀ (i:Nat) (pins:List (Addr×Obj)) (s:Shared) (σ:St) (H:Hp) (E:Value->Shared->Prop),Inv X pins σ H s->(∀ b∈fp,kq X pins H b)->tn i s.heap->J.stop i H->
  wpAny (model P w) X.A (pyNext (.ref it)) (fun r s1=>r=none/\Inv X pins σ H s1) E s
 self:∀ (A:Around) (i:Nat) (s:Shared) (Q:Value->Shared->Prop) (E:Value->Shared->Prop),tn i s.heap->Q (.ref it) s->wpAny (model P w) A (pyIter (.ref it)) Q E s
abbrev TI:=St->Hp->(It->Hp->Prop)->Prop
def zA (X:Cx)(pins:List (Addr×Obj))(σ:St)(tg:Expr)(R:It->Hp->Prop)(tw:Value)(s2:Shared):Prop:=
 ∃ (it:Addr) (fp:List Addr) (tn:Nat->Heap->Prop) (J:It) (H':Hp),tw=.ref it/\Inv X pins σ H' s2/\Turn X.prog X.w X.K tg J fp it tn/\tn 0 s2.heap/\(∀ b∈fp,kq X pins H' b)/\R J H'
def PI (X:Cx)(tg iter:Expr)(wi:TI):Prop:=
 ∀ (pins:List (Addr×Obj)) (s:Shared) (σ:St) (H:Hp) (R:It->Hp->Prop),Inv X pins σ H s->wi σ H R->
  wpAny (model X.prog X.w) X.A (eval iter X.env) (fun v s1=>wpAny (model X.prog X.w) X.A (pyIter v) (zA X pins σ tg R) X.xe s1) X.xe s
theorem vJ{n:String}{vs:Array Value}{Q:Unit->Shared->Prop}(ho:s.heap.get? it=some o)(hc:o.cls=.type n)(hd:o.data=.fields vs)
  (hn:["enumerate","zip","dict_itemiterator","dict_reverseitemiterator","odict_iterator","itertools.zip_longest","itertools.pairwise"].contains n=false) (hQ:Q () s):wpAny M A (letOwnedTupleGo tg (.ref it) u) Q E s:=by
 unfold letOwnedTupleGo
 cases tg<;>first
  | exact Qk hQ
  | (cases u<;>first
      | exact Qk hQ
      | (refine Qb (wpAny_load ho ?_)
         rw[hc,hd]
         show wpAny M A (if(["enumerate","zip","dict_itemiterator","dict_reverseitemiterator","odict_iterator","itertools.zip_longest","itertools.pairwise"].contains n&&vs[0]? == some (rawInt _))=true then _ else _) Q E s
         rw[Qh (by intro h;rw[hn,Bool.false_and]at h;cases h)]
         exact Qk hQ))
def tz (K:PySem.W.Frag)(a:Addr):It:=
 ⟨fun i H=>∃ xs x,bX K H a xs/\xs[i]? = some x,fun i H x H'=>H'=H/\∀ xs,bX K H a xs->xs[i]? = some x,fun i H=>∃ xs,bX K H a xs/\xs.length<=i⟩
def vK (K:PySem.W.Frag)(a:Addr):It:=
 ⟨fun i H=>∃ xs x,cC K H a xs/\xs[i]? = some x,fun i H x H'=>H'=H/\∀ xs,cC K H a xs->xs[i]? = some x,fun i H=>∃ xs,cC K H a xs/\xs.length<=i⟩
def tB (lo:Int)(n:Nat):It:=⟨fun i _=>i<n,fun i H x H'=>H'=H/\x=.int (lo+i),fun i _=>n<=i⟩
theorem zB(a it:Addr):Turn P w K tg (tz K a) [it] it (fun i h=>h.IsListIter it a i) where
 mem:=by simp
 obj:=fun i h st b hb=>by
  have e:b=it:=by simpa using hb
  subst e
  obtain⟨o,e,c,d⟩:=st
  exact⟨o,e,fun v z=>by rw[d]at z;cases z⟩
 keep:=fun i h h' st k=>st.at fun o e=>k it (by simp) o e
 item:=by
  intro X hP hw hK hc i pins s σ H E I hf st hg
  subst hP hw hK
  obtain⟨xs,x,hq,hx⟩:=hg
  obtain⟨ak,rv,p,hz⟩:=I.list hq
  obtain⟨u,hu,ru⟩:=rv.get hx
  obtain⟨f0,f1,f2,f3,f4,f5⟩:=hf it (by simp)
  refine wpAny_pyNext_list_item st p.isList (x:=u) (by simpa using hu) fun h' jA sb=>?_
  have I1:Inv X pins σ H { s with heap:=h' }:=I.turned (t':=s.toks) (fun b o hb e=>(sb.2 b hb).trans e) f0 f1 f3 f4 f5
  obtain⟨o,e,c,d⟩:=id jA
  exact⟨u,rfl,vJ (s:={ s with heap:=h' }) e c d (by decide) ⟨x,H,I1,ru,⟨rfl,fun ys hy=>by rw[I.jL hy hq];exact hx⟩,jA,fun b hb=>(hf b hb).1⟩⟩
 done:=by
  intro X hP hw hK hc i pins s σ H E I hf st hg
  subst hP hw hK
  obtain⟨xs,hq,hx⟩:=hg
  obtain⟨ak,rv,p,hz⟩:=I.list hq
  obtain⟨f0,f1,f2,f3,f4,f5⟩:=hf it (by simp)
  have hl:=rv.length
  exact wpAny_pyNext_list_end (I.ok.hd hc) st p.isList (by simp;omega) fun h' eb=>⟨rfl,I.turned (t':=s.toks) (fun b o hb e=>eb b o hb e) f0 f1 f3 f4 f5⟩
 self:=fun _ _ _ _ _ st h=>wpAny_pyIter_listiter st h
theorem Fu(a it:Addr):Turn P w K tg (vK K a) [it] it (fun i h=>h.IsTupleIter it a i) where
 mem:=by simp
 obj:=fun i h st b hb=>by
  have e:b=it:=by simpa using hb
  subst e
  obtain⟨o,e,c,d⟩:=st
  exact⟨o,e,fun v z=>by rw[d]at z;cases z⟩
 keep:=fun i h h' st k=>st.at fun o e=>k it (by simp) o e
 item:=by
  intro X hP hw hK hc i pins s σ H E I hf st hg
  subst hP hw hK
  obtain⟨xs,x,hq,hx⟩:=hg
  obtain⟨ak,rv,p,hz⟩:=I.tuple hq
  obtain⟨u,hu,ru⟩:=rv.get hx
  obtain⟨f0,f1,f2,f3,f4,f5⟩:=hf it (by simp)
  refine wpAny_pyNext_tuple_item st (show s.heap.IsTuple a ak.toArray from p) (x:=u) (by simpa using hu) fun h' jA sb=>?_
  have I1:Inv X pins σ H { s with heap:=h' }:=I.turned (t':=s.toks) (fun b o hb e=>(sb.2 b hb).trans e) f0 f1 f3 f4 f5
  obtain⟨o,e,c,d⟩:=id jA
  exact⟨u,rfl,vJ (s:={ s with heap:=h' }) e c d (by decide) ⟨x,H,I1,ru,⟨rfl,fun ys hy=>by rw[I.jj hy hq];exact hx⟩,jA,fun b hb=>(hf b hb).1⟩⟩
 done:=by
  intro X hP hw hK hc i pins s σ H E I hf st hg
  subst hP hw hK
  obtain⟨xs,hq,hx⟩:=hg
  obtain⟨ak,rv,p,hz⟩:=I.tuple hq
  obtain⟨f0,f1,f2,f3,f4,f5⟩:=hf it (by simp)
  have hl:=rv.length
  exact wpAny_pyNext_tuple_end (I.ok.hd hc) st (show s.heap.IsTuple a ak.toArray from p) (by simp;omega) fun h' eb=>⟨rfl,I.turned (t':=s.toks) (fun b o hb e=>eb b o hb e) f0 f1 f3 f4 f5⟩
 self:=fun _ _ _ _ _ st h=>wpAny_pyIter_tupleiter st h
theorem Fv(it:Addr)(lo:Int)(n:Nat):Turn P w K tg (tB lo n) [it] it (fun i h=>IsRangeIter h it (lo+(i:Nat)*1) ((n:Int)-(i:Nat)) 1) where
 mem:=by simp
 obj:=fun i h st b hb=>by
  have e:b=it:=by simpa using hb
  subst e
  exact⟨_,st,fun v z=>by
   have z':Data.fields _=Data.cell v:=z
   cases z'⟩
 keep:=fun i h h' st k=>k it (by simp) _ st
 item:=by
  intro X hP hw hK hc i pins s σ H E I hf st hg
  subst hP hw hK
  obtain⟨f0,f1,f2,f3,f4,f5⟩:=hf it (by simp)
  have W:=Walks.range (prog:=X.prog) (w:=X.w) (I.ok.hd hc) it lo 1 n
  refine W.item i s _ _ hg st fun v h' tk hv jA kk=>?_
  obtain⟨t,rfl⟩:=hv
  have I1:Inv X pins σ H { s with heap:=h',toks:=tk }:=I.turned (fun b o hb e=>kk b o (by simpa using hb) e) f0 f1 f3 f4 f5
  refine⟨_,rfl,vJ (s:={ s with heap:=h',toks:=tk }) (n:="range_iterator") jA rfl rfl (by decide) ⟨.int (lo+i),H,I1,⟨t,?_⟩,⟨rfl,rfl⟩,jA,fun b hb=>(hf b hb).1⟩⟩
  rw[Int.mul_one]
 done:=by
  intro X hP hw hK hc i pins s σ H E I hf st hg
  subst hP hw hK
  obtain⟨f0,f1,f2,f3,f4,f5⟩:=hf it (by simp)
  exact wpAny_pyNext_range_end (I.ok.hd hc) st (by have:n<=i:=hg;omega) fun h' eb=>⟨rfl,I.turned (t':=s.toks) (fun b o hb e=>eb b o hb e) f0 f1 f3 f4 f5⟩
 self:=fun _ _ _ _ _ st h=>wpAny_pyIter_rangeiter st h
section
variable {X:Cx}{tg:Expr}
def Fw (K:PySem.W.Frag)(tl:TE):TI:=fun σ H R=>tl σ H fun x H1=>∃ a,x=.ref a/\(∃ xs,bX K H1 a xs)/\R (tz K a) H1
theorem Fx{l:Expr}{tl:TE}(hl:PE X l tl):PI X tg l (Fw X.K tl):=by
 intro pins s σ H R I h
 refine aV (hl pins s σ H _ I h) fun v s1 ai=>?_
 obtain⟨x,H1,I1,r1,q1⟩:=ai
 obtain⟨a,e,⟨xs,hq⟩,q⟩:=q1
 subst e
 cases r1
 obtain⟨ak,rv,p,hz⟩:=I1.list hq
 refine Js p.isList ?_
 refine⟨s1.heap.objs.size,[s1.heap.objs.size],_,_,H1,rfl,I1.kept (t':=s1.toks) fun b o e=>Qf _ e,zB a _,⟨_,Qs _ rfl,rfl,rfl⟩,fun b hb=>?_,q⟩
 have e:b=s1.heap.objs.size:=by simpa using hb
 subst e
 exact I1.kW (Qc _) (I1.aF.fresh (Qc _))
theorem Fy{σ:St}{H:Hp}{R:It->Hp->Prop}{lo hi:Int}{t u v:Tok}{tk:Nat}(I:Inv X pins σ H s)(h1:-(2 ^ 62)<=lo)(h2:lo<2 ^ 62)(h3:-(2 ^ 62)<=hi)(h4:hi<2 ^ 62)
  (q:R (tB lo (hi-lo).toNat) H):wpAny (model X.prog X.w) X.A (pyIter (.ref s.heap.objs.size)) (zA X pins σ tg R) E { s with heap:=s.heap.push { cls:=.type "range",data:=.fields #[.int lo t,.int hi u,.int 1 v] },toks:=tk }:=by
 refine wpAny_pyIter_range (IsRange.new ..) (small_one h1 h2 h3 h4) ?_
 have I1:Inv X pins σ H { s with heap:=s.heap.push { cls:=.type "range",data:=.fields #[.int lo t,.int hi u,.int 1 v] },toks:=tk }:=I.kept fun b o e=>Qf _ e
 refine⟨(s.heap.push { cls:=.type "range",data:=.fields #[.int lo t,.int hi u,.int 1 v] }).objs.size,[(s.heap.push { cls:=.type "range",data:=.fields #[.int lo t,.int hi u,.int 1 v] }).objs.size],_,_,H,rfl,
  I1.kept (t':=tk) fun b o e=>Qf _ e,Fv _ lo (hi-lo).toNat,?_,fun b hb=>?_,q⟩
 ·have e1:lo+((0:Nat):Int)*1=lo:=by simp
  have e2:(((hi-lo).toNat:Nat):Int)-((0:Nat):Int)=Builtin.Range.rangeSize lo hi 1:=by rw[rangeSize_one];split<;>omega
  show IsRangeIter _ _ (lo+((0:Nat):Int)*1) ((((hi-lo).toNat:Nat):Int)-((0:Nat):Int)) 1
  rw[e1,e2]
  exact Qs _ rfl
 ·have e:b=(s.heap.push { cls:=.type "range",data:=.fields #[.int lo t,.int hi u,.int 1 v] }).objs.size:=by simpa using hb
  subst e
  exact I1.kW (Qc _) (I1.aF.fresh (Qc _))
def Fz (ta:TA):TI:=fun σ H R=>ta σ H fun vs H1=>∃ j:Int,vs=[.int j] /\ -(2 ^ 62)<=j/\j<2 ^ 62/\R (tB 0 j.toNat) H1
theorem FA{a:Expr}{ta:TA}{p pos:Pos}(hg:Gl X "range")(hm:X.mg "range" = none)(ha:PA X [a] ta)(hs:starEach [a] X.env=[(false,eval a X.env)]:=by rfl):PI X tg (.Call (.Name "range" p) [a] [] pos) (Fz ta):=by
 intro pins s σ H R I h
 refine Call_ (qH I hg hm boot_range (ZJ (aV (ha pos pins s σ H _ I h) fun us s1 ⟨vs,H1,I1,r1,q1⟩=>?_) hs rfl))
 obtain⟨j,e,q1,q2,q⟩:=q1
 subst e
 cases r1 with
 | cons r rr=>
  cases rr
  obtain⟨t,rfl⟩:=r
  exact call_range_1 (Fy I1 (by omega) (by omega) q1 q2 (by simpa using q))
def FC (wi:TI)(g:TG)(tb:TS):TS:=fun D σ H=>wi σ H fun J H1=>∃ W:Nat->Nat->St->Hp->Prop,(∃ m,W 0 m σ H1)/\∀ i m σ H,W i m σ H->
 (J.stop i H/\D.nx σ H)\/(J.go i H/\∃ N:St->Hp->Prop,(∀ aA H',N aA H'->∃ m',m'<m/\W (i+1) m' aA H')/\∀ x H',J.nK i H x H'->g x σ H' fun jN H2=>tb { D with nx:=N,ct:=N,bk:=D.nx } jN H2)
def mf (fp:List Addr)(h:Heap):List (Addr×Obj):=fp.filterMap fun b=>(h.get? b).map fun o=>(b,o)
theorem tE(hb:b∈fp)(e:h.get? b=some o):(b,o)∈mf fp h:=List.mem_filterMap.mpr ⟨b,hb,by rw[e];rfl⟩
theorem zC{p:Addr×Obj}(hp:p∈mf fp h):p.1∈fp/\h.get? p.1=some p.2:=by
 obtain⟨b,hb,e⟩:=List.mem_filterMap.mp hp
 cases q:h.get? b with
 | none=>rw[q]at e;cases e
 | some o=>
  rw[q]at e
  have e':(b,o)=p:=Qp e
  subst e'
  exact⟨hb,q⟩
theorem Inv.pinned{σ:St}{H:Hp}(I:Inv X pins σ H s)(hf:∀ b∈fp,kq X pins H b)(ho:∀ b∈fp,∃ o,s.heap.get? b=some o/\∀ v,o.data ≠ .cell v):Inv X (pins++mf fp s.heap) σ H s:=
 I.eF fun p hp=>(QN.mp hp).elim (fun z=>I.pin p (Qi _ z)) fun z=>by
  obtain⟨hb,e⟩:=zC z
  obtain⟨f0,f1,f2,_⟩:=hf p.1 hb
  obtain⟨o,e',d⟩:=ho p.1 hb
  rw[e]at e';cases e'
  exact⟨e,f0,f1,f2,d⟩
theorem Inv.dj{pl:List (Addr×Obj)}{σ:St}{H:Hp}(I:Inv X (pins++pl) σ H s):Inv X pins σ H s:=I.eF fun p hp=>I.pin p (Qi _ (QM _ hp))
theorem zD{iter:Expr}{wi:TI}{g:TG}{tb:TS}{pos:Pos}(hp:PassesOwn (model X.prog X.w) X.A X.env X.xe)(hc:X.calm=true)(hi:PI X tg iter wi)(hg:PG X tg g)(hb:gi X body tb)
  (hs:∀ x,foldedSetIterable iter X.env x=pure x:=by intro _;rfl):PS X (.For tg iter body [] pos) (FC wi g tb):=by
 intro pins s σ H D I h
 refine wpAny_For (aV (hi pins s σ H _ I h) fun v s1 h1=>aV h1 fun tw s2 h2=>?_) hs
 obtain⟨it,fp,tn,J,H2,e,I2,T,mh,f2,W,⟨m0,w0⟩,turn⟩:=h2
 subst e
 have ie:∀ {H':Hp},(∀ b∈fp,H' b=none)->∀ b∈fp,kq X pins H' b:=fun hn b hb=>⟨hn b hb,(f2 b hb).2⟩
 refine codeAny_forLoop_any (fun n s'=>∃ i aA H',Inv X pins aA H' s'/\tn i s'.heap/\(∀ b∈fp,H' b=none)/\W i n aA H') ?_ m0 ⟨0,σ,H2,I2,mh,fun b hb=>(f2 b hb).1,w0⟩
 rintro n s3 ⟨i,hE,H3,I3,qI,zE,w3⟩
 rcases turn i n hE H3 w3 with⟨stop,qn⟩|⟨go,N,hN,step⟩
 ·refine Zm hp (aV (T.done X rfl rfl rfl hc i pins s3 hE H3 X.xe I3 (ie zE) qI stop) fun r s4 ⟨hr,I4⟩=>?_)
  subst hr
  exact Z7 ⟨hE,H3,I4,qn⟩
 ·refine Zm hp (aV (T.item X rfl rfl rfl hc i pins s3 hE H3 X.xe I3 (ie zE) qI go) fun r s4 ⟨u,hr,h4⟩=>?_)
  subst hr
  refine Zm hp (aV h4 fun _ s5 ai=>?_)
  obtain⟨x,H5,I5,r5,y5,nL,vM⟩:=ai
  have vN:=I5.pinned (ie vM) (T.obj _ _ nL)
  refine Zm hp (aV (hg _ s5 hE H5 x u _ vN r5 (step x H5 y5)) fun _ s6 ai=>?_)
  obtain⟨zG,H6,I6,q6⟩:=ai
  refine Zm hp (aV (hb _ s6 zG H6 _ I6 q6) fun f s7 q7=>?_)
  have again:∀ {jO:St} {H7:Hp},Inv X (pins++mf fp s5.heap) jO H7 s7->N jO H7->∃ m,m<n/\∃ i aA H',Inv X pins aA H' s7/\tn i s7.heap/\(∀ b∈fp,H' b=none)/\W i m aA H':=fun {jO H7} I7 n7=>by
   obtain⟨m',hm,w7⟩:=hN jO H7 n7
   refine⟨m',hm,i+1,jO,H7,I7.dj,T.keep _ _ _ nL fun b hb o e=>(I7.pin (b,o) (Qi _ (Qi _ (tE hb e)))).1,fun b hb=>?_,w7⟩
   obtain⟨o,e,d⟩:=T.obj _ _ nL b hb
   exact(I7.pin (b,o) (Qi _ (Qi _ (tE hb e)))).2.1
  cases f with
  | next=>obtain⟨jO,H7,I7,n7⟩:=q7;exact again I7 n7
  | cont=>obtain⟨jO,H7,I7,n7⟩:=q7;exact again I7 n7
  | brk=>obtain⟨jO,H7,I7,q7⟩:=q7;exact⟨jO,H7,I7.dj,q7⟩
  | ret v=>obtain⟨x7,jO,H7,I7,r7,q7⟩:=q7;exact⟨x7,jO,H7,I7.dj,r7,q7⟩
end
abbrev R2:=V->V->Hp->VK->Prop
def cE (X:Cx)(f:Value->Value->Sem Value)(r:R2):Prop:=
 ∀ (pins:List (Addr×Obj)) (s:Shared) (σ:St) (H:Hp) (x y:V) (v u:Value) (Q:VK),Inv X pins σ H s->bj x v->bj y u->r x y H Q->
  wpAny (model X.prog X.w) X.A (f v u) (EP X pins σ Q) X.xe s
def kr (X:Cx)(f:Value)(r:List V->Hp->VK->Prop):Prop:=
 ∀ (pins:List (Addr×Obj)) (s:Shared) (σ:St) (H:Hp) (xs:List V) (us:List Value) (Q:VK),Inv X pins σ H s->aR xs us->r xs H Q->
  wpAny (model X.prog X.w) X.A (call f us) (EP X pins σ Q) X.xe s
def FD (X:Cx)(r:V->Hp->(Bool->Hp->Prop)->Prop):Prop:=
 ∀ (pins:List (Addr×Obj)) (s:Shared) (σ:St) (H:Hp) (x:V) (v:Value) (Q:Bool->Hp->Prop),Inv X pins σ H s->bj x v->r x H Q->
  wpAny (model X.prog X.w) X.A (truthy v) (TP X pins σ Q) X.xe s
def jk (r:R2)(ta tb:TE):TE:=fun σ H Q=>ta σ H fun x H1=>tb σ H1 fun y H2=>r x y H2 Q
def rI (C:Int->Int->Prop)(g:Int->Int->V):R2:=fun x y H Q=>∃ i j,x=.int i/\y=.int j/\C i j/\Q (g i j) H
def kX (g:Int->Int->V):R2:=fun x y H Q=>∃ i j,x=.int i/\y=.int j/\Q (g i j) H
section
variable {X:Cx}{a b c:Expr}{ta tb tc:TE}{pos:Pos}
theorem vO(ha:PE X a ta)(hb:PE X b tb){σ:St}{H:Hp}{R:V->V->Hp->Prop}(I:Inv X pins σ H s)
  (h:ta σ H fun x H1=>tb σ H1 fun y H2=>R x y H2)  
  (hf:∀ v u s2 x y H2,Inv X pins σ H2 s2->bj x v->bj y u->R x y H2->wpAny (model X.prog X.w) X.A (f v u) Q X.xe s2) :
  wpAny (model X.prog X.w) X.A (eval a X.env) (fun v aJ=>wpAny (model X.prog X.w) X.A (eval b X.env) (fun u kY=>wpAny (model X.prog X.w) X.A (f v u) Q X.xe kY) X.xe aJ) X.xe s:=by
 refine aV (ha pins s σ H _ I h) fun v s1 ai=>?_
 obtain⟨x,H1,I1,r1,q1⟩:=ai
 refine aV (hb pins s1 σ H1 _ I1 q1) fun u s2 ai=>?_
 obtain⟨y,H2,I2,r2,q2⟩:=ai
 exact hf v u s2 x y H2 I2 r1 r2 q2
theorem mi{op:Operator}{r:R2}(ho:cE X (binaryOp op) r)(ha:PE X a ta)(hb:PE X b tb):PE X (.BinOp a op b pos) (jk r ta tb):=by
 intro pins s σ H Q I h
 exact wpAny_BinOp (vO ha hb I h fun v u s2 x y H2 I2 rx ry q=>ho pins s2 σ H2 x y v u Q I2 rx ry q)
theorem vP{f:Value->Value->Sem Value}{C:Int->Int->Prop}
  (rule:∀ (i j:Int) (t u:Tok) (s:Shared) (Q:Value->Shared->Prop) (E:Value->Shared->Prop),C i j->Q (.int (g i j) s.toks) { s with toks:=s.toks+1 }->wpAny (model X.prog X.w) X.A (f (.int i t) (.int j u)) Q E s) :
  cE X f (rI C fun i j=>.int (g i j)):=by
 intro pins s σ H x y v u Q I rx ry h
 obtain⟨i,j,rfl,rfl,hc,q⟩:=h
 obtain⟨t,rfl⟩:=rx
 obtain⟨t',rfl⟩:=ry
 exact rule i j t t' s _ _ hc ⟨.int (g i j),H,I.tok _,⟨_,rfl⟩,q⟩
theorem FE{f:Value->Value->Sem Value}
  (rule:∀ (i j:Int) (t u:Tok) (s:Shared) (Q:Value->Shared->Prop) (E:Value->Shared->Prop),Q (.int (g i j) s.toks) { s with toks:=s.toks+1 }->wpAny (model X.prog X.w) X.A (f (.int i t) (.int j u)) Q E s) :
  cE X f (kX fun i j=>.int (g i j)):=by
 intro pins s σ H x y v u Q I rx ry h
 obtain⟨i,j,rfl,rfl,q⟩:=h
 obtain⟨t,rfl⟩:=rx
 obtain⟨t',rfl⟩:=ry
 exact rule i j t t' s _ _ ⟨.int (g i j),H,I.tok _,⟨_,rfl⟩,q⟩
theorem zH{g:Int->Int->Bool}
  (rule:∀ (i j:Int) (t u:Tok) (s:Shared) (Q:Value->Shared->Prop) (E:Value->Shared->Prop),Q (.bool (g i j)) s->wpAny (model X.prog X.w) X.A (f (.int i t) (.int j u)) Q E s) :
  cE X f (kX fun i j=>.bl (g i j)):=by
 intro pins s σ H x y v u Q I rx ry h
 obtain⟨i,j,rfl,rfl,q⟩:=h
 obtain⟨t,rfl⟩:=rx
 obtain⟨t',rfl⟩:=ry
 exact rule i j t t' s _ _ ⟨.bl (g i j),H,I,rfl,q⟩
def FF (i j:Int):Prop:=0<j/\j<1073741824
def vQ (i j:Int):Prop:=(-(2 ^ 64)<i/\i<2 ^ 64)\/(-(2 ^ 64)<j/\j<2 ^ 64)
theorem vQ.ok{i j:Int}(h:vQ i j):IntMulOk i j:=by
 rcases h with⟨h1,h2⟩|⟨h1,h2⟩
 ·exact .of_left (intBits_le_64 h1 h2)
 ·exact .of_right (intBits_le_64 h1 h2)
theorem FG:cE X (binaryOp .Add) (kX fun i j=>.int (i+j)):=FE fun _ _ _ _ _ _ _ q=>add_int q
theorem FH:cE X (binaryOp .Mult) (rI vQ fun i j=>.int (i*j)):=vP fun _ _ _ _ _ _ _ hc q=>mul_int q hc.ok
theorem FI:cE X (binaryOp .FloorDiv) (rI FF fun i j=>.int (i / j)):=vP fun i j _ _ _ _ _ hc q=>by
 have h1:(0:Int)<j:=hc.1
 have h2:j<1073741824:=hc.2
 exact floordiv_int (by omega) (by rw[Int.fdiv_eq_ediv_of_nonneg i (by omega)];exact q) (.inl (PyProof.noPylong_small (by omega)))
theorem FJ:cE X (binaryOp .Mod) (rI (fun _ j=>0<j) fun i j=>.int (i % j)):=vP fun i j _ _ _ _ _ hc q=>by
 have h1:(0:Int)<j:=hc
 exact mod_int' (by omega) (by rw[Int.fmod_eq_emod_of_nonneg i (by omega)];exact q)
theorem zI:cE X (compareOp .Lt) (kX fun i j=>.bl (decide (i<j))):=zH fun _ _ _ _ _ _ _ q=>lt_int q
theorem FK:cE X (compareOp .LtE) (kX fun i j=>.bl (decide (i<=j))):=zH fun _ _ _ _ _ _ _ q=>le_int q
theorem cE.or{r r':R2}(h:cE X f r)(h':cE X f r'):cE X f (fun x y H Q=>r x y H Q\/r' x y H Q):=by
 intro pins s σ H x y v u Q I rx ry q
 rcases q with q|q
 ·exact h pins s σ H x y v u Q I rx ry q
 ·exact h' pins s σ H x y v u Q I rx ry q
theorem tF(b:Expr)(h:op ≠ .In:=by decide)(h2:op ≠ .NotIn:=by decide):behindInMarks op b=false:=by
 have e1:(op==CmpOp.In)=false:=by cases op<;>first|rfl|exact absurd rfl h
 have e2:(op==CmpOp.NotIn)=false:=by cases op<;>first|rfl|exact absurd rfl h2
 cases b<;>simp[behindInMarks,e1,e2]
theorem FL{r:R2}(ho:cE X (compareOp op) r)(ha:PE X a ta)(hb:PE X b tb)(hm:behindInMarks op b=false):PE X (.Compare a [op] [b] pos) (jk r ta tb):=by
 intro pins s σ H Q I h
 exact wpAny_Compare1 (vO ha hb I h fun v u s2 x y H2 I2 rx ry q=>ho pins s2 σ H2 x y v u Q I2 rx ry q) hm
def zJ (t:TE):TT:=fun σ H Q=>t σ H fun x H'=>∃ k,x=.bl k/\Q k H'
theorem FN{r:R2}(ho:cE X (compareOp op) r)(ha:PE X a ta)(hb:PE X b tb)(hm:behindInMarks op b=false):PT X (.Compare a [op] [b] pos) (zJ (jk r ta tb)):=by
 intro pins s σ H Q I h
 refine wpAny_isTrue_Compare1 (aV (ha pins s σ H _ I h) fun v s1 ⟨x,H1,I1,r1,q1⟩=>aV (hb pins s1 σ H1 _ I1 q1) fun u s2 ⟨y,H2,I2,r2,q2⟩=>
  aV (ho pins s2 σ H2 x y v u _ I2 r1 r2 q2) fun c s3 ⟨z,H3,I3,r3,k,e,q3⟩=>?_) hm
 subst e
 cases r3
 exact Zo ⟨H3,I3,q3⟩
def FO (r r':R2)(ta tb tc:TE):TE:=fun σ H Q=>ta σ H fun x H1=>tb σ H1 fun y H2=>r x y H2 fun z H3=>∃ k,z=.bl k /\
 (if k=true then tc σ H3 fun w' H4=>r' y w' H4 Q else Q (.bl false) H3)
theorem FP{nN:CmpOp}{r r':R2}(ho:cE X (compareOp op) r)(iI:cE X (compareOp nN) r')(ha:PE X a ta)(hb:PE X b tb)(hc:PE X c tc)
  (hm:lastMarks [op,nN] [b,c]=false:=by with_unfolding_all rfl):PE X (.Compare a [op,nN] [b,c] pos) (FO r r' ta tb tc):=by
 intro pins s σ H Q I h
 refine Compare_chain (aV (ha pins s σ H _ I h) fun v s1 ⟨x,H1,I1,r1,q1⟩=>chain_link (aV (hb pins s1 σ H1 _ I1 q1) fun u s2 ⟨y,H2,I2,r2,q2⟩=>
  aV (ho pins s2 σ H2 x y v u _ I2 r1 r2 q2) fun d s3 ⟨z,H3,I3,r3,k,e,q3⟩=>?_)) hm
 subst e
 cases r3
 refine Zo ?_
 cases k with
 | false=>exact ite_ff ⟨.bl false,H3,I3,rfl,q3⟩
 | true=>exact ite_tt (chain_last (aV (hc pins s3 σ H3 _ I3 q3) fun w' s4 ⟨z',H4,I4,r4,q4⟩=>iI pins s4 σ H4 y z' u w' Q I4 r2 r4 q4))
def zK (K:PySem.W.Frag)(x:V)(H:Hp)(k:Bool):Prop:=
 match x with
 | .aS=>k=false
 | .bl b=>k=b
 | .int i=>k=(i != 0)
 | .str y=>y.length<=sizeLine/\k=((y.length:Int) != 0)
 | .pq y=>y.size<=sizeLine/\k=((y.size:Int) != 0)
 | .ref p=>(∃ xs,bX K H p xs/\k = !xs.isEmpty)\/(∃ xs,cC K H p xs/\k = !xs.isEmpty)\/∃ aw,H p=some (.dK aw)/\k = !aw.isEmpty
 | _=>False
theorem FQ{κ:Type}{aw:List (κ×V)}{vs:List (κ×Value)}(r:KV aw vs):(!vs.isEmpty) = !aw.isEmpty:=by
 cases r<;>rfl
theorem zL{xs:List V}{ak:List Value}(r:aR xs ak):(!ak.toArray.isEmpty) = !xs.isEmpty:=by
 cases r<;>simp
theorem pz:(sizeLine:Nat)<2 ^ 63:=by rw[JQ];decide
theorem FR:FD X (fun x H Q=>∃ k,zK X.K x H k/\Q k H):=by
 intro pins s σ H x v Q I rx h
 obtain⟨k,e,q⟩:=h
 have hl:=pz
 have hs:sizeLine=16777216:=JQ
 cases x with
 | aS=>
  cases rx
  have e':k=false:=e
  subst e'
  exact truthy_none ⟨H,I,q⟩
 | bl b=>
  cases rx
  have e':k=b:=e
  subst e'
  exact Zo ⟨H,I,q⟩
 | int i=>
  obtain⟨t,rfl⟩:=rx
  have e':k=(i != 0):=e
  subst e'
  exact PySem.P.truthy_int ⟨H,I,q⟩
 | str y=>
  obtain⟨t,rfl⟩:=rx
  obtain⟨hy,e'⟩:y.length<=sizeLine/\k=((y.length:Int) != 0):=e
  subst e'
  exact PySem.P.truthy_str (by omega) ⟨H,I.tok _,q⟩
 | pq y=>
  obtain⟨t,rfl⟩:=rx
  obtain⟨hy,e'⟩:y.size<=sizeLine/\k=((y.size:Int) != 0):=e
  subst e'
  exact PySem.W.truthy_bytes (by omega) ⟨H,I.tok _,q⟩
 | ref p=>
  cases rx
  have e':(∃ xs,bX X.K H p xs/\k = !xs.isEmpty)\/(∃ xs,cC X.K H p xs/\k = !xs.isEmpty)\/∃ aw,H p=some (.dK aw)/\k = !aw.isEmpty:=e
  rcases e' with⟨xs,hx,e'⟩|⟨xs,hx,e'⟩|⟨aw,hx,e'⟩
  ·subst e'
   obtain⟨ak,r,pl,hz⟩:=I.list hx
   have hlen:=r.length
   exact wpAny_truthy_list pl.isList (by simp only[Qg];omega) ⟨H,I.tok _,by rw[zL r];exact q⟩
  ·subst e'
   obtain⟨ak,r,pl,hz⟩:=I.tuple hx
   have hlen:=r.length
   exact truthy_tuple pl (by simp only[Qg];omega) ⟨H,I.tok _,by rw[zL r];exact q⟩
  ·subst e'
   obtain⟨hz,hS,vs,r,m⟩:aw.length<=sizeLine/\(p==sysModules)=false/\∃ vs,KV aw vs/\s.heap.DictOf (gJ X.prog X.w) p vs:=I.aF p _ hx
   have hlen:aw.length=vs.length:=Paired.length r
   exact wpAny_truthy_dict hS m (by omega) ⟨H,I.tok _,by rw[FQ r];exact q⟩
 | _=>exact(show False from e).elim
theorem FT(ha:PE X a ta)(he:∀ whole,isTrue a X.env whole=(do let v <- whole;standAt a.pos;holding [v] (truthy v))) :
  PT X a (fun σ H Q=>ta σ H fun x H'=>∃ k,zK X.K x H' k/\Q k H'):=by
 intro pins s σ H Q I h
 exact isTrue_plain (aV (ha pins s σ H _ I h) fun v s1 ⟨x,H1,I1,r1,q1⟩=>FR pins s1 σ H1 x v Q I1 r1 q1) (he _)
theorem nO{x:V}(r:aR [x] us):∃ u,us=[u]/\bj x u:=by
 cases r with
 | cons r1 r2=>cases r2;exact⟨_,rfl,r1⟩
theorem zM{x y:V}(r:aR [x,y] us):∃ u w',us=[u,w']/\bj x u/\bj y w':=by
 cases r with
 | cons r1 r2=>
  cases r2 with
  | cons r3 r4=>cases r4;exact⟨_,_,rfl,r1,r3⟩
theorem FU(hc:X.calm=true):kr X (.builtin "max") (fun xs H Q=>∃ i j,xs=[.int i,.int j]/\Q (.int (if j > i then j else i)) H):=by
 intro pins s σ H xs us Q I r h
 obtain⟨i,j,rfl,q⟩:=h
 obtain⟨u,w',rfl,⟨t,rfl⟩,⟨t',rfl⟩⟩:=zM r
 refine max_two_ints (I.ok.hd hc) fun h' tk k=>⟨_,H,I.kept k,?_,q⟩
 by_cases hj:j > i
 ·rw[Qe hj,Qe hj];exact⟨_,rfl⟩
 ·rw[Qh hj,Qh hj];exact⟨_,rfl⟩
end
structure ig (h:Heap) (x dx C:Addr) (mA:Str->Option Value):Prop where
 obj:h.get? x=some (PySem.W.instObj C dx)
 ns:h.Ns1 dx mA
 ne:dx≠x
theorem FV(n:h.Ns1 dx mA):∃ od,h.get? dx=some od/\∀ name,PySem.W.lookIn name od=some (mA name):=by
 obtain⟨o,es,ep,ho,hd,hk,_,hm⟩:=n
 refine⟨o,ho,fun name=>?_⟩
 have e:=hm name
 unfold nsFind findBy at e
 rw[<- Array.find?_toList]at e
 unfold PySem.W.lookIn
 rw[hd]
 dsimp only
 split
 next y q=>
  rw[q]at e
  exact ZG some e
 next q=>
  rw[q]at e
  have a:es.toList.any (·.refKey)=false:=by
   rw[List.any_eq_false]
   intro y hy
   obtain⟨z,t,vR⟩:=hk y (Array.mem_toList_iff.mp hy)
   simp[DictEntry.refKey,vR]
  have a':¬ es.toList.any (·.refKey)=true:=by rw[a];exact ZR
  rw[Qh a']
  exact ZG some e
theorem ig.look{x:Addr}(I:ig h x dx C mA):∃ od,PySem.W.InstAt h x (PySem.W.instObj C dx) C (some od)/\∀ name,PySem.W.lookIn name od=some (mA name):=
 let ⟨od,ho,hl⟩:=FV I.ns
 ⟨od,⟨I.obj,rfl,rfl,ho⟩,hl⟩
section
variable {prog:Program}{w:World}{A:Around}{E:Value->Shared->Prop}{s:Shared}{K:PySem.W.Frag}{x dx C f:Addr}{mA:Str->Option Value}{name:Str}{v:Value}
theorem FW{expr:Bool}(X:K.In s.heap)(I:ig s.heap x dx C mA)(hg:PySem.W.plainGet K C name=true)(hh:PySem.W.hasDictIn K C=true)
  (ha:PySem.W.findIn K (.ref C) name=some none) (hv:mA name=some v) (vS:PySem.W.handedIn v=true) (h:Q v { s with toks:=s.toks+1 }) :
  wpAny (model prog w) A (getAttr (.ref x) name expr) Q E s:=by
 obtain⟨od,J,hl⟩:=I.look
 exact PySem.W.get_value X J (Jd hg).1 (PySem.W.findObj_own hh ha rfl (by rw[hl,hv])) vS h
theorem FX{Q:Value×List Value->Shared->Prop}(X:K.In s.heap)(I:ig s.heap x dx C mA)(hg:PySem.W.plainGet K C name=true)
  (hf:PySem.W.findIn K (.ref C) name=some (some (.ref f))) (ht:PySem.W.isFn K (.ref f)=true) (hv:mA name=none) (h:Q (.ref f,[.ref x]) s) :
  wpAny (model prog w) A (getMethod (.ref x) name pl) Q E s:=by
 obtain⟨od,J,hl⟩:=I.look
 exact PySem.W.method_fn X J (Jd hg).1 (Jd hg).2 hf (Zt.mp ht) (by show(PySem.W.lookIn name od).map (·.isSome)=some false;rw[hl,hv];rfl) h
theorem FY{ns:List Str}{Q:Unit->Shared->Prop}(X:K.In s.heap)(I:ig s.heap x dx C mA)
  (hs:PySem.W.findIn K (.ref C) "__setattr__" = some (some (.builtin "object.__setattr__"))) (hp:PySem.W.plainOver K C=true) (ht:PySem.W.takerIn K C name=some none) (hh:PySem.W.hasDictIn K C=true)
  (hw:PySem.Within mA ns) (hsz:ns.length<=sizeLine)
  (h:∀ h',ig h' x dx C (fun y=>if y=name then some v else mA y)->Heap.SameBut dx s.heap h'->Q () { s with heap:=h',toks:=s.toks+2 }) :
  wpAny (model prog w) A (setAttr (.ref x) name v) Q E s:=by
 obtain⟨od,J,hl⟩:=I.look
 refine PySem.W.set_plain X J hs (PySem.W.osa_open (s:={ s with toks:=s.toks+1 }) (r:=none) X J hp ht fun b=>?_)
 obtain⟨cd,hc,l_⟩:=PySem.W.any_some hh
 have hx:s.heap.get? x=some ⟨.ref C,some dx,.plain,#[]⟩:=I.obj
 refine Qb (Qk (Qb (Qb (wpAny_loadPart hx (Qb (PySem.W.Looks.here (s:={ s with toks:=s.toks+1 }) (PySem.W.looks_clsIn X hc) ?_))))))
 rw[l_]
 refine Qk (a:=some dx) (Qb (Qk (Qb ?_)))
 refine wpAny_nsSet1 (s:={ s with toks:=s.toks+1 }) I.ns fun h' nP zN=>?_
 obtain⟨oD,RL,RM,FZ,F5,F7⟩:=nP.count (PySem.Within.cons name v hw)
 refine Qb (wpAny_lookBehind FZ (by rw[F5];exact pastItsLine_dict (QK F7 (by rw[Qy];omega))) ?_)
 exact Qk (h _ ⟨(zN.2 _ (Z5 I.ne)).trans I.obj,nP,I.ne⟩ zN)
theorem F8{R:Result->Shared->Prop}{vs:List Value}(X:K.In s.heap)(hm:PySem.W.makesIn K C=true)
  (hi:PySem.W.findIn K (.ref C) "__init__" = some (some (.ref f))) (hf:PySem.W.typeIn K (.ref f)=some (.type "function"))
  (h:codeAny (model prog w) (A.under (.builtin "type.__call__" ⟨.ref C::vs,kw⟩)) (.call (.ref f) ⟨.ref (s.heap.objs.size+1)::vs,kw⟩) (PySem.W.InitBack (s.heap.objs.size+1) R)
    { s with heap:=(s.heap.push PySem.W.emptyDict).push (PySem.W.instObj C s.heap.objs.size) }) :
  codeAny (model prog w) A (.call (.ref C) ⟨vs,kw⟩) R s:=by
 obtain⟨hh,g,d,t,os⟩:=s
 exact PySem.W.make_core (PySem.W.makes_of X hm) (PySem.W.looks_findIn X hi) (fun self=>PySem.W.bind_fn X self hf) (.inl rfl) h
end
def gk (f:Str)(v:V):List (Str×V)->List (Str×V)
 | []=>[(f,v)]
 | (g,x)::r=>if g=f then(g,v)::r else(g,x)::gk f v r
theorem zO(f g:Str)(v:V):∀ fs:List (Str×V),(gk f v fs).lookup g=if g=f then some v else fs.lookup g
 | []=>by
  show List.lookup g [(f,v)]=_
  by_cases h:g=f
  ·have hb:(g==f)=true:=Zt.mpr h
   simp only[List.lookup,hb,Qe h]
  ·have hb:(g==f)=false:=Zw.mpr h
   simp only[List.lookup,hb,Qh h]
 | (k,x)::r=>by
  have ih:=zO f g v r
  rw[show gk f v ((k,x)::r)=(if k=f then(k,v)::r else(k,x)::gk f v r)from rfl]
  by_cases hk:k=f
  ·rw[Qe hk]
   by_cases h:g=k
   ·have hb:(g==k)=true:=Zt.mpr h
    simp only[List.lookup,hb,Qe (h.trans hk)]
   ·have hb:(g==k)=false:=Zw.mpr h
    simp only[List.lookup,hb,Qh (fun e:g=f=>h (e.trans hk.symm))]
  ·rw[Qh hk]
   by_cases h:g=k
   ·have hb:(g==k)=true:=Zt.mpr h
    simp only[List.lookup,hb,Qh (fun e:g=f=>hk (h.symm.trans e))]
   ·have hb:(g==k)=false:=Zw.mpr h
    simp only[List.lookup,hb]
    exact ih
theorem vT(f:Str)(v:V):∀ fs:List (Str×V),f∈(gk f v fs).map (·.1)/\∀ g,g∈fs.map (·.1)->g∈(gk f v fs).map (·.1)
 | []=>⟨by simp[gk],fun g h=>by simp at h⟩
 | (k,x)::r=>by
  obtain⟨i1,i2⟩:=vT f v r
  rw[show gk f v ((k,x)::r)=(if k=f then(k,v)::r else(k,x)::gk f v r)from rfl]
  by_cases hk:k=f
  ·rw[Qe hk]
   subst hk
   exact⟨by simp,fun g h=>by simpa using h⟩
  ·rw[Qh hk]
   refine⟨?_,fun g h=>?_⟩
   ·rw[Q3]
    exact Qa _ i1
   ·rw[Q3]at h ⊢
    rcases Qr.mp h with e|e
    ·exact Qr.mpr (.inl e)
    ·exact Qa _ (i2 g e)
theorem zP(f:Str)(v:V):∀ fs:List (Str×V),(gk f v fs).length<=fs.length+1
 | []=>by simp[gk]
 | (k,x)::r=>by
  have ih:=zP f v r
  rw[show gk f v ((k,x)::r)=(if k=f then(k,v)::r else(k,x)::gk f v r)from rfl]
  by_cases hk:k=f
  ·rw[Qe hk,Qy,Qy];omega
  ·rw[Qh hk,Qy,Qy];omega
theorem iH.some_of{v:V}{o:Option Value}(r:iH (some v) o):∃ u,o=some u/\bj v u:=by
 cases o with
 | none=>exact(show False from r).elim
 | some u=>exact⟨u,rfl,r⟩
theorem iH.none_of{o:Option Value}(r:iH none o):o=none:=by
 cases o with
 | none=>rfl
 | some u=>exact(show False from r).elim
theorem F9{v:V}(r:bj v u):PySem.W.handedIn u=true:=by
 cases v with
 | aS=>cases (show u=Value.none from r);rfl
 | bl b=>cases (show u=Value.bool b from r);rfl
 | int i=>obtain⟨t,e⟩:=(show ∃ t,u=Value.int i t from r);cases e;rfl
 | str x=>obtain⟨t,e⟩:=(show ∃ t,u=Value.str x t from r);cases e;rfl
 | pq b=>obtain⟨t,e⟩:=(show ∃ t,u=Value.bytes b t from r);cases e;rfl
 | nF b=>obtain⟨t,e⟩:=(show ∃ t,u=Value.float b t from r);cases e;rfl
 | ref a=>cases (show u=Value.ref a from r);rfl
 | ty n=>cases (show u=Value.type n from r);rfl
section
variable {P:Program}{w:World}{H H':Hp}{h h':Heap}{a C dx:Addr}{fs b8:List (Str×V)}
theorem qJ(aF:cN P w H h)(e:H a=some (.ins C dx fs)):∃ mA,ig h a dx C mA/\(∀ f,iH (fs.lookup f) (mA f))/\PySem.Within mA (fs.map (·.1))/\fs.length<=1000/\H dx=some (.own a):=by
 obtain⟨d,z,ne,ob,mA,n,r,q⟩:=(show cM P w H h a (.ins C dx fs)from aF a _ e)
 exact⟨mA,⟨ob,n,ne⟩,r,q,z,d⟩
end
structure jB (K:PySem.W.Frag) (C:Addr):Prop where
 pg:PySem.W.plainGet K C Str.empty=true
 hd:PySem.W.hasDictIn K C=true
 po:PySem.W.plainOver K C=true
 sa:PySem.W.findIn K (.ref C) "__setattr__" = some (some (.builtin "object.__setattr__"))
theorem jB.get(c:jB K C)(f:Str):PySem.W.plainGet K C f=true:=c.pg
def mj (K:PySem.W.Frag)(C:Addr)(f:Str):Prop:=PySem.W.findIn K (.ref C) f=some none
theorem mj.qK{f:Str}(n:mj K C f):PySem.W.takerIn K C f=some none:=by
 unfold PySem.W.takerIn
 rw[show PySem.W.findIn K (.ref C) f=some none from n]
 rfl
structure gK (K:PySem.W.Frag) (C:Addr) (m:Str) (f:Addr):Prop where
 at_:PySem.W.findIn K (.ref C) m=some (some (.ref f))
 fn:PySem.W.isFn K (.ref f)=true
 kp:PySem.W.keepIn K (.ref f)=true
section
variable {X:Cx}{pins:List (Addr×Obj)}{σ:St}{H:Hp}{s:Shared}{a C dx:Addr}{fs:List (Str×V)}{f:Str}{v:V}{A:Around}{E:Value->Shared->Prop}
theorem F_{b:Bool}(I:Inv X pins σ H s)(e:H a=some (.ins C dx fs))(c:jB X.K C)(n:mj X.K C f)(l:fs.lookup f=some v)
  (h:∀ u s',Inv X pins σ H s'->bj v u->Q u s'):wpAny (model X.prog X.w) A (getAttr (.ref a) f b) Q E s:=by
 obtain⟨mA,O,r,_,_,_⟩:=qJ I.aF e
 obtain⟨u,hu,ru⟩:=iH.some_of (v:=v) (o:=mA f) (by rw[<- l];exact r f)
 exact FW I.di O (c.get f) c.hd n hu (F9 ru) (h u _ (I.tok _) ru)
theorem vU{g:Addr}{Q:Value×List Value->Shared->Prop}(I:Inv X pins σ H s)(e:H a=some (.ins C dx fs))(c:jB X.K C)(k:gK X.K C m g)(l:fs.lookup m=none)
  (h:Q (.ref g,[.ref a]) s):wpAny (model X.prog X.w) A (getMethod (.ref a) m pl) Q E s:=by
 obtain⟨mA,O,r,_,_,_⟩:=qJ I.aF e
 have hn:mA m=none:=iH.none_of (by rw[<- l];exact r m)
 exact FX I.di O (c.get m) k.at_ k.fn hn h
theorem Ga{y:V}{Q:Unit->Shared->Prop}(I:Inv X pins σ H s)(e:H a=some (.ins C dx fs))(c:jB X.K C)(n:mj X.K C f)(hl:fs.length<1000)(ry:bj y u)
  (h:∀ s',Inv X pins σ (upd H a (.ins C dx (gk f y fs))) s'->Q () s'):wpAny (model X.prog X.w) A (setAttr (.ref a) f u) Q E s:=by
 obtain⟨mA,O,r,wi,_,ho⟩:=qJ I.aF e
 have hz:(fs.map (·.1)).length<=sizeLine:=by rw[Qm,JQ];omega
 refine FY I.di O c.sa c.po n.qK c.hd wi hz fun h' O' sb=>h _ ?_
 have hd:∃ o,h'.get? dx=some o:=let ⟨o,_,_,e',_⟩:=O'.ns;⟨o,e'⟩
 refine I.write (x:=a) (e:=dx) (by rw[e];exact True.intro) (.inr ho) (fun b q hb z=>(sb.2 b hb).trans z) hd ?_
 refine⟨by rw[ba O.ne];exact ho,?_,O.ne,O'.obj,_,O'.ns,fun g=>?_,fun g hg=>?_⟩
 ·have:=zP f y fs;omega
 ·show iH ((gk f y fs).lookup g) (if g=f then some u else mA g)
  rw[zO]
  by_cases q:g=f
  ·rw[Qe q,Qe q];exact ry
  ·rw[Qh q,Qh q];exact r g
 ·by_cases q:g=f
  ·rw[q];exact(vT f y fs).1
  ·refine(vT f y fs).2 g (wi g fun z=>hg ?_)
   show(if g=f then some u else mA g)=none
   rw[Qh q];exact z
theorem Inv.made(I:Inv X pins σ H s):Inv X pins σ (upd (upd H s.heap.objs.size (.own (s.heap.objs.size+1))) (s.heap.objs.size+1) (.ins C s.heap.objs.size []))
  { s with heap:=(s.heap.push PySem.W.emptyDict).push (PySem.W.instObj C s.heap.objs.size) }:=by
 have e1:(s.heap.push PySem.W.emptyDict).get? s.heap.objs.size=some PySem.W.emptyDict:=Qs s.heap rfl
 have e2:((s.heap.push PySem.W.emptyDict).push (PySem.W.instObj C s.heap.objs.size)).get? (s.heap.objs.size+1)=some (PySem.W.instObj C s.heap.objs.size):=by
  have:=Qs (s.heap.push PySem.W.emptyDict) (o:=PySem.W.instObj C s.heap.objs.size) rfl
  rwa [Zd]at this
 have e3:(s.heap.push PySem.W.emptyDict).Ns s.heap.objs.size (fun _=>none):=⟨PySem.W.emptyDict,#[],_,e1,rfl,(fun e he=>absurd he (by simp)),fun _=>rfl⟩
 have I1:=I.laid (a:=s.heap.objs.size) (o:=.own (s.heap.objs.size+1)) (h':=s.heap.push PySem.W.emptyDict) (t':=s.toks) (fun b u q=>Qf _ q) (Qc _) ⟨_,e1⟩
 refine I1.laid (a:=s.heap.objs.size+1) (o:=.ins C s.heap.objs.size []) (t':=s.toks) (fun b u q=>Qf _ q) (Nat.le_of_eq (Zd _ _)) ?_
 have ne:s.heap.objs.size≠s.heap.objs.size+1:=QX (QU _)
 refine⟨by rw[ba ne,fi],ZC _,ne,e2,fun _=>none,(Heap.Ns1.of_empty e3).at fun o q=>Qf _ q,fun _=>True.intro,fun y hy=>absurd rfl hy⟩
theorem Gb{prog:Program}{env:Env}{f:Str}{pos:Pos}{s:Shared}(hb:attributeBase e f env (eval e env)=eval e env)
  (h:wpAny (model prog w) A (eval e env) (fun o aJ=>wpAny (model prog w) A (getAttr o f true) Q E aJ) E s):wpAny (model prog w) A (eval (.Attribute e f pos) env) Q E s:=
 Attribute_any_ h (by rw[arm_eval_Attribute,hb])
end
def Gc (K:PySem.W.Frag)(ta:TE)(f:Str):TE:=fun σ H Q=>ta σ H fun x H1=>∃ a C dx fs v,x=.ref a/\H1 a=some (.ins C dx fs)/\jB K C/\mj K C f/\fs.lookup f=some v/\Q v H1
def Gd (K:PySem.W.Frag)(ta tv:TE)(f:Str):TS:=fun D σ H=>tv σ H fun y H1=>ta σ H1 fun x H2=>∃ a C dx fs,x=.ref a/\H2 a=some (.ins C dx fs)/\jB K C/\mj K C f/\fs.length<1000 /\
 D.nx σ (upd H2 a (.ins C dx (gk f y fs)))
section
variable {X:Cx}{o e value:Expr}{f:Str}{pos pos' Ge:Pos}{ta tv:TE}
theorem Gf(he:PE X e ta)(hb:attributeBase e f X.env (eval e X.env)=eval e X.env):PE X (.Attribute e f pos) (Gc X.K ta f):=by
 intro pins s σ H Q I h
 refine Gb hb (aV (he pins s σ H _ I h) fun u s1 ai=>?_)
 obtain⟨x,H1,I1,rx,a,C,dx,fs,v,ex,ea,c,n,l,q⟩:=ai
 subst ex
 obtain rfl:u=Value.ref a:=rx
 exact F_ I1 ea c n l fun u' s2 I2 ru=>⟨v,H1,I2,ru,q⟩
theorem Gg(ha:PE X o ta)(hv:PE X value tv)(hs:swapsWith value (some (.Attribute o f pos')) pos.line X.env=pure false):PS X (.Assign [.Attribute o f pos'] value pos) (Gd X.K ta tv f):=by
 intro pins s σ H D I h
 refine plainObj_wpAny_Assign_Attribute (aV (hv pins s σ H _ I h) fun u s1 ⟨y,H1,I1,ry,q⟩=>aV (ha pins s1 σ H1 _ I1 q) fun ov s2 ⟨x,H2,I2,rx,a,C,dx,fs,ex,ea,c,n,l,q2⟩=>?_) hs
 subst ex
 obtain rfl:ov=Value.ref a:=rx
 exact Ga I2 ea c n l ry fun s3 I3=>⟨σ,_,I3,q2⟩
theorem RN{apos:Pos}{args:List Expr}{σ:St}{H:Hp}{te:TE}(he:PE X e te)(I:Inv X pins σ H s)
  (h:te σ H fun x H1=>∃ a C dx fs g,x=.ref a/\H1 a=some (.ins C dx fs)/\jB X.K C/\gK X.K C m g/\fs.lookup m=none /\
    ∀ s1,Inv X pins σ H1 s1->wpAny (model X.prog X.w) X.A (callWith pos (.ref g) [.ref a] (backTo pos (starEach args X.env)) (backToKw pos (keywordEach [] X.env))) Q X.xe s1)
  (ht:eval (.Call (.Attribute e m apos) args [] pos) X.env=(do
    let ov <- eval e X.env
    standAt apos.atName
    let (f,first) <- holding [ov] (getMethod ov m pl)
    callWith pos f first (backTo pos (starEach args X.env)) (backToKw pos (keywordEach [] X.env)))) :
  wpAny (model X.prog X.w) X.A (eval (.Call (.Attribute e m apos) args [] pos) X.env) Q X.xe s:=by
 refine Z1 (pl:=pl) (aV (he pins s σ H _ I h) fun u s1 ⟨x,H1,I1,rx,a,C,dx,fs,g,ex,ea,c,k,l,q⟩=>?_) ht
 subst ex
 obtain rfl:u=Value.ref a:=rx
 exact vU I1 ea c k l (q s1 I1)
end
section
variable {X:Cx}{pins:List (Addr×Obj)}{σ:St}{H:Hp}{s:Shared}{A:Around}{E:Value->Shared->Prop}{Q:Value->Shared->Prop}{c:Value}{b:Bool}
inductive d5 (K:PySem.W.Frag) (H:Hp):V->Value->Prop where
 | aS:d5 K H .aS (.type "NoneType")
 | bl (x:Bool):d5 K H (.bl x) (.type "bool")
 | int (i:Int):d5 K H (.int i) (.type "int")
 | str (x:Str):d5 K H (.str x) (.type "str")
 | nF (x:UInt64):d5 K H (.nF x) (.type "float")
 | lst {a:Addr} {xs:List V} (e:H a=some (.lst xs)):d5 K H (.ref a) (.type "list")
 | dZ {a:Addr} {o:Obj} {xs:List V} (e:H a=some (.dZ o (.lst xs))):d5 K H (.ref a) (.type "list")
 | tup {a:Addr} {xs:List V} (e:H a=some (.tup xs)):d5 K H (.ref a) (.type "tuple")
 | dK {a:Addr} {aw:List (Key×V)} (e:H a=some (.dK aw)):d5 K H (.ref a) (.type "dict")
 | dT {a:Addr} {aw:List (List Key×V)} (e:H a=some (.dT aw)):d5 K H (.ref a) (.type "dict")
 | ins {a C dx:Addr} {fs:List (Str×V)} (e:H a=some (.ins C dx fs)) (cl:jB K C) (ha:PySem.W.findIn K (.ref C) "__class__" = some (some (.builtin "object.__class__")))
   (hn:PySem.W.specialIn K (.builtin "object.__class__") "__get__" = some (some (.builtin "getset_descriptor.__get__"))) (qL:PySem.W.takesIn K (.builtin "object.__class__")=some true)
   (hm:PySem.W.mroIn K C (.type "object")=some true):d5 K H (.ref a) (.ref C)
theorem ij{x:V}{t:Value}(I:Inv X pins σ H s)(rx:bj x u)(ty:d5 X.K H x t)(e:PySem.W.kitOne X.K t c=some b)(h:∀ tk,Q (.bool b) { s with toks:=tk }) :
  wpAny (model X.prog X.w) A (call (.builtin "isinstance") [u,c]) Q E s:=by
 cases ty with
 | aS=>cases (show u=Value.none from rx);exact QT PySem.W.kitx_none I.di True.intro e (fun z=>nomatch z) h
 | bl y=>cases (show u=Value.bool y from rx);exact QT PySem.W.kitx_bool I.di True.intro e (fun z=>nomatch z) h
 | int i=>obtain⟨t,q⟩:=(show ∃ t,u=Value.int i t from rx);cases q;exact QT PySem.W.kitx_int I.di True.intro e (fun z=>nomatch z) h
 | str y=>obtain⟨t,q⟩:=(show ∃ t,u=Value.str y t from rx);cases q;exact QT PySem.W.kitx_str I.di True.intro e (fun z=>nomatch z) h
 | nF y=>obtain⟨t,q⟩:=(show ∃ t,u=Value.float y t from rx);cases q;exact QT PySem.W.kitx_float I.di True.intro e (fun z=>nomatch z) h
 | @lst a xs ea=>
  cases (show u=Value.ref a from rx)
  obtain⟨_,_,n,_,h1⟩:=(show cM X.prog X.w H s.heap a (.lst xs)from I.aF a _ ea)
  exact QT Jt I.di ⟨_,h1,rfl⟩ e (fun z=>nomatch z) h
 | @dZ a ob xs ea=>
  cases (show u=Value.ref a from rx)
  obtain⟨_,_,_,n,_,h1⟩:=(show cM X.prog X.w H s.heap a (.dZ ob (.lst xs))from I.aF a _ ea)
  exact QT Jt I.di ⟨_,h1,rfl⟩ e (fun z=>nomatch z) h
 | @tup a xs ea=>
  cases (show u=Value.ref a from rx)
  obtain⟨_,_,_,p⟩:=(show cM X.prog X.w H s.heap a (.tup xs)from I.aF a _ ea)
  obtain⟨o,h1,h2,_⟩:=p
  exact QT PySem.W.kitx_tuple I.di ⟨o,h1,h2⟩ e (fun z=>nomatch z) h
 | @dK a aw ea=>
  cases (show u=Value.ref a from rx)
  obtain⟨_,_,vs,_,p⟩:=(show cM X.prog X.w H s.heap a (.dK aw)from I.aF a _ ea)
  obtain⟨o,es,ep,h1,h2,_⟩:=p
  exact QT PySem.W.kitx_dict I.di ⟨o,h1,h2.1⟩ e (fun z=>nomatch z) h
 | @dT a aw ea=>
  cases (show u=Value.ref a from rx)
  obtain⟨_,_,xs,_,o,es,ep,h1,h2,_⟩:=(show cM X.prog X.w H s.heap a (.dT aw)from I.aF a _ ea)
  exact QT PySem.W.kitx_dict I.di ⟨o,h1,h2.1⟩ e (fun z=>nomatch z) h
 | @ins a C dx fs ea cl ha hn qL hm=>
  cases (show u=Value.ref a from rx)
  obtain⟨mA,O,_⟩:=qJ I.aF ea
  obtain⟨od,J,_⟩:=O.look
  exact QT (PySem.W.kitx_own (cl.get _) cl.hd ha hn qL hm) I.di J e (fun z=>nomatch z) h
end
structure aD (k:Nat) (A:Around):Prop where
 hd:A.handled=none
 dp:A.depth+3*k+5<recursionLimit
 un:A.units+16*k+200<cLine
theorem aD.mono{k:Nat}(r:aD k A)(h:j<=k):aD j A:=⟨r.hd,by have:=r.dp;omega,by have:=r.un;omega⟩
theorem aD.deeper{k:Nat}(r:aD (k+1) A)(env:Env):aD k (A.deeper env):=
 ⟨r.hd,by have:=r.dp;show A.depth+1+3*k+5<_;omega,by have:=r.un;show A.units+3+16*k+200<_;omega⟩
theorem Gh:(A.under (.builtin "type.__call__" ⟨.ref C::us,kw⟩)).depth=A.depth+1:=by
 first|rfl|simp[Around.under,Code.weight,Code.isCreation,Code.isGuard,Code.isCaller,Code.frames,Code.isFrame,guardIds]
theorem Gi:(A.under (.builtin "type.__call__" ⟨.ref C::us,kw⟩)).units=A.units+1:=by
 first|rfl|simp[Around.under,Code.cUnits,Code.frames,Code.isFrame]
theorem aD.make{k:Nat}(r:aD (k+1) A)(C:Addr)(us:List Value)(kw:List (Str×Value)):aD k (A.under (.builtin "type.__call__" ⟨.ref C::us,kw⟩)):=
 ⟨r.hd,by have:=r.dp;rw[Gh];omega,by have:=r.un;rw[Gi];omega⟩
theorem aD.depth{k:Nat}(r:aD k A):A.depth<recursionLimit:=by have:=r.dp;omega
theorem aD.units{k:Nat}(r:aD k A):A.units+64<cLine:=by have:=r.un;omega
def vV:TA:=fun _ H Q=>Q [] H
def zQ (ta:TE)(tr:TA):TA:=fun σ H Q=>ta σ H fun x H1=>tr σ H1 fun xs H2=>Q (x::xs) H2
section
variable {X:Cx}{e:Expr}{es:List Expr}{te:TE}{t:TA}{pos:Pos}
theorem pA:PA X [] vV:=fun _ _ _ _ H Q I h=>Calls.spliced_nil ⟨[],H,I,.nil,h⟩
theorem ml(ha:PE X e te)(hr:PA X es t)(hs:starEach (e::es) X.env=(false,eval e X.env)::starEach es X.env:=by rfl):PA X (e::es) (zQ te t):=by
 intro pos pins s σ H Q I h
 rw[hs]
 show wpAny _ _ (spliced ((false,eval e X.env)::backTo pos (starEach es X.env))) _ _ s
 refine Jl (aV (ha pins s σ H _ I h) fun u s1 ai=>?_)
 obtain⟨x,H1,I1,r1,q1⟩:=ai
 exact aV (hr pos pins s1 σ H1 _ I1 q1) fun us s2 ⟨xs,H2,I2,r2,q2⟩=>⟨x::xs,H2,I2,.cons r1 r2,q2⟩
def Gj (t:TA):TE:=fun σ H Q=>t σ H fun xs H1=>xs.length<=sizeLine/\∀ p,H1 p=none->Q (.ref p) (upd H1 p (.tup xs))
def Gk (t:TA):TE:=fun σ H Q=>t σ H fun xs H1=>xs.length<=sizeLine/\∀ p,H1 p=none->Q (.ref p) (upd H1 p (.lst xs))
theorem Gm{x1}(h:PA X es t):PE X (.Tuple es x1 pos) (Gj t):=by
 intro pins s σ H Q I hq
 refine wpAny_Tuple_spliced (aV (h pos pins s σ H _ I hq) fun us s1 ⟨xs,H1,I1,r,z,q⟩=>⟨by rw[<- r.length];exact z,?_⟩)
 have hf:H1 s1.heap.objs.size=none:=I1.aF.fresh (Qc _)
 refine⟨.ref s1.heap.objs.size,upd H1 s1.heap.objs.size (.tup xs),I1.laid (t':=s1.toks) (fun b u e=>Qf _ e) (Qc _) ?_,rfl,q _ hf⟩
 exact⟨z,us,r,⟨_,Qs _ rfl,rfl,⟨_,rfl⟩,rfl⟩⟩
theorem Gn(h:PA X es t):PE X (.List es pos) (Gk t):=by
 intro pins s σ H Q I hq
 refine wpAny_List_spliced (aV (h pos pins s σ H _ I hq) fun us s1 ⟨xs,H1,I1,r,z,q⟩=>⟨by rw[<- r.length];exact z,?_⟩)
 have hf:H1 s1.heap.objs.size=none:=I1.aF.fresh (Qc _)
 refine⟨.ref s1.heap.objs.size,upd H1 s1.heap.objs.size (.lst xs),I1.laid (t':=s1.toks) (fun b u e=>Qf _ e) (Qc _) ?_,rfl,q _ hf⟩
 exact⟨z,us,0,r,Qs _ rfl⟩
end
abbrev Sp:=List V->Hp->VK->XK->Prop
abbrev ku:=List Env->Hp->Shared->XK->Value->Shared->Prop
structure ik (P:Program) (w:World) (K:PySem.W.Frag) (mg:Str->Option Value) (base:Heap) (A:Around) (outer:List Env) (s:Shared) (H:Hp):Prop where
 frames:A.frames=some outer
 mod:Mod K mg base
 bs:∀ b o,base.get? b=some o->s.heap.get? b=some o/\H b=none
 jI:base.objs.size<=s.heap.objs.size
 d4:s.heap.FunFrames base outer
 nH:∀ b∈g_ outer,H b=none
 aF:cN P w H s.heap
 bare:AllBare s.gens
def CE (outer:List Env)(P:Program)(w:World)(H:Hp)(s:Shared)(Q:VK)(u:Value)(s':Shared):Prop:=
 ∃ v H',s'.os=s.os/\AllBare s'.gens/\Un (g_ outer) [] H H' s.heap s'.heap/\cN P w H' s'.heap/\bj v u/\Q v H'
def CR (CX:ku)(outer:List Env)(P:Program)(w:World)(H:Hp)(s:Shared)(Q:VK)(E:XK)(r:Result)(s':Shared):Prop:=
 match r with
 | .ok (.ret u)=>CE outer P w H s Q u s'
 | .ok _=>False
 | .error e=>CX outer H s E e s'
structure bO (P:Program) (w:World) (K:PySem.W.Frag) (mg:Str->Option Value) (base:Heap) (CX:ku) (k:Nat) (f:Addr) (fd:FuncData) (ps:List Str) (sp:Sp):Prop where
 len:∀ vs H Q E,sp vs H Q E->vs.length=ps.length
 run:∀ (A:Around) (outer:List Env) (s:Shared) (H:Hp) (args:Args) (us:List Value) (vs:List V) (Q:VK) (E:XK),aD k A->ik P w K mg base A outer s H->BindsTo s fd args (ps.zip us)->aR vs us->sp vs H Q E->
  codeAny (model P w) A (.call (.ref f) args) (CR CX outer P w H s Q E) s
theorem ik.make{H:Hp}(e:ik P w K mg base A outer s H)(C:Addr)(us:List Value)(kw:List (Str×Value)) :
  ik P w K mg base (A.under (.builtin "type.__call__" ⟨.ref C::us,kw⟩)) outer s H:=⟨by first|exact e.frames|(simpa [Around.under,Code.envs,Code.isFrame,pushEnvs]using e.frames),e.mod,e.bs,e.jI,e.d4,e.nH,e.aF,e.bare⟩
section
variable {X:Cx}{pins:List (Addr×Obj)}{σ:St}{H:Hp}{s s':Shared}
theorem Inv.qM(I:Inv X pins σ H s):ik X.prog X.w X.K X.mg X.base X.A X.stack s H:=
 ⟨I.ok.frames,I.ok.mod,I.bs,QK I.ok.jI I.sz,I.stack,I.iJ,I.aF,I.bare⟩
theorem Inv.after{Q:VK}(I:Inv X pins σ H s)(h:CE X.stack X.prog X.w H s Q u s'):EP X pins σ Q u s':=by
 obtain⟨v,H',os,bare,un,aF,r,q⟩:=h
 obtain⟨hh,g,d,t,Gp⟩:=s'
 obtain rfl:Gp=s.os:=os
 exact⟨v,H',I.call (h':=hh) (g':=g) (d':=d) (t':=t) (ch:=[]) un aF bare (fun b z=>absurd z (by simp)),r,q⟩
end
def Gq (sp:Sp)(dvs:List V)(E:XK)(t:TA):TE:=fun σ H Q=>t σ H fun vs H1=>sp (vs++dvs) H1 Q E
def zR (C:Addr)(m:Str)(sp:Sp)(dvs:List V)(E:XK)(ta:TE)(t:TA):TE:=fun σ H Q=>ta σ H fun x H1=>∃ a dx fs,x=.ref a/\H1 a=some (.ins C dx fs)/\fs.lookup m=none /\
 t σ H1 fun vs H2=>sp (x::(vs++dvs)) H2 Q E
def Gr (C:Addr)(sp:Sp)(dvs:List V)(E:XK)(t:TA):TE:=fun σ H Q=>t σ H fun vs H1=>∀ x dx,H1 x=none->H1 dx=none->dx≠x->
 sp (.ref x::(vs++dvs)) (upd (upd H1 dx (.own x)) x (.ins C dx [])) (fun v H2=>v=.aS/\Q (.ref x) H2) E
def gL (K:PySem.W.Frag)(fd:FuncData)(ps:List Str)(ds:List Value):Prop:=
 ∀ (s:Shared) (us:List Value),K.In s.heap->(us++ds).length=ps.length->BindsTo s fd ⟨us,[]⟩ (ps.zip (us++ds))
theorem gL.all{fd:FuncData}(h:∀ us:List Value,us.length=ps.length->bindArgs fd ⟨us,[]⟩=pure (ps.zip us)):gL K fd ps []:=fun s us _ hl=>by
 rw[Zg]at hl ⊢
 exact .of_eq (h us hl)
def mm (CX:ku)(X:Cx)(E:XK):Prop:=∀ (pins:List (Addr×Obj)) (σ:St) (H:Hp) (s:Shared) (e:Value) (s':Shared),Inv X pins σ H s->CX X.stack H s E e s'->X.xe e s'
section
variable {X:Cx}{CX:ku}{k:Nat}{f C:Addr}{fd:FuncData}{ps:List Str}{sp:Sp}{dvs:List V}{ds:List Value}{E:XK}{x m:Str}{p pos apos:Pos}{e o:Expr}{es:List Expr}{ta:TE}{t:TA}
theorem vW{σ:St}{H:Hp}{Q:VK}{vs:List V}(F:bO X.prog X.w X.K X.mg X.base CX k f fd ps sp)(hr:aD k X.A)(hb:gL X.K fd ps ds)(hd:aR dvs ds)(hx:mm CX X E)
  (I:Inv X pins σ H s) (r:aR vs us) (h:sp (vs++dvs) H Q E):wpAny (model X.prog X.w) X.A (call (.ref f) us) (EP X pins σ Q) X.xe s:=by
 have r2:aR (vs++dvs) (us++ds):=r.append hd
 have hl:(us++ds).length=ps.length:=by rw[<- r2.length];exact F.len _ _ _ _ h
 refine wpAny_call (Jg (F.run X.A X.stack s H ⟨us,[]⟩ (us++ds) (vs++dvs) Q E hr I.qM (hb s us I.di hl) r2 h) fun r s' hq=>?_)
 cases r with
 | error e=>exact hx pins σ H s e s' I hq
 | ok fl=>
  cases fl with
  | ret u=>exact I.after hq
  | next=>exact False.elim hq
  | brk=>exact False.elim hq
  | cont=>exact False.elim hq
theorem zS(F:bO X.prog X.w X.K X.mg X.base CX k f fd ps sp)(hr:aD k X.A)(hg:Gl X x)(hm:X.mg x=some (.ref f))(hk:PySem.W.keepIn X.K (.ref f)=true)(hb:gL X.K fd ps ds)(hd:aR dvs ds)(hx:mm CX X E)
  (ha:PA X (e::es) t) (il:(x==("__debug__":Str))=false:=by decide) (he:starEach (e::es) X.env=(false,eval e X.env)::starEach es X.env:=by rfl) (bV:(backTo pos (starEach es X.env)).any (·.1)=false:=by rfl) :
  PE X (.Call (.Name x p) (e::es) [] pos) (Gq sp dvs E t):=by
 intro pins s σ H Q I h
 refine ZS (zq I hg hm ?_ il)
 refine Jm (h₀:=X.base) I.ok.mod.qB hk (aV (ha pos pins s σ H _ I h) fun us s1 ⟨vs,H1,I1,r,q⟩=>⟨I1.di,?_⟩) he bV
 exact vW F hr hb hd hx I1 r q
theorem Gs{pl:Sem Bool}(he:PE X o ta)(c:jB X.K C)(hm:gK X.K C m f)(F:bO X.prog X.w X.K X.mg X.base CX k f fd ps sp)(hr:aD k X.A)(hb:gL X.K fd ps ds)(hd:aR dvs ds)(hx:mm CX X E)(ha:PA X (e::es) t)
  (jM:starEach (e::es) X.env=(false,eval e X.env)::starEach es X.env:=by rfl) (bV:(backTo pos (starEach es X.env)).any (·.1)=false:=by rfl)
  (ht:eval (.Call (.Attribute o m apos) (e::es) [] pos) X.env=(do
    let ov <- eval o X.env
    standAt apos.atName
    let (f,first) <- holding [ov] (getMethod ov m pl)
    callWith pos f first (backTo pos (starEach (e::es) X.env)) (backToKw pos (keywordEach [] X.env))):=by rfl) :
  PE X (.Call (.Attribute o m apos) (e::es) [] pos) (zR C m sp dvs E ta t):=by
 intro pins s σ H Q I h
 refine Z1 (pl:=pl) (aV (he pins s σ H _ I h) fun u s1 ⟨x,H1,I1,rx,a,dx,fs,ex,ea,l,q⟩=>?_) ht
 subst ex
 obtain rfl:u=Value.ref a:=rx
 refine vU I1 ea c hm l ?_
 refine Jm (first:=[.ref a]) (h₀:=X.base) I.ok.mod.qB hm.kp (aV (ha pos pins s1 σ H1 _ I1 q) fun us s2 ⟨vs,H2,I2,r,q2⟩=>⟨I2.di,?_⟩) jM bV
 exact vW (us:=.ref a::us) (vs:=.ref a::vs) F hr hb hd hx I2 (.cons rfl r) q2
theorem zT(he:PE X o ta)(c:jB X.K C)(hm:gK X.K C m f)(F:bO X.prog X.w X.K X.mg X.base CX k f fd ps sp)(hr:aD k X.A)(hb:gL X.K fd ps ds)(hd:aR dvs ds)(hx:mm CX X E)
  (ht:eval (.Call (.Attribute o m apos) [] [] pos) X.env=(do
    let ov <- eval o X.env
    standAt apos.atName
    let (f,first) <- holding [ov] (getMethod ov m pl)
    callWith pos f first (backTo pos (starEach [] X.env)) (backToKw pos (keywordEach [] X.env))):=by rfl) :
  PE X (.Call (.Attribute o m apos) [] [] pos) (zR C m sp dvs E ta vV):=by
 intro pins s σ H Q I h
 refine Z1 (pl:=pl) (aV (he pins s σ H _ I h) fun u s1 ⟨x,H1,I1,rx,a,dx,fs,ex,ea,l,q⟩=>?_) ht
 subst ex
 obtain rfl:u=Value.ref a:=rx
 refine vU I1 ea c hm l ?_
 exact PySem.W.callWith_K0 (first:=[.ref a]) I1.di hm.kp (vW (us:=[.ref a]) (vs:=[.ref a]) F hr hb hd hx I1 (.cons rfl .nil) q)
structure Mk (K:PySem.W.Frag) (C f:Addr):Prop where
 makes:PySem.W.makesIn K C=true
 init:PySem.W.findIn K (.ref C) "__init__" = some (some (.ref f))
 fn:PySem.W.isFn K (.ref f)=true
 kp:PySem.W.keepIn K (.ref C)=true
theorem Gu{σ:St}{H:Hp}{Q:VK}{vs:List V}(M:Mk X.K C f)(F:bO X.prog X.w X.K X.mg X.base CX k f fd ps sp)(hr:aD (k+1) X.A)(hb:gL X.K fd ps ds)(hd:aR dvs ds)
  (hx:mm CX X E) (I:Inv X pins σ H s) (r:aR vs us)
  (h:∀ x dx,H x=none->H dx=none->dx≠x->sp (.ref x::(vs++dvs)) (upd (upd H dx (.own x)) x (.ins C dx [])) (fun v H2=>v=.aS/\Q (.ref x) H2) E) :
  wpAny (model X.prog X.w) X.A (call (.ref C) us) (EP X pins σ Q) X.xe s:=by
 have hq:=h (s.heap.objs.size+1) s.heap.objs.size (I.aF.fresh (ZM _)) (I.aF.fresh (Qc _)) (QX (QU _))
 have I2:=Inv.made (C:=C) I
 have r2:aR (V.ref (s.heap.objs.size+1)::(vs++dvs)) (Value.ref (s.heap.objs.size+1)::(us++ds)):=.cons rfl (r.append hd)
 have hl:(Value.ref (s.heap.objs.size+1)::us++ds).length=ps.length:=by
  have e:=r2.length
  rw[F.len _ _ _ _ hq]at e
  exact e.symm
 refine wpAny_call (F8 (f:=f) I.di M.makes M.init (Zt.mp M.fn) (Jg (F.run _ X.stack _ _ ⟨Value.ref (s.heap.objs.size+1)::us,[]⟩ (Value.ref (s.heap.objs.size+1)::(us++ds)) _ _ E (hr.make C us [])
  (I2.qM.make C us []) (hb _ (Value.ref (s.heap.objs.size+1)::us) I2.di hl) r2 hq) fun r s' qN=>?_))
 cases r with
 | error e=>exact hx pins σ _ _ e s' I2 qN
 | ok fl=>
  cases fl with
  | ret u=>
   obtain⟨v,H',I3,rv,ev,q3⟩:=I2.after qN
   subst ev
   exact⟨rv,⟨V.ref (s.heap.objs.size+1),H',I3,rfl,q3⟩⟩
  | next=>exact False.elim qN
  | brk=>exact False.elim qN
  | cont=>exact False.elim qN
theorem Gv(M:Mk X.K C f)(F:bO X.prog X.w X.K X.mg X.base CX k f fd ps sp)(hr:aD (k+1) X.A)(hg:Gl X x)(hm:X.mg x=some (.ref C))(hb:gL X.K fd ps ds)(hd:aR dvs ds)(hx:mm CX X E)
  (ha:PA X (e::es) t) (il:(x==("__debug__":Str))=false:=by decide) (he:starEach (e::es) X.env=(false,eval e X.env)::starEach es X.env:=by rfl) (bV:(backTo pos (starEach es X.env)).any (·.1)=false:=by rfl) :
  PE X (.Call (.Name x p) (e::es) [] pos) (Gr C sp dvs E t):=by
 intro pins s σ H Q I h
 refine ZS (zq I hg hm ?_ il)
 refine Jm (h₀:=X.base) I.ok.mod.qB M.kp (aV (ha pos pins s σ H _ I h) fun us s1 ⟨vs,H1,I1,r,q⟩=>⟨I1.di,?_⟩) he bV
 exact Gu M F hr hb hd hx I1 r q
end
structure af (N P:List Str) (sc:Scope):Prop where
 kind:sc.kind=.function
 co:sc.isCoroutine=false
 gen:sc.isGenerator=false
 nd:N.Nodup
 pre:N.take P.length=P
 par:∀ x∈P,sc.names.lookup x=some .local\/sc.names.lookup x=some .cell
 nQ:∀ y∈sc.names,y.2 ≠ .free
theorem bP{P:List Str}(h:N.Nodup/\(∀ x∈P,sc.names.lookup x=some .local\/sc.names.lookup x=some .cell)/\∀ y∈sc.names,y.2 ≠ .free)(a:sc.kind=.function:=by rfl)(b:sc.isCoroutine=false:=by rfl)(c:sc.isGenerator=false:=by rfl)(d:N.take P.length=P:=by rfl):af N P sc:=⟨a,b,c,h.1,d,h.2.1,h.2.2⟩
theorem zU:∀ {binds:List (Str×Value)} {m:Str->Option Value},(∀ v,(x,v) ∉ binds)->bindL kindOf binds m x=m x
 | [],_,_=>rfl
 | (n,v)::r,m,h=>by
  unfold bindL
  rw[zU fun w hw=>h w (Qa _ hw)]
  split
  ·have:x≠n:=by rintro rfl;exact h v Qd
   simp[this]
  ·rfl
theorem zV:∀ {binds:List (Str×Value)} {m:Str->Option Value},(∀ v,(x,v) ∉ binds)->bindC kindOf binds m x=m x
 | [],_,_=>rfl
 | (n,v)::r,m,h=>by
  unfold bindC
  rw[zV fun w hw=>h w (Qa _ hw)]
  split
  ·rfl
  ·have:x≠n:=by rintro rfl;exact h v Qd
   simp[this]
theorem zW:∀ {P:List Str} {vs:List Value} {i:Nat} {m:Str->Option Value},P.Nodup->P[i]? = some x->vs[i]? = some v->kindOf x=some .local->
  bindL kindOf (P.zip vs) m x=some v
 | [],_,_,_,_,h,_,_=>by simp at h
 | _::_,[],_,_,_,_,h,_=>by simp at h
 | p::P,w::vs,0,m,nd,h1,h2,hk=>by
  simp at h1 h2;subst h1;subst h2
  show bindL kindOf ((p,w)::P.zip vs) m p=_
  unfold bindL
  rw[zU fun v hv=>(Zn.mp nd).1 (JK hv).1,Qe hk]
  simp
 | p::P,w::vs,i+1,m,nd,h1,h2,hk=>by
  show bindL kindOf ((p,w)::P.zip vs) m x=_
  unfold bindL
  exact zW (i:=i) (Zn.mp nd).2 (by simpa using h1) (by simpa using h2) hk
theorem zX:∀ {P:List Str} {vs:List Value} {i:Nat} {m:Str->Option Value},P.Nodup->P[i]? = some x->vs[i]? = some v->kindOf x≠some .local->
  bindC kindOf (P.zip vs) m x=some v
 | [],_,_,_,_,h,_,_=>by simp at h
 | _::_,[],_,_,_,_,h,_=>by simp at h
 | p::P,w::vs,0,m,nd,h1,h2,hk=>by
  simp at h1 h2;subst h1;subst h2
  show bindC kindOf ((p,w)::P.zip vs) m p=_
  unfold bindC
  rw[zV fun v hv=>(Zn.mp nd).1 (JK hv).1,Qh hk]
  simp
 | p::P,w::vs,i+1,m,nd,h1,h2,hk=>by
  show bindC kindOf ((p,w)::P.zip vs) m x=_
  unfold bindC
  exact zX (i:=i) (Zn.mp nd).2 (by simpa using h1) (by simpa using h2) hk
def gC (N:List Str)(vs:List V):St:=vs.map some++List.replicate (N.length-vs.length) none
def fP (CX:ku)(P:Program)(w:World)(K:PySem.W.Frag)(mg:Str->Option Value)(base:Heap)(N:List Str)(qual:Str)(scope:Scope)(f:Addr)(cd:Value)(A:Around)(outer:List Env)(s:Shared)(H:Hp)(E:XK):Cx where
 prog:=P
 w:=w
 K:=K
 mg:=mg
 base:=base
 A:=A.deeper (envOfC qual scope s.heap.objs.size f cd)
 N:=N
 bL:=s
 gf:=H
 env:=envOfC qual scope s.heap.objs.size f cd
 outer:=outer
 stack:=envOfC qual scope s.heap.objs.size f cd::outer
 ex:=[]
 calm:=true
 fn:=fun _=>true
 pn:=[]
 xe:=fun e s'=>wpAny (model P w) (A.deeper (envOfC qual scope s.heap.objs.size f cd)) (leaving (envOfC qual scope s.heap.objs.size f cd) e) (fun _ pB=>CX outer H s E e pB) (fun e' pB=>CX outer H s E e' pB) s'
theorem zY(h:sc.names.lookup x=some .cell):∃ c,(cellsFrom n sc.names []).lookup x=some c:=by
 have q:=ZD sc.names n [] (.inl h)
 exact Zu.mp q
theorem Gw{CX:ku}{f:Addr}{cd:Value}{s1:Shared}{H:Hp}{E:XK}{vs:List V}
  (S:af N ps scope) (hd:A.handled=none) (e0:ik P w K mg base A outer s H) (hl:vs.length=ps.length) (r:aR vs us)
  (x:InCallC s s.heap.objs.size (bindL (envOfC qual scope s.heap.objs.size f cd).kindOf (ps.zip us) fun _=>none) (cellsFrom (s.heap.objs.size+1) scope.names []) (bindC (envOfC qual scope s.heap.objs.size f cd).kindOf (ps.zip us) fun _=>none) s1) :
  Inv (fP CX P w K mg base N qual scope f cd A outer s H E) [] (gC N vs) H s1:=by
 have bV:ps.length<=N.length:=by have:=ZG List.length S.pre;rw[Zc]at this;omega
 obtain⟨h1,tk,rfl,hk⟩:=x.done
 have qO:∀ b:Addr,b ∉ (fP CX P w K mg base N qual scope f cd A outer s H E).ex:=fun b z=>absurd (show b∈([]:List Addr)from z) (by simp)
 refine⟨⟨e0.mod,S.kind,rfl,rfl,Qc _,fun y z c h1 h2=>?_,fun y hy=>?_,fun y c _ h=>?_,fun _=>hd,Around.frames_deeper e0.frames,.inr ⟨rfl,rfl⟩,fun b z=>absurd z (qO b),e0.bs,e0.jI,fun b _ _=>qO b,fun b z=>absurd z (qO b),e0.d4,e0.nH⟩,
  rfl,e0.bare,Un.kept hk,⟨_,x.toInCall.ns,fun i y v h1 h2 h3=>?_⟩,fun y c h=>⟨_,x.cell y c h⟩,e0.aF.fresh (Qc _),fun y c h=>?_,fun p hp=>absurd (show p∈([]:List (Addr×Obj))from hp) (by simp),e0.aF.kept hk,?_⟩
 ·exact name_of_addr x.apart (QC h1) (QC h2)
 ·have hy:scope.names.lookup y=some .cell\/scope.names.lookup y=some .free:=hy
  rcases hy with hy|hy
  ·exact zY hy
  ·exact absurd rfl (S.nQ _ (QC hy))
 ·exact ZO (x.above y c (QC h))
 ·have hi:i<vs.length:=by
   unfold gC at h2
   by_cases hi:i<vs.length
   ·exact hi
   ·rw[QV (by simpa using hi)]at h2
    rw[Q5]at h2
    split at h2<;>cases h2
  have ha:vs[i]? = some v:=by
   unfold gC at h2
   rw[Qw (by simpa using hi),Qo]at h2
   cases e:vs[i]? with
   | none=>rw[e]at h2;cases h2
   | some a=>rw[e]at h2;cases h2;rfl
  obtain⟨u,hu,rv⟩:=r.get ha
  have hp:ps[i]? = some y:=by
   rw[<- S.pre,Zv (by omega)];exact h1
  have zZ:ps.Nodup:=by rw[<- S.pre];exact S.nd.sublist (List.take_sublist _ _)
  refine⟨u,rv,?_⟩
  rcases S.par y (JR hp)with k|k
  ·exact .inl ⟨k,zW zZ hp hu k⟩
  ·obtain⟨c,e⟩:=zY (n:=s.heap.objs.size+1) k
   refine .inr ⟨.inl k,c,e,?_⟩
   have q:=x.cell y c e
   rw[zX zZ hp hu (by show scope.names.lookup y≠_;rw[k];decide)]at q
   exact q
 ·exact e0.aF.fresh (ZO (x.above y c (QC h)))
 ·unfold gC
  show _=N.length
  rw[Qt,Qm,Q4]
  omega
theorem Gx{CX:ku}{k:Nat}{f:Addr}{name:Str}{params:Arguments}{dV kV doc pm aQ ct oc:Value}{an od:Option Addr}
  {mn:Array (Option Value)}  {sp:Sp} (lk:K.lookup f=some ⟨oc,od,.func (PySem.W.fnOf name qual params body scope dV kV doc pm an aQ ct),mn⟩) (fA:PySem.W.codeIn K aQ qual=true) (S:af N ps scope)
  (len:∀ vs H Q E,sp vs H Q E->vs.length=ps.length)
  (jP:∀ (A:Around) (outer:List Env) (s:Shared) (H:Hp) (vs:List V) (Q:VK) (E:XK),aD k (A.deeper (envOfC qual scope s.heap.objs.size f aQ))->sp vs H Q E->
    ∃ t,gi (fP CX P w K mg base N qual scope f aQ A outer s H E) body t/\t { nx:=fun _ H'=>Q .aS H',rt:=Q } (gC N vs) H) :
  bO P w K mg base CX (k+1) f (PySem.W.fnOf name qual params body scope dV kV doc pm an aQ ct) ps sp:=by
 refine⟨len,fun A outer s H args us vs Q E hr e0 hb r jC=>?_⟩
 have hl:=len _ _ _ _ jC
 have KX:K.In s.heap:=e0.mod.qB.keeps fun b o e=>(e0.bs b o e).1
 have lim:s.heap.NoLimit:=e0.mod.nolimit.keeps fun b o e=>(e0.bs b o e).1
 have qP:∀ y∈ps.zip us,scope.names.lookup y.1=some .local\/(scope.names.lookup y.1=some .cell/\((cellsFrom (s.heap.objs.size+1) scope.names []).lookup y.1).isSome=true):=fun⟨n,v⟩ hy=>by
  rcases S.par n (JK hy).1 with q|q
  ·exact .inl q
  ·exact .inr ⟨q,ZD _ _ _ (.inl q)⟩
 refine codeAny_call_function hr.depth (KX _ _ lk) rfl S.co S.gen rfl (PySem.W.codeRec_of KX fA) (hb _ _ _ _ ?_)
 refine wpAny_newFunctionEnv_cells S.kind qP fun env he s1 x=>?_
 subst he
 refine⟨lim.keeps x.toInCall.keep,codeAny_func ?_⟩
 obtain⟨t,ht,hq⟩:=jP A outer s H vs Q E (hr.deeper _) jC
 have I:Inv (fP CX P w K mg base N qual scope f aQ A outer s H E) [] (gC N vs) H s1:=Gw S hr.hd e0 hl r x
 refine Zr (ht [] s1 (gC N vs) H _ I hq) (fun fl s' hs=>?_) fun e s' hs=>hs
 have fin:∀ {aA:St} {H':Hp} {v:V} {u:Value},Inv (fP CX P w K mg base N qual scope f aQ A outer s H E) [] aA H' s'->bj v u->Q v H'->CE outer P w H s Q u s':=
  fun {aA H' v u} J rv q=>⟨v,H',J.os,J.bare,J.base,J.aF,rv,q⟩
 cases fl with
 | ret u=>
  obtain⟨v,aA,H',J,rv,q⟩:=hs
  exact fin J rv q
 | next=>
  obtain⟨aA,H',J,q⟩:=hs
  exact fin (v:=V.aS) (u:=Value.none) J rfl q
 | brk=>
  obtain⟨_,_,_,q⟩:=hs
  exact False.elim q
 | cont=>
  obtain⟨_,_,_,q⟩:=hs
  exact False.elim q
section
variable {X:Cx}{x:Str}{p pos:Pos}{e:Expr}{es:List Expr}{t:TA}{id T:String}{r:List V->Hp->VK->Prop}
def tG (r:List V->Hp->VK->Prop)(t:TA):TE:=fun σ H Q=>t σ H fun vs H1=>r vs H1 Q
theorem pC(hc:kr X (.builtin id) r)(hg:Gl X x)(hm:X.mg x=none)(hv:bootBuiltins x=some (.builtin id))(ha:PA X (e::es) t)(hn:x ≠ "__name__":=by decide)(il:(x==("__debug__":Str))=false:=by decide)
  (he:starEach (e::es) X.env=(false,eval e X.env)::starEach es X.env:=by rfl) (bV:(backTo pos (starEach es X.env)).any (·.1)=false:=by rfl):PE X (.Call (.Name x p) (e::es) [] pos) (tG r t):=by
 intro pins s σ H Q I h
 refine ZS (qH I hg hm hv ?_ hn il)
 exact PyProof.Rows.callWith_builtin1 (aV (ha pos pins s σ H _ I h) fun us s1 ⟨vs,H1,I1,r1,q1⟩=>hc pins s1 σ H1 vs us Q I1 r1 q1) he bV
theorem tH(hc:kr X (.type T) r)(hg:Gl X x)(hm:X.mg x=none)(hv:bootBuiltins x=some (.type T))(ha:PA X (e::es) t)(hn:x ≠ "__name__":=by decide)(il:(x==("__debug__":Str))=false:=by decide)
  (he:starEach (e::es) X.env=(false,eval e X.env)::starEach es X.env:=by rfl) (bV:(backTo pos (starEach es X.env)).any (·.1)=false:=by rfl):PE X (.Call (.Name x p) (e::es) [] pos) (tG r t):=by
 intro pins s σ H Q I h
 refine ZS (qH I hg hm hv ?_ hn il)
 exact ZJ (aV (ha pos pins s σ H _ I h) fun us s1 ⟨vs,H1,I1,r1,q1⟩=>hc pins s1 σ H1 vs us Q I1 r1 q1) he bV
end
end L2
namespace HT
open PySem PyProof.Rows
variable {Q:Value->Shared->Prop}{hi lo:Option Int}{sl t:Addr}{vl vu:Value}
section
open PySem.SeqAt
open PySem.AutoSeq1 (wpAny_loadPart')
open PySem.MeetsSeq PySem.MeetsSeq2 PySem.MeetsSeq3
end
section
variable {prog:Program}{w:World}{A:Around}{E:Value->Shared->Prop}{s:Shared}
theorem Gy{b:Addr}{vs ws:List Value}(ht:IsTup s.heap t vs.toArray)(hb:IsTup s.heap b ws.toArray)(hv:vs ≠ [])
  (h1:ws=[]->Q (.ref t) s) (h2:ws ≠ []->Q (.ref s.heap.objs.size) { s with heap:=s.heap.push { cls:=.type "tuple",data:=.seq (vs++ws).toArray } })
  (hsz:vs.length+ws.length<=sizeLine):wpAny (model prog w) A (binaryOp .Add (.ref t) (.ref b)) Q E s:=by
 obtain⟨⟨cls,dd,data,sl⟩,ho,hc,n,hd⟩:=id ht
 obtain⟨⟨vX,tI,data2,tJ⟩,nR,kx,n2,hd2⟩:=id hb
 simp only at hc hd kx hd2
 subst hc hd kx hd2
 have e:vs.toArray++ws.toArray=(vs++ws).toArray:=by simp
 by_cases hw:ws=[]
 ·exact JD ⟨_,ho,rfl⟩ ⟨_,nR,rfl⟩ Jx seq_tuple_add ZW ZV (ZP _ _)
   (tuple_addW1 t b vs.toArray ws.toArray n n2 dd tI sl tJ (by simpa using hv) (by simp[hw])) ⟨ho,nR,h1 hw⟩
 ·refine JD ⟨_,ho,rfl⟩ ⟨_,nR,rfl⟩ Jx seq_tuple_add ZW ZV (ZP _ _)
   (tuple_addW2 t b vs.toArray ws.toArray n n2 dd tI sl tJ (by simpa using hv) (by simpa using hw) (by rw[Qg,Qg];exact hsz)) ⟨ho,nR,?_⟩
  rw[e]
  exact h2 hw
def aZ (n d:Nat):Option Int->Nat
 | none=>d
 | some v=>if v<0 then(v+(n:Int)).toNat else min v.toNat n
theorem Gz(n d:Nat)(hd:d<=n)(o:Option Int):aZ n d o<=n:=by
 cases o with
 | none=>exact hd
 | some v=>
  show(if v<0 then(v+(n:Int)).toNat else min v.toNat n)<=n
  by_cases hv:v<0
  ·rw[Qe hv];omega
  ·rw[Qh hv];exact Nat.min_le_right _ _
theorem z_(v:Int)(n d:Nat):(if v<0 then max (v+(n:Int)) 0 else min v (n:Int))=((aZ n d (some v):Nat):Int):=by
 show(if v<0 then max (v+(n:Int)) 0 else min v (n:Int))=(((if v<0 then(v+(n:Int)).toNat else min v.toNat n):Nat):Int)
 by_cases hv:v<0
 ·simp only[Qe hv];omega
 ·simp only[Qh hv];omega
theorem GA(lo hi:Option Int)(n:Nat):Builtin.Slice.sliceAdjust lo hi 1 (n:Int)=(((aZ n 0 lo:Nat):Int),((aZ n n hi:Nat):Int)):=by
 have h1:¬ ((1:Int)<0):=by omega
 unfold Builtin.Slice.sliceAdjust
 simp only[h1,Jy]
 refine Prod.ext ?_ ?_
 ·cases lo with
  | none=>rfl
  | some v=>exact z_ v n 0
 ·cases hi with
  | none=>rfl
  | some v=>exact z_ v n n
theorem GB(i j:Nat):Builtin.Slice.slicePlaces (i:Int) (j:Int) 1=j-i:=by
 unfold Builtin.Slice.slicePlaces
 have h1:(1:Int) > 0:=by omega
 simp only[h1,ZX,Int.ediv_one]
 split<;>omega
theorem Aa{v:Value}{o:Option Int}{Q:Option Int->Shared->Prop}(p:IsPart v o)(h:Q o s):wpAny (model prog w) A (Builtin.Slice.slicePartIndex v) Q E s:=by
 cases p with
 | none=>exact slicePart_none h
 | int i t=>exact slicePart_int h
theorem Ab{n:Nat}{Q:Int×Int×Nat->Shared->Prop}(hs:s.heap.IsSliceOf sl vl vu .none)(pl:IsPart vl lo)(pu:IsPart vu hi)
  (h:Q (((aZ n 0 lo:Nat):Int),1,aZ n n hi-aZ n 0 lo) s):wpAny (model prog w) A (Builtin.Slice.sliceApplied (.ref sl) (pure (n:Int))) Q E s:=by
 obtain⟨os,nS,tK,qQ⟩:=id hs
 unfold Builtin.Slice.sliceApplied Builtin.Slice.sliceFields
 refine Qb (Qb (wpAny_field nS qQ (x:=vl) rfl (Qb (wpAny_field nS qQ (x:=vu) rfl (Qb (wpAny_field nS qQ (x:=.none) rfl (Qk ?_)))))))
 refine Qb (slicePart_none ?_)
 show wpAny _ _ (if((1:Int)==0)=true then _ else _) _ _ s
 rw[Qh (by decide)]
 refine Qb (Aa pl (Qb (Aa pu (Qb (Qk ?_)))))
 show wpAny _ _ (match Builtin.Slice.sliceAdjust lo hi 1 (n:Int)with|(lo,hi)=>pure (lo,(1:Int),Builtin.Slice.slicePlaces lo hi 1)) _ _ s
 rw[GA lo hi n]
 show wpAny _ _ (pure (((aZ n 0 lo:Nat):Int),(1:Int),Builtin.Slice.slicePlaces ((aZ n 0 lo:Nat):Int) ((aZ n n hi:Nat):Int) 1)) _ _ s
 rw[GB]
 exact Qk h
theorem GC(xs:Array Value)(i k:Nat):((List.range k).filterMap fun(m:Nat)=>xs[((i:Int)+(m:Int)*1).toNat]?).toArray=((xs.toList.drop i).take k).toArray:=by
 have e:(fun(m:Nat)=>xs[((i:Int)+(m:Int)*1).toNat]?)=fun m=>xs[i+m]?:=by
  funext m
  have:((i:Int)+(m:Int)*1).toNat=i+m:=by omega
  rw[this]
 rw[e]
 have:=pick_run xs i k
 rw[List.filterMap_map]at this
 have e2:((fun x=>xs[x]?) ∘ fun x=>i+x)=fun m=>xs[i+m]?:=rfl
 rw[e2]at this
 rw[this]
theorem GD{items:Array Value}(ht:IsTup s.heap t items)(hs:s.heap.IsSliceOf sl vl vu .none)(pl:IsPart vl lo)(pu:IsPart vu hi)
  (hw:¬ (aZ items.size 0 lo=0/\aZ items.size items.size hi=items.size))
  (h:Q (.ref s.heap.objs.size) { s with heap:=s.heap.push { cls:=.type "tuple",data:=.seq ((items.toList.drop (aZ items.size 0 lo)).take (aZ items.size items.size hi-aZ items.size 0 lo)).toArray } })
  (hsz:items.size<=sizeLine):wpAny (model prog w) A (getItem (.ref t) (.ref sl)) Q E s:=by
 have iL:sizeOk (.seq ((items.toList.drop (aZ items.size 0 lo)).take (aZ items.size items.size hi-aZ items.size 0 lo)).toArray):=by
  show((items.toList.drop (aZ items.size 0 lo)).take (aZ items.size items.size hi-aZ items.size 0 lo)).toArray.size<=sizeLine
  rw[Qg,Zc,Zy,Za]
  omega
 have hj:aZ items.size items.size hi<=items.size:=Gz _ _ (Qc _) hi
 obtain⟨os,nS,tK,qQ⟩:=id hs
 have GF:s.TypeIs (.ref sl) "slice":=⟨os,nS,tK⟩
 unfold getItem
 try with_reducible refine Zs ?_
 first|refine Qb (Qk ?_)|skip
 refine Qb (wpAny_sequenceKey ht.typeIs (by decide) ?_)
 refine Qb (wpAny_callSpecial?_slot (name:=Str.ofString "__getitem__") ht.typeIs QS
  (wpAny_call_entry QS ht.typeIs entry_tuple_getitem ?_ (args_tuple_getitem _ _)))
 show wpAny _ _ (Builtin.Tuple.tupleItemsOf (.ref t) >>= _) _ _ s
 refine Qb (tupleItemsOf_ ht ?_)
 refine Qb (JE GF ?_)
 rw[Qe (by decide)]
 refine Qb (Ab hs pl pu ?_)
 have vY:¬ ((((aZ items.size 0 lo:Nat):Int)==0&&(1:Int)==1&&(aZ items.size items.size hi-aZ items.size 0 lo)==items.size)=true):=by
  intro q
  rw[Zz,Zz]at q
  have q1:((aZ items.size 0 lo:Nat):Int)=0:=eq_of_beq q.1.1
  have q2:aZ items.size items.size hi-aZ items.size 0 lo=items.size:=eq_of_beq q.2
  exact hw ⟨by omega,by omega⟩
 show wpAny _ _ (if(((aZ items.size 0 lo:Nat):Int)==0&&(1:Int)==1&&(aZ items.size items.size hi-aZ items.size 0 lo)==items.size)=true then _ else _) _ _ s
 rw[Qh vY,GC]
 first
  | exact Qb (m:=Builtin.Tuple.tupleExact _) (Ze (Qk ⟨_,rfl,Qk h⟩) iL)
  | exact Qb (m:=Builtin.Tuple.tupleExact _) (Ze (Qb (Qk (Qk ⟨_,rfl,Qk h⟩))) iL)
  | exact Qb (Qb (m:=Builtin.Tuple.tupleExact _) (Ze (Qk (Qk ⟨_,rfl,Qk h⟩)) iL))
  | exact Qb (Qb (m:=Builtin.Tuple.tupleExact _) (Ze (Qk ⟨_,rfl,Qk h⟩) iL))
end
end HT
namespace L2
open PySem PySem.Spec PyProof.Rows
variable {H:Hp}{i:Int}{n:Nat}{pins:List (Addr×Obj)}{r:V->Option Int->Option Int->Hp->VK->Prop}{s:Shared}{us:List Value}{xs:List V}{σ:St}
abbrev TO:=St->Hp->(Option Int->Hp->Prop)->Prop
def PO (X:Cx)(e:Option Expr)(t:TO):Prop:=
 ∀ (pins:List (Addr×Obj)) (s:Shared) (σ:St) (H:Hp) (Q:Option Int->Hp->Prop),Inv X pins σ H s->t σ H Q->
  wpAny (model X.prog X.w) X.A (evalPart e X.env) (fun u s'=>∃ o H',Inv X pins σ H' s'/\IsPart u o/\Q o H') X.xe s
def GG:TO:=fun _ H Q=>Q none H
def GH (t:TE):TO:=fun σ H Q=>t σ H fun x H1=>∃ i,x=.int i/\Q (some i) H1
section
variable {X:Cx}{e:Expr}{te:TE}{lo hi:Option Expr}{tl th:TO}{pos p2:Pos}
theorem GI:PO X none GG:=by
 intro pins s σ H Q I h
 rw[evalPart_none]
 exact Qk ⟨none,H,I,.none,h⟩
theorem GJ(h:PE X e te):PO X (some e) (GH te):=by
 intro pins s σ H Q I hw
 rw[evalPart_some]
 refine aV (h pins s σ H _ I hw) fun u s1 ai=>?_
 obtain⟨x,H1,I1,r1,q1⟩:=ai
 obtain⟨i,rfl,q⟩:=q1
 obtain⟨t,rfl⟩:=r1
 exact⟨some i,H1,I1,.int i t,q⟩
def mq (X:Cx)(r:V->Option Int->Option Int->Hp->VK->Prop):Prop:=
 ∀ (pins:List (Addr×Obj)) (s:Shared) (σ:St) (H:Hp) (x:V) (v vl vu:Value) (lo hi:Option Int) (sl:Addr) (Q:VK),Inv X pins σ H s->bj x v->s.heap.IsSliceOf sl vl vu .none->IsPart vl lo->IsPart vu hi->r x lo hi H Q->
  ∃ T id,typeLookup (.type T) "__getitem__" = pure (some (.builtin id))/\s.TypeIs v T/\wpAny (model X.prog X.w) X.A (getItem v (.ref sl)) (EP X pins σ Q) X.xe s
theorem mq.or{r':V->Option Int->Option Int->Hp->VK->Prop}(h:mq X r)(h':mq X r'):mq X (fun x lo hi H Q=>r x lo hi H Q\/r' x lo hi H Q):=by
 intro pins s σ H x v vl vu lo hi sl Q I rx hs pl pu q
 rcases q with q|q
 ·exact h pins s σ H x v vl vu lo hi sl Q I rx hs pl pu q
 ·exact h' pins s σ H x v vl vu lo hi sl Q I rx hs pl pu q
def GK (r:V->Option Int->Option Int->Hp->VK->Prop)(te:TE)(tl th:TO):TE:=fun σ H Q=>te σ H fun x H1=>tl σ H1 fun l H2=>th σ H2 fun u H3=>r x l u H3 Q
theorem GL(hr:mq X r)(he:PE X e te)(hl:PO X lo tl)(hu:PO X hi th):PE X (.Subscript e (.Slice lo hi none p2) pos) (GK r te tl th):=by
 intro pins s σ H Q I h
 refine Subscript_ (aV (he pins s σ H _ I h) fun v s1 ai=>?_)
 obtain⟨x,H1,I1,r1,q1⟩:=ai
 refine wpAny_Slice (aV (hl pins s1 σ H1 _ I1 q1) fun vl s2 ⟨l,H2,I2,pl,q2⟩=>aV (hu pins s2 σ H2 _ I2 q2) fun vu s3 ai=>?_)
 obtain⟨u,H3,I3,pu,q3⟩:=ai
 rw[evalPart_none]
 refine Qk ?_
 have I4:Inv X pins σ H3 { s3 with heap:=s3.heap.push { cls:=.type "slice",data:=.fields #[vl,vu,.none] } }:=I3.kept (t':=s3.toks) fun b ob q=>Qf _ q
 obtain⟨T,id,hT,ht,hg⟩:=hr pins { s3 with heap:=s3.heap.push { cls:=.type "slice",data:=.fields #[vl,vu,.none] } } σ H3 x v vl vu l u s3.heap.objs.size Q I4 r1 (Heap.IsSliceOf.new ..) pl pu q3
 show wpAny (model X.prog X.w) X.A (subscriptTail e (.Slice lo hi none p2) v (.ref s3.heap.objs.size)) (EP X pins σ Q) X.xe { s3 with heap:=s3.heap.push { cls:=.type "slice",data:=.fields #[vl,vu,.none] } }
 exact tail_any (ops:=[.ref s3.heap.objs.size,v]) ht hT hg (by with_unfolding_all rfl)
def mr (xs:List V)(lo hi:Option Int):List V:=(xs.drop (HT.aZ xs.length 0 lo)).take (HT.aZ xs.length xs.length hi-HT.aZ xs.length 0 lo)
theorem Ac(xs:List V)(lo hi:Option Int):(mr xs lo hi).length<=xs.length:=by
 unfold mr
 rw[Zc,Zy]
 omega
def GN (K:PySem.W.Frag):V->Option Int->Option Int->Hp->VK->Prop:=fun x lo hi H Q=>∃ a xs,x=.ref a/\cC K H a xs /\
 ¬ (HT.aZ xs.length 0 lo=0/\HT.aZ xs.length xs.length hi=xs.length)/\∀ p,H p=none->Q (.ref p) (upd H p (.tup (mr xs lo hi)))
theorem GO:mq X (GN X.K):=by
 intro pins s σ H x v vl vu lo hi sl Q I rx hs pl pu h
 obtain⟨a,xs,rfl,hx,hw,q⟩:=h
 cases rx
 obtain⟨ak,r,ht,hz⟩:=I.tuple hx
 have hlen:ak.toArray.size=xs.length:=by rw[Qg];exact r.length.symm
 refine⟨"tuple",_,QS.lookup,ht.typeIs,?_⟩
 refine HT.GD ht hs pl pu (by rw[hlen];exact hw) ?_ (by rw[hlen];exact hz)
 rw[hlen]
 refine⟨.ref s.heap.objs.size,_,I.laid (t':=s.toks) (o:=.tup (mr xs lo hi)) (fun b ob q=>Qf _ q) (Qc _) ?_,rfl,q _ (I.aF.fresh (Qc _))⟩
 exact⟨QK (Ac xs lo hi) hz,_,(r.drop (HT.aZ xs.length 0 lo)).take (HT.aZ xs.length xs.length hi-HT.aZ xs.length 0 lo),jz.new _ _⟩
def GP (K:PySem.W.Frag):R2:=fun x y H Q=>∃ a b xs ys,x=.ref a/\y=.ref b/\cC K H a xs/\cC K H b ys/\xs ≠ []/\xs.length+ys.length<=sizeLine /\
 (ys=[]->Q (.ref a) H)/\(ys ≠ []->∀ p,H p=none->Q (.ref p) (upd H p (.tup (xs++ys))))
theorem aR.gm(r:aR xs us):us=[] ↔ xs=[]:=by
 cases r with
 | nil=>simp
 | cons _ _=>simp
theorem GQ:cE X (binaryOp .Add) (GP X.K):=by
 intro pins s σ H x y v u Q I rx ry h
 obtain⟨a,b,xs,ys,rfl,rfl,ha,hb,hx,hz,q1,q2⟩:=h
 cases rx
 cases ry
 obtain⟨ak,r1,p1,_⟩:=I.tuple ha
 obtain⟨jQ,r2,p2,_⟩:=I.tuple hb
 refine HT.Gy p1 p2 (fun z=>hx (r1.gm.mp z)) (fun z=>⟨.ref a,H,I,rfl,q1 (r2.gm.mp z)⟩) (fun z=>?_) (by rw[<- r1.length,<- r2.length];exact hz)
 refine⟨.ref s.heap.objs.size,_,I.laid (t':=s.toks) (o:=.tup (xs++ys)) (fun b ob q=>Qf _ q) (Qc _) ?_,rfl,q2 (fun w=>z (r2.gm.mpr w)) _ (I.aF.fresh (Qc _))⟩
 exact⟨by rw[Qt];exact hz,_,r1.append r2,jz.new _ _⟩
end
def gD (n:Nat)(i:Int):Option Nat:=if 0<=i then(if i<n then some i.toNat else none)else if -(n:Int)<=i then some (i+n).toNat else none
def cO {α:Type}(xs:List α)(i:Int):Option α:=(gD xs.length i).bind fun j=>xs[j]?
theorem tL{j:Nat}(h:gD n i=some j):seqIndex? i n=some j/\j<n /\ -(n:Int)<=i/\i<n:=by
 unfold gD at h
 by_cases h0:0<=i
 ·rw[Qe h0]at h
  by_cases h1:i<n
  ·rw[Qe h1]at h
   have e:i.toNat=j:=Qp h
   exact⟨by rw[seqIndex_of h0 h1,e],by omega,by omega,h1⟩
  ·rw[Qh h1]at h;cases h
 ·rw[Qh h0]at h
  by_cases h1:-(n:Int)<=i
  ·rw[Qe h1]at h
   have e:(i+n).toNat=j:=Qp h
   exact⟨by rw[seqIndex_neg (by omega) h1,e],by omega,h1,by omega⟩
  ·rw[Qh h1]at h;cases h
theorem vZ{α:Type}{xs:List α}{v:α}(h:cO xs i=some v):∃ j,seqIndex? i xs.length=some j/\xs[j]? = some v/\j<xs.length /\ -(xs.length:Int)<=i/\i<xs.length:=by
 unfold cO at h
 cases e:gD xs.length i with
 | none=>rw[e]at h;cases h
 | some j=>
  rw[e]at h
  obtain⟨h1,h2,h3,h4⟩:=tL e
  exact⟨j,h1,h,h2,h3,h4⟩
def pD (b:Expr):Prop:=∀ o i,subscripted b false o i=operate [o,i] (getItem o i)
def kZ (X:Cx)(r:R2):Prop:=
 ∀ (value slice:Expr) (pins:List (Addr×Obj)) (s:Shared) (σ:St) (H:Hp) (x y:V) (v u:Value) (Q:VK),Inv X pins σ H s->bj x v->bj y u->r x y H Q->
  subscripted slice false v u=operate [v,u] (getItem v u)->wpAny (model X.prog X.w) X.A (subscriptTail value slice v u) (EP X pins σ Q) X.xe s
def Ad (X:Cx)(id:String)(r:V->List V->Hp->VK->Prop):Prop:=
 ∀ (pins:List (Addr×Obj)) (s:Shared) (σ:St) (H:Hp) (x:V) (xs:List V) (v:Value) (us:List Value) (Q:VK),Inv X pins σ H s->bj x v->aR xs us->r x xs H Q->
  wpAny (model X.prog X.w) X.A (call (.builtin id) (v::us)) (EP X pins σ Q) X.xe s
section
variable {X:Cx}{a b:Expr}{ta tb:TE}{pos:Pos}
theorem kZ.or{r r':R2}(h:kZ X r)(h':kZ X r'):kZ X (fun x y H Q=>r x y H Q\/r' x y H Q):=by
 intro value slice pins s σ H x y v u Q I rx ry q hs
 rcases q with q|q
 ·exact h value slice pins s σ H x y v u Q I rx ry q hs
 ·exact h' value slice pins s σ H x y v u Q I rx ry q hs
theorem qR{r:R2}(hr:kZ X r)(ha:PE X a ta)(hb:PE X b tb)(hs:pD b):PE X (.Subscript a b pos) (jk r ta tb):=by
 intro pins s σ H Q I h
 exact Subscript_ (vO ha hb I h fun v u s2 x y H2 I2 rx ry q=>hr a b pins s2 σ H2 x y v u Q I2 rx ry q (hs _ _))
def Ae (K:PySem.W.Frag):R2:=fun x y H Q=>∃ p xs i v,x=.ref p/\y=.int i/\bX K H p xs/\cO xs i=some v/\Q v H
def Af (K:PySem.W.Frag):R2:=fun x y H Q=>∃ p xs i v,x=.ref p/\y=.int i/\cC K H p xs/\cO xs i=some v/\Q v H
def Ag:R2:=fun x y H Q=>∃ z i c,x=.str z/\y=.int i/\z.length<=sizeLine/\cO z.cps.toList i=some c/\Q (.str ⟨#[c]⟩) H
theorem GR:kZ X (Ae X.K):=by
 intro value slice pins s σ H x y v u Q I rx ry h hs
 obtain⟨p,xs,i,z,rfl,rfl,hq,he,q⟩:=h
 cases rx
 obtain⟨t,rfl⟩:=ry
 obtain⟨ak,r,pl,hz⟩:=I.list hq
 obtain⟨j,h1,h2,h3,h4,h5⟩:=vZ he
 obtain⟨w,ew,nT⟩:=r.get h2
 have hl:=r.length
 have hn:=pz
 have fin:EP X pins σ Q w s:=⟨z,H,I,nT,q⟩
 by_cases h0:0<=i
 ·have hj:i.toNat=j:=by
   rw[seqIndex_of h0 h5]at h1
   exact Qp h1
  exact item_listR pl.isList h0 (by omega) (by rw[hj];simpa using ew) fin hs
 ·have hj:(i+(ak.toArray.size:Int)).toNat=j:=by
   rw[seqIndex_neg (by omega) h4]at h1
   rw[Qg,<- hl]
   exact Qp h1
  exact subscriptTail_builtinR (x:=w) pl.isList.typeIs slot_list_getitem.lookup
   (wpAny_getItem_list_neg (Q:=fun r s'=>r=w/\EP X pins σ Q r s') pl.isList (by omega) (by rw[Qg]<;>omega) (by omega) (by rw[hj];simpa using ew) ⟨rfl,fin⟩) hs
theorem GS:kZ X (Af X.K):=by
 intro value slice pins s σ H x y v u Q I rx ry h hs
 obtain⟨p,xs,i,z,rfl,rfl,hq,he,q⟩:=h
 cases rx
 obtain⟨t,rfl⟩:=ry
 obtain⟨ak,r,pl,hz⟩:=I.tuple hq
 obtain⟨j,h1,h2,h3,h4,h5⟩:=vZ he
 obtain⟨w,ew,nT⟩:=r.get h2
 have hl:=r.length
 have hn:=pz
 have fin:EP X pins σ Q w s:=⟨z,H,I,nT,q⟩
 exact subscriptTail_builtinR (x:=w) pl.typeIs slot_tuple_getitem.lookup
  (getItem_tuple (j:=j) (Q:=fun r s'=>r=w/\EP X pins σ Q r s') pl (by omega) (by omega) (by rw[Qg,<- hl];exact h1) (by simpa using ew) ⟨rfl,fin⟩) hs
theorem GU:kZ X Ag:=by
 intro value slice pins s σ H x y v u Q I rx ry h hs
 obtain⟨z,i,c,rfl,rfl,hz,he,q⟩:=h
 obtain⟨t,rfl⟩:=rx
 obtain⟨t',rfl⟩:=ry
 obtain⟨j,h1,h2,h3,h4,h5⟩:=vZ he
 have hl:z.cps.toList.length=z.length:=by simp[Str.length]
 rw[hl]at h1 h4 h5
 have hn:=pz
 exact tail_any (typeIs_str s z t) slot_str_getitem.lookup (getItem_str (c:=c) (by
  have e1:decide (i < -(2 ^ 63:Int))=false:=Q2 (by omega)
  have e2:decide (i ≥ 2 ^ 63)=false:=Q2 (by omega)
  rw[e1,e2,Bool.or_false]) (by rw[h1];simpa using h2) ⟨.str ⟨#[c]⟩,H,I.tok _,⟨_,rfl⟩,q⟩) hs
def GV (K:PySem.W.Frag):R2:=fun x y H Q=>Ae K x y H Q\/Af K x y H Q\/Ag x y H Q
theorem qS:kZ X (GV X.K):=GR.or (GS.or GU)
theorem GW(ak:List Value)(n j:Nat)(u:Value):Obj.mapSeq (·.setIfInBounds j u) { cls:=.type "list",data:=.seq ak.toArray n }={ cls:=.type "list",data:=.seq (ak.set j u).toArray n }:=by
 simp[Obj.mapSeq]
theorem Inv.lst{pins:List (Addr×Obj)}{σ:St}{H:Hp}{s:Shared}{p:Addr}{xs:List V}(I:Inv X pins σ H s)(h:H p=some (.lst xs)) :
  ∃ (ak:List Value) (n:Nat),aR xs ak/\s.heap.get? p=some { cls:=.type "list",data:=.seq ak.toArray n }/\xs.length<=sizeLine:=by
 obtain⟨z,ak,n,r,e⟩:=I.aF p _ h
 exact⟨ak,n,r,e,z⟩
theorem Inv.nU{p:Addr}{xs ys:List V}{ak its':List Value}{n n':Nat}{f:Obj->Obj}(I:Inv X pins σ H s)(h:H p=some (.lst xs))
  (ho:s.heap.get? p=some { cls:=.type "list",data:=.seq ak.toArray n }) (hf:f { cls:=.type "list",data:=.seq ak.toArray n }={ cls:=.type "list",data:=.seq its'.toArray n' }) (r:aR ys its') (hz:ys.length<=sizeLine) (t:Nat) :
  Inv X pins σ (upd H p (.lst ys)) { s with heap:=s.heap.update p f,toks:=t }:=by
 have e:(s.heap.update p f).get? p=some { cls:=.type "list",data:=.seq its'.toArray n' }:=by
  rw[Heap.get?_update_self f ho (by rw[hf]<;>rfl),hf]
 refine I.write (x:=p) (e:=p) (by rw[h];trivial) (.inl rfl) (fun b u hb q=>(Heap.get?_update_other _ _ (Z5 hb)).trans q) ⟨_,e⟩ ?_
 exact⟨hz,its',n',r,e⟩
def GX:V->V->V->Hp->(Hp->Prop)->Prop:=fun o i v H Q=>∃ p xs k j,o=.ref p/\i=.int k/\H p=some (.lst xs)/\gD xs.length k=some j/\Q (upd H p (.lst (xs.set j v)))
theorem GY:zx X GX:=by
 intro pins s σ H o i v ov iv u Q I ro ri rv h
 obtain⟨p,xs,k,j,rfl,rfl,hp,hj,q⟩:=h
 cases ro
 obtain⟨t,rfl⟩:=ri
 obtain⟨ak,n,r,ho,hz⟩:=I.lst hp
 obtain⟨h1,h2,h3,h4⟩:=tL hj
 have hl:=r.length
 have hn:=pz
 have I':Inv X pins σ (upd H p (.lst (xs.set j v))) { s with heap:=s.heap.update p (Obj.mapSeq (·.setIfInBounds j u)) }:=
  I.nU hp ho (GW ak n j u) (r.set rv j) (by rw[QJ];exact hz) s.toks
 by_cases h0:0<=k
 ·have hk:k.toNat=j:=by
   rw[seqIndex_of h0 h4]at h1
   exact Qp h1
  exact PySem.W.ki_setAt ho h0 (by omega) (by rw[Qg,<- hl];exact h4) (by rw[hk];exact⟨_,I',q⟩)
 ·have hk:(k+(ak.toArray.size:Int)).toNat=j:=by
   rw[seqIndex_neg (by omega) h3]at h1
   rw[Qg,<- hl]
   exact Qp h1
  exact PySem.W.ki_setBack ho (by omega) (by rw[Qg,<- hl];exact h3) (by omega) (by rw[hk];exact⟨_,I',q⟩)
theorem GZ(lo hi:Option Int)(n:Nat):(sliceBounds lo hi none n).1=((HT.aZ n 0 lo:Nat):Int)/\(sliceBounds lo hi none n).2.1=((HT.aZ n n hi:Nat):Int)/\(sliceBounds lo hi none n).2.2=1:=by
 refine⟨?_,?_,rfl⟩
 ·cases lo with
  | none=>simp[sliceBounds,HT.aZ]
  | some i=>
   simp only[sliceBounds,HT.aZ,Option.getD_none,show(1:Int) > 0 by decide,ZX]
   by_cases h:i<0
   ·simp only[h,ZX]<;>omega
   ·simp only[h,Jy]<;>omega
 ·cases hi with
  | none=>simp[sliceBounds,HT.aZ]
  | some i=>
   simp only[sliceBounds,HT.aZ,Option.getD_none,show(1:Int) > 0 by decide,ZX]
   by_cases h:i<0
   ·simp only[h,ZX]<;>omega
   ·simp only[h,Jy]<;>omega
theorem G0(ak:List Value)(lo hi:Option Int):slicePick ak.toArray lo hi none=((ak.drop (HT.aZ ak.length 0 lo)).take (HT.aZ ak.length ak.length hi-HT.aZ ak.length 0 lo)).toArray:=by
 obtain⟨h1,h2,h3⟩:=GZ lo hi ak.toArray.size
 unfold slicePick
 rw[h1,h2,h3]
 simp only[sliceRange_one,pick_run,Qg]<;>rfl
def G1 (K:PySem.W.Frag):V->Option Int->Option Int->Hp->VK->Prop:=fun x lo hi H Q=>∃ a xs,x=.ref a/\bX K H a xs/\∀ p,H p=none->Q (.ref p) (upd H p (.lst (mr xs lo hi)))
theorem RO:mq X (G1 X.K):=by
 intro pins s σ H x v vl vu lo hi sl Q I rx hs pl pu h
 obtain⟨a,xs,rfl,hx,q⟩:=h
 cases rx
 obtain⟨ak,r,ht,hz⟩:=I.list hx
 have hlen:=r.length
 refine⟨"list",_,slot_list_getitem.lookup,ht.isList.typeIs,?_⟩
 refine wpAny_getItem_list_slice ht.isList hs pl pu .none (by simp) ?_ (by rw[Qg]<;>omega)
 rw[G0,<- hlen]
 refine⟨.ref s.heap.objs.size,_,I.laid (t':=s.toks) (o:=.lst (mr xs lo hi)) (fun b ob q=>Qf _ q) (Qc _) ?_,rfl,q _ (I.aF.fresh (Qc _))⟩
 exact⟨QK (Ac xs lo hi) hz,_,0,(r.drop (HT.aZ xs.length 0 lo)).take (HT.aZ xs.length xs.length hi-HT.aZ xs.length 0 lo),Qs _ rfl⟩
theorem v5:kr X (.builtin "len") (fun xs H Q=>∃ p ys,xs=[.ref p]/\(bX X.K H p ys\/cC X.K H p ys)/\Q (.int ys.length) H):=by
 intro pins s σ H xs us Q I r h
 obtain⟨p,ys,rfl,hq,q⟩:=h
 obtain⟨u,rfl,rx⟩:=nO r
 cases rx
 have hn:=pz
 rcases hq with hq|hq
 ·obtain⟨ak,r',pl,hz⟩:=I.list hq
  have hlen:=r'.length
  exact Calls.call_len_list pl.isList (by simp only[Qg]<;>omega) ⟨.int ys.length,H,I.tok _,⟨s.toks+1,by rw[Qg,hlen]⟩,q⟩
 ·obtain⟨ak,r',pl,hz⟩:=I.tuple hq
  have hlen:=r'.length
  exact len_tuple pl (by simp only[Qg]<;>omega) ⟨.int ys.length,H,I.tok _,⟨s.toks+1,by rw[Qg,hlen]⟩,q⟩
theorem G2:kr X (.type "list") (fun xs H Q=>∃ p ys,xs=[.ref p]/\(bX X.K H p ys\/cC X.K H p ys)/\∀ l,H l=none->Q (.ref l) (upd H l (.lst ys))):=by
 intro pins s σ H xs us Q I r h
 obtain⟨p,ys,rfl,hq,q⟩:=h
 obtain⟨u,rfl,rx⟩:=nO r
 cases rx
 have fin:∀ (ak:List Value),aR ys ak->ys.length<=sizeLine->∀ (h':Heap) (c':Nat),(∀ b o',s.heap.get? b=some o'->h'.get? b=some o')->
   h'.get? s.heap.objs.size=some { cls:=.type "list",dict:=none,data:=.seq ak.toArray c',slots:=#[] }->EP X pins σ Q (.ref s.heap.objs.size) { s with heap:=h' }:=fun ak r' hz h' c' kp e=>
  ⟨.ref s.heap.objs.size,_,I.laid (t':=s.toks) kp (Qc _) (show cM X.prog X.w _ h' _ (.lst ys)from⟨hz,ak,c',r',e⟩),rfl,q _ (I.aF.fresh (Qc _))⟩
 rcases hq with hq|hq
 ·obtain⟨ak,r',pl,hz⟩:=I.list hq
  have hlen:=r'.length
  obtain⟨o,ho,hc,n,hd⟩:=pl.isList
  exact call_list_seq p (.inl rfl) ho hc hd (fun h' c' kp e=>fin ak r' hz h' c' kp e) (by simp only[Qg]<;>omega)
 ·obtain⟨ak,r',pl,hz⟩:=I.tuple hq
  have hlen:=r'.length
  obtain⟨o,ho,hc,n,hd⟩:=pl
  exact call_list_seq p (.inr rfl) ho hc hd (fun h' c' kp e=>fin ak r' hz h' c' kp e) (by simp only[Qg]<;>omega)
theorem G3:kr X (.type "tuple") (fun xs H Q=>∃ p ys,xs=[.ref p]/\((bX X.K H p ys/\∀ l,H l=none->Q (.ref l) (upd H l (.tup ys)))\/(cC X.K H p ys/\Q (.ref p) H))):=by
 intro pins s σ H xs us Q I r h
 obtain⟨p,ys,rfl,h⟩:=h
 obtain⟨u,rfl,rx⟩:=nO r
 cases rx
 rcases h with⟨hq,q⟩|⟨hq,q⟩
 ·obtain⟨ak,r',pl,hz⟩:=I.list hq
  have hlen:=r'.length
  refine call_tuple_list pl.isList (fun h' kp=>?_) (by simp only[Qg]<;>omega)
  have I1:Inv X pins σ H { s with heap:=h' }:=I.kept (t':=s.toks) kp
  have I2:Inv X pins σ (upd H h'.objs.size (.tup ys)) { s with heap:=h'.push { cls:=.type "tuple",data:=.seq ak.toArray } }:=
   I1.laid (t':=s.toks) (fun b o e=>Qf _ e) (Qc _) (show cM X.prog X.w _ _ _ (.tup ys)from⟨hz,ak,r',jz.new _ _⟩)
  exact⟨.ref h'.objs.size,_,I2,rfl,q _ (I1.aF.fresh (Qc _))⟩
 ·obtain⟨ak,r',pl,hz⟩:=I.tuple hq
  exact call_tuple_same pl ⟨.ref p,H,I,rfl,q⟩
def Ah (K:PySem.W.Frag)(T:String)(x:V)(H:Hp):Prop:=match x with
 | .str _=>T = "str"
 | .int _=>T = "int"
 | .ref p=>(T = "list" /\ ∃ xs,bX K H p xs)\/(T = "tuple" /\ ((∃ o,K.lookup p=some o/\o.cls=.type "tuple" /\ o.dict=none)\/∃ xs,H p=some (.tup xs))) \/
   (T = "dict" /\ ((∃ aw,H p=some (.dK aw))\/∃ aw,H p=some (.dT aw)))\/(T = "set" /\ ∃ S n,H p=some (.set S n))
 | _=>False
theorem G4{T:String}{x:V}{v:Value}(I:Inv X pins σ H s)(r:bj x v)(ty:Ah X.K T x H) :
  s.TypeIs v T/\∀ a,v=.ref a->∃ ob,s.heap.get? a=some ob/\ob.dict=none:=by
 cases x with
 | str z=>
  obtain⟨t,rfl⟩:=r
  cases (show T = "str" from ty)
  exact⟨typeIs_str s z t,fun _ e=>nomatch e⟩
 | int i=>
  obtain⟨t,rfl⟩:=r
  cases (show T = "int" from ty)
  exact⟨JF s i t,fun _ e=>nomatch e⟩
 | ref p=>
  cases r
  rcases ty with⟨rfl,xs,hq⟩|⟨rfl,⟨o,hk,hc,hd⟩|⟨xs,hk⟩⟩|⟨rfl,hk⟩|⟨rfl,S,n,hk⟩
  ·obtain⟨ak,_,pl,_⟩:=I.list hq
   refine⟨pl.isList.typeIs,fun a e=>?_⟩
   cases e
   obtain⟨o,n,e,c,hd,_⟩:=pl
   exact⟨o,e,hd⟩
  ·refine⟨⟨o,I.di p o hk,hc⟩,fun a e=>?_⟩
   cases e
   exact⟨o,I.di _ o hk,hd⟩
  ·obtain⟨_,ak,_,o,e,c,_,hd⟩:=(show cM X.prog X.w H s.heap p (.tup xs)from I.aF p _ hk)
   refine⟨⟨o,e,c⟩,fun a e2=>?_⟩
   cases e2
   exact⟨o,e,hd⟩
  ·have z:∃ o,s.heap.get? p=some o/\o.ExactDict:=by
    rcases hk with⟨aw,hk⟩|⟨aw,hk⟩
    ·obtain⟨_,_,_,_,o,_,_,e,ex,_⟩:=I.aF p _ hk
     exact⟨o,e,ex⟩
    ·obtain⟨_,_,_,_,o,_,_,e,ex,_⟩:=I.aF p _ hk
     exact⟨o,e,ex⟩
   obtain⟨o,e,ex⟩:=z
   refine⟨⟨o,e,ex.1⟩,fun a e2=>?_⟩
   cases e2
   exact⟨o,e,ex.2.1⟩
  ·obtain⟨o,_,_,_,e,ex,_⟩:=I.aF p _ hk
   refine⟨⟨o,e,ex.1⟩,fun a e2=>?_⟩
   cases e2
   exact⟨o,e,ex.2.1⟩
 | _=>exact False.elim ty
def G5 (K:PySem.W.Frag)(T:String)(r:V->List V->Hp->VK->Prop)(to:TE)(t:TA):TE:=fun σ H Q=>to σ H fun x H1=>Ah K T x H1/\t σ H1 fun xs H2=>r x xs H2 Q
variable {o e:Expr}{es:List Expr}{to:TE}{t:TA}{name:Str}{apos aK:Pos}{T id:String}{r:V->List V->Hp->VK->Prop}
theorem v7(pa:PlainAttrs T)(slot:Slot T name id)(qT:typeOf (.builtin id)=pure (.type "method_descriptor"))(hm:Ad X id r)(ho:PE X o to)(ha:PA X (e::es) t)
  (dk:attributeBase o name X.env (eval o X.env)=eval o X.env:=by rfl)
  (gn:((backTo aK (starEach (e::es) X.env)).all (fun x=>!x.1)&&(backToKw aK (keywordEach [] X.env)).all (fun x=>x.1.isSome)
    && decide ((e::es).length+([]:List Keyword).length+(if([]:List Keyword).isEmpty then 0 else 1)<30))=true:=by rfl)
  (dm:(apos.endLine==aK.line)=true:=by rfl) (hs:starEach (e::es) X.env=(false,eval e X.env)::starEach es X.env:=by rfl) (cW:(backTo aK (starEach es X.env)).any (·.1)=false:=by rfl) :
  PE X (.Call (.Attribute o name apos) (e::es) [] aK) (G5 X.K T r to t):=by
 intro pins s σ H Q I h
 refine wpAny_Call_method_late dk gn dm rfl (aV (ho pins s σ H _ I h) fun v s1 ai=>?_)
 obtain⟨x,H1,I1,r1,ty,q1⟩:=ai
 obtain⟨h1,h2⟩:=G4 I1 r1 ty
 refine⟨T,id,pa,slot,qT,h1,h2,?_⟩
 have hA:=ha aK pins s1 σ H1 _ I1 q1
 rw[hs]at hA ⊢
 refine Calls.callWith_builtin (by show(false||(backTo aK (starEach es X.env)).any (·.1))=false;rw[cW]<;>rfl) (Calls.evalArgs_plain ?_)
 exact aV hA fun us s2 ⟨vs,H2,I2,r2,q2⟩=>hm pins s2 σ H2 x vs v us Q I2 r1 r2 q2
end
def Ai (X:Cx)(id:String)(r:V->List V->Hp->VK->Prop):Prop:=
 ∀ (pins:List (Addr×Obj)) (s:Shared) (σ:St) (H:Hp) (x:V) (xs:List V) (v:Value) (us:List Value) (Q:VK),Inv X pins σ H s->bj x v->aR xs us->r x xs H Q->
  wpAny (model X.prog X.w) X.A (call (.builtin id) (v::us)) (EP X pins σ Q) X.xe s
theorem aR.one:∀ {x:V} {us:List Value},aR [x] us->∃ u,us=[u]/\bj x u
 | _,_,.cons r .nil=>⟨_,rfl,r⟩
theorem aR.eraseIdx:∀ {xs:List V} {us:List Value} (i:Nat),aR xs us->aR (xs.eraseIdx i) (us.eraseIdx i)
 | _,_,_,.nil=>.nil
 | _,_,0,.cons _ t=>t
 | _,_,i+1,.cons r t=>.cons r (aR.eraseIdx i t)
theorem aR.rep(h:aR xs us):∀ k:Nat,aR (List.replicate k xs).flatten (List.replicate k us).flatten
 | 0=>.nil
 | k+1=>by
  rw[Zb,Zb,Zp,Zp]
  exact aR.append h (aR.rep h k)
theorem Aj{α:Type}:∀ (l:List α) (i:Nat),(l.eraseIdx i).length<=l.length
 | [],_=>Qc _
 | _::_,0=>ZM _
 | _::r,i+1=>Jz (Aj r i)
theorem v8(ak:List Value):∀ (k:Nat) (acc:List Value),
  List.foldl (fun x1 x2=>x1++x2) acc.toArray (List.replicate k ak.toArray)=(acc++(List.replicate k ak).flatten).toArray
 | 0,acc=>by simp
 | k+1,acc=>by
  have e:acc.toArray++ak.toArray=(acc++ak).toArray:=by simp
  have e2:(acc++ak)++(List.replicate k ak).flatten=acc++(List.replicate (k+1) ak).flatten:=by
   rw[Zb,Zp,ZY]
  rw[<- e2,<- v8 ak k (acc++ak),<- e,Zb,List.foldl_cons]
section
variable {X:Cx}{pins:List (Addr×Obj)}{σ:St}{H:Hp}{s:Shared}{l b:Addr}{xs ys zs:List V}
theorem Inv.qU{ak its':List Value}{n:Nat}{f:Array Value->Array Value}{t':Nat}(I:Inv X pins σ H s)(hH:H l=some (.lst xs))
  (e:s.heap.get? l=some { cls:=.type "list",data:=.seq ak.toArray n }) (hf:f ak.toArray=its'.toArray) (hv:aR ys its') (hz:ys.length<=sizeLine) :
  Inv X pins σ (upd H l (.lst ys)) { s with heap:=s.heap.update l (Obj.mapSeq f),toks:=t' }:=by
 have q:=PySem.IsL.update e f
 rw[hf]at q
 refine I.write (x:=l) (e:=l) (by rw[hH];exact trivial) (.inl rfl) (fun b' u hb hu=>(Heap.get?_update_other s.heap (Obj.mapSeq f) (Z5 hb)).trans hu) ⟨_,q⟩ ?_
 exact⟨hz,its',_,hv,q⟩
theorem Inv.qV{ak:List Value}{t':Nat}(I:Inv X pins σ H s)(hv:aR ys ak)(hz:ys.length<=sizeLine) :
  Inv X pins σ (upd H s.heap.objs.size (.lst ys)) { s with heap:=s.heap.push { cls:=.type "list",data:=.seq ak.toArray },toks:=t' }:=
 I.laid (fun _ _ q=>Qf _ q) (Qc _) ⟨hz,ak,0,hv,Qs _ rfl⟩
theorem Inv.fresh(I:Inv X pins σ H s):H s.heap.objs.size=none:=I.aF.fresh (Qc _)
theorem Inv.nV(I:Inv X pins σ H s)(hH:H l=some (.lst xs)):xs.length<=sizeLine/\∃ (ak:List Value) (n:Nat),aR xs ak/\xs.length=ak.length/\s.heap.get? l=some { cls:=.type "list",data:=.seq ak.toArray n }:=by
 obtain⟨z,ak,n,r,e⟩:=I.aF l _ hH
 exact⟨z,ak,n,r,r.length,e⟩
theorem G6(h:n<=sizeLine):Builtin.List.listTooLong n=false:=by
 unfold Builtin.List.listTooLong
 exact Q2 (by omega)
end
section
variable {X:Cx}
def G7:V->List V->Hp->VK->Prop:=fun x vs H Q=>∃ l xs y,x=.ref l/\vs=[y]/\H l=some (.lst xs)/\xs.length<sizeLine/\Q .aS (upd H l (.lst (xs++[y])))
theorem G8:Ai X "list.append" G7:=by
 intro pins s σ H x vs v us Q I rx rv h
 obtain⟨l,xs,y,rfl,rfl,hH,hz,q⟩:=h
 cases rx
 obtain⟨u,rfl,ru⟩:=rv.one
 obtain⟨z,ak,n,r,hl,e⟩:=I.nV hH
 refine ZT F.slot_list_append ⟨_,e,rfl⟩ F.entry_list_append (F.args_list_append_2 _ _) (PySem.list_append l ak.toArray n u (by rw[Qg];omega)) ⟨e,?_⟩
 refine⟨.aS,_,I.qU (its':=ak++[u]) hH e (by simp) (r.append (.cons ru .nil)) ?_,rfl,q⟩
 rw[Qt,List.length_singleton]
 omega
def G9:V->List V->Hp->VK->Prop:=fun x vs H Q=>∃ l xs i k y,x=.ref l/\vs=[.int i]/\H l=some (.lst xs) /\ -(2 ^ 63)<=i/\i<2 ^ 63/\seqIndex? i xs.length=some k/\xs[k]? = some y/\Q y (upd H l (.lst (xs.eraseIdx k)))
theorem G_:Ai X "list.pop" G9:=by
 intro pins s σ H x vs v us Q I rx rv h
 obtain⟨l,xs,i,k,y,rfl,rfl,hH,h1,h2,hk,hy,q⟩:=h
 cases rx
 obtain⟨u,rfl,ru⟩:=rv.one
 obtain⟨t,rfl⟩:=ru
 obtain⟨z,ak,n,r,hl,e⟩:=I.nV hH
 obtain⟨w,hw,nT⟩:=r.get hy
 refine ZT F.slot_list_pop ⟨_,e,rfl⟩ F.entry_list_pop (F.args_list_pop_2 _ _)
  (MeetsSeq.list_pop_at l ak.toArray n i t k w (fitsIndex_both h1 h2) (by rw[Qg,<- hl];exact hk) (by rw[<- ZI];exact hw) (by rw[Qg];omega)) ⟨e,?_⟩
 refine⟨y,_,I.qU (its':=ak.eraseIdx k) hH e ?_ (r.eraseIdx k) ?_,nT,q⟩
 ·show ak.toArray.eraseIdxIfInBounds k=(ak.eraseIdx k).toArray
  rw[List.eraseIdxIfInBounds_toArray]
 ·have:=Aj xs k
  omega
def Ha:R2:=fun x y H Q=>∃ l k xs,x=.ref l/\y=.int k/\H l=some (.lst xs) /\ -(2 ^ 63)<=k/\k<2 ^ 63/\xs.length*k.toNat<=sizeLine /\
 ∀ p,H p=none->Q (.ref p) (upd H p (.lst (List.replicate k.toNat xs).flatten))
theorem v_{α:Type}(xs:List α)(k:Nat):(List.replicate k xs).flatten.length=k*xs.length:=by
 induction k with
 | zero=>simp
 | succ k ih=>rw[Zb,Zp,Qt,ih,Nat.succ_mul,Nat.add_comm]
theorem Hb:cE X (binaryOp .Mult) Ha:=by
 intro pins s σ H x y v u Q I rx ry h
 obtain⟨l,k,xs,rfl,rfl,hH,h1,h2,hz,q⟩:=h
 cases rx
 obtain⟨t,rfl⟩:=ry
 obtain⟨z,ak,n,r,hl,e⟩:=I.nV hH
 have hlen:ak.toArray.size*k.toNat<=sizeLine:=by rw[Qg,<- hl];exact hz
 have wa:¬ ak.toArray.size*k.toNat > (2 ^ 63-1) / 8:=by
  have:(sizeLine:Nat)<=(2 ^ 63-1) / 8:=by decide
  omega
 have wb:¬ (!Builtin.List.listFitsIndex k)=true:=by
  rw[fitsIndex_both h1 h2]
  exact ZR
 have qW:¬ Builtin.List.listTooLong (ak.toArray.size*k.toNat)=true:=by
  rw[G6 hlen]
  exact ZR
 have wc:List.foldl (fun x1 x2=>x1++x2) #[] (List.replicate (if ak.toArray.isEmpty=true then 0 else k.toNat) ak.toArray)=(List.replicate k.toNat ak).flatten.toArray:=by
  have f0:∀ m:Nat,List.foldl (fun x1 x2=>x1++x2) #[] (List.replicate m ak.toArray)=(List.replicate m ak).flatten.toArray:=fun m=>by
   have:=v8 ak m []
   rw[JL]at this
   exact this
  rw[f0]
  cases ak with
  | nil=>simp
  | cons a r'=>rw[Qh (by simp)]
 refine Jq (T:="list") (U:="int") (by decide) ⟨_,e,rfl⟩ (fun s'=>JF s' k t) noFill_list_mul F.fills_int_mul Z8 repeat_list F.slot_int_index.lookup
  (ZT Z8 (JF s k t) F.entry_int_rmul (F.args_int_rmul_2 _ _) (int___rmul___int_list k t l ak.toArray n)
    ⟨e,rfl,⟨_,e,rfl⟩,ZT F.slot_list_mul ⟨_,e,rfl⟩ F.entry_list_mul (F.args_list_mul_2 _ _) (AutoListH.list___mul___list_int_3 l ak.toArray n k t wb wa qW) ⟨e,?_⟩⟩)
 rw[wc]
 exact⟨.ref _,_,I.qV (t':=s.toks) (r.rep k.toNat) (by rw[v_,JX];exact hz),rfl,q _ I.fresh⟩
end
end L2
namespace Ak
open PySem PySem.W PySem.Calls PyProof.Rows
variable {P:Params}{h:Heap}{l:OpenLaw}{n:Nat}
theorem Hc:∀ (ns:List Int) (vs:List Value),WellAll P h vs (ns.map WData.int)->IntsAre vs ns:=by
 intro ns
 induction ns with
 | nil=>
  intro vs w
  rw[Jh]at w
  cases w
  exact .nil
 | cons n ns ih=>
  intro vs w
  rw[Q3]at w
  cases w with
  | cons a b=>
   cases a
   exact .cons _ _ (ih _ b)
theorem Hd(hn:l.most=some n){args:List WData}{vals:List Value}
  (k5:l.row.toRowW.claim.pre args=true) (we:WellAll P h vals args) :
  ∃ a vs ns,vals=[Value.ref a]/\args=[WData.list (ns.map WData.int)]/\h.get? a=some { cls:=.type "list",data:=.seq vs.toArray }/\IntsAre vs ns/\ns.length<=n:=by
 have He:WShape.hasAll [] args [.list .int]=true:=(pre_splitW k5).1
 have hc:l.pre.holds [] { args:=args }=true:=(pre_splitW k5).2
 obtain⟨d,r,rfl,h1,h2⟩:=hasAllW_cons He
 obtain rfl:=hasAllW_nil h2
 obtain⟨xs,rfl,h3⟩:=hasW_list h1
 obtain⟨ns,rfl⟩:=items_int h3
 have hlen:ns.length<=n:=by
  unfold OpenLaw.pre at hc
  have h4:(WTm.not (.lt (.lit (.int (n:Int))) (.len (.arg 0)))).holds [] { args:=[.list (ns.map .int)] }=true:=by
   have h4:=(holds_andW hc).1
   rw[hn]at h4
   exact h4
  have h5:=condW_of h4 (w_not (w_lt w_lit (w_len_list (w_arg rfl))))
  rw[Qm]at h5
  refine Nat.le_of_not_lt fun q=>?_
  have q':(n:Int)<((ns.length:Nat):Int):=by omega
  first
   | (rw[Q6 q']at h5;exact absurd h5 (by decide))
   | (simp at h5;omega)
 cases we with
 | cons w1 w2=>
  cases w2
  cases w1 with
  | list ho nW=>exact⟨_,_,ns,rfl,rfl,ho,Hc ns _ nW,hlen⟩
theorem Hf(l:OpenLaw)(args:List WData):l.row.toRowW.claim.post args (.bool true) args=true:=
 postW_of (r:=l.row.toRowW) (X:=(true==true))
  (show WShape.has [] (.bool true) .bool=true by first|rfl|decide|simp[WShape.has,WShape.arms,WShape.armsAll])
  (show(WTm.eq .res (.lit (.bool true))).value [] { args:=args,res:=some (.bool true),after:=args }=some (.bool (true==true))from w_eq_bool (w_res rfl) w_lit) rfl
theorem Hg{q:Program}{loose:List Str}{XP:(Str->Option Value)->Heap->Prop}{YP:World->Heap->Prop}{d:DefRec}
  (hn:l.most=some n) (qX:d.params.defaults=[])
  (call:∀ (w:World) (bL aJ:Shared) (mg mb:Str->Option Value) (fa:Addr) (o:Obj) (pm cd doc:Value) (a:Addr) (vs:List Value) (ns:List Int),
    Ground q loose [] XP w bL mg mb aJ.heap->YP w aJ.heap->
    aJ.heap.get? fa=some o->o.data=.func (docDef d.name d.params d.body d.scope pm cd doc)->aJ.heap.CodeRec cd d.name->mg d.name=some (.ref fa)->
    aJ.heap.get? a=some { cls:=.type "list",data:=.seq vs.toArray }->IntsAre vs ns->ns.length<=n->aJ.gens = #[]->
    codeAny (model l.prog w) callerA (.call (.ref fa) ⟨[.ref a],[]⟩) (fun r s'=>r=.ok (.ret (.bool true))/\OldK aJ.heap s'.heap/\s'.os=aJ.os/\AllBare s'.gens) aJ) :
  WalkO q loose XP YP l.row.toRowW d [] (fun f vs=>PySem.call f vs):=by
 intro w bL aJ mg mb G Y fa o pm cd doc dV kV ho hd fA hD hmg hg args vals as k5 Hh RP we RQ
 obtain rfl:dV=.none:=Dflts.none hD qX
 obtain rfl:kV=.none:=Dflts.noKw hD
 obtain⟨a,vs,ns,rfl,rfl,nX,hints,hlen⟩:=Hd hn k5 we
 refine enter_call (Jg (call w bL aJ mg mb fa o pm cd doc a vs ns G Y ho (fd_plain hd) fA hmg nX hints hlen hg) fun r s' hq=>?_)
 obtain⟨rfl,h2,h3,h4⟩:=hq
 exact⟨.inl ⟨.bool true,.bool true,[],rfl,fun _=>rfl,.bool true,Hf l _,fun _=>⟨List.Pairwise.nil,fun _ hm=>(nomatch hm)⟩⟩,h2,h3,h4⟩
end Ak
namespace L2
open PySem PySem.Spec PyProof.Rows
theorem tM:∀ {vs:List Value} {ns:List Int},IntsAre vs ns->aR (ns.map V.int) vs
 | _,_,.nil=>.nil
 | _,_,.cons n t h=>.cons ⟨t,rfl⟩ (tM h)
def wg (H:Hp):Prop:=∀ b,H b=none\/∃ o xs,H b=some (.dZ o (.lst xs))
theorem Hi{P:Program}{w:World}{K:PySem.W.Frag}{mg mb:Str->Option Value}{CX:ku}{k:Nat}{fa a:Addr}{fd:FuncData}{x:Str}{sp:Sp}{aJ:Shared}{vs:List Value}{ns:List Int}
  (KX:K.In aJ.heap) (fk:aJ.heap.Ns mainGlobals mg) (hb:aJ.heap.Ns builtinsNs mb) (Hj:∀ x:Str,x ≠ "__name__"->mb x=bootBuiltins x) (wj:aJ.heap.NoLimit) (hg:aJ.gens = #[])
  (ha:aJ.heap.get? a=some { cls:=.type "list",data:=.seq vs.toArray }) (hi:IntsAre vs ns) (hl:ns.length<=sizeLine) (hr:aD k callerA)
  (F:∀ base:Heap,K.In base->base.Ns mainGlobals mg->bO P w K mg base CX k fa fd [x] sp) (qY:∀ (s:Shared) (u:Value),BindsTo s fd ⟨[u],[]⟩ [(x,u)])
  (jC:∀ H:Hp,wg H->bX K H a (ns.map V.int)->sp [.ref a] H (fun v _=>v=.bl true) fun _ _ _=>False)
  (Hk:∀ H e s',CX [] H aJ (fun _ _ _=>False) e s'->False) :
  codeAny (model P w) callerA (.call (.ref fa) ⟨[.ref a],[]⟩) (fun r s'=>r=.ok (.ret (.bool true))/\OldK aJ.heap s'.heap/\s'.os=aJ.os/\AllBare s'.gens) aJ:=by
 have rv:=tM hi
 have wk:=hi.length
 have core:∀ H:Hp,wg H->bX K H a (ns.map V.int)->cN P w H aJ.heap->(∀ b,H b≠none->b=a)->(H a≠none->K.lookup a=none)->
   codeAny (model P w) callerA (.call (.ref fa) ⟨[.ref a],[]⟩) (fun r s'=>r=.ok (.ret (.bool true))/\OldK aJ.heap s'.heap/\s'.os=aJ.os/\AllBare s'.gens) aJ:=by
  intro H hO hS aF hA hK
  have iM:∀ {b:Addr} {o:Obj},aJ.heap.get? b=some o->H b=none->(kT aJ.heap H).get? b=some o:=fun e n=>EE e n
  have qO:∀ {b:Addr} {o:Obj} {es:Array DictEntry} {ep:Nat},aJ.heap.get? b=some o->o.data=.dict es ep->H b=none:=fun {b o es ep} e d=>by
   cases q:H b with
   | none=>rfl
   | some u=>
    have e':b=a:=hA b (by rw[q];simp)
    subst e'
    rw[ha]at e;cases e
    have d':Data.seq vs.toArray _=Data.dict es ep:=d
    cases d'
  have tN:∀ {b:Addr} {m:Str->Option Value},aJ.heap.Ns b m->(kT aJ.heap H).Ns b m:=fun {b m} ⟨o,es,ep,e,d,r⟩=>⟨o,es,ep,iM e (qO e d),d,r⟩
  have Al:K.In (kT aJ.heap H):=fun b o e=>iM (KX b o e) (by
   cases q:H b with
   | none=>rfl
   | some u=>
    have e':b=a:=hA b (by rw[q];simp)
    subst e'
    rw[hK (by rw[q];simp)]at e;cases e)
  have hM:Mod K mg (kT aJ.heap H):=⟨Al,tN fk,⟨mb,tN hb,Hj⟩,let ⟨mc,h1,h2⟩:=wj;⟨mc,tN h1,h2⟩⟩
  have e0:ik P w K mg (kT aJ.heap H) callerA [] aJ H:=⟨rfl,hM,fun b o e=>EF e,Nat.le_of_eq (ED _ _),trivial,fun b hb=>absurd (show b∈([]:List Addr)from hb) (by simp),aF,.of_eq hg⟩
  refine Jg ((F _ Al (tN fk)).run callerA [] aJ H ⟨[.ref a],[]⟩ [.ref a] [.ref a] _ _ hr e0 (qY aJ (.ref a)) (.cons rfl .nil) (jC H hO hS)) fun r s' h=>?_
  cases r with
  | error e=>exact(Hk H e s' h).elim
  | ok fl=>
   cases fl with
   | next=>exact False.elim h
   | brk=>exact False.elim h
   | cont=>exact False.elim h
   | ret u=>
    obtain⟨v,H',os,bare,un,nY,r',q⟩:=h
    have q':v=.bl true:=q
    subst q'
    obtain rfl:u=Value.bool true:=r'
    refine⟨rfl,OldK.of_keep fun b o e=>?_,os,bare⟩
    cases q:H b with
    | none=>exact un.keep b o e q (by intro z;exact absurd (show b∈([]:List Addr)from z) (by simp)) (by simp)
    | some u=>
     rcases hO b with z|⟨ob,xs,z⟩
     ·rw[q]at z;cases z
     ·have z2:=un.fz b ob _ z
      obtain⟨e1,_⟩:=aF b _ z
      obtain⟨e2,_⟩:=nY b _ z2
      rw[e]at e1;cases e1
      exact e2
 cases hk:K.lookup a with
 | some o=>
  have e:=KX a o hk
  rw[ha]at e
  cases e
  refine core (fun _=>none) (fun _=>.inl rfl) (.inr ⟨_,vs.toArray,_,hk,rfl,rfl,rfl,by rw[Qg,wk];exact hl,by simpa using rv⟩) (fun b u z=>by have z':(none:Option HO)=some u:=z;cases z') (fun b z=>absurd rfl z) fun z=>absurd rfl z
 | none=>
  refine core (fun b=>if b=a then some (.dZ { cls:=.type "list",data:=.seq vs.toArray } (.lst (ns.map V.int)))else none) (fun b=>?_) (.inl (.inr ⟨{ cls:=.type "list",data:=.seq vs.toArray },Qe rfl⟩)) (fun b u z=>?_) (fun b z=>?_) fun _=>hk
  ·by_cases hb:b=a
   ·exact .inr ⟨_,_,Qe hb⟩
   ·exact .inl (Qh hb)
  ·by_cases hb:b=a
   ·have z':=(Qe hb).symm.trans z
    cases z'
    subst hb
    exact⟨ha,by rw[Qm];exact hl,vs,_,rv,ha⟩
   ·have z':=(Qh hb).symm.trans z
    cases z'
  ·by_cases hb:b=a
   ·exact hb
   ·exact absurd (Qh hb) z
end L2
namespace L2
open PySem PySem.Spec PyProof.Rows
end L2
namespace L2
open PySem PySem.Spec PyProof.Rows
variable {A:Around}{C a c f:Addr}{H H':Hp}{N' ps:List Str}{P:Program}{X:Cx}{cells:List (Str×Addr)}{elt iter:Expr}{env:Env}{fd:FuncData}{h h':Heap}{i lo n:Nat}{ifs:List Expr}{aw:List (Key×V)}{o:HO}{pins:List (Addr×Obj)}{pos:Pos}{qual x y:Str}{s:Shared}{scope:Scope}{st:Stmt}{mv:List (TE×TE)}{u:Value}{w:World}{σ:St}
def fC (s:Stmt)(j:Nat):Stmt:=match s with
 | .ClassDef _ _ _ body _ _ _ _ _ _ _=>body.getD j (.Pass ⟨0,0,0,0⟩)
 | _=>.Pass ⟨0,0,0,0⟩
def ky (s:Stmt):Arguments:=match s with
 | .FunctionDef _ a _ _ _ _ _ _ _ _=>a
 | _=>{ posonlyargs:=[],args:=[],vararg:=none,kwonlyargs:=[],kw_defaults:=[],kwarg:=none,defaults:=[] }
def d7 (s:Stmt):List Stmt:=match s with
 | .FunctionDef _ _ b _ _ _ _ _ _ _=>b
 | _=>[]
def aG (s:Stmt):Scope:=match s with
 | .FunctionDef _ _ _ _ _ _ sc _ _ _=>sc
 | _=>{ kind:=.function,names:=[],isGenerator:=false,isCoroutine:=false }
abbrev c_:ku:=fun _ _ _ _ _ _=>False
abbrev E0:XK:=fun _ _ _=>False
theorem pE:mm c_ X E0:=fun _ _ _ _ _ _ _ h=>h.elim
structure iN (K:PySem.W.Frag) (x qual:Str) (st:Stmt) (f:Addr) (fd:FuncData):Prop where
 ex:∃ (oc:Value) (od:Option Addr) (kV doc pm:Value) (an:Option Addr) (aQ ct:Value) (mn:Array (Option Value)),
  fd=PySem.W.fnOf x qual (ky st) (d7 st) (aG st) .none kV doc pm an aQ ct/\K.lookup f=some ⟨oc,od,.func fd,mn⟩/\PySem.W.codeIn K aQ qual=true
 kp:PySem.W.keepIn K (.ref f)=true
section
variable {P:Program}{w:World}{K:PySem.W.Frag}{mg:Str->Option Value}{base:Heap}
theorem iN.ok{N:List Str}{k:Nat}{sp:Sp}(F:iN K x qual st f fd)(S:af N ps (aG st))(len:∀ vs H Q E,sp vs H Q E->vs.length=ps.length)
  (jP:∀ (aQ:Value) (A:Around) (outer:List Env) (s:Shared) (H:Hp) (vs:List V) (Q:VK) (E:XK),aD k (A.deeper (envOfC qual (aG st) s.heap.objs.size f aQ))->sp vs H Q E->
    ∃ t,gi (fP c_ P w K mg base N qual (aG st) f aQ A outer s H E).gj (d7 st) t/\t { nx:=fun _ H'=>Q .aS H',rt:=Q } (gC N vs) H):bO P w K mg base c_ (k+1) f fd ps sp:=by
 obtain⟨oc,od,kV,doc,pm,an,aQ,ct,mn,rfl,lk,fA⟩:=F.ex
 refine Gx lk fA S len fun A outer s H vs Q E hr jC=>?_
 obtain⟨t,h,q⟩:=jP aQ A outer s H vs Q E hr jC
 exact⟨t,h.gj,q⟩
theorem iN.binds(F:iN K x qual st f fd)
  (h:∀ (kV doc pm:Value) (an:Option Addr) (aQ ct:Value) (us:List Value),us.length=ps.length->bindArgs (PySem.W.fnOf x qual (ky st) (d7 st) (aG st) .none kV doc pm an aQ ct) ⟨us,[]⟩=pure (ps.zip us)):gL K fd ps []:=by
 obtain⟨oc,od,kV,doc,pm,an,aQ,ct,mn,rfl,lk,fA⟩:=F.ex
 exact .all (h kV doc pm an aQ ct)
theorem wm{oc:Value}{od an:Option Addr}{mn:Array (Option Value)}{kV doc pm aQ ct:Value}(l:K.lookup f=some ⟨oc,od,.func (PySem.W.fnOf x qual (ky st) (d7 st) (aG st) .none kV doc pm an aQ ct),mn⟩)
  (c:PySem.W.codeIn K aQ qual=true) (k:PySem.W.keepIn K (.ref f)=true):iN K x qual st f (PySem.W.fnOf x qual (ky st) (d7 st) (aG st) .none kV doc pm an aQ ct):=⟨⟨oc,od,kV,doc,pm,an,aQ,ct,mn,rfl,l,c⟩,k⟩
end
theorem Hl{k:Nat}(hr:aD k A):A.units+1<cLine:=Nat.lt_of_le_of_lt (Nat.add_le_add_left (by decide:1<=64) _) hr.units
theorem pF(h:n<=1000):n<sizeLine:=Nat.lt_of_le_of_lt h (by decide)
section
variable {X:Cx}
theorem pv(i:Nat){pos:Pos}(hN:X.N[i]? = some x:=by rfl)(hv:px X.env.scope x:=by first|exact Or.inl rfl|exact Or.inr (Or.inl rfl)|exact Or.inr (Or.inr rfl))(hd:(x==("__debug__":Str))=false:=by decide)
  (fA:(x==("__classdict__":Str))=false:=by decide):PE X (.Name x pos) (fO i):=EJ hN hv hd fA
end
section
variable {κ:Type}[DecidableEq κ]
def iO (aw:List (κ×V))(k:κ):Option V:=(aw.find? fun kv=>decide (kv.1=k)).map (·.2)
def k6 (aw:List (κ×V))(k:κ)(v:V):List (κ×V):=
 if(aw.any fun kv=>decide (kv.1=k))=true then aw.map (fun kv=>if kv.1=k then(kv.1,v)else kv)else aw++[(k,v)]
theorem wo{p:κ×V}{r:List (κ×V)}{k:κ}(e:p.1=k):iO (p::r) k=some p.2:=by simp[iO,ZH,e]
theorem wq{p:κ×V}{r:List (κ×V)}{k:κ}(e:¬ p.1=k):iO (p::r) k=iO r k:=by simp[iO,ZH,e]
theorem Hm(aw:List (κ×V))(k:κ)(v:V):(k6 aw k v).length<=aw.length+1:=by
 unfold k6
 split
 ·rw[Qm];omega
 ·rw[Qt,Qy,List.length_nil];omega
theorem iH.getD{o:Option V}{u:Option Value}{d:V}{d':Value}(r:iH o u)(rd:bj d d'):bj (o.getD d) (u.getD d'):=by
 cases o with
 | none=>cases u with
  | none=>exact rd
  | some _=>exact(show False from r).elim
 | some _=>cases u with
  | none=>exact(show False from r).elim
  | some _=>exact r
theorem KV.val{aw:List (κ×V)}{vs:List (κ×Value)}(r:KV aw vs)(k:κ):iH (iO aw k) (valueAt vs k):=by
 unfold KV at r
 induction r with
 | nil=>exact True.intro
 | @cons p q ps qs h t ih=>
  obtain⟨h1,h2⟩:=h
  by_cases e:p.1=k
  ·have e':q.1=k:=h1.symm.trans e
   have b:valueAt (q::qs) k=some q.2:=by simp[valueAt,ZH,e']
   rw[wo e,b];exact h2
  ·have e':¬ q.1=k:=fun z=>e (h1.trans z)
   have b:valueAt (q::qs) k=valueAt qs k:=by simp[valueAt,ZH,e']
   rw[wq e,b];exact ih
theorem KV.any{aw:List (κ×V)}{vs:List (κ×Value)}(r:KV aw vs)(k:κ):(aw.any fun kv=>decide (kv.1=k))=vs.any fun kv=>decide (kv.1=k):=by
 unfold KV at r
 induction r with
 | nil=>rfl
 | cons h t ih=>rw[List.any_cons,List.any_cons,ih,h.1]
theorem KV.wu{aw:List (κ×V)}{vs:List (κ×Value)}(r:KV aw vs)(k:κ){y:V}(ry:bj y u) :
  KV (aw.map fun kv=>if kv.1=k then(kv.1,y)else kv) (vs.map fun kv=>if kv.1=k then(kv.1,u)else kv):=by
 unfold KV at r ⊢
 induction r with
 | nil=>exact .nil
 | @cons p q ps qs h t ih=>
  rw[Q3,Q3]
  refine .cons ?_ ih
  obtain⟨h1,h2⟩:=h
  by_cases e:p.1=k
  ·rw[Qe e,Qe (h1.symm.trans e)];exact⟨h1,ry⟩
  ·rw[Qh e,Qh (fun z=>e (h1.trans z))];exact⟨h1,h2⟩
theorem KV.put{aw:List (κ×V)}{vs:List (κ×Value)}(r:KV aw vs)(k:κ){y:V}(ry:bj y u):KV (k6 aw k y) (stored vs k u):=by
 unfold k6 stored
 rw[r.any k]
 by_cases e:(vs.any fun kv=>decide (kv.1=k))=true
 ·rw[Qe e,Qe e];exact r.wu k ry
 ·rw[Qh e,Qh e];exact Paired.snoc r ⟨rfl,ry⟩
end
theorem wx{k:Key}(r:bj (kV k) u):(gJ P w).is k u=true:=by
 cases k with
 | inl i=>obtain⟨t,e⟩:=(show ∃ t,u=Value.int i t from r);subst e;exact EA P w i t
 | inr x=>obtain⟨t,e⟩:=(show ∃ t,u=Value.str x t from r);subst e;exact EB P w x t
theorem Am:∀ {ks:List Key} {us:List Value},aR (ks.map kV) us->ItemsAre (gJ P w) ks us
 | [],_,r=>by rw[Jh]at r;cases r;exact .nil
 | k::ks,_,r=>by
  rw[Q3]at r
  cases r with
  | cons h t=>exact .cons (wx h) (Am t)
abbrev KT (H:Hp):List (List Key×V)->List (List Key×Addr×Value)->Prop:=Paired fun p q=>p.1=q.1/\H q.2.1=some (.tup (p.1.map kV))/\bj p.2 q.2.2
theorem KT.val{aw:List (List Key×V)}{xs:List (List Key×Addr×Value)}(r:KT H aw xs)(k:List Key):iH (iO aw k) ((atKey xs k).map (·.2)):=by
 induction r with
 | nil=>exact True.intro
 | @cons p q ps qs h t ih=>
  obtain⟨h1,_,h2⟩:=h
  by_cases e:p.1=k
  ·have e':q.1=k:=h1.symm.trans e
   have b:atKey (q::qs) k=some q.2:=by simp[atKey,ZH,e']
   rw[wo e,b];exact h2
  ·have e':¬ q.1=k:=fun z=>e (h1.trans z)
   have b:atKey (q::qs) k=atKey qs k:=by simp[atKey,ZH,e']
   rw[wq e,b];exact ih
section
variable {P:Program}{w:World}{H:Hp}{h:Heap}{a:Addr}
theorem An{u:HO}(ok:cN P w H h)(e:Rd H a u):cM P w H h a u:=e.ok ok
theorem wy(ok:cN P w H h)(e:Rd H a (.dK aw)):aw.length<=sizeLine/\(a==sysModules)=false/\∃ vs,KV aw vs/\h.DictOf (gJ P w) a vs:=
 show cM P w H h a (.dK aw)from An ok e
theorem Hn(ok:cN P w H h)(e:H a=some (.dK aw)):aw.length<=sizeLine/\(a==sysModules)=false/\∃ vs,KV aw vs/\h.DictOf (gJ P w) a vs:=wy ok (.inl e)
theorem Ao{ks:List Key}(ok:cN P w H h)(e:H a=some (.tup (ks.map kV))):(tupleKind (gJ P w)).is h ks a:=by
 obtain⟨_,ak,r,o,h1,h2,⟨n,h3⟩,_⟩:=(show cM P w H h a (.tup (ks.map kV))from ok a _ e)
 exact⟨o,ak.toArray,n,h1,h2,h3,by simpa using Am r⟩
theorem Ap{aw:List (List Key×V)}(ok:cN P w H h)(e:Rd H a (.dT aw)):aw.length<=sizeLine/\(a==sysModules)=false /\
  ∃ xs,KT H aw xs/\h.DictOfH (tupleKind (gJ P w)) a xs:=by
 obtain⟨z,y,xs,r,o,es,ep,h1,h2,h3,h4,h5⟩:=(show cM P w H h a (.dT aw)from An ok e)
 refine⟨z,y,xs,r,o,es,ep,h1,h2,h3,h4,fun x hx=>?_,h5⟩
 have all:∀ {l:List (List Key×V)} {m:List (List Key×Addr×Value)},KT H l m->∀ x∈m,(tupleKind (gJ P w)).is h x.1 x.2.1:=by
  intro l m q
  induction q with
  | nil=>intro x hx;exact nomatch hx
  | @cons p q ps qs hq t ih=>
   intro x hx
   rcases Qr.mp hx with e|hx
   ·subst e
    exact Ao ok (by rw[<- hq.1];exact hq.2.1)
   ·exact ih x hx
 exact all r x hx
end
def qZ (H:Hp)(a:Addr)(y:V)(r:Option V):Prop:=
 (∃ aw k,Rd H a (.dK aw)/\y=kV k/\r=iO aw k)\/∃ aw k b,Rd H a (.dT aw)/\y=.ref b/\H b=some (.tup (k.map kV))/\r=iO aw k
theorem qZ.k{k:Key}(e:H a=some (.dK aw)):qZ H a (kV k) (iO aw k):=.inl ⟨aw,k,.inl e,rfl,rfl⟩
section
variable {X:Cx}{pins:List (Addr×Obj)}{σ:St}{H:Hp}{s:Shared}{a:Addr}{y v:V}{u r:Value}{o:Option V}{A:Around}{E:Value->Shared->Prop}
theorem Inv.Ho(I:Inv X pins σ H s):sysModules<s.heap.objs.size:=by
 have h:mainGlobals<s.heap.objs.size:=(I.mod.glob.keeps I.bk).lt
 exact Ji (by decide) h
theorem Hq{t':Nat}{ob:HO}(I:Inv X pins σ H s)(mu:qy (H a))(hs:Heap.SameBut a s.heap h')(he:∃ q,h'.get? a=some q)(new:cM X.prog X.w (upd H a ob) h' a ob) :
  Inv X pins σ (upd H a ob) { s with heap:=h',toks:=t' }:=
 I.write (x:=a) (e:=a) mu (.inl rfl) (fun b q hb z=>(hs.2 b hb).trans z) he new
theorem Hr{vs:List (Key×Value)}(z:aw.length<=sizeLine)(hd:(a==sysModules)=false)(rel:KV aw vs)(dd:h'.DictOf (gJ P w) a vs) :
  cM P w H' h' a (.dK aw):=⟨z,hd,vs,rel,dd⟩
end
theorem Hs(h:Heap)(hb:sysModules<h.objs.size):cM P w H (h.push { cls:=.type "dict",data:=.dict #[] }) h.objs.size (.dK []):=
 ⟨ZC _,Zw.mpr (Z5 (QX hb)),[],.nil,Heap.DictOf.new h⟩
def wz:List (TE×TE)->St->Hp->(List (V×V)->Hp->Prop)->Prop
 | [],_,H,Q=>Q [] H
 | (tk,tv)::r,σ,H,Q=>tk σ H fun x H1=>tv σ H1 fun y H2=>wz r σ H2 fun ps H3=>Q ((x,y)::ps) H3
abbrev VV:List (V×V)->List (Value×Value)->Prop:=Paired fun p q=>bj p.1 q.1/\bj p.2 q.2
def tO (X:Cx)(pos:Pos)(keys:List (Option Expr))(values:List Expr)(mv:List (TE×TE)):Prop:=
 ∀ (pins:List (Addr×Obj)) (s:Shared) (σ:St) (H:Hp) (Q:List (V×V)->Hp->Prop),Inv X pins σ H s->wz mv σ H Q->
  wpAny (model X.prog X.w) X.A (evalPairs (pairTrees keys values X.env pos)) (fun vs s'=>∃ ps H',Inv X pins σ H' s'/\VV ps vs/\Q ps H') X.xe s
theorem Ht:tO X pos [] [] []:=fun pins s σ H Q I h=>pairTrees_nil_walk ⟨[],H,I,.nil,h⟩
theorem Aq{k v:Expr}{ks:List (Option Expr)}{vs:List Expr}{tk tv:TE}(hk:PE X k tk)(hv:PE X v tv)(hr:tO X pos ks vs mv) :
  tO X pos (some k::ks) (v::vs) ((tk,tv)::mv):=fun pins s σ H Q I h=>
 pairTrees_cons_walk (aV (hk pins s σ H _ I h) fun u s1 ⟨x,H1,I1,rx,q1⟩=>aV (hv pins s1 σ H1 _ I1 q1) fun w2 s2 ⟨y,H2,I2,ry,q2⟩=>
  aV (hr pins s2 σ H2 _ I2 q2) fun ws s3 ⟨ps,H3,I3,rel,q3⟩=>⟨(x,y)::ps,H3,I3,.cons ⟨rx,ry⟩ rel,q3⟩)
def nZ (aw more:List (Key×V)):List (Key×V):=more.foldl (fun acc kv=>k6 acc kv.1 kv.2) aw
theorem KV.merge:∀ {more:List (Key×V)} {rs:List (Key×Value)} {aw:List (Key×V)} {vs:List (Key×Value)},KV more rs->KV aw vs->KV (nZ aw more) (merged vs rs):=by
 intro more rs aw vs r
 unfold KV at r
 induction r generalizing aw vs with
 | nil=>intro q;exact q
 | @cons p q ps qs h t ih=>
  intro r0
  have e:KV (k6 aw p.1 p.2) (stored vs q.1 q.2):=by
   have:=r0.put p.1 h.2
   rw[<- h.1];exact this
  exact ih e
theorem Ar:∀ (more aw:List (Key×V)),(nZ aw more).length<=aw.length+more.length
 | [],aw=>by show aw.length<=aw.length+0;omega
 | p::r,aw=>by
  have h1:=Ar r (k6 aw p.1 p.2)
  have h2:=Hm aw p.1 p.2
  show(nZ (k6 aw p.1 p.2) r).length<=_
  rw[Qy];omega
theorem As{P:Program}{w:World}:∀ {aw:List (Key×V)} {ws:List (Value×Value)},VV (aw.map fun kv=>(kV kv.1,kv.2)) ws->∃ rs,Carries (gJ P w) ws rs/\KV aw rs
 | [],_,r=>by rw[Jh]at r;cases r;exact⟨[],True.intro,.nil⟩
 | p::aw,_,r=>by
  rw[Q3]at r
  cases r with
  | @cons a b as bs h t=>
   obtain⟨rs,c,q⟩:=As (P:=P) (w:=w) t
   obtain⟨b1,b2⟩:=b
   exact⟨(p.1,b2)::rs,⟨wx h.1,rfl,c⟩,.cons ⟨rfl,h.2⟩ q⟩
def Hu (mv:List (TE×TE)):TE:=fun σ H Q=>∀ p,H p=none->wz mv σ (upd H p (.dK [])) fun ps H2=>H2 p=some (.dK [])/\∃ aw:List (Key×V),ps=aw.map (fun kv=>(kV kv.1,kv.2))/\aw.length<=15/\Q (.ref p) (upd H2 p (.dK (nZ [] aw)))
theorem Hv{keys:List (Option Expr)}{values:List Expr}(h:tO X pos keys values mv)(nW:keys.all (·.isSome)=true)(hl:keys.length=values.length)(h0:keys ≠ [])
  (Hw:keys.length<=15):PE X (.Dict keys values pos) (Hu mv):=by
 intro pins s σ H Q I q
 have hn:=I.aF.fresh (Qc s.heap.objs.size)
 have I1:=I.laid (a:=s.heap.objs.size) (o:=.dK []) (h':=s.heap.push { cls:=.type "dict",data:=.dict #[] }) (t':=s.toks) (fun _ _ q=>Qf _ q) (Qc _) (Hs s.heap I.Ho)
 refine wpAny_Dict_walk (knd:=gJ X.prog X.w) nW hl h0 Hw (aV (h pins _ σ _ _ I1 (q _ hn)) fun ws s2 ai=>?_)
 obtain⟨ps,H2,I2,rel,e,aw,ep,lk,q2⟩:=ai
 subst ep
 obtain⟨rs,c,rk⟩:=As (P:=X.prog) (w:=X.w) rel
 obtain⟨z,hd,tP,r0,dd⟩:=Hn I2.aF e
 cases r0
 refine⟨rs,c,dd,fun h' Au hs=>⟨.ref s.heap.objs.size,_,?_,rfl,q2⟩⟩
 have hz:(nZ [] aw).length<=sizeLine:=by
  have h1:=Ar aw []
  rw[List.length_nil]at h1
  rw[JQ];omega
 have he:∃ q,h'.get? s.heap.objs.size=some q:=let ⟨q,_,_,hq,_⟩:=Au;⟨q,hq⟩
 exact Hq I2 (by rw[e];exact True.intro) hs he (Hr hz hd (rk.merge .nil) Au)
structure M2 (X:Cx) (o:Expr) (m:Str) (apos:Pos) (e f:Expr) (aK:Pos):Prop where
 base:attributeBase o m X.env (eval o X.env)=eval o X.env
 k7:((backTo aK (starEach [e,f] X.env)).all (fun x=>!x.1)&&(backToKw aK (keywordEach [] X.env)).all (fun x=>x.1.isSome)
  && decide (([e,f]:List Expr).length+([]:List Keyword).length+(if([]:List Keyword).isEmpty then 0 else 1)<30))=true
 line:(apos.endLine==aK.line)=true
 trees:backTo aK (starEach [e,f] X.env)=[(false,eval e X.env),(false,eval f X.env)]
def Av (H:Hp)(a:Addr):Prop:=(∃ aw,Rd H a (.dK aw))\/∃ aw,Rd H a (.dT aw)
theorem Hx(I:Inv X pins σ H s)(d:Av H a) :
  s.TypeIs (.ref a) "dict" /\ (∀ b,Value.ref a=.ref b->∃ ob,s.heap.get? b=some ob/\ob.dict=none)/\(a==sysModules)=false:=by
 rcases d with⟨aw,e⟩|⟨aw,e⟩
 ·obtain⟨_,hd,vs,_,dd⟩:=wy I.aF e
  refine⟨dd.typeIs,fun b q=>?_,hd⟩
  cases q
  obtain⟨ob,_,_,h1,h2,_⟩:=dd
  exact⟨ob,h1,h2.2.1⟩
 ·obtain⟨_,hd,xs,_,dd⟩:=Ap I.aF e
  refine⟨dd.typeIs,fun b q=>?_,hd⟩
  cases q
  obtain⟨ob,_,_,h1,h2,_⟩:=dd
  exact⟨ob,h1,h2.2.1⟩
section
variable {X:Cx}{pins:List (Addr×Obj)}{σ:St}{H:Hp}{s:Shared}{a:Addr}{y d:V}{u r:Value}{o:Option V}{A:Around}{E:Value->Shared->Prop}
theorem Hy{Q:Value->Shared->Prop}(hu:A.units+1<cLine)(I:Inv X pins σ H s)(g:qZ H a y o)(ry:bj y u)(rd:bj d r)(h:∀ w' s',Inv X pins σ H s'->bj (o.getD d) w'->Q w' s') :
  wpAny (model X.prog X.w) A (call (.builtin "dict.get") [.ref a,u,r]) Q E s:=by
 rcases g with⟨aw,k,e,ey,l⟩|⟨aw,k,b,e,ey,eb,l⟩
 ·subst ey
  obtain⟨z,hd,vs,rel,dd⟩:=wy I.aF e
  refine call_meetsIn Z2 dd.typeIs JG (JA _ _ _) (meets_dict_get_default (gJ X.prog X.w) a (wx ry) hd r) ⟨_,dd.mapOf,h _ _ (I.tok _) ?_⟩
  rw[l]
  exact(rel.val k).getD rd
 ·subst ey
  cases (show u=Value.ref b from ry)
  obtain⟨z,hd,xs,rel,dd⟩:=Ap I.aF e
  refine call_meetsIn Z2 dd.typeIs JG (JA _ _ _) (meetsH_dict_get_default (tupleKind (gJ X.prog X.w)) a b hd r) ⟨tupleKind_room_in1 hu,k,xs,Ao I.aF eb,dd,h _ _ (I.tok _) ?_⟩
  rw[l]
  exact(rel.val k).getD rd
end
def Hz (td ty tx:TE):TE:=fun σ H Q=>td σ H fun x H1=>∃ a,x=.ref a/\Av H1 a/\ty σ H1 fun y H2=>tx σ H2 fun z H3=>∃ o,qZ H3 a y o/\Q (o.getD z) H3
section
variable {X:Cx}{o e f:Expr}{apos aK:Pos}{td ty tx:TE}
theorem HA(hu:X.A.units+1<cLine)(ho:PE X o td)(he:PE X e ty)(hf:PE X f tx)(m:M2 X o "get" apos e f aK):PE X (.Call (.Attribute o "get" apos) [e,f] [] aK) (Hz td ty tx):=by
 intro pins s σ H Q I h
 refine wpAny_Call_method m.base m.k7 m.line PySem.F.plainAttrs_dict Z2 PySem.F.type_dict_get (aV (ho pins s σ H _ I h) fun u s1 ai=>?_)
 obtain⟨x,H1,I1,rx,a,ex,d,q1⟩:=ai
 subst ex
 obtain rfl:u=Value.ref a:=rx
 obtain⟨t1,t2,_⟩:=Hx I1 d
 refine⟨t1,t2,?_⟩
 rw[m.trees]
 refine Calls.callWith_builtin rfl (Calls.evalArgs_plain (Jl (aV (he pins s1 σ H1 _ I1 q1) fun iv s2 ⟨y,H2,I2,ry,q2⟩=>
  Jl (aV (hf pins s2 σ H2 _ I2 q2) fun fv s3 ⟨z,H3,I3,rz,ov,g,q3⟩=>Calls.spliced_nil ?_))))
 exact Hy hu I3 g ry rz fun w' s4 I4 nT=>⟨_,H3,I4,nT,q3⟩
end
theorem HB{prog:Program}{R:Result->Shared->Prop}{target:Expr}{it acc:Value}(I:Nat->Shared->Prop)
  (turn:∀ n s,I n s->wpAny (model prog w) A (pyNext it) (fun r aJ=>match r with
    | none=>R (.ok .next) aJ
    | some v=>wpAny (model prog w) A (letOwnedTupleGo target it v) (fun _ mx=>wpAny (model prog w) A (assign target env v) (fun _ kY=>
      wpAny (model prog w) A (forIn ifs true fun c r=>if r=true then do let ok <- isTrue c env (eval c env);pure (ForInStep.yield ok)else pure (ForInStep.yield r)) (fun ok jR=>
       if ok=true then wpAny (model prog w) A (eval elt env) (fun x k8=>
        wpAny (model prog w) A (call (.builtin "list.append") [acc,x]) (fun _ q5=>∃ m,m<n/\I m q5) (fun _ _=>False) k8) (fun _ _=>False) jR
       else ∃ m,m<n/\I m jR) (fun _ _=>False) kY) (fun _ _=>False) mx) (fun _ _=>False) aJ) (fun _ _=>False) s)
  (n:Nat) (h:I n s):codeAny (model prog w) A (.compLoop (.ListComp elt [⟨target,iter,ifs,0⟩] scope pos) 0 it acc env) R s:=by
 refine codeAny_loop rfl I (fun n s hI=>?_) n h
 show wpAny _ A ((compTurn (.ListComp elt [⟨target,iter,ifs,0⟩] scope pos) 0 it acc env).onRaise (fun x=>do noteFrame x env;theTreesLotGoes x)) _ _ s
 refine wpAny_noted ?_
 rw[compTurn_list]
 refine Qb (wpAny_standAt (Qb (Zr (turn n s hI) (fun r aJ q8=>?_) fun _ _ h'=>h'.elim)))
 cases r with
 | none=>exact Qk q8
 | some v=>
  refine Qb (Zr q8 (fun _ mx q9=>?_) fun _ _ h'=>h'.elim)
  refine Qb (Zr q9 (fun _ kY wA=>Qb (Zr wA (fun ok jR q_=>?_) fun _ _ h'=>h'.elim)) fun _ _ h'=>h'.elim)
  cases ok with
  | false=>exact Qk ⟨rfl,q_⟩
  | true=>
   exact Qb (Qb (Zr q_ (fun x k8 wB=>Qb (Zr wB (fun _ q5 wC=>Qk (Qk ⟨rfl,wC⟩)) fun _ _ h'=>h'.elim)) fun _ _ h'=>h'.elim))
theorem HC{M:Model}{A:Around}{E:Value->Shared->Prop}{globals:Addr}{cl:List (Str×Addr)}{outer:Env}{Q:Env->Shared->Prop}
  (hQ:Q (newEnv scope s.heap.objs.size globals (cellsFrom (s.heap.objs.size+1) scope.names cl) qual none .none (some outer) builtinsNs)
    { s with heap:=pushCells (s.heap.push { cls:=.type "dict",data:=.dict #[] }) scope.names }) :
  wpAny M A (newFunctionEnv scope globals cl [] qual none .none (some outer)) Q E s:=by
 simp only[newFunctionEnv,Option.isSome_some,ZX]
 refine Qb (wpAny_alloc ?_)
 refine Qb (wpAny_layCells _ (fun name kind cells=>by cases HD:kind==NameKind.cell<;>simp[HD]) _ _ _ _ ?_)
 rw[show({ s with heap:=s.heap.push { cls:=.type "dict",data:=.dict #[] } }:Shared).heap.objs.size=s.heap.objs.size+1 from Zd ..]
 refine Qb ?_
 rw[List.forIn_nil]
 exact Qk (Qk hQ)
def fQ (cells:List (Str×Addr)):List (Str×NameKind)->List (Str×Addr)->List (Str×Addr)
 | [],acc=>acc
 | (n,k)::r,acc=>if k == .free then(match cells.lookup n with
   | some c=>fQ cells r ((n,c)::acc)
   | none=>fQ cells r acc)else fQ cells r acc
theorem Aw(h:∀ y∈scope.names,y.2=.free->∃ c,env.cells.lookup y.1=some c):closureFor scope env=pure (fQ env.cells scope.names []):=by
 unfold closureFor
 have key:∀ (names:List (Str×NameKind)) (acc:List (Str×Addr)),(∀ y∈names,y.2=.free->∃ c,env.cells.lookup y.1=some c)->
   (forIn names acc (fun(x:Str×NameKind) (r:List (Str×Addr))=>(match x with
     | (name,kind)=>if(kind==NameKind.free)=true then do
       let c <- cellOf env name
       pure (ForInStep.yield ((name,c)::r))
      else pure (ForInStep.yield r):Sem (ForInStep (List (Str×Addr))))))=(pure (fQ env.cells names acc):Sem (List (Str×Addr))):=by
  intro names
  induction names with
  | nil=>intro acc _;rfl
  | cons y r ih=>
   intro acc hh
   obtain⟨n,kd⟩:=y
   rw[List.forIn_cons]
   unfold fQ
   by_cases hk:(kd==NameKind.free)=true
   ·obtain⟨c,hc⟩:=hh (n,kd) Qd (by simpa using hk)
    have me:env.cells.lookup n=some c:=hc
    simp only[hk,ZX,me]
    have e:cellOf env n=pure c:=by unfold cellOf;rw[me]
    rw[e]
    exact ih ((n,c)::acc) fun z hz=>hh z (Qa _ hz)
   ·simp only[hk]
    exact ih acc fun z hz=>hh z (Qa _ hz)
 exact(ZG (fun m=>m >>= fun cs=>(pure cs:Sem (List (Str×Addr)))) (key scope.names [] h)).trans rfl
theorem tR:∀ {names:List (Str×NameKind)} {acc:List (Str×Addr)},(∀ y c,(y,c)∈acc->cells.lookup y=some c)->∀ y c,(y,c)∈fQ cells names acc->cells.lookup y=some c
 | [],_,h,y,c,m=>h y c m
 | (n,k)::r,acc,h,y,c,m=>by
  unfold fQ at m
  split at m
  ·split at m
   next c' e=>
    refine tR (acc:=(n,c')::acc) (fun z d hz=>?_) y c m
    rcases Qr.mp hz with q|q
    ·cases q;exact e
    ·exact h z d q
   ·exact tR h y c m
  ·exact tR h y c m
theorem tS:∀ {names:List (Str×NameKind)} {acc:List (Str×Addr)} {y:Str},(acc.lookup y).isSome=true->((fQ cells names acc).lookup y).isSome=true
 | [],_,_,h=>h
 | (n,k)::r,acc,y,h=>by
  unfold fQ
  split
  ·split
   ·refine tS ?_
    rw[QR]
    split
    ·rfl
    ·exact h
   ·exact tS h
  ·exact tS h
theorem rf(hc:cells.lookup y=some c):∀ {names:List (Str×NameKind)} {acc:List (Str×Addr)},(y,NameKind.free)∈names->((fQ cells names acc).lookup y).isSome=true
 | (n,k)::r,acc,h=>by
  unfold fQ
  rcases Qr.mp h with q|q
  ·cases q
   simp only[hc]
   rw[Qe (by rfl)]
   refine tS ?_
   rw[QR,ZA]
   rfl
  ·split
   ·split
    ·exact rf hc q
    ·exact rf hc q
   ·exact rf hc q
theorem wD:∀ {names:List (Str×NameKind)} {h:Heap} {acc:List (Str×Addr)} {y:Str} {c:Addr},(y,c)∈cellsFrom h.objs.size names acc->(y,c)∈acc\/(h.objs.size<=c/\(pushCells h names).IsCell c none)
 | [],_,_,_,_,m=>.inl m
 | (n,k)::r,h,acc,y,c,m=>by
  unfold cellsFrom at m
  unfold pushCells
  split at m
  next hk=>
   rw[Qe hk]
   have m':(y,c)∈cellsFrom (h.push { cls:=.type "cell",data:=.cell none }).objs.size r ((n,h.objs.size)::acc):=by rw[Zd];exact m
   rcases wD m' with q|⟨q1,q2⟩
   ·rcases Qr.mp q with e|q
    ·cases e
     refine .inr ⟨Qc _,_,ZQ _ _ _ _ (Qs _ rfl),rfl⟩
    ·exact .inl q
   ·rw[Zd]at q1
    exact .inr ⟨by omega,q2⟩
  next hk=>
   rw[Qh hk]
   exact wD m
theorem wF:∀ {names:List (Str×NameKind)} {n:Nat} {acc:List (Str×Addr)},(∀ y c,(y,c)∈acc->c<n)->(∀ x y c,(x,c)∈acc->(y,c)∈acc->x=y)->∀ x y c,(x,c)∈cellsFrom n names acc->(y,c)∈cellsFrom n names acc->x=y
 | [],_,_,_,h=>h
 | (nm,k)::r,n,acc,dt,h=>by
  unfold cellsFrom
  split
  ·refine wF (n:=n+1) (acc:=(nm,n)::acc) (fun y c m=>?_) (fun x y c m1 m2=>?_)
   ·rcases Qr.mp m with e|m
    ·cases e;exact QU _
    ·exact Q7 (dt y c m)
   ·rcases Qr.mp m1 with e1|m1<;>rcases Qr.mp m2 with e2|m2
    ·cases e1;cases e2;rfl
    ·cases e1;exact absurd (dt y _ m2) (QL _)
    ·cases e2;exact absurd (dt x _ m1) (QL _)
    ·exact h x y c m1 m2
  ·exact wF dt h
theorem wG:∀ {names:List (Str×NameKind)} {n:Nat} {acc:List (Str×Addr)},lo<=n->(∀ c,acc.lookup y=some c->lo<=c)->∀ c,(cellsFrom n names acc).lookup y=some c->lo<=c
 | [],_,_,_,h=>h
 | (nm,k)::r,n,acc,hn,h=>by
  unfold cellsFrom
  split
  ·refine wG (n:=n+1) (by omega) fun c e=>?_
   rw[QR]at e
   split at e
   ·cases e;exact hn
   ·exact h c e
  ·exact wG hn h
theorem wH:∀ {names:List (Str×NameKind)} {n:Nat} {acc:List (Str×Addr)},lo<=n->(y,NameKind.cell)∈names->∀ c,(cellsFrom n names acc).lookup y=some c->lo<=c
 | (nm,k)::r,n,acc,hn,h=>by
  unfold cellsFrom
  rcases Qr.mp h with q|q
  ·cases q
   rw[Qe (by rfl)]
   refine wG (n:=n+1) (by omega) fun c e=>?_
   rw[QR,ZA]at e
   cases e;exact hn
  ·split
   ·exact wH (n:=n+1) (by omega) q
   ·exact wH hn q
theorem wI:∀ {names:List (Str×NameKind)} {n:Nat} {acc:List (Str×Addr)},(y,NameKind.cell) ∉ names->(cellsFrom n names acc).lookup y=acc.lookup y
 | [],_,_,_=>rfl
 | (nm,k)::r,n,acc,h=>by
  unfold cellsFrom
  split
  next hk=>
   rw[wI (fun z=>h (Qa _ z)),QR]
   have iP:(y==nm)=false:=by
    cases e:y==nm with
    | false=>rfl
    | true=>
     have e1:y=nm:=Zt.mp e
     have e2:k=NameKind.cell:=by simpa using hk
     exact absurd (by rw[e1,<- e2];exact Qd) h
   rw[iP]
  ·exact wI fun z=>h (Qa _ z)
def my (env:Env)(y:Str)(k:NameKind):NameKind:=if(k==NameKind.free&&env.scope.kind == .function&&env.kindOf y==some .cell)then .cell else k
theorem wJ{env:Env}{y:Str}:∀ (names:List (Str×NameKind)),(names.map fun(n,k)=>if(k==NameKind.free&&env.scope.kind == .function&&env.kindOf n==some .cell)then(n,NameKind.cell)else(n,k)).lookup y=(names.lookup y).map (my env y)
 | []=>rfl
 | (n,k)::r=>by
  have ih:=wJ (env:=env) (y:=y) r
  show List.lookup y ((if(k==NameKind.free&&env.scope.kind == .function&&env.kindOf n==some .cell)=true then(n,NameKind.cell)else(n,k))::_)=_
  cases hx:y==n with
  | true=>
   have e:=Zt.mp hx
   subst e
   rw[QR,QR]
   by_cases hc:(k==NameKind.free&&env.scope.kind == .function&&env.kindOf y==some .cell)=true
   ·simp only[my,hc,ZX,ZA,Zh]
   ·simp only[my,hc,ZA,Zh]
    simp
  | false=>
   by_cases hc:(k==NameKind.free&&env.scope.kind == .function&&env.kindOf n==some .cell)=true
   ·rw[Qe hc,QR,QR];simp only[hx];exact ih
   ·rw[Qh hc,QR,QR];simp only[hx];exact ih
theorem Ax{l:List (Str×NameKind)}(hn:(l.map (·.1)).Nodup){k:NameKind}(h:(y,k)∈l):l.lookup y=some k:=by
 induction l with
 | nil=>cases h
 | cons p r ih=>
  rw[QR]
  rcases Qr.mp h with e|h
  ·rw[<- e,ZA]
  ·have iP:y≠p.1:=fun e=>by
    have:=(Zn.mp hn).1
    exact this (by show p.1∈_;rw[<- e];exact QF.mpr ⟨(y,k),h,rfl⟩)
   have:(y==p.1)=false:=by simpa using iP
   rw[this]
   exact ih (Zn.mp hn).2 h
def Ay (scope:Scope)(env:Env)(C:Addr):Env:=
 { newEnv scope C env.globals (cellsFrom (C+1) scope.names (fQ env.cells scope.names [])) env.qual none .none (some env) builtinsNs with scope:=relabel scope env }
def eK (X:Cx)(N':List Str)(scope:Scope)(C:Addr)(s:Shared)(H:Hp)(fp:List Addr):Cx where
 prog:=X.prog
 w:=X.w
 K:=X.K
 mg:=X.mg
 base:=X.base
 A:=X.A
 N:=N'
 bL:=s
 gf:=H
 env:=Ay scope X.env C
 outer:=X.stack
 stack:=X.stack
 ex:=fp
 fn:=fun y=>scope.names.lookup y==some .cell
 calm:=X.calm
 pn:=[]
 xe:=fun _ _=>False
structure bI (X:Cx) (k:Nat) (N':List Str) (scope:Scope):Prop where
 kind:scope.kind=.function
 names:(scope.names.map (·.1)).Nodup
 len:N'.length=X.N.length+k
 frees:(scope.names.all fun y=>y.2 != .free||X.env.kindOf y.1==some .cell||X.env.kindOf y.1==some .free)=true
 outs:((N'.zip X.N).all fun p=>(p.1==p.2&&scope.names.lookup p.1==some .free)||scope.names.lookup p.1==none||scope.names.lookup p.1==some .globalImplicit)=true
theorem bI.free{k:Nat}(S:bI X k N' scope)(h:(y,NameKind.free)∈scope.names):X.env.kindOf y=some .cell\/X.env.kindOf y=some .free:=by
 have:=Zk.mp S.frees (y,NameKind.free) h
 simp only[Bool.or_eq_true,bne_iff_ne,ne_eq,Zt]at this
 rcases this with(h1|h1)|h1
 ·exact absurd trivial h1
 ·exact .inl h1
 ·exact .inr h1
theorem bI.out{k:Nat}(S:bI X k N' scope)(cR:i<X.N.length)(h:N'[i]? = some y)(hv:px (relabel scope X.env) y):X.N[i]? = some y/\scope.names.lookup y=some .free:=by
 have e2:X.N[i]? = some X.N[i]:=by simp[cR]
 have m:(y,X.N[i])∈N'.zip X.N:=JR (i:=i) (by rw[List.getElem?_zip_eq_some];exact⟨h,e2⟩)
 have:=Zk.mp S.outs _ m
 simp only[Bool.or_eq_true,Zz,Zt]at this
 have hl:(relabel scope X.env).names.lookup y=(scope.names.lookup y).map (my X.env y):=wJ _
 rcases this with(⟨h1,h2⟩|h1)|h1
 ·exact⟨by rw[e2,<- h1],h2⟩
 ·rw[h1]at hl
  rcases hv with z|z|z<;>(rw[hl]at z;cases z)
 ·rw[h1]at hl
  have hr:my X.env y .globalImplicit=.globalImplicit:=rfl
  rw[Zh,hr]at hl
  rcases hv with z|z|z<;>(rw[hl]at z;cases z)
theorem Un.n4{fs ex:List Addr}{D:Addr}(u:Un fs ex H H' h h')(aF:cN P w H h)(hD:h.objs.size<=D):Un fs ex H (upd H' D o) h h':=by
 have ne:∀ b ob,h.get? b=some ob->b≠D:=fun b ob e z=>absurd (Ql (Qn e) hD) (by rw[z];exact QL _)
 have ne':∀ b x,H b=some x->b≠D:=fun b x e z=>absurd (Ql (aF.lt e) hD) (by rw[z];exact QL _)
 refine⟨u.keep,u.slot,fun b ob e n hx=>?_,u.there,fun b xs e=>?_,fun b ob x e=>?_,fun b ps e=>?_⟩
 ·rw[ba (ne b ob e)];exact u.free b ob e n hx
 ·rw[ba (ne' b _ e)];exact u.f9 b xs e
 ·rw[ba (ne' b _ e)];exact u.fz b ob x e
 ·rw[ba (ne' b _ e)];exact u.f_ b ps e
theorem cN.add{D:Addr}(x:cN P w H h)(hn:H D=none)(new:cM P w (upd H D o) h D o):cN P w (upd H D o) h:=fun b u e=>by
 by_cases hb:b=D
 ·subst hb;rw[fi]at e;cases e;exact new
 ·rw[ba hb]at e
  exact(x b u e).ji (fun c v _ q=>q) (fun c q=>by rw[ba (ib q hn)];exact q) fun c xs q=>by rw[ba (ib q hn)];exact q
def pG (X:Cx)(ifs:List Expr)(t:TT):Prop:=
 ∀ (pins:List (Addr×Obj)) (s:Shared) (σ:St) (H:Hp) (Q:Bool->Hp->Prop),Inv X pins σ H s->t σ H Q->
  wpAny (model X.prog X.w) X.A (forIn ifs true fun c r=>if r=true then do let ok <- isTrue c X.env (eval c X.env);pure (ForInStep.yield ok)else pure (ForInStep.yield r)) (TP X pins σ Q) X.xe s
def HE:TT:=fun _ H Q=>Q true H
theorem HF:pG X [] HE:=fun pins s σ H Q I h=>wpAny_tests_nil ⟨H,I,h⟩
theorem HG{c:Expr}{t:TT}(h:PT X c t):pG X [c] t:=fun pins s σ H Q I q=>wpAny_tests_one (h pins s σ H Q I q)
def Az (k:Nat)(g:TG)(tt:TT)(te:TE)(σ:St)(J:It)(H:Hp)(Fin:List V->Hp->Prop):Prop:=
 ∃ W:Nat->Nat->List V->Hp->Prop,(∃ m,W 0 m [] H)/\∀ i m ys H2,W i m ys H2->ys.length<=sizeLine /\
  ((J.stop i H2/\Fin ys H2)\/(J.go i H2/\ys.length<sizeLine/\∀ x H3,J.nK i H2 x H3->g x (σ++List.replicate k none) H3 fun pH H4=>(∃ τ,pH=σ++τ/\τ.length=k) /\
    tt pH H4 fun b H5=>if b=true then te pH H5 fun v H6=>∃ m',m'<m/\W (i+1) m' (ys++[v]) H6 else ∃ m',m'<m/\W (i+1) m' ys H5))
def tT (k:Nat)(wi:TI)(g:TG)(tt:TT)(te:TE):TE:=fun σ H Q=>wi σ H fun J H1=>Az k g tt te σ J H1 fun ys H2=>∀ p,H2 p=none->Q (.ref p) (upd H2 p (.lst ys))
def fD (us:List Value)(n:Nat):Obj:={ cls:=.type "list",data:=.seq us.toArray n }
theorem AA{τ:St}(I:Inv X pins (σ++τ) H s):Inv X pins (σ++List.replicate τ.length none) H s:=
 I.weak (by simp) fun i v e=>by
  by_cases hi:i<σ.length
  ·rw[Qw hi]at e ⊢
   exact e
  ·rw[QV (by omega),Q5]at e
   split at e<;>cases e
section
variable {X:Cx}{k:Nat}{N':List Str}{scope:Scope}{pins:List (Addr×Obj)}{σ:St}{H2:Hp}{s2:Shared}{fp:List Addr}
abbrev rg (scope:Scope)(s2:Shared):Heap:=pushCells ((s2.heap.push (fD [] 0)).push { cls:=.type "dict",data:=.dict #[] }) scope.names
theorem HH(S:bI X k N' scope)(I2:Inv X pins σ H2 s2)(f2:∀ b∈fp,kq X pins H2 b)(n6:∀ b∈fp,b<s2.heap.objs.size) :
  Inv (eK X N' scope (s2.heap.objs.size+1) s2 H2 fp) [(s2.heap.objs.size,fD [] 0)] (σ++List.replicate k none) H2 { s2 with heap:=rg scope s2 }:=by
 have e1:(s2.heap.push (fD [] 0)).objs.size=s2.heap.objs.size+1:=Zd ..
 have e2:((s2.heap.push (fD [] 0)).push { cls:=.type "dict",data:=.dict #[] }).objs.size=s2.heap.objs.size+1+1:=by rw[Zd,e1]
 have keep:∀ b o,s2.heap.get? b=some o->(rg scope s2).get? b=some o:=fun b o e=>ZQ _ _ b o (Qf _ (Qf _ e))
 have eL:∀ y c,(y,c)∈fQ X.env.cells scope.names []->X.env.cells.lookup y=some c:=tR (fun _ _ m=>nomatch m)
 have n8:∀ y c,(y,c)∈cellsFrom (s2.heap.objs.size+1+1) scope.names (fQ X.env.cells scope.names [])->X.env.cells.lookup y=some c\/(s2.heap.objs.size+1+1<=c/\(rg scope s2).IsCell c none):=fun y c m=>by
  have m':(y,c)∈cellsFrom ((s2.heap.push (fD [] 0)).push { cls:=.type "dict",data:=.dict #[] }).objs.size scope.names (fQ X.env.cells scope.names []):=by rw[e2];exact m
  rcases wD m' with q|⟨q1,q2⟩
  ·exact .inl (eL y c q)
  ·rw[e2]at q1;exact .inr ⟨q1,q2⟩
 have HI:∀ y c,X.env.cells.lookup y=some c->c<s2.heap.objs.size:=fun y c e=>by obtain⟨v,z⟩:=I2.cell y c e;exact z.lt
 have hl:∀ y,(relabel scope X.env).names.lookup y=(scope.names.lookup y).map (my X.env y):=fun y=>wJ _
 have ok:(eK X N' scope (s2.heap.objs.size+1) s2 H2 fp).Ok:=by
  refine⟨I2.ok.mod,S.kind,I2.ok.glob,I2.ok.blt,ZM _,fun x y c h1 h2=>?_,fun x hx=>?_,fun x c hf h=>?_,I2.ok.hd,I2.ok.frames,.inl rfl,fun b hb=>⟨?_,fun x c h z=>?_⟩,I2.bs,QK I2.ok.jI I2.sz,fun b o e hb=>?_,fun b hb z=>?_,I2.stack,I2.iJ⟩
  ·refine wF (n:=s2.heap.objs.size+1+1) (names:=scope.names) (acc:=fQ X.env.cells scope.names []) (fun y c m=>?_) (fun x y c m1 m2=>?_) x y c (QC h1) (QC h2)
   ·exact Ql (HI y c (eL y c m)) (by omega)
   ·exact I2.ok.inj x y c (eL x c m1) (eL y c m2)
  ·have k9:(relabel scope X.env).names.lookup x=some .cell\/(relabel scope X.env).names.lookup x=some .free:=hx
   rw[hl x]at k9
   have:scope.names.lookup x=some .cell\/scope.names.lookup x=some .free:=by
    cases e:scope.names.lookup x with
    | none=>rw[e]at k9;rcases k9 with z|z<;>cases z
    | some kd=>
     rw[e,Zh]at k9
     cases kd<;>first
      | exact .inl rfl
      | exact .inr rfl
      | (rcases k9 with z|z<;>(have z':=Qp z;unfold my at z';simp at z'))
   rcases this with q|q
   ·exact Zu.mp (ZD scope.names (s2.heap.objs.size+1+1) _ (.inl q))
   ·have qm:=QC q
    have hk:=S.free qm
    obtain⟨c,hc⟩:=I2.ok.has x hk
    exact Zu.mp (ZD scope.names (s2.heap.objs.size+1+1) _ (.inr (rf hc qm)))
  ·have HJ:(scope.names.lookup x==some .cell)=true:=hf
   have:=wH (lo:=s2.heap.objs.size) (n:=s2.heap.objs.size+1+1) (acc:=fQ X.env.cells scope.names []) (by omega) (QC (Zt.mp HJ)) c h
   exact this
  ·have:=n6 b hb
   show b≠s2.heap.objs.size+1
   exact QX (Ql this (ZM _))
  ·have q:=n6 b hb
   rcases n8 x c (QC h)with w|⟨w,_⟩
   ·exact(f2 b hb).2.2.2.2.1 x c w z
   ·subst z;exact absurd (Ql q (QK (by omega) w)) (QL _)
  ·rcases(f2 b hb).2.2.2.1 with z|z
   ·exact I2.ok.jJ b o e z
   ·have:=Qn e
    have:=I2.ok.jI
    exact absurd (Ql (Qn e) (QK I2.ok.jI z)) (QL _)
  ·rcases Qr.mp (I2.gh b z)with q|q
   ·exact(f2 b hb).2.1 q
   ·exact(f2 b hb).2.2.1 q
 obtain⟨m,hn,wK⟩:=id I2.loc
 refine⟨ok,rfl,I2.bare,Un.kept keep,⟨fun _=>none,?_,fun i y v h1 h2 h3=>?_⟩,fun y c h=>?_,I2.aF.fresh (ZM _),fun y c h=>?_,fun p hp=>?_,I2.aF.kept keep,?_⟩
 ·have:=(Heap.Ns.new (s2.heap.push (fD [] 0)) (.type "dict")).keeps (ZQ scope.names _)
  rw[e1]at this
  exact this
 ·by_cases hi:i<σ.length
  ·have rh:px (relabel scope X.env) y:=h3
   obtain⟨o1,o2⟩:=S.out (by rw[<- I2.len];exact hi) h1 rh
   have hk:=S.free (QC o2)
   have hs:σ[i]? = some (some v):=by
    rw[Qw hi]at h2
    exact h2
   obtain⟨u,r,l⟩:=wK i y v o1 hs (.inr hk)
   refine⟨u,r,?_⟩
   rcases l with⟨l,_⟩|⟨_,c,hc,iK⟩
   ·rcases hk with z|z<;>(rw[l]at z;cases z)
   ·refine .inr ⟨?_,c,?_,iK.keeps keep⟩
    ·show(relabel scope X.env).names.lookup y=some .cell\/(relabel scope X.env).names.lookup y=some .free
     rw[hl y,o2,Zh]
     unfold my
     split
     ·exact .inl rfl
     ·exact .inr rfl
    ·show(cellsFrom (s2.heap.objs.size+1+1) scope.names (fQ X.env.cells scope.names [])).lookup y=some c
     rw[wI (fun z=>by have:=Ax S.names z;rw[o2]at this;cases this)]
     obtain⟨c',me⟩:=Zu.mp (rf (acc:=[]) hc (QC o2))
     have:=eL y c' (QC me)
     rw[hc]at this;cases this
     exact me
  ·rw[QV (by omega),Q5]at h2
   split at h2<;>cases h2
 ·rcases n8 y c (QC h)with w|⟨_,w⟩
  ·obtain⟨v,z⟩:=I2.cell y c w
   exact⟨v,z.keeps keep⟩
  ·exact⟨_,w⟩
 ·rcases n8 y c (QC h)with w|⟨w,_⟩
  ·exact I2.cB y c w
  ·exact I2.aF.fresh (by omega)
 ·have e:p=(s2.heap.objs.size,fD [] 0):=by
   have:p ∈ [(s2.heap.objs.size,fD [] 0)]:=hp
   simpa using this
  subst e
  refine⟨ZQ _ _ _ _ (Qf _ (Qs _ rfl)),I2.aF.fresh (Qc _),?_,fun z=>?_,fun v z=>nomatch z⟩
  ·show s2.heap.objs.size≠s2.heap.objs.size+1
   omega
  ·have z':s2.heap.objs.size∈g_ X.stack:=z
   rcases Qr.mp (I2.gh _ z')with q|q
   ·exact absurd I2.lt (by rw[<- q];exact QL _)
   ·exact I2.qD (Qc _) q
 ·rw[Qt,Q4,I2.len]
  exact S.len.symm
theorem HK{us:List Value}{ys:List V}{s':Shared}{aA:St}(I2:Inv X pins σ H2 s2)(f2:∀ b∈fp,kq X pins H2 b)
  (I3:Inv (eK X N' scope C s2 H2 fp) [(s2.heap.objs.size,fD us n)] aA H' s') (r:aR ys us) (hz:ys.length<=sizeLine):Inv X pins σ (upd H' s2.heap.objs.size (.lst ys)) s':=by
 obtain⟨e,hn,_⟩:=I3.pin (s2.heap.objs.size,fD us n) (Qi _ (QB.mpr rfl))
 have u:Un (g_ X.stack) fp H2 H' s2.heap s'.heap:=I3.base
 exact I2.qG (ch:=fp) I3.os (u.n4 I2.aF (Qc _)) (I3.aF.add hn ⟨hz,us,n,r,e⟩) I3.bare fun b hb=>⟨(f2 b hb).2.2.2.1,(f2 b hb).2.1,(f2 b hb).2.2.2.2⟩
end
theorem AB{k:Nat}{H2:Hp}{s2:Shared}{fp:List Addr}{tg:Expr}{it:Addr}{tn:Nat->Heap->Prop}{J:It}{g:TG}{tt:TT}{te:TE}{Fin:List V->Hp->Prop}{E:Value->Shared->Prop}{RR:Value->Addr->Result->Shared->Prop}
  (hc:X.calm=true) (S:bI X k N' scope) (hg:∀ C s H fp,PG (eK X N' scope C s H fp) tg g) (ht:∀ C s H fp,pG (eK X N' scope C s H fp) ifs tt) (he:∀ C s H fp,PE (eK X N' scope C s H fp) elt te)
  (I2:Inv X pins σ H2 s2) (T:Turn X.prog X.w X.K tg J fp it tn) (mh:tn 0 s2.heap) (f2:∀ b∈fp,kq X pins H2 b) (R:Az k g tt te σ J H2 Fin)
  (HL:∀ C ys H' s' m',Inv X pins σ (upd H' s2.heap.objs.size (.lst ys)) s'->s'.heap.Ns C m'->H' s2.heap.objs.size=none->upd H' s2.heap.objs.size (.lst ys) C=none->C≠X.env.locals->X.bL.heap.objs.size<=C->s2.heap.objs.size<C->
    Fin ys H'->RR (.ref s2.heap.objs.size) C (.ok .next) s') :
  wpAny (model X.prog X.w) X.A (newList []) (fun acc jR=>wpAny (model X.prog X.w) X.A (newFunctionEnv scope X.env.globals (fQ X.env.cells scope.names []) [] X.env.qual none .none (some X.env)) (fun rj k8=>
   codeAny (model X.prog X.w) X.A (.compStart (.ListComp elt [⟨tg,iter,ifs,0⟩] scope pos) 0 (.ref it) acc { rj with scope:=relabel scope X.env }) (RR acc rj.locals) k8) E jR) E s2:=by
 refine Ze (HC ?_)
 have e1:(s2.heap.push (fD [] 0)).objs.size=s2.heap.objs.size+1:=Zd ..
 have n6:∀ b∈fp,b<s2.heap.objs.size:=fun b hb=>by obtain⟨o,e,_⟩:=T.obj _ _ mh b hb;exact Qn e
 obtain⟨W,⟨m0,w0⟩,turn⟩:=R
 have I3:=HH S I2 f2 n6
 have qI:tn 0 (rg scope s2):=T.keep _ _ _ mh fun b hb o e=>ZQ _ _ b o (Qf _ (Qf _ e))
 have HM:s2.heap.objs.size≠s2.heap.objs.size+1:=by omega
 have ie:∀ {H':Hp} {us:List Value} {n:Nat},(∀ b∈fp,H' b=none)->∀ b∈fp,kq (eK X N' scope (s2.heap.objs.size+1) s2 H2 fp) [(s2.heap.objs.size,fD us n)] H' b:=fun {H' us n} hn b hb=>by
  have q:=I3.ok.vx b hb
  refine⟨hn b hb,q.1,I3.ok.jK b hb,.inl hb,q.2,fun p hp z=>?_⟩
  have n9:p ∈ [(s2.heap.objs.size,fD us n)]:=hp
  have e:p=(s2.heap.objs.size,fD us n):=by simpa using n9
  subst e
  have:=n6 b hb
  have z':s2.heap.objs.size=b:=z
  exact absurd this (by rw[z'];exact QL _)
 have loop:∀ AD,AD=Value.ref it->codeAny (model X.prog X.w) X.A (.compLoop (.ListComp elt [⟨tg,iter,ifs,0⟩] scope pos) 0 AD (.ref s2.heap.objs.size) (Ay scope X.env (s2.heap.objs.size+1))) (RR (.ref s2.heap.objs.size) (s2.heap.objs.size+1)) { s2 with heap:=rg scope s2 }:=by
  rintro _ rfl
  refine HB (fun n s'=>∃ i ys us cnt H',Inv (eK X N' scope (s2.heap.objs.size+1) s2 H2 fp) [(s2.heap.objs.size,fD us cnt)] (σ++List.replicate k none) H' s'/\tn i s'.heap/\(∀ b∈fp,H' b=none)/\aR ys us/\W i n ys H') ?_ m0
   ⟨0,[],[],0,H2,I3,qI,fun b hb=>(f2 b hb).1,.nil,w0⟩
  rintro n s3 ⟨i,ys,us,cnt,H3,J3,st,fr,r3,w3⟩
  obtain⟨hz,hw⟩:=turn i n ys H3 w3
  rcases hw with⟨stop,fin⟩|⟨go,dt,step⟩
  ·refine aV (T.done (eK X N' scope (s2.heap.objs.size+1) s2 H2 fp) rfl rfl rfl hc i _ s3 _ H3 _ J3 (ie fr) st stop) fun rr s4 ⟨hr,I4⟩=>?_
   subst hr
   obtain⟨m',vC,_⟩:=id I4.loc
   obtain⟨eD,nD,_⟩:=I4.pin (s2.heap.objs.size,fD us cnt) (Qi _ (QB.mpr rfl))
   refine HL (s2.heap.objs.size+1) ys H3 s4 m' (HK I2 f2 I4 r3 hz) vC nD ?_ ?_ ?_ (QU _) fin
   ·rw[ba (Z5 HM)];exact I4.free
   ·exact Z5 (QX (Ql I2.lt (ZM _)))
   ·have:=I2.sz;omega
  ·refine aV (T.item (eK X N' scope (s2.heap.objs.size+1) s2 H2 fp) rfl rfl rfl hc i _ s3 _ H3 _ J3 (ie fr) st go) fun rr s4 ⟨u,hr,h4⟩=>?_
   subst hr
   refine aV h4 fun _ s5 ai=>?_
   obtain⟨x,H5,I5,r5,y5,nL,vM⟩:=ai
   have vN:=I5.pinned (ie vM) (T.obj _ _ nL)
   refine aV (hg _ _ _ _ _ s5 _ H5 x u _ vN r5 (step x H5 y5)) fun _ s6 ⟨zG,H6,I6,⟨τ,e6,l6⟩,q6⟩=>?_
   subst e6
   refine aV (ht _ _ _ _ _ s6 _ H6 _ I6 q6) fun ok s7 ai=>?_
   obtain⟨H7,I7,q7⟩:=ai
   have kept:∀ {s':Shared} {H':Hp} {aA:St},Inv (eK X N' scope (s2.heap.objs.size+1) s2 H2 fp) ([(s2.heap.objs.size,fD us cnt)]++mf fp s5.heap) aA H' s'->tn (i+1) s'.heap/\∀ b∈fp,H' b=none:=fun {s' H' aA} I'=>by
    refine⟨T.keep _ _ _ nL fun b hb o e=>(I'.pin (b,o) (Qi _ (Qi _ (tE hb e)))).1,fun b hb=>?_⟩
    obtain⟨o,e,d⟩:=T.obj _ _ nL b hb
    exact(I'.pin (b,o) (Qi _ (Qi _ (tE hb e)))).2.1
   cases ok with
   | false=>
    rw[Qh (by decide)]at q7 ⊢
    obtain⟨m',hm,w7⟩:=q7
    have:=AA I7.dj
    rw[l6]at this
    exact⟨m',hm,i+1,ys,us,cnt,H7,this,(kept I7).1,(kept I7).2,r3,w7⟩
   | true=>
    rw[Qe rfl]at q7 ⊢
    refine aV (he _ _ _ _ _ s7 _ H7 _ I7 q7) fun u8 s8 ai=>?_
    obtain⟨v,H8,I8,r8,m',hm,w8⟩:=ai
    obtain⟨eD,nD,AE,HN,dD⟩:=I8.pin (s2.heap.objs.size,fD us cnt) (Qi _ (QM _ (QB.mpr rfl)))
    refine append_at eD (fun h9 AF HP=>?_) (hsz:=by rw[Qg,<- r3.length];exact ZO dt)
    have Ia:=I8.eF (pins':=mf fp s5.heap) fun p hp=>I8.pin p (Qi _ (Qi _ hp))
    have HQ:∀ p∈mf fp s5.heap,p.1≠s2.heap.objs.size:=fun p hp z=>by
     have:=n6 p.1 (zC hp).1
     exact absurd this (by rw[z];exact QL _)
    have Ib:=Ia.turned (h':=h9) (t':=s8.toks) (it:=s2.heap.objs.size) (fun b o hb e=>AF.extBut b o hb e) nD AE (.inr (Qc _)) (fun y c h z=>by
      obtain⟨vv,o,ho,hd⟩:=I8.cell y c h
      rw[z,eD]at ho
      cases ho
      cases hd) (fun p hp=>HQ p (by
      have n9:p ∈ []++mf fp s5.heap:=hp
      simpa using n9))
    have Ic:=Ib.eF (pins':=[(s2.heap.objs.size,fD (us++[u8]) (cnt+1))]) fun p hp=>by
     have e:p=(s2.heap.objs.size,fD (us++[u8]) (cnt+1)):=by simpa using hp
     subst e
     refine⟨?_,nD,AE,HN,fun v z=>nomatch z⟩
     show h9.get? s2.heap.objs.size=_
     rw[HP]
     unfold fD
     simp
    have Id:=AA Ic
    rw[l6]at Id
    have kp:=kept I8
    refine⟨m',hm,i+1,ys++[v],us++[u8],cnt+1,H8,Id,T.keep _ _ _ kp.1 fun b hb o e=>AF.extBut b o (fun z=>by
     have:=n6 b hb
     have z':b=s2.heap.objs.size:=z
     exact absurd this (by rw[z'];exact QL _)) e,kp.2,aR.append r3 (.cons r8 .nil),w8⟩
 have hC:(s2.heap.push { cls:=.type "list",dict:=none,data:=.seq ([]:List Value).toArray }).objs.size=s2.heap.objs.size+1:=Zd ..
 have fin:=codeAny_compStart_list (loop _ rfl) (T.self X.A 0 _ _ _ qI (loop _ rfl))
 dsimp only at fin ⊢
 rw[hC]
 exact fin
theorem bI.locs{k:Nat}(S:bI X k N' scope):∀ y∈scope.names,y.2=.local->scope.names.lookup y.1=some .local:=fun y hy e=>by
 obtain⟨n,kd⟩:=y
 have e':kd=.local:=e
 subst e'
 exact Ax S.names hy
theorem wL{m:Str->Option Value}{v:Option Value}(hn:h.Ns C m)(hc:h.IsCell c v):c≠C:=fun z=>by
 obtain⟨o,es,ep,ho,hd,_⟩:=hn
 obtain⟨o',iI,l_⟩:=hc
 rw[z,ho]at iI
 cases iI
 rw[hd]at l_
 cases l_
section
variable {X:Cx}{k:Nat}{N':List Str}{scope:Scope}{elt tg iter:Expr}{ifs:List Expr}{pos:Pos}{wi:TI}{g:TG}{tt:TT}{te:TE}
theorem HR(hc:X.calm=true)(S:bI X k N' scope)(hi:PI X tg iter wi)(hg:∀ C s H fp,PG (eK X N' scope C s H fp) tg g)(ht:∀ C s H fp,pG (eK X N' scope C s H fp) ifs tt)(he:∀ C s H fp,PE (eK X N' scope C s H fp) elt te)
  (hs:∀ x,foldedSetIterable iter X.env x=pure x:=by intro _;rfl):PE X (.ListComp elt [⟨tg,iter,ifs,0⟩] scope pos) (tT k wi g tt te):=by
 intro pins s σ H Q I h
 rw[eval_ListComp]
 refine wpAny_comprehension_free (use:=none) rfl hs (Aw fun y hy e=>?_) S.kind S.locs (aV (hi pins s σ H _ I h) fun v s1 h1=>aV h1 fun tw s2 h2=>?_)
 ·obtain⟨n,kd⟩:=y
  have e':kd=.free:=e
  subst e'
  exact I.ok.has n (S.free hy)
 ·obtain⟨it,fp,tn,J,H2,e,I2,T,mh,f2,R⟩:=h2
  subst e
  refine AB hc S hg ht he I2 T mh f2 R ?_
  intro C ys H' s' m' I' hn hD wM tU wN wO fin
  refine⟨m',hn,fun h' k_=>⟨.ref s2.heap.objs.size,_,I'.turned (h':=h') (t':=s'.toks) (it:=C) (fun b o hb e=>k_.extBut b o hb e) wM tU (.inr wN) (fun x c h=>?_) (fun p hp z=>?_),rfl,fin _ hD⟩⟩
  ·obtain⟨v,q⟩:=I'.cell x c h
   exact wL hn q
  ·have:=Qn (I2.pin p hp).1
   exact absurd (Ji this wO) (by rw[z];exact QL _)
theorem HS{py jS:Pos}(hN:X.N.Nodup)(hy:X.N[i]? = some y)(hx:Loc X.env.scope y)(wQ:swapsWith (.ListComp elt [⟨tg,iter,ifs,0⟩] scope pos) (some (.Name y py)) jS.line X.env=pure true)
  (hc:X.calm=true) (S:bI X k N' scope) (hi:PI X tg iter wi) (hg:∀ C s H fp,PG (eK X N' scope C s H fp) tg g) (ht:∀ C s H fp,pG (eK X N' scope C s H fp) ifs tt) (he:∀ C s H fp,PE (eK X N' scope C s H fp) elt te)
  (hs:∀ x,foldedSetIterable iter X.env x=pure x:=by intro _;rfl) (hf:X.fn y=true\/X.env.scope.names.lookup y=some .local:=by first|exact .inl rfl|exact .inr rfl|assumption) :
  PS X (.Assign [.Name y py] (.ListComp elt [⟨tg,iter,ifs,0⟩] scope pos) jS) (vI (tT k wi g tt te) (vH i)):=by
 intro pins s σ H D I h
 rw[exec_Assign_Name_used _ _ _ _ wQ]
 refine Qb (wpAny_standAt (Qb ?_))
 show wpAny _ X.A (do let _ <- comprehension (.ListComp elt [⟨tg,iter,ifs,0⟩] scope pos) scope X.env _ (newList []) false (eval iter X.env) (some (assign (.Name y py) X.env))) _ _ s
 refine Qb (Zr (wpAny_comprehension_free (use:=some (assign (.Name y py) X.env)) (Q:=fun _ s'=>SP X pins D .next s') rfl hs (Aw fun z hz e=>?_) S.kind S.locs
  (aV (hi pins s σ H _ I h) fun v s1 h1=>aV h1 fun tw s2 h2=>?_)) (fun _ s' hq=>Qk (Qk hq)) fun _ _ e=>e)
 ·obtain⟨n,kd⟩:=z
  have e':kd=.free:=e
  subst e'
  exact I.ok.has n (S.free hz)
 ·obtain⟨it,fp,tn,J,H2,e,I2,T,mh,f2,R⟩:=h2
  subst e
  refine AB hc S hg ht he I2 T mh f2 R ?_
  intro C ys H' s' m' I' hn hD wM tU wN wO fin
  show wpAny _ X.A (assign (.Name y py) X.env (.ref s2.heap.objs.size)) _ _ _
  refine wpAny_assign_Name (zk I' hN hy hx (v:=.ref s2.heap.objs.size) rfl (fun pB AG ⟨a,sb,ha⟩=>?_) hf)
  have HU:C≠a:=fun z=>by
   rcases ha with q|q
   ·exact tU (z.trans q)
   ·obtain⟨v,w⟩:=I'.cell y a q
    exact wL hn w z.symm
  have nP:=hn.sameBut sb HU
  refine⟨m',nP,fun h' k_=>⟨_,_,AG.turned (h':=h') (t':=pB.toks) (it:=C) (fun b o hb e=>k_.extBut b o hb e) wM tU (.inr wN) (fun x c h=>?_) (fun p hp z=>?_),fin _ hD⟩⟩
  ·obtain⟨v,q⟩:=AG.cell x c h
   exact wL nP q
  ·have:=Qn (I2.pin p hp).1
   exact absurd (Ji this wO) (by rw[z];exact QL _)
end
end L2
namespace L3
open PySem PySem.Spec PyProof.Rows PySem.W L2
variable {M:Model}{R:Result->Shared->Prop}{h:Heap}
section
variable {prog:Program}{w:World}{A:Around}{E:Value->Shared->Prop}{s:Shared}{K:Frag}{x C:Addr}{ox:Obj}
structure kz (h:Heap) (x:Addr) (ox:Obj) (C:Addr):Prop where
 at_:h.get? x=some ox
 cls:ox.cls=.ref C
theorem kz.type(I:kz h x ox C):Looks M h (typeOf (.ref x)) (.ref C):=I.cls ▸ (Looks.ld I.at_).andThen .now
structure ip (K:Frag) (C:Addr):Prop where
 ci:(clsIn K C).isSome=true
 ga:findIn K (.ref C) "__getattribute__" = some (some (.builtin "BaseException.__getattribute__"))
 gt:findIn K (.ref C) "__getattr__" = some none
 cl:findIn K (.ref C) "__class__" = some (some (.builtin "object.__class__"))
 cg:specialIn K (.builtin "object.__class__") "__get__" = some (some (.builtin "getset_descriptor.__get__"))
 ct:takesIn K (.builtin "object.__class__")=some true
 mo:mroIn K C (.type "object")=some true
 mb:mroIn K C (.type "BaseException")=some true
theorem HV(X:K.In h)(I:kz h x ox C)(XC:ip K C):Looks M h (Builtin.ObjectAttr.find (.ref x) (.ref C) "__class__") (.bind (.builtin "getset_descriptor.__get__") (.builtin "object.__class__")):=by
 have L1:=looks_findIn (M:=M) X XC.cl
 have L2:Looks M h (Builtin.ObjectAttr.getOf (some (.builtin "object.__class__"))) _:=looks_specialIn (M:=M) X XC.cg
 have L3:=looks_takesIn (M:=M) X XC.ct
 exact L1.andThen (L2.andThen ((show Looks M h (Builtin.ObjectAttr.dataDescriptor? (some (.builtin "object.__class__")) (some (.builtin "getset_descriptor.__get__"))) (some ((.builtin "getset_descriptor.__get__"),(.builtin "object.__class__")))from L3.andThen .now).andThen (Looks.tag .now)))
theorem HW{tp:Value}(X:K.In s.heap)(I:kz s.heap x ox C)(hm:mroIn K C (.type "object")=some true)
  (h:R (.ok (.ret (.ref C))) s):codeAny (model prog w) A (.call (.builtin "getset_descriptor.__get__") ⟨[.builtin "object.__class__",.ref x,tp],[]⟩) R s:=by
 obtain⟨hh,g,dr,t,os⟩:=s
 have L0:=I.type (M:=model prog w)
 have L1:=looks_mroIn (M:=model prog w) X hm
 refine ZN KF.slot_gs.plain KF.entry_gs (KF.slot_gs.check _ _ _ _ _ _ _ _ KF.type_class (KF.args_gs _ _ _) ?_)
 unfold Builtin.«getset_descriptor.__get__» Builtin.Getset_descriptor.descrGet
 rw[dga_obj]
 refine Qb (Qk ?_)
 unfold Builtin.Getset_descriptor.descrGetter Builtin.Getset_descriptor.descrCheckInstance Builtin.Getset_descriptor.descrNameAndClass isInstance
 simp only[KF.owner_class]
 repeat lk
 refine⟨Code.quiet_builtin _ (by decide +kernel),Z9 KF.entry_class ?_⟩
 unfold Builtin.«object.__class__» shownTypeOf
 repeat lk
 exact h
theorem HX{mz:Value}{Q:Unit->Shared->Prop}(X:K.In s.heap)(I:kz s.heap x ox C)(XC:ip K C)(hq:Q () s):wpAny M A (checkBuiltinCall "BaseException.__getattribute__" ⟨[.ref x,mz],[]⟩) Q E s:=by
 obtain⟨hh,g,d,t,os⟩:=s
 have L0:=I.type (M:=M)
 have L1:=looks_mroIn (M:=M) X XC.mb
 have hk:builtinKind "BaseException.__getattribute__" = some .slot:=by decide +kernel
 have n_:splitId "BaseException.__getattribute__" = some ("BaseException","__getattribute__"):=by decide +kernel
 have ha:=PySem.F.args_bexc_ga (.ref x) mz
 simp only[checkBuiltinCall,hk,n_]
 unfold isInstance
 repeat lk
 exact hq
theorem HY{tk:Tok}(X:K.In s.heap)(I:kz s.heap x ox C)(XC:ip K C)(h:R (.ok (.ret (.ref C))) s) :
  codeAny (model prog w) A (.call (.builtin "BaseException.__getattribute__") ⟨[.ref x,.str "__class__" tk],[]⟩) R s:=by
 refine ZN Jn.ga.plain PySem.F.entry_bexc_ga (HX X I XC ?_)
 obtain⟨hh,g,d,t,os⟩:=s
 have L0:=I.type (M:=model prog w)
 have L1:=HV (M:=model prog w) X I XC
 show wpAny _ _ (Builtin.«object.__getattribute__» ⟨[.ref x,.str "__class__" tk],[]⟩) _ _ _
 refine Qb (Qk ?_)
 refine Qb (Qk ?_)
 refine Qb (L0.at (Qb (L1.at ?_)))
 show wpAny _ _ (holding [.builtin "object.__class__"] (call (.builtin "getset_descriptor.__get__") [.builtin "object.__class__",.ref x,.ref C]) >>= ret) _ _ _
 exact Qb (Zs (wpAny_call (HW X I XC.mo (Qk h))))
theorem HZ{Q:Option Value->Shared->Prop}(X:K.In s.heap)(I:kz s.heap x ox C)(XC:ip K C)(h:Q (some (.ref C)) { s with toks:=s.toks+1 }):wpAny (model prog w) A (getAttr? (.ref x) "__class__") Q E s:=by
 obtain⟨hh,g,d,t,os⟩:=s
 have L0:=I.type (M:=model prog w)
 have L1:=looks_findIn (M:=model prog w) X XC.ga
 have L2:=looks_findIn (M:=model prog w) X XC.gt
 have f3:=Jn.ga.bind (.ref x)
 unfold getAttr? getAttrBy? getAttrBy
 refine Qb (wpAny_mkText (Qb (wpAny_attempt (Zs (Qb (L0.at (Qb (L1.at ?_))))))))
 show wpAny _ _ (getAttrByItsOwn _ _ _ _ _ _) _ _ _
 unfold getAttrByItsOwn
 refine Qb (L2.at ?_)
 refine Qb (wpAny_attempt (Zs ?_))
 show wpAny _ _ (boundAndCalled _ _ _) _ _ _
 unfold boundAndCalled
 rw[f3]
 refine Qb (Qk ?_)
 show wpAny _ _ (call (.builtin "BaseException.__getattribute__") [.ref x,.str "__class__" t]) _ _ _
 refine wpAny_call (HY (s:=⟨hh,g,d,t+1,os⟩) X I XC ?_)
 exact handed_on rfl (Qk h)
theorem H0{D:Addr}(X:K.In h)(e:(clsIn K D).isSome=true):Looks M h (isType (.ref D)) true:=by
 unfold clsIn at e
 split at e
 next c' d' RS zh ho=>
  intro A' Q' E' s' k q
  unfold isType loadHead
  exact Qb (wpAny_loadPart (k _ _ (X _ _ ho)) (Qk q))
 ·cases e
theorem H9{c:Value}{iq:Int}{tk:Tok}{Q:Fin->Shared->Prop}(X:K.In s.heap)(I:kz s.heap x ox C)(XC:ip K C)(qT:Looks (model prog w) s.heap (typeOf c) (.type "type"))(gM:Looks (model prog w) s.heap (isType c) true)
  (iP:(Value.ref C==c)=false) (eL:Looks (model prog w) s.heap (isSubtype (.ref C) c) false) (h:Q (.done (.ret (.bool false))) { s with toks:=s.toks+1 }) :
  wpAny (model prog w) A (Builtin.«isinstance.nested» ⟨[.ref x,c,.int iq tk],[]⟩) Q E s:=by
 have wR:=H0 (M:=model prog w) X XC.ci
 obtain⟨h0,g,d,tt,os⟩:=s
 have L0:=I.type (M:=model prog w)
 have LI:Looks (model prog w) h0 (isInstance (.ref x) c) false:=L0.andThen eL
 unfold Builtin.«isinstance.nested»
 refine Qb (L0.at ?_)
 rw[Qh (fun q=>by rw[iP]at q;exact Bool.noConfusion q)]
 refine Qb (qT.at ?_)
 rw[Qe (by decide)]
 k_delta "plainIsInstance"
 refine Qb (Qb (gM.at ?_))
 simp only[Bool.not_true,ZU,Jy]
 refine Qb (LI.at ?_)
 simp only[ZU,Jy]
 refine Qb (HZ X I XC ?_)
 refine Qb (wR.at ?_)
 simp only[Bool.not_true,ZU,Jy]
 refine Qb (wpAny_rule ?_)
 refine eL.at ?_
 first
  | exact Qk h
  | exact Qk (Qk h)
  | exact Qb (Qk (Qk h))
theorem H_{T:String}{Q:Value->Shared->Prop}(X:K.In s.heap)(I:kz s.heap x ox C)(XC:ip K C)(qT:typeOf (.type T)=pure (.type "type"))(e:subIn K (.ref C) (.type T)=some false)(h:Q (.bool false) { s with toks:=s.toks+1 }):wpAny (model prog w) A (call (.builtin "isinstance") [.ref x,.type T]) Q E s:=
 call_isinstance (S:=fun _ R s=>(K.In s.heap/\kz s.heap x ox C)/\R (.ok (.ret (.bool false))) { s with toks:=s.toks+1 })
  (fun _ _ _ _ _ hs=>isinstance_outer (H9 hs.1.1 hs.1.2 XC (Looks.of_pure qT) (Looks.of_pure rfl) (Bool.eq_false_iff.mpr fun q=>by cases Zt.mp q) (looks_subIn hs.1.1 e) hs.2) (by intro q;cases q)) ⟨⟨X,I⟩,h⟩
end
def Ie:List Value:=[.type "ValueError",.type "Exception",.type "BaseException",.type "object"]
structure wU (K:Frag) (nm:Str) (C:Addr):Prop where
 ns:nsIn K mainGlobals nm=some (some (.ref C))
 xc:ip K C
 ex:excIn K C Ie "ValueError.__new__" = true
 ve:subIn K (.ref C) (.type "ValueError")=some true
 no:∀ T ∈ ["int","bool","tuple","list","str"],subIn K (.ref C) (.type T)=some false
def XO (K:Frag)(nm:Str)(ob:Obj):Prop:=∃ C,ob.cls=.ref C/\wU K nm C
end L3
namespace L3
open PySem PySem.Spec PyProof.Rows L2
variable {A:Around}{E:XK}{F:List Addr}{H H' H1 H2:Hp}{K:PySem.W.Frag}{N ps:List Str}{X:Cx}{a p:Addr}{b c:Int}{deep:Bool}{e tg:Expr}{es:List Expr}{fd:FuncData}{h:Int->Int->V}{i n t t':Nat}{op:CmpOp}{r:R2}{te:TE}{u:Tok}{v:V}{vs xs:List V}{x:HO}{y:Option HO}
theorem tV:Slot "function" "__getattribute__" "object.__getattribute__" :=
 .of (owner:="object") (n:="__getattribute__") (by rw[typeLookup_type,builtinLookup_eq_fast];kernel_rfl) (by decide +kernel) (by decide +kernel) (by decide +kernel)
  (by first|exact .inl (by decide +kernel)|exact .inr (by decide +kernel)) (by rw[isSubtype_type];kernel_rfl)
theorem Ig:typeLookup (.type "function") "__class__" = pure (some (.builtin "object.__class__")):=by rw[typeLookup_type,builtinLookup_eq_fast];kernel_rfl
theorem Ih:isSubtype (.type "function") (.type (".".intercalate ("object.__class__".cutAt '.').dropLast))=pure true:=by
 rw[PySem.F.owner_object_class,isSubtype_type];kernel_rfl
theorem Ii:entryFor table "object.__getattribute__" = some Builtin.«object.__getattribute__»:=entryFor_of_tree (by kernel_rfl)
theorem Ij(a b:Value):argsOk "object.__getattribute__" ⟨[a,b],[]⟩:=by unfold argsOk;kernel_rfl
section
variable {prog:Program}{w:World}{A:Around}{E:Value->Shared->Prop}{s:Shared}{a:Addr}
theorem Ik{R:Result->Shared->Prop}(hT:s.TypeIs (.ref a) "function")(hq:R (.ok (.ret (.type "function"))) s) :
  codeAny (model prog w) A (.call (.builtin "getset_descriptor.__get__") ⟨[.builtin "object.__class__",.ref a,.type "function"],[]⟩) R s:=by
 obtain⟨h,g,d,t,os⟩:=s
 have h5:(⟨h,g,d,t,os⟩:Shared).TypeIs (.builtin "object.__class__") "getset_descriptor":=ZK
 have f8:=Ih
 refine ZN Je.plain PySem.F.entry_gs_get (Je.check _ _ _ _ _ _ _ _ h5 (PySem.F.args_gs_get _ _ _) ?_)
 repeat (any_goals (first|assumption|wp_step))
 refine⟨Code.quiet_builtin _ (by decide +kernel),Z9 PySem.F.entry_object_class ?_⟩
 repeat (any_goals (first|assumption|wp_step))
theorem Il{Q:Option Value->Shared->Prop}(hT:s.TypeIs (.ref a) "function")(hq:Q (some (.type "function")) { s with toks:=s.toks+1 }):wpAny (model prog w) A (getAttr? (.ref a) "__class__") Q E s:=by
 obtain⟨h,g,d,t,os⟩:=s
 have AH:∀ t',(⟨h,g,d,t',os⟩:Shared).TypeIs (.ref a) "function":=fun _=>hT
 have en:∀ {tk:Tok} {t':Nat} {Q:Fin->Shared->Prop} {E:Value->Shared->Prop} {A:Around},Q (.done (.ret (.type "function"))) ⟨h,g,d,t',os⟩->
   wpAny (model prog w) A (Builtin.«object.__getattribute__» ⟨[.ref a,.str "__class__" tk],[]⟩) Q E ⟨h,g,d,t',os⟩:=by
  intro tk t' Q E A hq
  have hT:=AH t'
  have h5:(⟨h,g,d,t',os⟩:Shared).TypeIs (.builtin "object.__class__") "getset_descriptor":=ZK
  have f4:=Ig
  have f5:=ZK
  have f6:=Je.lookup
  have f7:=PySem.F.slot_gs_set.lookup
  repeat (any_goals (first|assumption|wp_step))
  refine Ik hT ?_
  repeat (any_goals (first|assumption|wp_step))
 have Im:∀ {tk:Tok} {t':Nat} {Q:Value->Shared->Prop} {E:Value->Shared->Prop} {A:Around},Q (.type "function") ⟨h,g,d,t',os⟩->wpAny (model prog w) A (getAttrBy (.ref a) (.str "__class__" tk) false) Q E ⟨h,g,d,t',os⟩:=by
  intro tk t' Q E A hq
  have hT:=AH t'
  have f2:=tV.lookup
  have f3:=tV.bind (.ref a)
  repeat (any_goals (first|assumption|wp_step))
  refine ZN tV.plain Ii (tV.check _ _ _ _ _ _ _ _ hT (Ij _ _) (en ?_))
  repeat (any_goals (first|assumption|wp_step))
 unfold getAttr? getAttrBy?
 repeat (any_goals (first|assumption|with_reducible apply Im | wp_step))
theorem Io:PySem.W.KitX K (.ref a) (.type "function") (PySem.W.KitAt a "function"):=PySem.W.kitx_of PySem.W.kitAt_ty (fun {_ _ _ _ _ s} p k=>Il (by obtain⟨o,h1,h2⟩:=p;exact⟨o,h1,h2⟩) k)
end
theorem nM{α:Type}{P:α->Prop}(a:α)(z:a∈([]:List α)):P a:=nomatch z
inductive MK where
 | t (ks:List (List Key))
 | k (ks:List Key)
 | i (nm:Str) (fs:List Str) (p:Option Addr)
def MK.len:MK->Nat
 | .t ks=>ks.length
 | .k ks=>ks.length
 | .i _ fs _=>fs.length
inductive D where
 | aS|bl (b:Bool)|int (i:Int)|str (x:Str)|tup (ds:List D)|lst (ds:List D)
 | eM (ks:List Str) (ds:List D)
 | exc (nm:Str)
 | ob (f:Addr) (fo:Obj) (vs:List V) (ds:List D)
 | mp (k:MK) (ds:List D)
abbrev St:=L2.St
inductive Ow where
 | s (i:Nat)|t (i:Nat)|f
 deriving DecidableEq
abbrev Wn:=Addr->Option Ow
def KL (K:PySem.W.Frag)(a:Addr)(xs:List V):Prop:=
 ∃ (o:Obj) (ak:Array Value) (n:Nat),K.lookup a=some o/\o.cls=.type "list" /\ o.dict=none/\o.data=.seq ak n/\ak.size<=sizeLine/\aR xs ak.toList
theorem bX.cases(h:bX K H a xs):Rd H a (.lst xs)\/KL K a xs:=h
theorem KL.sq(h:KL K a xs):bX K H a xs:=.inr h
def jT (ks:List Str)(vs:List V):List (Key×V):=(ks.map fun x=>(Sum.inr x:Key)).zip vs
def Ip (fo:Obj)(c:Addr)(oc:Obj):Prop:=fo.cls=.type "function" /\ (∃ fd,fo.data=.func fd/\fd.code=.ref c)/\∃ fs q t,oc.data=.fields fs/\fs[1]? = some (.str q t)
structure fE (K:PySem.W.Frag) (C:Addr):Prop where
 cl:L2.jB K C
 ha:PySem.W.findIn K (.ref C) "__class__" = some (some (.builtin "object.__class__"))
 hn:PySem.W.specialIn K (.builtin "object.__class__") "__get__" = some (some (.builtin "getset_descriptor.__get__"))
 qL:PySem.W.takesIn K (.builtin "object.__class__")=some true
 hm:PySem.W.mroIn K C (.type "object")=some true
 no:∀ t∈(["bool","int","tuple","list","str"]:List String),PySem.W.kitOne K (.ref C) (.type t)=some false
def MK.Is (K:PySem.W.Frag)(a:Addr):MK->List V->HO->Prop
 | .t ks,vs,x=>x=.dT (ks.zip vs)
 | .k ks,vs,x=>x=.dK (ks.zip vs)
 | .i nm fs p,vs,x=>∃ C dx,PySem.W.nsIn K mainGlobals nm=some (some (.ref C))/\x=.ins C dx (fs.zip vs)/\fE K C/\(∀ f∈fs,L2.mj K C f)/\∀ d,p=some d->a=d
mutual
inductive Rep (K:PySem.W.Frag) (H:Hp) (w:Wn) (o:Ow):Nat->D->V->List Addr->Prop
 | aS {q}:Rep K H w o q .aS .aS []
 | bl {q} (b:Bool):Rep K H w o q (.bl b) (.bl b) []
 | int {q} (i:Int):Rep K H w o q (.int i) (.int i) []
 | str {q} (x:Str):Rep K H w o q (.str x) (.str x) []
 | tup {q} {a:Addr} {vs:List V} {ds:List D}:H a=some (.tup vs)->ae K H w o 0 ds vs []->Rep K H w o q (.tup ds) (.ref a) []
 | eM {q} {a:Addr} {ks:List Str} {vs:List V} {ds:List D}:H a=some (.dK (jT ks vs))->w a=none->ae K H w o 0 ds vs []->Rep K H w o q (.eM ks ds) (.ref a) []
 | exc {q} {a:Addr} {nm:Str} {ob:Obj} {u:HO}:H a=some (.dZ ob u)->XO K nm ob->(∀ xs,u ≠ .lst xs)->Rep K H w o q (.exc nm) (.ref a) []
 | ob {q} {f c:Addr} {fo oc:Obj} {u u':HO} {vs:List V} {ds:List D}:H f=some (.dZ fo u)->H c=some (.dZ oc u')->Ip fo c oc->ae K H w o 0 ds vs []->Rep K H w o q (.ob f fo vs ds) (.ref f) []
 | kl {a:Addr} {vs:List V} {ds:List D}:KL K a vs->ae K H w o 0 ds vs []->Rep K H w o 0 (.lst ds) (.ref a) []
 | shr {a:Addr} {vs:List V} {ds:List D}:Rd H a (.lst vs)->w a=none->ae K H w o 0 ds vs []->Rep K H w o 0 (.lst ds) (.ref a) []
 | own {q} {a:Addr} {vs:List V} {ds:List D} {F:List Addr}:H a=some (.lst vs)->w a=some o->ae K H w o q ds vs F->a ∉ F->Rep K H w o (q+1) (.lst ds) (.ref a) (a::F)
 | la {a:Addr} {vs:List V} {ds:List D} {k:MK} {x:HO}:H a=some x->k.Is K a vs x->w a=none->k.len=ds.length->ae K H w o 0 ds vs []->Rep K H w o 0 (.mp k ds) (.ref a) []
 | fR {q} {a:Addr} {vs:List V} {ds:List D} {k:MK} {x:HO}:H a=some x->k.Is K a vs x->w a=some o->k.len=ds.length->ae K H w o 0 ds vs []->Rep K H w o (q+1) (.mp k ds) (.ref a) [a]
inductive ae (K:PySem.W.Frag) (H:Hp) (w:Wn) (o:Ow):Nat->List D->List V->List Addr->Prop
 | nil {q}:ae K H w o q [] [] []
 | cons {q} {d:D} {v:V} {ds:List D} {vs:List V} {F G:List Addr}:Rep K H w o q d v F->ae K H w o q ds vs G->(∀ a∈F,a ∉ G)->ae K H w o q (d::ds) (v::vs) (F++G)
end
def wV:HO->Bool
 | .lst _=>true
 | .dK _=>true
 | .dT _=>true
 | .ins _ _ _=>true
 | _=>false
inductive OX where
 | l (vs:List V)|t (aw:List (List Key×V))|k (aw:List (Key×V))|i (C dx:Addr) (fs:List (Str×V))
def OX.ho:OX->HO
 | .l vs=>.lst vs
 | .t aw=>.dT aw
 | .k aw=>.dK aw
 | .i C dx fs=>.ins C dx fs
theorem OX.is(v:OX):wV v.ho=true:=by cases v<;>rfl
theorem MK.ox{k:MK}(h:k.Is K a vs x):∃ v:OX,x=v.ho:=by
 cases k with
 | t ks=>exact⟨.t _,h⟩
 | k ks=>exact⟨.k _,h⟩
 | i nm fs p=>obtain⟨C,dx,_,h,_⟩:=h;exact⟨.i _ _ _,h⟩
def lg:HO->Bool
 | .ia _=>true
 | _=>false
def Sm (x:HO)(y:Option HO):Prop:=match x with
 | .ia _=>∃ ps,y=some (.ia ps)
 | x=>y=some x
theorem sm(h:y=some x):Sm x y:=by cases x<;>first|exact h|exact⟨_,h⟩
theorem Sm.is(h:Sm x y):∃ z,y=some z/\lg z=lg x:=by
 cases x<;>first|exact⟨_,h,rfl⟩|(obtain⟨ps,e⟩:=h;exact⟨_,e,rfl⟩)
theorem Sm.eq(h:Sm x y)(n:lg x=false):y=some x:=by cases x<;>first|exact h|cases n
def pI:List Str:=["turned","chain_ladder","flat_ladder","paired","height_of","_law_high"]
structure TB (K:PySem.W.Frag) (H:Hp):Prop where
 tr:∀ P ps,H P=some (.ia ps)->PySem.TriplesOk ps.toList
 cd:∀ P ps,H P=some (.ia ps)->∀ pos cv,PySem.codeAmong pos ps.toList=some cv->∃ c oc u vs q t,cv=.ref c/\H c=some (.dZ oc u)/\oc.data=.fields vs/\vs[1]? = some (.str q t)/\∀ xs,u ≠ .lst xs
 is:∀ x∈pI,∀ c P,PySem.W.tabIn K x=some (c,P)->∃ ps,H P=some (.ia ps)
structure WL (K:PySem.W.Frag) (w:Wn) (H:Hp):Prop where
 own:∀ a o,w a=some o->∃ vs:OX,H a=some vs.ho
 tb:TB K H
instance {K:PySem.W.Frag} {w:Wn} {H:Hp}:CoeFun (WL K w H) (fun _=>∀ a o,w a=some o->∃ vs:OX,H a=some vs.ho):=⟨WL.own⟩
theorem TB.upd(t:TB K H)(hx:lg x=false)(hp:H p=none\/∃ vs:OX,H p=some vs.ho):TB K (L2.upd H p x):=by
 have ne:∀ a y,H a=some y->wV y=false->a≠p:=fun a y e h z=>by
  subst z
  rcases hp with q|⟨vs,q⟩
  ·rw[e]at q;cases q
  ·rw[e]at q
   rw[Qp q,vs.is]at h
   cases h
 refine⟨fun P ps e=>?_,fun P ps e pos cv hc=>?_,fun x hx c P hP=>by
  obtain⟨ps,e⟩:=t.is x hx c P hP
  exact⟨ps,by rw[ba (ne P _ e rfl)];exact e⟩⟩
 ·by_cases hP:P=p
  ·subst hP;rw[fi]at e;cases e;cases hx
  ·rw[ba hP]at e;exact t.tr P ps e
 ·by_cases hP:P=p
  ·subst hP;rw[fi]at e;cases e;cases hx
  ·rw[ba hP]at e
   obtain⟨c,oc,u,vs,q,tt,h1,h2,h3,h4,h5⟩:=t.cd P ps e pos cv hc
   exact⟨c,oc,u,vs,q,tt,h1,by rw[ba (ne c _ h2 rfl)];exact h2,h3,h4,h5⟩
def cz (H:Hp)(w:Wn)(H':Hp)(w':Wn):Prop:=∀ a x,H a=some x->w a=none->Sm x (H' a)/\w' a=none
theorem cz.trans{w w1 w2:Wn}(a:cz H w H1 w1)(b:cz H1 w1 H2 w2):cz H w H2 w2:=fun c x h n=>by
 obtain⟨s1,n1⟩:=a c x h n
 cases ht:lg x with
 | false=>exact b c x (s1.eq ht) n1
 | true=>
  obtain⟨y,e,hy⟩:=s1.is
  obtain⟨s2,n2⟩:=b c y e n1
  refine⟨?_,n2⟩
  rw[ht]at hy
  cases x with
  | ia ps=>
   cases y with
   | ia RT=>exact s2
   | _=>cases hy
  | _=>cases ht
theorem WL.pJ{w:Wn}(wl:WL K w H)(e:H a=some x)(h:wV x=false):w a=none:=by
 cases q:w a with
 | none=>rfl
 | some o=>
  obtain⟨vs,e'⟩:=wl a o q
  rw[e]at e'
  rw[Qp e',vs.is]at h
  cases h
theorem cC.go{w w':Wn}(wl:WL K w H)(st:cz H w H' w')(h:cC K H a vs):cC K H' a vs:=by
 rcases h with(h|⟨o,h⟩)|h
 ·exact .inl (.inl (st a _ h (wl.pJ h rfl)).1)
 ·exact .inl (.inr ⟨o,(st a _ h (wl.pJ h rfl)).1⟩)
 ·exact .inr h
theorem wW.go{w w':Wn}(st:cz H w H' w')(n:w a=none)(h:Rd H a (.lst vs)):Rd H' a (.lst vs)/\w' a=none:=by
 rcases h with h|⟨o,h⟩
 ·exact⟨.inl (st a _ h n).1,(st a _ h n).2⟩
 ·exact⟨.inr ⟨o,(st a _ h n).1⟩,(st a _ h n).2⟩
theorem Rep.go{w w':Wn}{o o':Ow}(wl:WL K w H)(st:cz H w H' w'):∀ {q:Nat} {d:D} {v:V} {F:List Addr},Rep K H w o q d v F->(∀ a∈F,H' a=H a/\w' a=some o')->Rep K H' w' o' q d v F:=by
 intro q d v F r
 refine Rep.rec (motive_1:=fun q d v F _=>(∀ a∈F,H' a=H a/\w' a=some o')->Rep K H' w' o' q d v F) (motive_2:=fun q ds vs F _=>(∀ a∈F,H' a=H a/\w' a=some o')->ae K H' w' o' q ds vs F) ?_ ?_ ?_ ?_ ?_ ?_ ?_ ?_ ?_ ?_ ?_ ?_ ?_ ?_ ?_ r
 ·intro q _;exact .aS
 ·intro q b _;exact .bl b
 ·intro q i _;exact .int i
 ·intro q x _;exact .str x
 ·intro q a vs ds h r ih _;exact .tup (st _ _ h (wl.pJ h rfl)).1 (ih nM)
 ·intro q a ks vs ds h n r ih _;exact .eM (st _ _ h n).1 (st _ _ h n).2 (ih nM)
 ·intro q a nm ob u h x n _;exact .exc (st _ _ h (wl.pJ h rfl)).1 x n
 ·intro q f c fo oc u u' vs ds h1 h2 x r ih _;exact .ob (st _ _ h1 (wl.pJ h1 rfl)).1 (st _ _ h2 (wl.pJ h2 rfl)).1 x (ih nM)
 ·intro a vs ds h r ih _;exact .kl h (ih nM)
 ·intro a vs ds h n r ih _;exact .shr (wW.go st n h).1 (wW.go st n h).2 (ih nM)
 ·intro q a vs ds F h e r ne ih k;exact .own ((k _ Qd).1.trans h) (k _ Qd).2 (ih fun a m=>k a (Qa _ m)) ne
 ·intro a vs ds k x h i n l r ih _
  have nt:lg x=false:=by
   obtain⟨v,rfl⟩:=MK.ox i
   cases v<;>rfl
  exact .la ((st _ _ h n).1.eq nt) i (st _ _ h n).2 l (ih nM)
 ·intro q a vs ds k x h i e l r ih kk;exact .fR ((kk _ Qd).1.trans h) i (kk _ Qd).2 l (ih nM)
 ·intro q _;exact .nil
 ·intro q d v ds vs F G r s ne lh lj k;exact .cons (lh fun a m=>k a (QM _ m)) (lj fun a m=>k a (Qi _ m)) ne
theorem ae.go{w w':Wn}{o o':Ow}(wl:WL K w H)(st:cz H w H' w'):∀ {q:Nat} {ds:List D} {vs:List V} {F:List Addr},ae K H w o q ds vs F->(∀ a∈F,H' a=H a/\w' a=some o')->ae K H' w' o' q ds vs F
 | _,_,_,_,.nil,_=>.nil
 | _,_,_,_,.cons r s ne,k=>.cons (Rep.go wl st r fun a m=>k a (QM _ m)) (ae.go wl st s fun a m=>k a (Qi _ m)) ne
theorem Rep.freeze{w w':Wn}{o o':Ow}(n:∀ a,w a=none->w' a=none):∀ {q:Nat} {d:D} {v:V} {F:List Addr},Rep K H w o q d v F->(∀ a∈F,w' a=none)->Rep K H w' o' 0 d v []:=by
 intro q d v F r
 refine Rep.rec (motive_1:=fun q d v F _=>(∀ a∈F,w' a=none)->Rep K H w' o' 0 d v []) (motive_2:=fun q ds vs F _=>(∀ a∈F,w' a=none)->ae K H w' o' 0 ds vs []) ?_ ?_ ?_ ?_ ?_ ?_ ?_ ?_ ?_ ?_ ?_ ?_ ?_ ?_ ?_ r
 ·intro q _;exact .aS
 ·intro q b _;exact .bl b
 ·intro q i _;exact .int i
 ·intro q x _;exact .str x
 ·intro q a vs ds h r ih _;exact .tup h (ih nM)
 ·intro q a ks vs ds h e r ih _;exact .eM h (n _ e) (ih nM)
 ·intro q a nm ob u h x n _;exact .exc h x n
 ·intro q f c fo oc u u' vs ds h1 h2 x r ih _;exact .ob h1 h2 x (ih nM)
 ·intro a vs ds h r ih _;exact .kl h (ih nM)
 ·intro a vs ds h e r ih _;exact .shr h (n _ e) (ih nM)
 ·intro q a vs ds F h e r ne ih k;exact .shr (Rd.of h) (k _ Qd) (ih fun a m=>k a (Qa _ m))
 ·intro a vs ds k x h i e l r ih _;exact .la h i (n _ e) l (ih nM)
 ·intro q a vs ds k x h i e l r ih kk;exact .la h i (kk _ Qd) l (ih nM)
 ·intro q _;exact .nil
 ·intro q d v ds vs F G r s ne lh lj k;exact .cons (F:=[]) (G:=[]) (lh fun a m=>k a (QM _ m)) (lj fun a m=>k a (Qi _ m)) nM
theorem ae.freeze{w w':Wn}{o o':Ow}(n:∀ a,w a=none->w' a=none):∀ {q:Nat} {ds:List D} {vs:List V} {F:List Addr},ae K H w o q ds vs F->(∀ a∈F,w' a=none)->ae K H w' o' 0 ds vs []
 | _,_,_,_,.nil,_=>.nil
 | _,_,_,_,.cons r s ne,k=>.cons (F:=[]) (G:=[]) (Rep.freeze n r fun a m=>k a (QM _ m)) (ae.freeze n s fun a m=>k a (Qi _ m)) nM
theorem Rep.av{w:Wn}{o:Ow}:∀ {q:Nat} {d:D} {v:V} {F:List Addr},Rep K H w o q d v F->∀ a∈F,w a=some o:=by
 intro q d v F r
 refine Rep.rec (motive_1:=fun q d v F _=>∀ a∈F,w a=some o) (motive_2:=fun q ds vs F _=>∀ a∈F,w a=some o) ?_ ?_ ?_ ?_ ?_ ?_ ?_ ?_ ?_ ?_ ?_ ?_ ?_ ?_ ?_ r
 ·intro q a m;exact(QI m).elim
 ·intro q b a m;exact(QI m).elim
 ·intro q i a m;exact(QI m).elim
 ·intro q x a m;exact(QI m).elim
 ·intro q a vs ds h r ih b m;exact(QI m).elim
 ·intro q a ks vs ds h e r ih b m;exact(QI m).elim
 ·intro q a nm ob u h x n b m;exact(QI m).elim
 ·intro q f c fo oc u u' vs ds h1 h2 x r ih b m;exact(QI m).elim
 ·intro a vs ds h r ih b m;exact(QI m).elim
 ·intro a vs ds h e r ih b m;exact(QI m).elim
 ·intro q a vs ds F h e r ne ih b m
  rcases Qr.mp m with z|z
  ·rw[z];exact e
  ·exact ih b z
 ·intro a vs ds k x h i e l r ih b m;exact(QI m).elim
 ·intro q a vs ds k x h i e l r ih b m
  rw[QB.mp m];exact e
 ·intro q a m;exact(QI m).elim
 ·intro q d v ds vs F G r s ne lh lj a m
  rcases QN.mp m with z|z
  ·exact lh a z
  ·exact lj a z
theorem ae.av{w:Wn}{o:Ow}:∀ {q:Nat} {ds:List D} {vs:List V} {F:List Addr},ae K H w o q ds vs F->∀ a∈F,w a=some o
 | _,_,_,_,.nil,a,m=>(QI m).elim
 | _,_,_,_,.cons r s ne,a,m=>(QN.mp m).elim (r.av a) (s.av a)
def D.bY:D->Bool
 | .lst _=>true
 | .mp _ _=>true
 | _=>false
@[simp] theorem D.tW:D.bY .aS=false:=rfl
@[simp] theorem D.wX(b:Bool):D.bY (.bl b)=false:=rfl
@[simp] theorem D.tX(i:Int):D.bY (.int i)=false:=rfl
@[simp] theorem D.tY(x:Str):D.bY (.str x)=false:=rfl
@[simp] theorem D.tZ(ds:List D):D.bY (.tup ds)=false:=rfl
@[simp] theorem D.t4(ks:List Str)(ds:List D):D.bY (.eM ks ds)=false:=rfl
@[simp] theorem D.t5(nm:Str):D.bY (.exc nm)=false:=rfl
@[simp] theorem D.wY(f:Addr)(fo:Obj)(vs:List V)(ds:List D):D.bY (.ob f fo vs ds)=false:=rfl
@[simp] theorem D.wZ(k:MK)(ds:List D):D.bY (.mp k ds)=true:=rfl
@[simp] theorem D.t6(ds:List D):D.bY (.lst ds)=true:=rfl
theorem Rep.cc{w:Wn}{o:Ow}{q:Nat}{d:D}(r:Rep K H w o q d v F)(h:d.bY=false):F=[]/\∀ q',Rep K H w o q' d v []:=by
 cases r with
 | aS=>exact⟨rfl,fun _=>.aS⟩
 | bl b=>exact⟨rfl,fun _=>.bl b⟩
 | int i=>exact⟨rfl,fun _=>.int i⟩
 | str x=>exact⟨rfl,fun _=>.str x⟩
 | tup h' r'=>exact⟨rfl,fun _=>.tup h' r'⟩
 | eM h' e' r'=>exact⟨rfl,fun _=>.eM h' e' r'⟩
 | exc h' x n=>exact⟨rfl,fun _=>.exc h' x n⟩
 | ob h1 h2 x r=>exact⟨rfl,fun _=>.ob h1 h2 x r⟩
 | kl=>cases h
 | shr=>cases h
 | own=>cases h
 | la=>cases h
 | fR=>cases h
theorem Rep.zero{w:Wn}{o:Ow}{d:D}(r:Rep K H w o 0 d v F):F=[]:=by
 cases r<;>rfl
theorem ae.zero{w:Wn}{o:Ow}:∀ {ds:List D} {vs:List V} {F:List Addr},ae K H w o 0 ds vs F->F=[]
 | _,_,_,.nil=>rfl
 | _,_,_,.cons r s _=>by rw[r.zero,s.zero];rfl
theorem ae.length{w:Wn}{o:Ow}{q:Nat}:∀ {ds:List D} {vs:List V} {F:List Addr},ae K H w o q ds vs F->ds.length=vs.length
 | _,_,_,.nil=>rfl
 | _,_,_,.cons _ s _=>by simp[s.length]
theorem Rep.any{w:Wn}{o o':Ow}{q:Nat}{d:D}(r:Rep K H w o q d v [])(wl:WL K w H):Rep K H w o' q d v []:=
 Rep.go wl (fun a x h n=>⟨sm h,n⟩) r nM
theorem ae.any{w:Wn}{o o':Ow}{q:Nat}{d:List D}{v:List V}(r:ae K H w o q d v [])(wl:WL K w H):ae K H w o' q d v []:=
 ae.go wl (fun a x h n=>⟨sm h,n⟩) r nM
theorem ae.get{w:Wn}{o:Ow}:∀ {ds:List D} {vs:List V} {i:Nat} {d:D},ae K H w o 0 ds vs []->ds[i]? = some d->∃ v,vs[i]? = some v/\Rep K H w o 0 d v []
 | ds,vs,i,d,r,e=>by
  generalize hF:([]:List Addr)=F at r
  cases r with
  | nil=>simp at e
  | @cons _ d' v' bg gE F' G' r s _=>
   have h1:F'=[]:=r.zero
   have h2:G'=[]:=s.zero
   subst h1 h2
   cases i with
   | zero=>simp at e;subst e;exact⟨v',rfl,r⟩
   | succ j=>
    obtain⟨v,h1,h2⟩:=ae.get (i:=j) (d:=d) s (by simpa using e)
    exact⟨v,by simpa using h1,h2⟩
theorem ae.snoc{w:Wn}{o:Ow}{q:Nat}{d:D}{G:List Addr}(r':Rep K H w o q d v G):∀ {ds:List D} {vs:List V} {F:List Addr},ae K H w o q ds vs F->(∀ a∈F,a ∉ G)->ae K H w o q (ds++[d]) (vs++[v]) (F++G)
 | _,_,_,.nil,_=>by
  have:ae K H w o q [d] [v] (G++[]):=.cons r' .nil (fun a _ z=>nomatch z)
  simpa using this
 | _,_,_,.cons (F:=F) (G:=F') r s ne,k=>by
  rw[ZY]
  refine .cons r (ae.snoc r' s fun a m=>k a (Qi _ m)) fun a m z=>?_
  rcases QN.mp z with z|z
  ·exact ne a m z
  ·exact k a (QM _ m) z
abbrev OD:=Option (D×Nat)
abbrev aN:=List (OD)
structure Good (K:PySem.W.Frag) (ρ:aN) (σ:St) (H:Hp) (w:Wn) (t:Nat):Prop where
 wl:WL K w H
 ws:∀ a i,w a=some (.s i)->i<σ.length
 wt:∀ a i,w a=some (.t i)->i<t
 len:ρ.length=σ.length
 slot:∀ (i:Nat) d q,ρ[i]? = some (some (d,q))->∃ v F,σ[i]? = some (some v)/\Rep K H w (.s i) q d v F
structure Go (H:Hp) (w:Wn) (H':Hp) (w':Wn):Prop where
 bo:cz H w H' w'
 keep:∀ a o,w a=some o->(∀ i,o ≠ .s i)->H' a=H a/\w' a=some o
theorem Go.refl{w:Wn}:Go H w H w:=⟨fun a x h n=>⟨sm h,n⟩,fun a o e _=>⟨rfl,e⟩⟩
theorem Go.trans{w w1 w2:Wn}(a:Go H w H1 w1)(b:Go H1 w1 H2 w2):Go H w H2 w2:=
 ⟨a.bo.trans b.bo,fun c o e h=>by
   obtain⟨h1,w1⟩:=a.keep c o e h
   obtain⟨h2,w2⟩:=b.keep c o w1 h
   exact⟨h2.trans h1,w2⟩⟩
theorem Rep.gone{w w':Wn}{q:Nat}{d:D}(r:Rep K H w (.t i) q d v F)(wl:WL K w H)(g:Go H w H' w'):Rep K H' w' (.t i) q d v F:=
 Rep.go wl g.bo r fun a m=>g.keep a _ (r.av a m) (fun _ z=>nomatch z)
theorem ae.gone{w w':Wn}{q:Nat}{d:List D}{v:List V}(r:ae K H w (.t i) q d v F)(wl:WL K w H)(g:Go H w H' w'):ae K H' w' (.t i) q d v F:=
 ae.go wl g.bo r fun a m=>g.keep a _ (r.av a m) (fun _ z=>nomatch z)
def bZ (t:Nat)(w:Wn):Wn:=fun a=>match w a with
 | some (.t i)=>if t<=i then none else some (.t i)
 | x=>x
theorem t7{w:Wn}(h:w a=none):bZ t w a=none:=by unfold bZ;rw[h]
theorem Iq{w:Wn}(h:w a=some (.s i)):bZ t w a=some (.s i):=by unfold bZ;rw[h]
theorem Ir{w:Wn}(h:w a=some .f):bZ t w a=some .f:=by unfold bZ;rw[h]
theorem Iu{w:Wn}(h:w a=some (.t i))(hi:i<t):bZ t w a=some (.t i):=by unfold bZ;rw[h];exact Qh (by omega)
theorem Iv{w:Wn}(h:w a=some (.t i))(hi:t<=i):bZ t w a=none:=by unfold bZ;rw[h];exact Qe hi
theorem w9{w:Wn}{o:Ow}(h:bZ t w a=some o):w a=some o/\∀ i,o=.t i->i<t:=by
 unfold bZ at h
 cases e:w a with
 | none=>rw[e]at h;cases h
 | some o'=>
  rw[e]at h
  cases o' with
  | s i=>cases h;exact⟨rfl,fun i z=>nomatch z⟩
  | f=>cases h;exact⟨rfl,fun i z=>nomatch z⟩
  | t i=>
   dsimp only at h
   split at h
   ·cases h
   ·cases h;exact⟨rfl,fun j z=>by cases z;omega⟩
theorem Good.drop{ρ:aN}{σ:St}{w:Wn}(g:Good K ρ σ H w t):Good K ρ σ H (bZ t' w) t':=by
 refine⟨⟨fun a o e=>g.wl a o (w9 e).1,g.wl.tb⟩,fun a i e=>g.ws a i (w9 e).1,fun a i e=>(w9 e).2 i rfl,g.len,fun i d q e=>?_⟩
 obtain⟨v,F,h1,h2⟩:=g.slot i d q e
 exact⟨v,F,h1,Rep.go g.wl (fun a x h n=>⟨sm h,t7 n⟩) h2 fun a m=>⟨rfl,Iq (h2.av a m)⟩⟩
theorem Go.drop{w w':Wn}(g:Go H w H' w')(wt:∀ a i,w a=some (.t i)->i<t):Go H w H' (bZ t w'):=
 ⟨fun a x h n=>⟨(g.bo a x h n).1,t7 (g.bo a x h n).2⟩,fun a o e h=>by
   obtain⟨h1,h2⟩:=g.keep a o e h
   refine⟨h1,?_⟩
   cases o with
   | s i=>exact absurd rfl (h i)
   | f=>exact Ir h2
   | t i=>exact Iu h2 (wt a i e)⟩
theorem Rep.drop{w:Wn}{q:Nat}{d:D}{o:Ow}(r:Rep K H w (.t t) q d v F)(h:t'<=t):Rep K H (bZ t' w) o 0 d v []:=
 Rep.freeze (fun a n=>t7 n) r fun a m=>Iv (r.av a m) h
abbrev aB:=aN->Option (D×Nat×aN)
def tD (K:PySem.W.Frag)(f:aB):TE:=fun σ H Q=>∃ ρ w t r q ρ',Good K ρ σ H w t/\f ρ=some (r,q,ρ')/\∀ v H' w' F,Good K ρ' σ H' w' (t+1)->Go H w H' w'->Rep K H' w' (.t t) q r v F->Q v H'
theorem PE.imp{t t':TE}(h:PE X e t)(i:∀ σ H Q,t' σ H Q->t σ H Q):PE X e t':=fun pins s σ H Q I q=>h pins s σ H Q I (i σ H Q q)
abbrev PD (X:Cx)(e:Expr)(f:aB):Prop:=PE X e (tD X.K f)
structure QD (X:Cx) (e:Expr) (f:aB):Prop where mk::o:PD X e f
theorem Good.up{ρ:aN}{σ:St}{w:Wn}(g:Good K ρ σ H w t):Good K ρ σ H w (t+1):=⟨g.wl,g.ws,fun a i e=>Q7 (g.wt a i e),g.len,g.slot⟩
@[simp] def b_ (d:D):Nat:=if d.bY then 0 else 9
theorem Rep.iq{w:Wn}{o:Ow}{d:D}(r:Rep K H w o 0 d v []):Rep K H w o (b_ d) d v []:=by
 unfold b_
 cases e:d.bY with
 | true=>exact r
 | false=>exact(r.cc e).2 9
section
variable {K:PySem.W.Frag}{σ:St}{H:Hp}{ρ ρ' ρ1 ρ2:aN}{w:Wn}{t:Nat}{Q:VK}
theorem oa{fa fb:aB}{R:V->V->Hp->Prop}(g:Good K ρ σ H w t){d1 d2:D}{q1 q2:Nat}(e1:fa ρ=some (d1,q1,ρ1))(e2:fb ρ1=some (d2,q2,ρ2))
  (k:∀ x y H2 w2 F1 F2,Good K ρ2 σ H2 w2 (t+2)->Go H w H2 w2->Rep K H2 w2 (.t t) q1 d1 x F1->Rep K H2 w2 (.t (t+1)) q2 d2 y F2->R x y H2) :
  tD K fa σ H fun x H1=>tD K fb σ H1 fun y H2=>R x y H2:=
 ⟨ρ,w,t,d1,q1,ρ1,g,e1,fun x H1 w1 F1 g1 aO r1=>⟨ρ1,w1,t+1,d2,q2,ρ2,g1,e2,fun y H2 w2 F2 g2 bQ r2=>k x y H2 w2 F1 F2 g2 (aO.trans bQ) (r1.gone g1.wl bQ) r2⟩⟩
theorem oe{r:D}{q:Nat}{w2:Wn}{t2:Nat}(k:∀ v H' w' F,Good K ρ' σ H' w' (t+1)->Go H w H' w'->Rep K H' w' (.t t) q r v F->Q v H')(g:Good K ρ σ H w t)(g2:Good K ρ' σ H2 w2 t2)(go:Go H w H2 w2)
  (rr:Rep K H2 (bZ t w2) (.t t) q r v []):Q v H2:=k v H2 (bZ t w2) [] g2.drop.up (go.drop g.wt) rr
def ir (p:Addr)(o:Ow)(w:Wn):Wn:=fun a=>if a=p then some o else w a
theorem lp{o:Ow}{w:Wn}:ir p o w p=some o:=Qe rfl
theorem fS{o:Ow}{w:Wn}(h:a≠p):ir p o w a=w a:=Qh h
theorem pK{ds:List D}{w1:Wn}(g:Good K ρ σ H1 w1 t)(hp:H1 p=none)(r:ae K H1 w1 .f 0 ds vs []) :
  Good K ρ σ (upd H1 p (.lst vs)) (ir p (.t t) w1) (t+1)/\Go H1 w1 (upd H1 p (.lst vs)) (ir p (.t t) w1)/\Rep K (upd H1 p (.lst vs)) (ir p (.t t) w1) (.t t) 1 (.lst ds) (.ref p) [p]:=by
 have ne:∀ a x,H1 a=some x->a≠p:=fun a x e=>ib e hp
 have nw:∀ a o,w1 a=some o->a≠p:=fun a o e=>by obtain⟨vs,q⟩:=g.wl a o e;exact ne a _ q
 have st:cz H1 w1 (upd H1 p (.lst vs)) (ir p (.t t) w1):=fun a x e n=>⟨sm (by rw[ba (ne a x e)];exact e),by rw[fS (ne a x e)];exact n⟩
 refine⟨⟨⟨fun a o e=>?_,g.wl.tb.upd rfl (.inl hp)⟩,fun a i e=>?_,fun a i e=>?_,g.len,fun i d q e=>?_⟩,⟨st,fun a o e _=>⟨ba (nw a o e),(fS (nw a o e)).trans e⟩⟩,?_⟩
 ·by_cases h:a=p
  ·subst h;exact⟨.l vs,fi⟩
  ·rw[fS h]at e
   obtain⟨us,q⟩:=g.wl a o e
   exact⟨us,by rw[ba h];exact q⟩
 ·by_cases h:a=p
  ·subst h;rw[lp]at e;cases e
  ·rw[fS h]at e;exact g.ws a i e
 ·by_cases h:a=p
  ·subst h;rw[lp]at e;cases e;exact QU _
  ·rw[fS h]at e;exact Q7 (g.wt a i e)
 ·obtain⟨v,F,h1,h2⟩:=g.slot i d q e
  exact⟨v,F,h1,Rep.go g.wl st h2 fun a m=>⟨ba (nw a _ (h2.av a m)),(fS (nw a _ (h2.av a m))).trans (h2.av a m)⟩⟩
 ·exact .own fi lp (ae.go g.wl st r nM) (fun z=>nomatch z)
theorem pL{ds:List D}{w1:Wn}(g:Good K ρ σ H1 w1 t)(hp:H1 p=none)(r:ae K H1 w1 .f 0 ds vs []) :
  Good K ρ σ (upd H1 p (.tup vs)) w1 (t+1)/\Go H1 w1 (upd H1 p (.tup vs)) w1/\Rep K (upd H1 p (.tup vs)) w1 (.t t) 9 (.tup ds) (.ref p) []:=by
 have ne:∀ a x,H1 a=some x->a≠p:=fun a x e=>ib e hp
 have nw:∀ a o,w1 a=some o->a≠p:=fun a o e=>by obtain⟨vs,q⟩:=g.wl a o e;exact ne a _ q
 have st:cz H1 w1 (upd H1 p (.tup vs)) w1:=fun a x e n=>⟨sm (by rw[ba (ne a x e)];exact e),n⟩
 refine⟨⟨⟨fun a o e=>?_,g.wl.tb.upd rfl (.inl hp)⟩,g.ws,fun a i e=>Q7 (g.wt a i e),g.len,fun i d q e=>?_⟩,⟨st,fun a o e _=>⟨ba (nw a o e),e⟩⟩,?_⟩
 ·obtain⟨us,q⟩:=g.wl a o e
  exact⟨us,by rw[ba (nw a o e)];exact q⟩
 ·obtain⟨v,F,h1,h2⟩:=g.slot i d q e
  exact⟨v,F,h1,Rep.go g.wl st h2 fun a m=>⟨ba (nw a _ (h2.av a m)),h2.av a m⟩⟩
 ·exact .tup fi (ae.go g.wl st r nM)
end
@[simp] def eC (d:D):aB:=fun ρ=>some (d,9,ρ)
@[simp] def ab (i:Nat):aB:=fun ρ=>match ρ[i]? with
 | some (some (d,q))=>if d.bY=false then some (d,9,ρ)else if q=0 then some (d,0,ρ)else some (d,0,ρ.set i (some (d,0)))
 | _=>none
section
variable {X:Cx}{a b c e:Expr}{fa fb fc f:aB}{pos:Pos}
theorem t8{d:D}(h:PE X e (tC v))(r:∀ K H w o q,Rep K H w o q d v []):PD X e (eC d):=PE.imp h fun σ H Q ai=>by
 obtain⟨ρ,w,t,r',q,ρ',g,ee,k⟩:=ai
 cases ee
 exact k v H w [] g.up Go.refl (r _ _ _ _ _)
theorem aT{i j}:QD X (.Constant (.int i) j pos) (eC (.int i)):=⟨t8 zp fun _ _ _ _ _=>.int i⟩
theorem kA{i j}:QD X (.Constant (.bool i) j pos) (eC (.bl i)):=⟨t8 EK fun _ _ _ _ _=>.bl i⟩
theorem Iw{j}:QD X (.Constant .none j pos) (eC .aS):=⟨t8 EL fun _ _ _ _ _=>.aS⟩
theorem pM{x j}:QD X (.Constant (.str x) j pos) (eC (.str x)):=⟨t8 vF fun _ _ _ _ _=>.str x⟩
def hG (i:Nat)(w:Wn):Wn:=fun a=>if w a=some (.s i)then none else w a
theorem t_{w:Wn}{a:Addr}(h:w a=none):hG i w a=none:=by unfold hG;rw[h];rfl
theorem AI{w:Wn}{a:Addr}(h:w a=some (.s i)):hG i w a=none:=by unfold hG;rw[Qe h]
theorem ua{w:Wn}{a:Addr}{o:Ow}(h:w a=some o)(n:o ≠ .s i):hG i w a=some o:=by unfold hG;rw[Qh (by rw[h];exact fun z=>n (Qp z))];exact h
theorem pN{w:Wn}{a:Addr}{o:Ow}(h:hG i w a=some o):w a=some o/\o ≠ .s i:=by
 unfold hG at h
 split at h
 ·cases h
 ·rename_i n;exact⟨h,fun z=>n (by rw[h,z])⟩
theorem Good.give{ρ:aN}{σ:St}{w:Wn}{d:D}{q:Nat}(g:Good K ρ σ H w t)(e:ρ[i]? = some (some (d,q))):Good K (ρ.set i (some (d,0))) σ H (hG i w) t/\Go H w H (hG i w):=by
 have st:cz H w H (hG i w):=fun a x h n=>⟨sm h,t_ n⟩
 refine⟨⟨⟨fun a o h=>g.wl a o (pN h).1,g.wl.tb⟩,fun a j h=>g.ws a j (pN h).1,fun a j h=>g.wt a j (pN h).1,by rw[QJ];exact g.len,fun j d' q' e'=>?_⟩,⟨st,fun a o h n=>⟨rfl,ua h (n i)⟩⟩⟩
 by_cases hj:i=j
 ·subst hj
  rw[Qz (Qv.mp e).1]at e'
  cases e'
  obtain⟨v,F,h1,h2⟩:=g.slot i d q e
  exact⟨v,[],h1,Rep.freeze (fun a n=>t_ n) h2 fun a m=>AI (h2.av a m)⟩
 ·rw[Qx hj]at e'
  obtain⟨v,F,h1,h2⟩:=g.slot j d' q' e'
  exact⟨v,F,h1,Rep.go g.wl st h2 fun a m=>⟨rfl,ua (h2.av a m) (fun z=>hj (by cases z;rfl))⟩⟩
theorem cn{x:Str}(h:QE X (.Name x pos) (fO i)):QD X (.Name x pos) (ab i):=⟨have h:=h.o;PE.imp h fun σ H Q ai=>by
 obtain⟨ρ,w,t,r',q,ρ',g,ee,k⟩:=ai
 unfold ab at ee
 split at ee
 next d q0 e0=>
  obtain⟨v,F,h1,h2⟩:=g.slot i d q0 e0
  refine⟨v,h1,?_⟩
  split at ee
  next hl=>
   cases ee
   obtain⟨hF,hr⟩:=h2.cc hl
   exact k v H w [] g.up Go.refl ((hr 9).any g.wl)
  ·split at ee
   next hq=>
    subst hq
    cases ee
    have:=h2.zero
    subst this
    exact k v H w [] g.up Go.refl (h2.any g.wl)
   ·cases ee
    obtain⟨g',d8⟩:=g.give e0
    refine k v H (hG i w) [] g'.up d8 ?_
    exact Rep.freeze (fun a n=>t_ n) h2 fun a m=>AI (h2.av a m)
 ·cases ee⟩
def lq:D->Option V
 | .aS=>some .aS
 | .bl b=>some (.bl b)
 | .int i=>some (.int i)
 | .str x=>some (.str x)
 | _=>none
theorem w_{w:Wn}{o:Ow}{q:Nat}{d:D}(h:lq d=some v):Rep K H w o q d v []:=by
 cases d<;>cases h
 ·exact .aS
 ·exact .bl _
 ·exact .int _
 ·exact .str _
@[simp] def e2 (g:D->D->Option D)(fa fb:aB):aB:=fun ρ=>match fa ρ with
 | some (x,_,ρ1)=>match fb ρ1 with
  | some (y,_,ρ2)=>match g x y with
   | some d=>some (d,9,ρ2)
   | none=>none
  | none=>none
 | none=>none
theorem Iy{g:D->D->Option D}{ρ ρ':aN}{r:D}{q:Nat}(h:e2 g fa fb ρ=some (r,q,ρ')):∃ x q1 ρ1 y q2,fa ρ=some (x,q1,ρ1)/\fb ρ1=some (y,q2,ρ')/\g x y=some r/\q=9:=by
 unfold e2 at h
 split at h
 next x q1 ρ1 h1=>
  split at h
  next y q2 ρ2 h2=>
   split at h
   next d hd=>
    cases h
    exact⟨x,q1,ρ1,y,q2,h1,h2,hd,rfl⟩
   ·cases h
  ·cases h
 ·cases h
theorem rm{g:D->D->Option D}(hg:∀ x y d,g x y=some d->∃ v,lq d=some v/\∀ H w o o' q q' u u' F F',Rep K H w o q x u F->Rep K H w o' q' y u' F'->WL K w H->∀ Q:VK,Q v H->r u u' H Q) :
  ∀ σ H Q,tD K (e2 g fa fb) σ H Q->jk r (tD K fa) (tD K fb) σ H Q:=fun σ H Q ai=>by
 obtain⟨ρ,w,t,r',q,ρ',gd,ee,k⟩:=ai
 obtain⟨x,q1,ρ1,y,q2,h1,h2,h3,rfl⟩:=Iy ee
 obtain⟨v,hv,hr⟩:=hg x y r' h3
 exact oa gd h1 h2 fun u u' H2 w2 F1 F2 g2 go r1 r2=>hr H2 w2 _ _ _ _ u u' F1 F2 r1 r2 g2.wl Q (oe k gd g2 go (w_ hv))
@[simp] def gI (f:Int->Int->Option D):D->D->Option D
 | .int i,.int j=>f i j
 | _,_=>none
theorem rn{f:Int->Int->Option D}{x y d:D}(h:gI f x y=some d):∃ i j,x=.int i/\y=.int j/\f i j=some d:=by
 unfold gI at h
 split at h
 ·exact⟨_,_,rfl,rfl,h⟩
 ·cases h
theorem eN{w:Wn}{o:Ow}{q:Nat}{i:Int}(r:Rep K H w o q (.int i) v F):v=.int i:=by cases r;rfl
theorem xa{f:Int->Int->Option D}{C:Int->Int->Prop}(hf:∀ i j d,f i j=some d->C i j/\lq d=some (h i j)) :
  ∀ σ H Q,tD K (e2 (gI f) fa fb) σ H Q->jk (rI C h) (tD K fa) (tD K fb) σ H Q:=
 rm fun x y d e=>by
  obtain⟨i,j,rfl,rfl,e⟩:=rn e
  obtain⟨c,s⟩:=hf i j d e
  exact⟨_,s,fun H w o o' q q' u u' F F' r1 r2 _ Q hq=>⟨i,j,eN r1,eN r2,c,hq⟩⟩
theorem AJ{f:Int->Int->Option D}(hf:∀ i j d,f i j=some d->lq d=some (h i j)) :
  ∀ σ H Q,tD K (e2 (gI f) fa fb) σ H Q->jk (kX h) (tD K fa) (tD K fb) σ H Q:=
 rm fun x y d e=>by
  obtain⟨i,j,rfl,rfl,e⟩:=rn e
  exact⟨_,hf i j d e,fun H w o o' q q' u u' F F' r1 r2 _ Q hq=>⟨i,j,eN r1,eN r2,hq⟩⟩
@[simp] def bB:D->D->Option D:=gI fun i j=>some (.int (i+j))
@[simp] def iQ:D->D->Option D:=gI fun i j=>if(-(2 ^ 64)<i/\i<2 ^ 64)\/(-(2 ^ 64)<j/\j<2 ^ 64)then some (.int (i*j))else none
@[simp] def ub:D->D->Option D:=gI fun i j=>if 0<j/\j<1073741824 then some (.int (i / j))else none
@[simp] def og:D->D->Option D:=gI fun i j=>if 0<j then some (.int (i % j))else none
theorem cA(ha:QD X a fa)(hb:QD X b fb):QD X (.BinOp a .Add b pos) (e2 bB fa fb):=⟨have ha:=ha.o;have hb:=hb.o;PE.imp (mi FG ha hb) (AJ fun i j d h=>by cases h;rfl)⟩
theorem jU(ha:QD X a fa)(hb:QD X b fb):QD X (.BinOp a .Mult b pos) (e2 iQ fa fb):=⟨have ha:=ha.o;have hb:=hb.o;PE.imp (mi FH ha hb) (xa fun i j d h=>by
 split at h
 ·cases h;exact⟨by assumption,rfl⟩
 ·cases h)⟩
theorem xb(ha:QD X a fa)(hb:QD X b fb):QD X (.BinOp a .FloorDiv b pos) (e2 ub fa fb):=⟨have ha:=ha.o;have hb:=hb.o;PE.imp (mi FI ha hb) (xa fun i j d h=>by
 split at h
 ·cases h;exact⟨by assumption,rfl⟩
 ·cases h)⟩
theorem pO(ha:QD X a fa)(hb:QD X b fb):QD X (.BinOp a .Mod b pos) (e2 og fa fb):=⟨have ha:=ha.o;have hb:=hb.o;PE.imp (mi FJ ha hb) (xa fun i j d h=>by
 split at h
 ·cases h;exact⟨by assumption,rfl⟩
 ·cases h)⟩
def bJ:D->Int->Option D
 | .lst ds,i=>cO ds i
 | .tup ds,i=>cO ds i
 | _,_=>none
@[simp] def cF (fa fb:aB):aB:=fun ρ=>match fa ρ with
 | some (x,_,ρ1)=>match fb ρ1 with
  | some (.int i,_,ρ2)=>match bJ x i with
   | some d=>some (d,b_ d,ρ2)
   | none=>none
  | _=>none
 | none=>none
theorem Rep.ls{w:Wn}{o:Ow}{q:Nat}{ds:List D}(r:Rep K H w o q (.lst ds) v F):∃ a vs q' G,v=.ref a/\bX K H a vs/\ae K H w o q' ds vs G:=by
 cases r with
 | kl h r=>exact⟨_,_,_,_,rfl,h.sq,r⟩
 | shr h n r=>exact⟨_,_,_,_,rfl,.inl h,r⟩
 | own h n r _=>exact⟨_,_,_,_,rfl,bX.of h,r⟩
theorem Rep.eO{w:Wn}{o:Ow}{ds:List D}(r:Rep K H w o 0 (.lst ds) v F):∃ a vs,v=.ref a/\bX K H a vs/\ae K H w o 0 ds vs []:=by
 cases r with
 | kl h r=>exact⟨_,_,rfl,h.sq,r⟩
 | shr h n r=>exact⟨_,_,rfl,.inl h,r⟩
theorem Rep.d9{w:Wn}{o:Ow}{q:Nat}{ds:List D}(r:Rep K H w o q (.tup ds) v F):∃ a vs,v=.ref a/\cC K H a vs/\ae K H w o 0 ds vs []:=by
 cases r with
 | tup h r=>exact⟨_,_,rfl,cC.of h,r⟩
theorem Rep.rp{w:Wn}{o:Ow}{q:Nat}{ds:List D}(r:Rep K H w o q (.tup ds) v F):∃ a vs,v=.ref a/\H a=some (.tup vs)/\ae K H w o 0 ds vs []:=by
 cases r with
 | tup h r=>exact⟨_,_,rfl,h,r⟩
theorem ae.cO{w:Wn}{o:Ow}{ds:List D}{i:Int}{d:D}(r:ae K H w o 0 ds vs [])(h:L2.cO ds i=some d):∃ v,L2.cO vs i=some v/\Rep K H w o 0 d v []:=by
 unfold L2.cO at h ⊢
 rw[<- r.length]
 cases e:gD ds.length i with
 | none=>rw[e]at h;cases h
 | some j=>
  rw[e]at h
  exact r.get h
theorem fm(ha:QD X a fa)(hb:QD X b fb)(hs:pD b:=by exact fun _ _=>rfl):QD X (.Subscript a b pos) (cF fa fb):=⟨have ha:=ha.o;have hb:=hb.o;PE.imp (qR qS ha hb hs) fun σ H Q ai=>by
 obtain⟨ρ,w,t,r',q,ρ',gd,ee,k⟩:=ai
 unfold cF at ee
 split at ee
 next x q1 ρ1 h1=>
  split at ee
  next i q2 ρ2 h2=>
   split at ee
   next d hd=>
    cases ee
    refine oa gd h1 h2 fun u u' H2 w2 F1 F2 g2 go r1 r2=>?_
    have xf:=eN r2
    subst xf
    have r0:=r1.drop (o:=.t t) (Qc t)
    cases x with
    | lst ds=>
     obtain⟨p,vs,rfl,hq,rs⟩:=r0.eO
     obtain⟨v,hv,rv⟩:=rs.cO hd
     exact .inl ⟨p,vs,i,v,rfl,rfl,hq,hv,oe k gd g2 go rv.iq⟩
    | tup ds=>
     obtain⟨p,vs,rfl,hq,rs⟩:=r0.d9
     obtain⟨v,hv,rv⟩:=rs.cO hd
     exact .inr (.inl ⟨p,vs,i,v,rfl,rfl,hq,hv,oe k gd g2 go rv.iq⟩)
    | _=>cases hd
   ·cases ee
  ·cases ee
 ·cases ee⟩
abbrev bM:=aN->Option (List D×aN)
def xg (K:PySem.W.Frag)(f:bM):TA:=fun σ H Q=>∃ ρ w t ds ρ',Good K ρ σ H w t/\f ρ=some (ds,ρ')/\∀ vs H' w',Good K ρ' σ H' w' t->Go H w H' w'->ae K H' w' .f 0 ds vs []->Q vs H'
abbrev AK (X:Cx)(es:List Expr)(f:bM):Prop:=PA X es (xg X.K f)
structure eG (X:Cx) (e:List Expr) (f:bM):Prop where mk::o:AK X e f
theorem PA.imp{X:Cx}{e:List Expr}{t t':TA}(h:PA X e t)(i:∀ σ H Q,t' σ H Q->t σ H Q):PA X e t':=fun pos pins s σ H Q I q=>h pos pins s σ H Q I (i σ H Q q)
@[simp] def ag:bM:=fun ρ=>some ([],ρ)
@[simp] def aa (f:aB)(g:bM):bM:=fun ρ=>match f ρ with
 | some (d,_,ρ1)=>match g ρ1 with
  | some (ds,ρ2)=>some (d::ds,ρ2)
  | none=>none
 | none=>none
theorem aj:eG X [] ag:=⟨PA.imp pA fun σ H Q ai=>by
 obtain⟨ρ,w,t,ds,ρ',gd,ee,k⟩:=ai
 cases ee
 exact k [] H w gd Go.refl .nil⟩
theorem aq{g:bM}(ha:QD X e f)(hr:eG X es g)(hs:starEach (e::es) X.env=(false,eval e X.env)::starEach es X.env:=by rfl):eG X (e::es) (aa f g):=⟨have ha:=ha.o;have hr:=hr.o;PA.imp (ml ha hr hs) fun σ H Q ai=>by
 obtain⟨ρ,w,t,ds,ρ',gd,ee,k⟩:=ai
 unfold aa at ee
 split at ee
 next d q ρ1 h1=>
  split at ee
  next bg ρ2 h2=>
   cases ee
   refine⟨ρ,w,t,d,q,ρ1,gd,h1,fun x H1 w1 F1 g1 aO r1=>⟨ρ1,bZ t w1,t,bg,_,g1.drop,h2,fun vs H2 w2 g2 bQ r2=>?_⟩⟩
   have gl:=(g1.drop (t':=t)).wl
   have r0:Rep X.K H2 w2 .f 0 d x []:=Rep.go gl bQ.bo (r1.drop (o:=.f) (Qc t)) nM
   exact k (x::vs) H2 w2 g2 ((aO.drop gd.wt).trans bQ) (.cons (F:=[]) (G:=[]) r0 r2 nM)
  ·cases ee
 ·cases ee⟩
@[simp] def du (g:bM):aB:=fun ρ=>match g ρ with
 | some (ds,ρ1)=>if ds.length<=1000 then some (.lst ds,1,ρ1)else none
 | none=>none
@[simp] def cS (g:bM):aB:=fun ρ=>match g ρ with
 | some (ds,ρ1)=>if ds.length<=1000 then some (.tup ds,9,ρ1)else none
 | none=>none
theorem oh(h:n<=1000):n<=sizeLine:=ZO (pF h)
theorem fq{g:bM}(h:eG X es g):QD X (.List es pos) (du g):=⟨have h:=h.o;PE.imp (Gn h) fun σ H Q ai=>by
 obtain⟨ρ,w,t,r',q,ρ',gd,ee,k⟩:=ai
 unfold du at ee
 split at ee
 next ds ρ1 h1=>
  split at ee
  next hl=>
   cases ee
   refine⟨ρ,w,t,ds,_,gd,h1,fun vs H1 w1 g1 aO r1=>⟨by rw[<- r1.length];exact oh hl,fun p hp=>?_⟩⟩
   obtain⟨a1,a2,a3⟩:=pK g1 hp r1
   exact k _ _ _ _ a1 (aO.trans a2) a3
  ·cases ee
 ·cases ee⟩
theorem fT{g:bM}{x1}(h:eG X es g):QD X (.Tuple es x1 pos) (cS g):=⟨have h:=h.o;PE.imp (Gm h) fun σ H Q ai=>by
 obtain⟨ρ,w,t,r',q,ρ',gd,ee,k⟩:=ai
 unfold cS at ee
 split at ee
 next ds ρ1 h1=>
  split at ee
  next hl=>
   cases ee
   refine⟨ρ,w,t,ds,_,gd,h1,fun vs H1 w1 g1 aO r1=>⟨by rw[<- r1.length];exact oh hl,fun p hp=>?_⟩⟩
   obtain⟨a1,a2,a3⟩:=pL g1 hp r1
   exact k _ _ _ _ a1 (aO.trans a2) a3
  ·cases ee
 ·cases ee⟩
def iR (K:PySem.W.Frag)(n:Nat)(F:List D->OD):Sp:=fun vs H Q _=>vs.length=n/\∃ ds w r q,(∀ a o,w a=some o->o=.f)/\WL K w H/\ae K H w .f 0 ds vs []/\F ds=some (r,q) /\
 ∀ v H' w' Fo,Go H w H' w'->WL K w' H'->Rep K H' w' (.t 0) q r v Fo->Q v H'
@[simp] def aH (F:List D->OD)(n:Nat)(g:bM):aB:=fun ρ=>match g ρ with
 | some (ds,ρ1)=>if ds.length=n then match F ds with
  | some (r,q)=>some (r,q,ρ1)
  | none=>none
  else none
 | none=>none
theorem kB{ρ:aN}{σ:St}{w w':Wn}{q:Nat}{d:D}{Fo:List Addr}(g:Good K ρ σ H w t)
  (go:Go H (fun a=>(w a).map fun _=>Ow.f) H' w') (jD:WL K w' H') (r:Rep K H' w' (.t 0) q d v Fo) :
  Good K ρ σ H' (fun a=>if a∈Fo then some (.t t)else w a) (t+1)/\Go H w H' (fun a=>if a∈Fo then some (.t t)else w a)/\Rep K H' (fun a=>if a∈Fo then some (.t t)else w a) (.t t) q d v Fo:=by
 have kf:∀ a o,w a=some o->H' a=H a/\w' a=some .f:=fun a o e=>go.keep a .f (by show(w a).map _=_;rw[e];rfl) (fun _ z=>nomatch z)
 have nf:∀ a x,H a=some x->a ∉ Fo:=fun a x e m=>by
  have h1:=r.av a m
  cases ew:w a with
  | none=>
   have:=(go.bo a x e (by show(w a).map _=_;rw[ew];rfl)).2
   rw[h1]at this;cases this
  | some o=>rw[(kf a o ew).2]at h1;cases h1
 have nw:∀ a o,w a=some o->a ∉ Fo:=fun a o e=>by obtain⟨vs,q⟩:=g.wl a o e;exact nf a _ q
 have st:cz H w H' (fun a=>if a∈Fo then some (.t t)else w a):=fun a x e n=>⟨(go.bo a x e (by show(w a).map _=_;rw[n];rfl)).1,by show(if a∈Fo then _ else _)=_;rw[Qh (nf a x e)];exact n⟩
 have wv:∀ a o,(if a∈Fo then some (Ow.t t)else w a)=some o->(a∈Fo/\o=.t t)\/w a=some o:=fun a o e=>by
  split at e
  ·cases e;exact .inl ⟨by assumption,rfl⟩
  ·exact .inr e
 refine⟨⟨⟨fun a o e=>?_,jD.tb⟩,fun a i e=>?_,fun a i e=>?_,g.len,fun i d q e=>?_⟩,⟨st,fun a o e _=>⟨(kf a o e).1,by show(if a∈Fo then _ else _)=_;rw[Qh (nw a o e)];exact e⟩⟩,?_⟩
 ·rcases wv a o e with⟨m,_⟩|z
  ·exact jD a _ (r.av a m)
  ·obtain⟨vs,h⟩:=g.wl a o z
   exact⟨vs,(kf a o z).1.trans h⟩
 ·rcases wv a _ e with⟨_,z⟩|z
  ·cases z
  ·exact g.ws a i z
 ·rcases wv a _ e with⟨_,z⟩|z
  ·cases z;exact QU _
  ·exact Q7 (g.wt a i z)
 ·obtain⟨v,F,h1,h2⟩:=g.slot i d q e
  refine⟨v,F,h1,Rep.go g.wl st h2 fun a m=>⟨(kf a _ (h2.av a m)).1,?_⟩⟩
  show(if a∈Fo then _ else _)=_
  rw[Qh (nw a _ (h2.av a m))]
  exact h2.av a m
 ·refine Rep.go jD (fun a x e n=>⟨sm e,?_⟩) r fun a m=>⟨rfl,Qe m⟩
  show(if a∈Fo then _ else _)=_
  rw[Qh (fun m=>by have:=r.av a m;rw[n]at this;cases this)]
  cases ew:w a with
  | none=>rfl
  | some o=>have:=(kf a o ew).2;rw[n]at this;cases this
theorem Iz{CX:ku}{k:Nat}{fn:Addr}{x:Str}{p:Pos}{F:List D->OD}{g:bM}(Fk:bO X.prog X.w X.K X.mg X.base CX k fn fd ps (iR X.K n F))(hr:aD k X.A)(hm:X.mg x=some (.ref fn))(hk:PySem.W.keepIn X.K (.ref fn)=true)(hb:gL X.K fd ps [])
  (hx:mm CX X E) (ha:AK X (e::es) g) (hg:Gl X x:=by rfl) (il:(x==("__debug__":Str))=false:=by decide) (he:starEach (e::es) X.env=(false,eval e X.env)::starEach es X.env:=by rfl) (bV:(backTo pos (starEach es X.env)).any (·.1)=false:=by rfl) :
  PD X (.Call (.Name x p) (e::es) [] pos) (aH F n g):=PE.imp (zS Fk hr hg hm hk hb .nil hx ha il he bV) fun σ H Q ai=>by
 obtain⟨ρ,w,t,r',q,ρ',gd,ee,k⟩:=ai
 unfold aH at ee
 split at ee
 next ds ρ1 h1=>
  split at ee
  next hn=>
   split at ee
   next r0 q0 h2=>
    cases ee
    refine⟨ρ,w,t,ds,_,gd,h1,fun vs H1 w1 g1 aO r1=>?_⟩
    show iR X.K n F (vs++[]) H1 Q E
    rw[Zg]
    refine⟨by rw[<- r1.length];exact hn,ds,fun a=>(w1 a).map fun _=>Ow.f,r',q,fun a o e=>?_,⟨fun a o e=>?_,g1.wl.tb⟩,?_,h2,fun v H2 w2 Fo bQ jl rr=>?_⟩
    ·dsimp only at e
     cases ew:w1 a with
     | none=>rw[ew]at e;cases e
     | some o'=>rw[ew]at e;cases e;rfl
    ·try dsimp only at e
     cases ew:w1 a with
     | none=>rw[ew]at e;cases e
     | some o'=>exact g1.wl a o' ew
    ·exact ae.freeze (fun a n=>by show(w1 a).map _=_;rw[n];rfl) r1 nM
    ·obtain⟨b1,b2,b3⟩:=kB g1 bQ jl rr
     exact k _ _ _ _ b1 (aO.trans b2) b3
   ·cases ee
  ·cases ee
 ·cases ee
end
abbrev cq:=aN->Option (Bool×aN)
def oi (K:PySem.W.Frag)(f:cq):TT:=fun σ H Q=>∃ ρ w t b ρ',Good K ρ σ H w t/\f ρ=some (b,ρ')/\∀ H' w',Good K ρ' σ H' w' t->Go H w H' w'->Q b H'
theorem PT.imp{t t':TT}(h:PT X e t)(i:∀ σ H Q,t' σ H Q->t σ H Q):PT X e t':=fun pins s σ H Q I q=>h pins s σ H Q I (i σ H Q q)
theorem PW.imp{t t':TT}(h:PW X e t)(i:∀ σ H Q,t' σ H Q->t σ H Q):PW X e t':=fun whole pins s σ H Q I q=>h whole pins s σ H Q I (i σ H Q q)
abbrev AL (X:Cx)(e:Expr)(f:cq):Prop:=PT X e (oi X.K f)
structure iS (X:Cx) (e:Expr) (f:cq):Prop where mk::o:AL X e f
abbrev IA (X:Cx)(e:Expr)(f:cq):Prop:=PW X e (oi X.K f)
structure uc (X:Cx) (e:Expr) (f:cq):Prop where mk::o:IA X e f
@[simp] def IB:D->Option Bool
 | .aS=>some false
 | .bl b=>some b
 | .int i=>some (i != 0)
 | .tup ds=>some (!ds.isEmpty)
 | .lst ds=>some (!ds.isEmpty)
 | .str _=>none
 | .eM _ _=>none
 | .exc _=>none
 | .ob _ _ _ _=>none
 | .mp _ _=>none
@[simp] def fU (f:aB):cq:=fun ρ=>match f ρ with
 | some (d,_,ρ1)=>match IB d with
  | some b=>some (b,ρ1)
  | none=>none
 | none=>none
section
variable {X:Cx}{a b c e:Expr}{fa fb fc f:aB}{ga gb gc:cq}{pos:Pos}
theorem ud{α β:Type}{l:List α}{l':List β}(h:l.length=l'.length):(!l.isEmpty) = !l'.isEmpty:=by
 cases l<;>cases l'<;>first|rfl|cases h
theorem jV(ha:QD X a fa)(he:∀ whole,isTrue a X.env whole=(do let v <- whole;standAt a.pos;holding [v] (truthy v)):=by exact fun _=>rfl):iS X a (fU fa):=⟨have ha:=ha.o;PT.imp (FT ha he) fun σ H Q ai=>by
 obtain⟨ρ,w,t,b,ρ',gd,ee,k⟩:=ai
 unfold fU at ee
 split at ee
 next d q ρ1 h1=>
  split at ee
  next b' hb=>
   cases ee
   refine⟨ρ,w,t,d,q,_,gd,h1,fun v H1 w1 F g1 aO r1=>⟨b,?_,k H1 (bZ t w1) g1.drop (aO.drop gd.wt)⟩⟩
   cases r1 with
   | aS=>cases hb;rfl
   | bl x=>cases hb;rfl
   | int i=>cases hb;rfl
   | str x=>cases hb
   | tup h r=>cases hb;exact .inr (.inl ⟨_,cC.of h,ud r.length⟩)
   | eM h e r=>cases hb
   | exc h x n=>cases hb
   | ob h1 h2 x r=>cases hb
   | kl h r=>cases hb;exact .inl ⟨_,h.sq,ud r.length⟩
   | shr h _ r=>cases hb;exact .inl ⟨_,.inl h,ud r.length⟩
   | own h _ r _=>cases hb;exact .inl ⟨_,bX.of h,ud r.length⟩
   | la h _ _ _ _=>cases hb
   | fR h _ _ _ _=>cases hb
  ·cases ee
 ·cases ee⟩
@[simp] def cG (f:aB):cq:=fun ρ=>match f ρ with
 | some (.bl b,_,ρ1)=>some (b,ρ1)
 | _=>none
theorem IC(h:∀ σ H Q,tD K f σ H Q->te σ H Q):∀ σ H Q,oi K (cG f) σ H Q->zJ te σ H Q:=fun σ H Q ai=>by
 obtain⟨ρ,w,t,b,ρ',gd,ee,k⟩:=ai
 unfold cG at ee
 split at ee
 next b' q ρ1 h1=>
  cases ee
  refine h σ H _ ⟨ρ,w,t,.bl b,q,_,gd,h1,fun v H1 w1 F g1 aO r1=>?_⟩
  cases r1
  exact⟨b,rfl,k H1 (bZ t w1) g1.drop (aO.drop gd.wt)⟩
 ·cases ee
theorem ue{g:D->D->Option D}(ho:cE X (compareOp op) r)(hr:∀ σ H Q,tD X.K (e2 g fa fb) σ H Q->jk r (tD X.K fa) (tD X.K fb) σ H Q)(ha:PD X a fa)(hb:PD X b fb)(hm:behindInMarks op b=false) :
  AL X (.Compare a [op] [b] pos) (cG (e2 g fa fb)):=PT.imp (FN ho ha hb hm) (IC hr)
theorem ID{g:D->D->Option D}(ho:cE X (compareOp op) r)(hr:∀ σ H Q,tD X.K (e2 g fa fb) σ H Q->jk r (tD X.K fa) (tD X.K fb) σ H Q)(ha:PD X a fa)(hb:PD X b fb)(hm:behindInMarks op b=false) :
  PD X (.Compare a [op] [b] pos) (e2 g fa fb):=PE.imp (FL ho ha hb hm) hr
@[simp] def mB:D->D->Option D:=gI fun i j=>some (.bl (decide (i<j)))
@[simp] def AM:D->D->Option D:=gI fun i j=>some (.bl (decide (i<=j)))
theorem IE:∀ σ H Q,tD K (e2 mB fa fb) σ H Q->jk (kX fun i j=>.bl (decide (i<j))) (tD K fa) (tD K fb) σ H Q:=AJ fun i j d h=>by cases h;rfl
theorem uf(ha:QD X a fa)(hb:QD X b fb):iS X (.Compare a [.Lt] [b] pos) (cG (e2 mB fa fb)):=⟨have ha:=ha.o;have hb:=hb.o;ue zI IE ha hb (tF _)⟩
@[simp] def gN (g:cq):cq:=fun ρ=>match g ρ with
 | some (b,ρ1)=>some (!b,ρ1)
 | none=>none
theorem mC(ha:iS X a ga):iS X (.UnaryOp .Not a pos) (gN ga):=⟨have ha:=ha.o;PT.imp (ET ha) fun σ H Q ai=>by
 obtain⟨ρ,w,t,b,ρ',gd,ee,k⟩:=ai
 unfold gN at ee
 split at ee
 next b' ρ1 h1=>
  cases ee
  exact⟨ρ,w,t,b',_,gd,h1,fun H1 w1 g1 aO=>k H1 w1 g1 aO⟩
 ·cases ee⟩
@[simp] def pP (g h:cq):cq:=fun ρ=>match g ρ with
 | some (b,ρ1)=>if b=true then some (true,ρ1)else h ρ1
 | none=>none
variable {bC:List Expr}
theorem xh(ha:iS X a ga):uc X (.BoolOp .Or [a] pos) ga:=⟨have ha:=ha.o;ER ha⟩
theorem ug(ha:iS X a ga)(hb:uc X (.BoolOp .Or (b::bC) pos) gb):uc X (.BoolOp .Or (a::b::bC) pos) (pP ga gb):=⟨have ha:=ha.o;have hb:=hb.o;PW.imp (ES ha hb) fun σ H Q ai=>by
 obtain⟨ρ,w,t,b,ρ',gd,ee,k⟩:=ai
 unfold pP at ee
 split at ee
 next b' ρ1 h1=>
  refine⟨ρ,w,t,b',ρ1,gd,h1,fun H1 w1 g1 aO=>?_⟩
  split at ee
  ·rename_i hb;rw[Qe hb]
   cases ee
   exact k H1 w1 g1 aO
  ·rename_i hb;rw[Qh hb]
   exact⟨ρ1,w1,t,b,ρ',g1,ee,fun H2 w2 g2 bQ=>k H2 w2 g2 (aO.trans bQ)⟩
 ·cases ee⟩
@[simp] def xi (g:cq)(fa fb:aB):aB:=fun ρ=>match g ρ with
 | some (b,ρ1)=>if b=true then fa ρ1 else fb ρ1
 | none=>none
theorem IF(hc:iS X c gc)(ha:QD X a fa)(hb:QD X b fb):QD X (.IfExp c a b pos) (xi gc fa fb):=⟨have hc:=hc.o;have ha:=ha.o;have hb:=hb.o;PE.imp (E1 hc ha hb) fun σ H Q ai=>by
 obtain⟨ρ,w,t,r',q,ρ',gd,ee,k⟩:=ai
 unfold xi at ee
 split at ee
 next b' ρ1 h1=>
  refine⟨ρ,w,t,b',ρ1,gd,h1,fun H1 w1 g1 aO=>?_⟩
  split at ee
  ·rename_i hb;rw[Qe hb]
   exact⟨ρ1,w1,t,r',q,ρ',g1,ee,fun v H2 w2 F g2 bQ=>k v H2 w2 F g2 (aO.trans bQ)⟩
  ·rename_i hb;rw[Qh hb]
   exact⟨ρ1,w1,t,r',q,ρ',g1,ee,fun v H2 w2 F g2 bQ=>k v H2 w2 F g2 (aO.trans bQ)⟩
 ·cases ee⟩
end
inductive Out where
 | nx (ρ:aN)|rt (d:D) (q:Nat)|bk (ρ:aN)|ct (ρ:aN)
abbrev ay:=aN->Option Out
def jE (K:PySem.W.Frag)(Dn:Ends)(n:Nat)(H:Hp)(w:Wn):Out->Prop
 | .nx ρ'=>∀ aA H' w',aA.length=n->Good K ρ' aA H' w' 0->Go H w H' w'->Dn.nx aA H'
 | .bk ρ'=>∀ aA H' w',aA.length=n->Good K ρ' aA H' w' 0->Go H w H' w'->Dn.bk aA H'
 | .ct ρ'=>∀ aA H' w',aA.length=n->Good K ρ' aA H' w' 0->Go H w H' w'->Dn.ct aA H'
 | .rt d q=>∀ v H' w' F,WL K w' H'->Go H w H' w'->Rep K H' w' (.t 0) q d v F->Dn.rt v H'
def rq (K:PySem.W.Frag)(f:ay):TS:=fun Dn σ H=>∃ ρ w o,Good K ρ σ H w 0/\f ρ=some o/\jE K Dn σ.length H w o
theorem PS.imp{e:Stmt}{t t':TS}(h:PS X e t)(i:∀ D σ H,t' D σ H->t D σ H):PS X e t':=fun pins s σ H D I q=>h pins s σ H D I (i D σ H q)
theorem gi.imp{e:List Stmt}{t t':TS}(h:gi X e t)(i:∀ D σ H,t' D σ H->t D σ H):gi X e t':=fun pins s σ H D I q=>h pins s σ H D I (i D σ H q)
abbrev IG (X:Cx)(st:Stmt)(f:ay):Prop:=PS X st (rq X.K f)
structure iu (X:Cx) (e:Stmt) (f:ay):Prop where mk::o:IG X e f
abbrev lu (X:Cx)(st:List Stmt)(f:ay):Prop:=gi X st (rq X.K f)
structure dv (X:Cx) (e:List Stmt) (f:ay):Prop where mk::o:lu X e f
@[simp] def d_:ay:=fun ρ=>some (.nx ρ)
@[simp] def aC (f g:ay):ay:=fun ρ=>match f ρ with
 | some (.nx ρ1)=>g ρ1
 | o=>o
theorem jE.trans{Dn:Ends}{w w1:Wn}(go:Go H w H1 w1):∀ {o:Out},jE K Dn n H w o->jE K Dn n H1 w1 o
 | .nx _,h=>fun aA H' w' e g d8=>h aA H' w' e g (go.trans d8)
 | .bk _,h=>fun aA H' w' e g d8=>h aA H' w' e g (go.trans d8)
 | .ct _,h=>fun aA H' w' e g d8=>h aA H' w' e g (go.trans d8)
 | .rt _ _,h=>fun v H' w' F wl d8=>h v H' w' F wl (go.trans d8)
section
variable {X:Cx}{a b c e:Expr}{fa fb fc f:aB}{ga gb gc:cq}{pos:Pos}{st:Stmt}{bC sa sb:List Stmt}{s s':ay}
theorem fF:dv X [] d_:=⟨gi.imp E5 fun D σ H ai=>by
 obtain⟨ρ,w,o,g,ee,k⟩:=ai
 cases ee
 exact k σ H w rfl g Go.refl⟩
theorem aL(h1:iu X st s)(h2:dv X bC s'):dv X (st::bC) (aC s s'):=⟨have h1:=h1.o;have h2:=h2.o;gi.imp (E6 h1 h2) fun D σ H ai=>by
 obtain⟨ρ,w,o,g,ee,k⟩:=ai
 unfold aC at ee
 split at ee
 next ρ1 h1=>
  exact⟨ρ,w,.nx ρ1,g,h1,fun aA H' w' e g' d8=>⟨ρ1,w',o,g',ee,by rw[e];exact k.trans d8⟩⟩
 next iP=>
  refine⟨ρ,w,o,g,ee,?_⟩
  cases o with
  | nx ρ1=>exact absurd ee (iP ρ1)
  | bk ρ1=>exact k
  | ct ρ1=>exact k
  | rt d q=>exact k⟩
theorem aM(h1:iu X st s):dv X [st] s:=⟨have h1:=h1.o;zt h1⟩
@[simp] def bp (f:aB):ay:=fun ρ=>match f ρ with
 | some (d,q,_)=>some (.rt d q)
 | none=>none
theorem bH(h:QD X e f):iu X (.Return (some e) pos) (bp f):=⟨have h:=h.o;PS.imp (E_ h) fun D σ H ai=>by
 obtain⟨ρ,w,o,g,ee,k⟩:=ai
 unfold bp at ee
 split at ee
 next d q ρ1 h1=>
  cases ee
  exact⟨ρ,w,0,d,q,ρ1,g,h1,fun v H' w' F g' d8 r=>k v H' w' F g'.wl d8 r⟩
 ·cases ee⟩
@[simp] def cH (g:cq)(s s':ay):ay:=fun ρ=>match g ρ with
 | some (b,ρ1)=>if b=true then s ρ1 else s' ρ1
 | none=>none
theorem ft(hc:iS X c gc)(ha:dv X sa s)(hb:dv X sb s'):iu X (.If c sa sb pos) (cH gc s s'):=⟨have hc:=hc.o;have ha:=ha.o;have hb:=hb.o;PS.imp (Fc hc ha hb) fun D σ H ai=>by
 obtain⟨ρ,w,o,g,ee,k⟩:=ai
 unfold cH at ee
 split at ee
 next b' ρ1 h1=>
  refine⟨ρ,w,0,b',ρ1,g,h1,fun H1 w1 g1 aO=>?_⟩
  split at ee
  ·rename_i hb;rw[Qe hb]
   exact⟨ρ1,w1,o,g1,ee,k.trans aO⟩
  ·rename_i hb;rw[Qh hb]
   exact⟨ρ1,w1,o,g1,ee,k.trans aO⟩
 ·cases ee⟩
@[simp] def AN:ay:=fun ρ=>some (.bk ρ)
theorem IH:iu X (.Break pos) AN:=⟨PS.imp E8 fun D σ H ai=>by
 obtain⟨ρ,w,o,g,ee,k⟩:=ai
 cases ee
 exact k σ H w rfl g Go.refl⟩
def jm (t i:Nat)(w:Wn):Wn:=fun a=>if w a=some (.t t)then some (.s i)else if w a=some (.s i)then none else w a
theorem Good.set{ρ:aN}{σ:St}{w:Wn}{q:Nat}{d:D}(g:Good K ρ σ H w 1)(hi:i<σ.length)(r:Rep K H w (.t 0) q d v F) :
  Good K (ρ.set i (some (d,q))) (σ.set i (some v)) H (jm 0 i w) 0/\∀ gf lx,Go gf lx H w->(∀ a j,lx a=some (.t j)->j<0)->Go gf lx H (jm 0 i w):=by
 have mN:∀ a,w a=none->jm 0 i w a=none:=fun a e=>by unfold jm;rw[e];rfl
 have mT:∀ a,w a=some (.t 0)->jm 0 i w a=some (.s i):=fun a e=>by unfold jm;rw[Qe e]
 have mS:∀ a j,w a=some (.s j)->j≠i->jm 0 i w a=some (.s j):=fun a j e n=>by
  unfold jm
  rw[Qh (by rw[e];exact fun z=>nomatch z),Qh (by rw[e];intro z;cases z;exact n rfl)]
  exact e
 have mF:∀ a,w a=some .f->jm 0 i w a=some .f:=fun a e=>by
  unfold jm
  rw[Qh (by rw[e];exact fun z=>nomatch z),Qh (by rw[e];exact fun z=>nomatch z)]
  exact e
 have mI:∀ a o,jm 0 i w a=some o->(w a=some (.t 0)/\o=.s i)\/(w a=some o/\o ≠ .s i/\o ≠ .t 0):=fun a o e=>by
  unfold jm at e
  split at e
  ·cases e;exact .inl ⟨by assumption,rfl⟩
  next n1=>
   split at e
   ·cases e
   ·rename_i n2;exact .inr ⟨e,fun z=>n2 (by rw[e,z]),fun z=>n1 (by rw[e,z])⟩
 have st:cz H w H (jm 0 i w):=fun a x h n=>⟨sm h,mN a n⟩
 refine⟨⟨⟨fun a o e=>?_,g.wl.tb⟩,fun a j e=>?_,fun a j e=>?_,by rw[QJ,QJ];exact g.len,fun j d' q' e'=>?_⟩,fun gf lx go hw=>⟨fun a x h n=>⟨(go.bo a x h n).1,mN a (go.bo a x h n).2⟩,fun a o e n=>?_⟩⟩
 ·rcases mI a o e with⟨z,_⟩|⟨z,_⟩
  ·exact g.wl a _ z
  ·exact g.wl a _ z
 ·rw[QJ]
  rcases mI a _ e with⟨_,z⟩|⟨z,_⟩
  ·cases z;exact hi
  ·exact g.ws a j z
 ·rcases mI a _ e with⟨_,z⟩|⟨z,_,n⟩
  ·cases z
  ·have:=g.wt a j z
   have:j=0:=by omega
   subst this
   exact absurd rfl n
 ·by_cases hj:i=j
  ·subst hj
   rw[Qz (by rw[g.len];exact hi)]at e'
   cases e'
   exact⟨v,F,Qz hi,Rep.go g.wl st r fun a m=>⟨rfl,mT a (r.av a m)⟩⟩
  ·rw[Qx hj]at e'
   obtain⟨v',F',h1,h2⟩:=g.slot j d' q' e'
   exact⟨v',F',by rw[Qx hj];exact h1,Rep.go g.wl st h2 fun a m=>⟨rfl,mS a j (h2.av a m) (fun z=>hj z.symm)⟩⟩
 ·obtain⟨h1,h2⟩:=go.keep a o e n
  refine⟨h1,?_⟩
  cases o with
  | s j=>exact absurd rfl (n j)
  | f=>exact mF a h2
  | t j=>exact absurd (hw a j e) (Ja _)
@[simp] def bq (i:Nat)(f:aB):ay:=fun ρ=>match f ρ with
 | some (d,q,ρ1)=>some (.nx (ρ1.set i (some (d,q))))
 | none=>none
theorem AO{D:Ends}{σ:St}(hi:i<σ.length)(he:∀ Q,tD K f σ H Q->te σ H Q)(h:rq K (bq i f) D σ H):te σ H fun x H1=>D.nx (σ.set i (some x)) H1:=by
 obtain⟨ρ,w,o,g,ee,k⟩:=h
 unfold bq at ee
 split at ee
 next d q ρ1 h1=>
  cases ee
  refine he _ ⟨ρ,w,0,d,q,ρ1,g,h1,fun v H' w' F g' d8 r=>?_⟩
  obtain⟨a1,a2⟩:=g'.set hi r
  exact k _ _ _ (by rw[QJ]) a1 (a2 _ _ d8 g.wt)
 ·cases ee
theorem bR{x:Str}{pos':Pos}(hN:X.N.Nodup)(hi:X.N[i]? = some x)(hx:Loc X.env.scope x)(he:QD X e f)(hs:swapsWith e (some (.Name x pos')) pos.line X.env=pure false:=by rfl)(hf:X.fn x=true\/X.env.scope.names.lookup x=some .local:=by first|exact .inl rfl|exact .inr rfl):iu X (.Assign [.Name x pos'] e pos) (bq i f):=⟨have he:=he.o;by
 intro pins s σ H D I h
 have hl:i<σ.length:=by rw[I.len];exact(Qv.mp hi).1
 exact Fp (te:=tD X.K f) hN hi hx he hs hf pins s σ H D I (AO hl (fun _ z=>z) h)⟩
@[simp] def cI (f:aB):ay:=fun ρ=>match f ρ with
 | some (_,_,ρ1)=>some (.nx ρ1)
 | none=>none
theorem fG(he:QD X e f)(hs:swapsWith e none pos.line X.env=pure false:=by rfl):iu X (.Expr e pos) (cI f):=⟨have he:=he.o;PS.imp (zw he hs) fun D σ H ai=>by
 obtain⟨ρ,w,o,g,ee,k⟩:=ai
 unfold cI at ee
 split at ee
 next d q ρ1 h1=>
  cases ee
  exact⟨ρ,w,0,d,q,ρ1,g,h1,fun v H' w' F g' d8 r=>k σ H' (bZ 0 w') rfl g'.drop (d8.drop g.wt)⟩
 ·cases ee⟩
end
structure Mo (K:PySem.W.Frag) (H H':Hp):Prop where
 mo:∀ a o,H a=some o->H' a=some o
 tb:TB K H->TB K H'
theorem Mo.oj:Mo K H H:=⟨fun _ _ e=>e,fun t=>t⟩
structure ly (K:PySem.W.Frag) (J:It) (ds:List D) (P:Hp->Wn->Prop):Prop where
 go:∀ i H w,P H w->i<ds.length->J.go i H
 nK:∀ i H w x H' d,P H w->WL K w H->ds[i]? = some d->J.nK i H x H'->Mo K H H'/\Rep K H' w .f 0 d x []/\P H' w
 stop:∀ H w,P H w->J.stop ds.length H
 st:∀ H w H' w',P H w->WL K w H->cz H w H' w'->P H' w'
abbrev iT:=aN->Option (List D×aN)
def uh (K:PySem.W.Frag)(f:iT):TI:=fun σ H R=>∃ ρ w t ds ρ',Good K ρ σ H w t/\f ρ=some (ds,ρ') /\
 ∀ J P H' w',Good K ρ' σ H' w' t->Go H w H' w'->ly K J ds P->P H' w'->ds.length<sizeLine->R J H'
theorem PI.imp{t t':TI}(h:PI X tg e t)(i:∀ σ H R,t' σ H R->t σ H R):PI X tg e t':=fun pins s σ H R I q=>h pins s σ H R I (i σ H R q)
abbrev II (X:Cx)(tg e:Expr)(f:iT):Prop:=PI X tg e (uh X.K f)
structure rA (X:Cx) (tg e:Expr) (f:iT):Prop where mk::o:II X tg e f
theorem It.list{ds:List D}(hl:ds.length=vs.length):ly K (tz K a) ds fun H w=>(KL K a vs\/(Rd H a (.lst vs)/\w a=none))/\ae K H w .f 0 ds vs []:=by
 have sq:∀ {H:Hp} {w:Wn},KL K a vs\/(Rd H a (.lst vs)/\w a=none)->bX K H a vs:=fun h=>h.elim (fun z=>z.sq) fun z=>.inl z.1
 refine⟨fun i H w p hi=>⟨vs,vs[i],sq p.1,by simp[hl ▸ hi]⟩,fun i H w x H' d p wl hd y=>?_,fun H w p=>⟨vs,sq p.1,by omega⟩,fun H w H' w' p wl st=>?_⟩
 ·obtain⟨rfl,hx⟩:=y
  obtain⟨v,hv,rv⟩:=p.2.get hd
  have:=hx vs (sq p.1)
  rw[hv]at this
  cases this
  exact⟨Mo.oj,rv,p⟩
 ·refine⟨?_,ae.go wl st p.2 nM⟩
  rcases p.1 with p|⟨p,n⟩
  ·exact .inl p
  ·exact .inr (wW.go st n p)
theorem It.tup{K:PySem.W.Frag}{a:Addr}{vs:List V}{ds:List D}(hl:ds.length=vs.length):ly K (vK K a) ds fun H w=>cC K H a vs/\ae K H w .f 0 ds vs []:=
 ⟨fun i H w p hi=>⟨vs,vs[i],p.1,by simp[hl ▸ hi]⟩,fun i H w x H' d p wl hd y=>by
   obtain⟨rfl,hx⟩:=y
   obtain⟨v,hv,rv⟩:=p.2.get hd
   have:=hx vs p.1
   rw[hv]at this
   cases this
   exact⟨Mo.oj,rv,p⟩,fun H w p=>⟨vs,p.1,by omega⟩,fun H w H' w' p wl st=>⟨cC.go wl st p.1,ae.go wl st p.2 nM⟩⟩
def mD (n:Nat):List V:=(List.range n).map fun i=>.int (Int.ofNat i)
def bW (n:Nat):List D:=(List.range n).map fun i=>.int (Int.ofNat i)
theorem eh(n:Nat):(bW n).length=n:=by simp[bW]
theorem AQ(n:Nat):(mD n).length=n:=by simp[mD]
theorem It.range:ly K (tB 0 n) (bW n) fun _ _=>True:=by
 refine⟨fun i H w _ hi=>by rw[eh]at hi;exact hi,fun i H w x H' d _ _ hd y=>?_,fun H w _=>by rw[eh];exact Qc _,fun _ _ _ _ _ _ _=>trivial⟩
 have hi:i<n:=by have:=(Qv.mp hd).1;rw[eh]at this;exact this
 have e:x=.int (0+(i:Int)):=y.2
 have ed:d=.int (Int.ofNat i):=by
  have:(bW n)[i]? = some (.int (Int.ofNat i)):=by simp[bW,hi]
  rw[hd]at this
  exact Qp this
 obtain⟨rfl,_⟩:=y
 subst ed
 rw[e,Int.zero_add]
 exact⟨Mo.oj,.int _,trivial⟩
theorem ui{w:Wn}{o:Ow}:∀ (ns:List Int),ae K H w o 0 (ns.map D.int) (ns.map V.int) []
 | []=>.nil
 | n::r=>.cons (F:=[]) (G:=[]) (.int n) (ui r) nM
theorem IJ{w:Wn}{o:Ow}(n:Nat):ae K H w o 0 (bW n) (mD n) []:=by
 have:=ui (K:=K) (H:=H) (w:=w) (o:=o) ((List.range n).map Int.ofNat)
 rw[Zj,Zj]at this
 exact this
section
variable {X:Cx}{tg a b c e:Expr}{fa fb fc f:aB}{ga gb gc:cq}{pos p:Pos}
@[simp] def b6 (g:bM):iT:=fun ρ=>match g ρ with
 | some ([.int n],ρ1)=>if -1000<=n/\n<=1000 then some (bW n.toNat,ρ1)else none
 | _=>none
theorem dP{g:bM}(hm:X.mg "range" = none)(ha:eG X [a] g)(hg:Gl X "range":=by rfl)(hs:starEach [a] X.env=[(false,eval a X.env)]:=by rfl):rA X tg (.Call (.Name "range" p) [a] [] pos) (b6 g):=⟨have ha:=ha.o;PI.imp (FA hg hm ha hs) fun σ H R ai=>by
 obtain⟨ρ,w,t,ds,ρ',gd,ee,k⟩:=ai
 unfold b6 at ee
 split at ee
 next n ρ1 h1=>
  split at ee
  next hn=>
   cases ee
   refine⟨ρ,w,t,[.int n],_,gd,h1,fun vs H1 w1 g1 aO r1=>?_⟩
   have hv:vs=[.int n]:=by
    have l:=r1.length
    match vs,l with
    | [v],_=>
     obtain⟨v',h1,h2⟩:=r1.get (i:=0) rfl
     cases h1
     rw[eN h2]
   subst hv
   refine⟨n,rfl,by omega,by omega,k _ _ H1 w1 g1 aO It.range trivial ?_⟩
   rw[eh]
   exact pF (by omega)
  ·cases ee
 ·cases ee⟩
def IK (K:PySem.W.Frag)(tl:TE):TI:=fun σ H R=>tl σ H fun x H1=>∃ a,x=.ref a/\(((∃ xs,bX K H1 a xs)/\R (tz K a) H1)\/((∃ xs,cC K H1 a xs)/\R (vK K a) H1))
theorem IL{l:Expr}{tl:TE}(hl:PE X l tl):PI X tg l (IK X.K tl):=by
 intro pins s σ H R I h
 refine aV (hl pins s σ H _ I h) fun v s1 ⟨x,H1,I1,r1,q1⟩=>?_
 obtain⟨a,e,q⟩:=q1
 subst e
 cases r1
 rcases q with⟨⟨xs,hq⟩,q⟩|⟨⟨xs,hq⟩,q⟩
 ·obtain⟨ak,rv,p,hz⟩:=I1.list hq
  refine Js p.isList ?_
  refine⟨s1.heap.objs.size,[s1.heap.objs.size],_,_,H1,rfl,I1.kept (t':=s1.toks) fun b o e=>Qf _ e,zB a _,⟨_,Qs _ rfl,rfl,rfl⟩,fun b hb=>?_,q⟩
  have e:b=s1.heap.objs.size:=by simpa using hb
  subst e
  exact I1.kW (Qc _) (I1.aF.fresh (Qc _))
 ·obtain⟨ak,rv,p,hz⟩:=I1.tuple hq
  refine wpAny_pyIter_tuple (show s1.heap.IsTuple a ak.toArray from p) ?_
  refine⟨s1.heap.objs.size,[s1.heap.objs.size],_,_,H1,rfl,I1.kept (t':=s1.toks) fun b o e=>Qf _ e,Fu a _,⟨_,Qs _ rfl,rfl,rfl⟩,fun b hb=>?_,q⟩
  have e:b=s1.heap.objs.size:=by simpa using hb
  subst e
  exact I1.kW (Qc _) (I1.aF.fresh (Qc _))
@[simp] def fH (f:aB):iT:=fun ρ=>match f ρ with
 | some (.lst ds,_,ρ1)=>if ds.length<=1000 then some (ds,ρ1)else none
 | some (.tup ds,_,ρ1)=>if ds.length<=1000 then some (ds,ρ1)else none
 | _=>none
theorem lz(ha:QD X a fa):rA X tg a (fH fa):=⟨have ha:=ha.o;PI.imp (IL ha) fun σ H R ai=>by
 obtain⟨ρ,w,t,ds,ρ',gd,ee,k⟩:=ai
 unfold fH at ee
 split at ee
 next bg q ρ1 h1=>
  split at ee
  next hl=>
   cases ee
   refine⟨ρ,w,t,.lst ds,q,ρ',gd,h1,fun v H1 w1 F g1 aO r1=>?_⟩
   have r0:=r1.drop (o:=.f) (Qc t)
   cases r0 with
   | kl h r=>exact⟨_,rfl,.inl ⟨⟨_,h.sq⟩,k _ _ H1 (bZ t w1) g1.drop (aO.drop gd.wt) (It.list r.length) ⟨.inl h,r⟩ (pF hl)⟩⟩
   | shr h n r=>exact⟨_,rfl,.inl ⟨⟨_,.inl h⟩,k _ _ H1 (bZ t w1) g1.drop (aO.drop gd.wt) (It.list r.length) ⟨.inr ⟨h,n⟩,r⟩ (pF hl)⟩⟩
  ·cases ee
 next bg q ρ1 h1=>
  split at ee
  next hl=>
   cases ee
   refine⟨ρ,w,t,.tup ds,q,ρ',gd,h1,fun v H1 w1 F g1 aO r1=>?_⟩
   have r0:=r1.drop (o:=.f) (Qc t)
   cases r0 with
   | tup h r=>exact⟨_,rfl,.inr ⟨⟨_,cC.of h⟩,k _ _ H1 (bZ t w1) g1.drop (aO.drop gd.wt) (It.tup r.length) ⟨cC.of h,r⟩ (pF hl)⟩⟩
  ·cases ee
 ·cases ee⟩
end
abbrev ek:=D->aN->Option aN
def uj (K:PySem.W.Frag)(b:Nat)(pt:ek):TG:=fun v σ H Q=>∃ d ρ w t ρ',Good K ρ σ H w t/\Rep K H w .f 0 d v []/\pt d ρ=some ρ'/\∀ aA H' w',aA.length=σ.length->(∀ i,i<b->aA[i]? = σ[i]?)->Good K ρ' aA H' w' t->Go H w H' w'->Q aA H'
theorem PG.imp{t t':TG}(h:PG X tg t)(i:∀ v σ H Q,t' v σ H Q->t v σ H Q):PG X tg t':=fun pins s σ H v u Q I r q=>h pins s σ H v u Q I r (i v σ H Q q)
abbrev IM (X:Cx)(b:Nat)(tg:Expr)(pt:ek):Prop:=PG X tg (uj X.K b pt)
structure om (X:Cx) (b:Nat) (e:Expr) (f:ek):Prop where mk::o:IM X b e f
@[simp] def aP (i:Nat):ek:=fun d ρ=>if i<ρ.length then some (ρ.set i (some (d,b_ d)))else none
theorem Good.rB{ρ:aN}{σ:St}{w:Wn}{d:D}(g:Good K ρ σ H w t)(hi:i<σ.length)(r:Rep K H w .f 0 d v []) :
  Good K (ρ.set i (some (d,b_ d))) (σ.set i (some v)) H (hG i w) t/\Go H w H (hG i w):=by
 have st:cz H w H (hG i w):=fun a x h n=>⟨sm h,t_ n⟩
 refine⟨⟨⟨fun a o h=>g.wl a o (pN h).1,g.wl.tb⟩,fun a j h=>by rw[QJ];exact g.ws a j (pN h).1,fun a j h=>g.wt a j (pN h).1,by rw[QJ,QJ];exact g.len,fun j d' q' e'=>?_⟩,⟨st,fun a o h n=>⟨rfl,ua h (n i)⟩⟩⟩
 by_cases hj:i=j
 ·subst hj
  rw[Qz (by rw[g.len];exact hi)]at e'
  cases e'
  exact⟨v,[],Qz hi,(Rep.go g.wl st r nM:Rep K H (hG i w) (.s i) 0 d v []).iq⟩
 ·rw[Qx hj]at e'
  obtain⟨v',F,h1,h2⟩:=g.slot j d' q' e'
  exact⟨v',F,by rw[Qx hj];exact h1,Rep.go g.wl st h2 fun a m=>⟨rfl,ua (h2.av a m) (fun z=>hj (by cases z;rfl))⟩⟩
theorem cu{b:Nat}{x:Str}{pos:Pos}(hb:b<=i)(hN:X.N.Nodup)(hi:X.N[i]? = some x)(hx:Loc X.env.scope x)(hf:X.fn x=true\/X.env.scope.names.lookup x=some .local:=by first|exact .inl rfl|exact .inr rfl):om X b (.Name x pos) (aP i):=⟨PG.imp (zy hN hi hx hf) fun v σ H Q ai=>by
 obtain⟨d,ρ,w,t,ρ',g,r,e,k⟩:=ai
 unfold aP at e
 split at e
 next hl=>
  cases e
  obtain⟨a1,a2⟩:=g.rB (by rw[<- g.len];exact hl) r
  exact k _ _ _ (by rw[QJ]) (fun j hj=>Qx (by omega)) a1 a2
 ·cases e⟩
def da (pt:ek)(body:ay):List D->aN->Option Out
 | [],ρ=>some (.nx ρ)
 | d::ds,ρ=>match pt d ρ with
  | none=>none
  | some ρ1=>match body ρ1 with
   | some (.nx ρ2)=>da pt body ds ρ2
   | some (.ct ρ2)=>da pt body ds ρ2
   | some (.bk ρ2)=>some (.nx ρ2)
   | o=>o
@[simp] def dI (it:iT)(pt:ek)(body:ay):ay:=fun ρ=>match it ρ with
 | some (ds,ρ1)=>da pt body ds ρ1
 | none=>none
theorem ae.mE{w w':Wn}{ds:List D}(r:ae K H w .f 0 ds vs [])(wl:WL K w H)(st:cz H w H' w'):ae K H' w' .f 0 ds vs []:=ae.go wl st r nM
theorem Rep.mE{w w':Wn}{ds:D}{vs:V}(r:Rep K H w .f 0 ds vs [])(wl:WL K w H)(st:cz H w H' w'):Rep K H' w' .f 0 ds vs []:=Rep.go wl st r nM
theorem ae.mG{w:Wn}:∀ {ds:List D} {vs:List V} (i:Nat),ae K H w .f 0 ds vs []->ae K H w .f 0 (ds.drop i) (vs.drop i) []
 | _,_,0,r=>r
 | ds,vs,i+1,r=>by
  generalize hF:([]:List Addr)=F at r
  cases r with
  | nil=>exact .nil
  | cons r s _=>
   have h2:=s.zero
   have h1:=r.zero
   subst h2
   subst h1
   exact ae.mG i s
theorem Good.more{ρ:aN}{σ:St}{w:Wn}(g:Good K ρ σ H w t)(hm:Mo K H H'):Good K ρ σ H' w t/\Go H w H' w:=by
 have h:=hm.mo
 have st:cz H w H' w:=fun a x e n=>⟨sm (h a x e),n⟩
 have kp:∀ a o,w a=some o->H' a=H a:=fun a o e=>by
  obtain⟨vs,q⟩:=g.wl a o e
  rw[q,h a _ q]
 refine⟨⟨⟨fun a o e=>?_,hm.tb g.wl.tb⟩,g.ws,g.wt,g.len,fun i d q e=>?_⟩,st,fun a o e _=>⟨kp a o e,e⟩⟩
 ·obtain⟨vs,q⟩:=g.wl a o e
  exact⟨vs,h a _ q⟩
 ·obtain⟨v,F,h1,h2⟩:=g.slot i d q e
  exact⟨v,F,h1,Rep.go g.wl st h2 fun a m=>⟨kp a _ (h2.av a m),h2.av a m⟩⟩
theorem gF{iter:Expr}{body:List Stmt}{it:iT}{pt:ek}{s:ay}{pos:Pos}(hp:PassesOwn (model X.prog X.w) X.A X.env X.xe)(hc:X.calm=true)(hi:rA X tg iter it)(hg:om X 0 tg pt)(hb:dv X body s)(hs:∀ x,foldedSetIterable iter X.env x=pure x:=by intro _;rfl):iu X (.For tg iter body [] pos) (dI it pt s):=⟨have hi:=hi.o;have hg:=hg.o;have hb:=hb.o;PS.imp (zD hp hc hi hg hb hs) fun D σ H ai=>by
 obtain⟨ρ,w,o,g,ee,k⟩:=ai
 unfold dI at ee
 split at ee
 next ds ρ1 h1=>
  refine⟨ρ,w,0,ds,ρ1,g,h1,fun J P H1 w1 g1 aO ok p1 hl=>?_⟩
  refine⟨fun i m aA H'=>m=ds.length-i/\i<=ds.length/\aA.length=σ.length/\∃ ρ' w',Good X.K ρ' aA H' w' 0/\P H' w'/\da pt s (ds.drop i) ρ'=some o/\jE X.K D σ.length H' w' o,
   ⟨ds.length,by simp,ZC _,rfl,ρ1,w1,g1,p1,ee,k.trans aO⟩,?_⟩
  rintro i m aA H' ⟨rfl,oo,eP,ρ',w',g',p',e',k'⟩
  by_cases dt:i<ds.length
  ·refine .inr ⟨ok.go i H' w' p' dt,fun jN H2=>ds.length-(i+1)=ds.length-(i+1)/\i+1<=ds.length/\jN.length=σ.length/\∃ ρ2 w2,Good X.K ρ2 jN H2 w2 0/\P H2 w2/\da pt s (ds.drop (i+1)) ρ2=some o/\jE X.K D σ.length H2 w2 o,
    fun jN H2 n2=>⟨ds.length-(i+1),by omega,n2⟩,fun x H2 hy=>?_⟩
   obtain⟨mo,rx,p2⟩:=ok.nK i H' w' x H2 ds[i] p' g'.wl (Qj dt) hy
   obtain⟨g2,bQ⟩:=g'.more mo
   have ed:ds.drop i=ds[i]::ds.drop (i+1):=Zl dt
   rw[ed]at e'
   unfold da at e'
   split at e'
   ·cases e'
   next el h3=>
    refine⟨ds[i],ρ',w',0,el,g2,rx,h3,fun pH H4 w4 l4 _ g4 jW=>?_⟩
    have p4:=ok.st _ _ _ _ p2 g2.wl jW.bo
    have nx:∀ {gG:aN},da pt s (ds.drop (i+1)) gG=some o->∀ iw H5 w5,iw.length=pH.length->Good X.K gG iw H5 w5 0->Go H4 w4 H5 w5->ds.length-(i+1)=ds.length-(i+1)/\i+1<=ds.length/\iw.length=σ.length/\∃ ρ2 w2,Good X.K ρ2 iw H5 w2 0/\P H5 w2/\da pt s (ds.drop (i+1)) ρ2=some o/\jE X.K D σ.length H5 w2 o:=fun {gG} e5 iw H5 w5 l5 g5 gO=>
     ⟨rfl,dt,by rw[l5,l4,eP],gG,w5,g5,ok.st _ _ _ _ p4 g4.wl gO.bo,e5,k'.trans ((bQ.trans jW).trans gO)⟩
    cases h6:s el with
    | none=>rw[h6]at e';cases e'
    | some o6=>
     rw[h6]at e'
     refine⟨el,w4,o6,g4,h6,?_⟩
     cases o6 with
     | nx gG=>exact nx e'
     | ct gG=>exact nx e'
     | bk gG=>
      cases e'
      exact fun iw H5 w5 l5 g5 gO=>k' iw H5 w5 (by rw[l5,l4,eP]) g5 ((bQ.trans jW).trans gO)
     | rt d q=>
      cases e'
      exact fun v H5 w5 F xj gO r5=>k' v H5 w5 F xj ((bQ.trans jW).trans gO) r5
  ·have cR:i=ds.length:=JM oo (Nat.not_lt.mp dt)
   subst cR
   refine .inl ⟨ok.stop H' w' p',?_⟩
   have ed:ds.drop ds.length=[]:=by simp
   rw[ed]at e'
   cases e'
   exact k' aA H' w' eP g' Go.refl
 ·cases ee⟩
@[simp] def jF (n:Nat)(ds:List D):aN:=ds.map (fun d=>some (d,b_ d))++List.replicate (n-ds.length) none
@[simp] def bw (n:Nat)(body:ay):List D->OD:=fun ds=>match body (jF n ds)with
 | some (.rt d q)=>some (d,q)
 | some (.nx _)=>some (.aS,9)
 | _=>none
theorem AR{w:Wn}{ds:List D}(hw:∀ a o,w a=some o->o=.f)(wl:WL K w H)(r:ae K H w .f 0 ds vs []):Good K (jF N.length ds) (gC N vs) H w 0:=by
 refine⟨wl,(fun a i e=>by cases (hw a _ e)),(fun a i e=>by cases (hw a _ e)),?_,fun i d q e=>?_⟩
 ·unfold jF L2.gC
  rw[Qt,Qt,Qm,Qm,Q4,Q4,r.length]
 ·unfold jF at e
  by_cases hi:i<ds.length
  ·rw[Qw (by simpa using hi),Qo]at e
   cases h:ds[i]? with
   | none=>rw[h]at e;cases e
   | some d'=>
    rw[h]at e
    cases e
    obtain⟨v,hv,rv⟩:=r.get h
    refine⟨v,[],?_,(rv.any wl:Rep K H w (.s i) 0 d v []).iq⟩
    unfold L2.gC
    rw[Qw (by rw[Qm,<- r.length];exact hi),Qo,hv]
    rfl
  ·rw[QV (by simpa using hi),Q5]at e
   split at e<;>cases e
theorem IP{body:ay}{Q:VK}(h:iR K n (bw N.length body) vs H Q E):rq K body { nx:=fun _ H'=>Q .aS H',rt:=Q } (gC N vs) H:=by
 obtain⟨hn,ds,w,r,q,hw,wl,rs,e,k⟩:=h
 unfold bw at e
 split at e
 next d q' h1=>
  cases e
  exact⟨_,w,_,AR hw wl rs,h1,fun v H' w' F jD d8 r'=>k v H' w' F d8 jD r'⟩
 next ρ' h1=>
  cases e
  exact⟨_,w,_,AR hw wl rs,h1,fun aA H' w' _ g' d8=>k .aS H' w' [] d8 g'.wl .aS⟩
 ·cases e
theorem xk{P:Program}{wd:World}{mg:Str->Option Value}{base:Heap}{x qual:Str}{st:Stmt}{f:Addr}{k:Nat}{body:ay}(F:iN K x qual st f fd)(S:af N ps (aG st))
  (h:∀ (aQ:Value) (A:Around) (outer:List Env) (s:Shared) (H:Hp) (E:XK),aD k (A.deeper (envOfC qual (aG st) s.heap.objs.size f aQ))->lu (fP c_ P wd K mg base N qual (aG st) f aQ A outer s H E).gj (d7 st) body) :
  bO P wd K mg base c_ (k+1) f fd ps (iR K ps.length (bw N.length body)):=
 F.ok S (fun vs H Q E h=>h.1) fun aQ A outer s H vs Q E hr jC=>⟨_,h aQ A outer s H E hr,IP jC⟩
def iU (k:Nat)(pt:ek)(tt:cq)(te:aB)(deep:Bool):List D->aN->Option (List D×aN)
 | [],ρ=>some ([],ρ)
 | d::ds,ρ=>match pt d (ρ++List.replicate k none)with
  | none=>none
  | some ρ1=>match tt ρ1 with
   | none=>none
   | some (b,ρ2)=>if b=true then(match te ρ2 with
     | none=>none
     | some (v,q,el)=>if deep=true/\v.bY=true/\q≠1 then none else match iU k pt tt te deep ds (el.take ρ.length)with
      | none=>none
      | some (vs,mH)=>some (v::vs,mH))
    else iU k pt tt te deep ds (ρ2.take ρ.length)
@[simp] def dF (k:Nat)(it:iT)(pt:ek)(tt:cq)(te:aB)(deep:Bool):aB:=fun ρ=>match it ρ with
 | some (ds,ρ1)=>match iU k pt tt te deep ds ρ1 with
  | some (vs,ρ2)=>some (.lst vs,if deep=true then 2 else 1,ρ2)
  | none=>none
 | none=>none
@[simp] def cJ:cq:=fun ρ=>some (true,ρ)
theorem Good.ext{ρ:aN}{σ:St}{w:Wn}(g:Good K ρ σ H w t)(k:Nat):Good K (ρ++List.replicate k none) (σ++List.replicate k none) H w t:=by
 refine⟨g.wl,fun a i e=>by rw[Qt];exact Ql (g.ws a i e) (Nat.le_add_right _ _),g.wt,by rw[Qt,Qt,Q4,Q4,g.len],fun i d q e=>?_⟩
 by_cases hi:i<ρ.length
 ·rw[Qw hi]at e
  obtain⟨v,F,h1,h2⟩:=g.slot i d q e
  exact⟨v,F,by rw[Qw (by rw[<- g.len];exact hi)];exact h1,h2⟩
 ·rw[QV (by omega),Q5]at e
  split at e<;>cases e
def jX (n:Nat)(w:Wn):Wn:=fun a=>match w a with
 | some (.s i)=>if n<=i then none else some (.s i)
 | x=>x
theorem IQ{w:Wn}(h:w a=none):jX n w a=none:=by unfold jX;rw[h]
theorem IS{w:Wn}(h:w a=some (.s i))(hi:i<n):jX n w a=some (.s i):=by unfold jX;rw[h];exact Qh (by omega)
theorem IU{w:Wn}{o:Ow}(h:w a=some o)(hn:∀ i,o ≠ .s i):jX n w a=some o:=by
 unfold jX;rw[h]
 cases o with
 | s i=>exact absurd rfl (hn i)
 | t i=>rfl
 | f=>rfl
theorem xl{w:Wn}{o:Ow}(h:jX n w a=some o):w a=some o/\∀ i,o=.s i->i<n:=by
 unfold jX at h
 cases e:w a with
 | none=>rw[e]at h;cases h
 | some o'=>
  rw[e]at h
  cases o' with
  | t i=>cases h;exact⟨rfl,fun i z=>nomatch z⟩
  | f=>cases h;exact⟨rfl,fun i z=>nomatch z⟩
  | s i=>
   dsimp only at h
   split at h
   ·cases h
   ·cases h;exact⟨rfl,fun j z=>by cases z;omega⟩
theorem Good.cut{ρ:aN}{σ τ:St}{w:Wn}(g:Good K ρ (σ++τ) H w t):Good K (ρ.take σ.length) σ H (jX σ.length w) t/\Go H w H (jX σ.length w):=by
 have st:cz H w H (jX σ.length w):=fun a x h n=>⟨sm h,IQ n⟩
 refine⟨⟨⟨fun a o e=>g.wl a o (xl e).1,g.wl.tb⟩,fun a i e=>(xl e).2 i rfl,fun a i e=>g.wt a i (xl e).1,?_,fun i d q e=>?_⟩,⟨st,fun a o e n=>⟨rfl,IU e n⟩⟩⟩
 ·rw[Zc,g.len,Qt]
  omega
 ·by_cases hi:i<σ.length
  ·rw[Zv hi]at e
   obtain⟨v,F,h1,h2⟩:=g.slot i d q e
   rw[Qw hi]at h1
   exact⟨v,F,h1,Rep.go g.wl st h2 fun a m=>⟨rfl,IS (h2.av a m) hi⟩⟩
  ·rw[Jo (by omega)]at e
   cases e
theorem IV{σ aA τ:St}(l:aA.length=(σ++τ).length)(h:∀ i,i<σ.length->aA[i]? = (σ++τ)[i]?):∃ AS,aA=σ++AS/\AS.length=τ.length:=by
 refine⟨aA.drop σ.length,?_,by rw[Zy,l,Qt];omega⟩
 have e:aA.take σ.length=σ:=by
  apply Q8
  intro i
  by_cases hi:i<σ.length
  ·rw[Zv hi,h i hi,Qw hi]
  ·rw[Jo (by omega),Qu (by omega)]
 conv=>lhs;rw[<- List.take_append_drop σ.length aA,e]
def dq (deep:Bool):Nat:=if deep=true then 1 else 0
def hJ (deep:Bool)(t:Nat)(w:Wn):Wn:=fun a=>if w a=some (.t (t+1))then(if deep=true then some (.t t)else none)else w a
theorem IW{ρ:aN}{σ:St}{w:Wn}{q:Nat}{d:D}(g:Good K ρ σ H w (t+2))(r:Rep K H w (.t (t+1)) q d v F)(hq:¬ (deep=true/\d.bY=true/\q≠1)) :
  Good K ρ σ H (hJ deep t w) (t+1)/\(∃ F',Rep K H (hJ deep t w) (.t t) (dq deep) d v F'/\∀ a∈F',w a=some (.t (t+1)))/\cz H w H (hJ deep t w)/\(∀ a o,w a=some o->o ≠ .t (t+1)->hJ deep t w a=some o):=by
 have hN:∀ a,w a=none->hJ deep t w a=none:=fun a e=>by unfold hJ;rw[e];rfl
 have hO:∀ a o,w a=some o->o ≠ .t (t+1)->hJ deep t w a=some o:=fun a o e n=>by
  unfold hJ
  rw[Qh (by rw[e];exact fun z=>n (Qp z))]
  exact e
 have hI:∀ a o,hJ deep t w a=some o->(w a=some (.t (t+1))/\o=.t t)\/(w a=some o/\o ≠ .t (t+1)):=fun a o e=>by
  unfold hJ at e
  split at e
  ·split at e
   ·cases e;exact .inl ⟨by assumption,rfl⟩
   ·cases e
  ·rename_i n;exact .inr ⟨e,fun z=>n (by rw[e,z])⟩
 have st:cz H w H (hJ deep t w):=fun a x h n=>⟨sm h,hN a n⟩
 refine⟨⟨⟨fun a o e=>?_,g.wl.tb⟩,fun a i e=>?_,fun a i e=>?_,g.len,fun i d' q' e'=>?_⟩,?_,st,hO⟩
 ·rcases hI a o e with⟨z,_⟩|⟨z,_⟩<;>exact g.wl a _ z
 ·rcases hI a _ e with⟨_,z⟩|⟨z,_⟩
  ·cases z
  ·exact g.ws a i z
 ·rcases hI a _ e with⟨_,z⟩|⟨z,n⟩
  ·cases z;exact QU _
  ·have:=g.wt a i z
   have:i≠t+1:=fun z=>n (by rw[z])
   omega
 ·obtain⟨v',F',h1,h2⟩:=g.slot i d' q' e'
  exact⟨v',F',h1,Rep.go g.wl st h2 fun a m=>⟨rfl,hO a _ (h2.av a m) (fun z=>nomatch z)⟩⟩
 ·cases deep with
  | false=>
   refine⟨[],Rep.freeze hN r fun a m=>?_,fun _ z=>nomatch z⟩
   unfold hJ
   rw[Qe (r.av a m)]
   rfl
  | true=>
   have hT:∀ a,w a=some (.t (t+1))->hJ true t w a=some (.t t):=fun a e=>by unfold hJ;rw[Qe e];rfl
   cases hl:d.bY with
   | false=>
    obtain⟨_,hr⟩:=r.cc hl
    exact⟨[],Rep.go g.wl st (hr 1) nM,fun _ z=>nomatch z⟩
   | true=>
    have:q=1:=by
     by_cases h:q=1
     ·exact h
     ·exact absurd ⟨rfl,hl,h⟩ hq
    subst this
    exact⟨F,Rep.go g.wl st r fun a m=>⟨rfl,hT a (r.av a m)⟩,r.av⟩
theorem IX{ρ:aN}{σ:St}{w1:Wn}{q:Nat}{ds:List D}(g:Good K ρ σ H1 w1 (t+1))(hp:H1 p=none)(r:ae K H1 w1 (.t t) q ds vs F) :
  Good K ρ σ (upd H1 p (.lst vs)) (ir p (.t t) w1) (t+1)/\Go H1 w1 (upd H1 p (.lst vs)) (ir p (.t t) w1)/\Rep K (upd H1 p (.lst vs)) (ir p (.t t) w1) (.t t) (q+1) (.lst ds) (.ref p) (p::F):=by
 have ne:∀ a x,H1 a=some x->a≠p:=fun a x e=>ib e hp
 have nw:∀ a o,w1 a=some o->a≠p:=fun a o e=>by obtain⟨vs,q⟩:=g.wl a o e;exact ne a _ q
 have st:cz H1 w1 (upd H1 p (.lst vs)) (ir p (.t t) w1):=fun a x e n=>⟨sm (by rw[ba (ne a x e)];exact e),by rw[fS (ne a x e)];exact n⟩
 refine⟨⟨⟨fun a o e=>?_,g.wl.tb.upd rfl (.inl hp)⟩,fun a i e=>?_,fun a i e=>?_,g.len,fun i d q e=>?_⟩,⟨st,fun a o e _=>⟨ba (nw a o e),(fS (nw a o e)).trans e⟩⟩,?_⟩
 ·by_cases h:a=p
  ·subst h;exact⟨.l vs,fi⟩
  ·rw[fS h]at e
   obtain⟨us,q⟩:=g.wl a o e
   exact⟨us,by rw[ba h];exact q⟩
 ·by_cases h:a=p
  ·subst h;rw[lp]at e;cases e
  ·rw[fS h]at e;exact g.ws a i e
 ·by_cases h:a=p
  ·subst h;rw[lp]at e;cases e;exact QU _
  ·rw[fS h]at e;exact g.wt a i e
 ·obtain⟨v,F,h1,h2⟩:=g.slot i d q e
  exact⟨v,F,h1,Rep.go g.wl st h2 fun a m=>⟨ba (nw a _ (h2.av a m)),(fS (nw a _ (h2.av a m))).trans (h2.av a m)⟩⟩
 ·exact .own fi lp (ae.go g.wl st r fun a m=>⟨ba (nw a _ (r.av a m)),(fS (nw a _ (r.av a m))).trans (r.av a m)⟩) fun m=>absurd rfl (nw p _ (r.av p m))
theorem AU{k:Nat}{it:iT}{pt:ek}{tt:cq}{te:aB}:∀ σ H Q,tD K (dF k it pt tt te deep) σ H Q->tT k (uh K it) (uj K σ.length pt) (oi K tt) (tD K te) σ H Q:=fun σ H Q ai=>by
 obtain⟨ρ,w,t,r',q,ρ',g,ee,kk⟩:=ai
 unfold dF at ee
 split at ee
 next ds ρ1 h1=>
  split at ee
  next all ρ2 h2=>
   cases ee
   refine⟨ρ,w,t,ds,ρ1,g,h1,fun J P H1 w1 g1 aO ok p1 hl=>?_⟩
   refine⟨fun i m ys H'=>m=ds.length-i/\i<=ds.length/\ys.length<=i/\∃ el w3 zs F bC,Good K el σ H' w3 (t+1)/\Go H w H' w3/\P H' w3/\ae K H' w3 (.t t) (dq deep) zs ys F /\
     iU k pt tt te deep (ds.drop i) el=some (bC,ρ')/\zs++bC=all,
    ⟨ds.length,by simp,ZC _,Qc _,ρ1,w1,[],[],all,g1.up,aO,p1,.nil,h2,rfl⟩,?_⟩
   rintro i m ys H' ⟨rfl,oo,RU,el,w3,zs,F,bC,g0,mE,p0,AV,e3,ez⟩
   have hsz:ys.length<sizeLine:=by omega
   refine⟨ZO hsz,?_⟩
   by_cases dt:i<ds.length
   ·refine .inr ⟨ok.go i H' w3 p0 dt,hsz,fun x H2 hy=>?_⟩
    obtain⟨mo,rx,p3⟩:=ok.nK i H' w3 x H2 ds[i] p0 g0.wl (Qj dt) hy
    obtain⟨g3,bQ⟩:=g0.more mo
    have fI:=mE.trans bQ
    have rz:=AV.gone g0.wl bQ
    have ed:ds.drop i=ds[i]::ds.drop (i+1):=Zl dt
    rw[ed]at e3
    unfold iU at e3
    split at e3
    ·cases e3
    next mH h4=>
     split at e3
     ·cases e3
     next b gG h5=>
      have gx:=g3.ext k
      have AW:el.length=σ.length:=g3.len
      refine⟨ds[i],_,w3,t+1,mH,gx,rx,h4,fun pH H4 w4 l4 s4 g4 jW=>?_⟩
      obtain⟨τ,rfl,IY⟩:=IV l4 s4
      refine⟨⟨τ,rfl,by rw[IY,Q4]⟩,mH,w4,t+1,b,gG,g4,h5,fun H5 w5 g5 gO=>?_⟩
      have p5:=ok.st _ _ _ _ (ok.st _ _ _ _ p3 g3.wl jW.bo) g4.wl gO.bo
      have z5:ae K H5 w5 (.t t) (dq deep) zs ys F:=(rz.gone g3.wl jW).gone g4.wl gO
      cases b with
      | false=>
       rw[Qh (by decide)]at e3
       dsimp only
       rw[Qh (by decide)]
       obtain⟨gc,oq⟩:=g5.cut
       rw[AW]at e3
       refine⟨ds.length-(i+1),by omega,rfl,dt,by omega,_,_,zs,F,bC,gc,(fI.trans jW).trans (gO.trans oq),ok.st _ _ _ _ p5 g5.wl oq.bo,z5.gone g5.wl oq,e3,ez⟩
      | true=>
       rw[Qe rfl]at e3
       dsimp only
       rw[Qe rfl]
       split at e3
       ·cases e3
       next d6 q6 IZ h6=>
        split at e3
        ·cases e3
        next I0=>
         split at e3
         ·cases e3
         next I9 RV h7=>
          cases e3
          refine⟨gG,w5,t+1,d6,q6,IZ,g5,h6,fun v H6 w6 F6 g6 xm r6=>?_⟩
          obtain⟨gs,⟨F',rs,I_⟩,xn,AX⟩:=IW g6 r6 I0
          obtain⟨gc,oq⟩:=gs.cut
          rw[AW]at h7
          have AY:=z5.gone g5.wl xm
          have zF:∀ a∈F,w6 a=some (.t t):=AY.av
          have J0:ae K H6 (hJ deep t w6) (.t t) (dq deep) zs ys F:=ae.go g6.wl xn AY fun a m=>⟨rfl,AX a _ (zF a m) (by intro z;cases z)⟩
          have J1:Go H w H6 (hJ deep t w6):=by
           have go:Go H w H6 w6:=(fI.trans jW).trans (gO.trans xm)
           refine⟨go.bo.trans xn,fun a o h n=>⟨(go.keep a o h n).1,AX a o (go.keep a o h n).2 fun z=>?_⟩⟩
           subst z
           have:=g.wt a _ h
           omega
          refine⟨ds.length-(i+1),by omega,rfl,dt,by rw[Qt];simp;omega,_,_,zs++[d6],F++F',I9,gc,J1.trans oq,ok.st _ _ _ _ (ok.st _ _ _ _ p5 g5.wl xm.bo |> fun q=>ok.st _ _ _ _ q g6.wl xn) gs.wl oq.bo,
           ?_,h7,by rw[ZY];exact ez⟩
          refine(ae.snoc rs J0 fun a m m'=>?_).gone gs.wl oq
          have h1:=zF a m
          rw[I_ a m']at h1
          cases h1
   ·have cR:i=ds.length:=JM oo (Nat.not_lt.mp dt)
    subst cR
    refine .inl ⟨ok.stop H' w3 p0,fun p hp=>?_⟩
    have ed:ds.drop ds.length=[]:=by simp
    rw[ed]at e3
    cases e3
    rw[Zg]at ez
    subst ez
    obtain⟨a1,a2,a3⟩:=IX g0 hp AV
    refine kk _ _ _ (p::F) a1 (mE.trans a2) ?_
    cases deep<;>exact a3
  ·cases ee
 ·cases ee
section
variable {X:Cx}{k:Nat}{N':List Str}{scope:Scope}{elt tg iter:Expr}{ifs:List Expr}{pos:Pos}{it:iT}{pt:ek}{tt:cq}{te:aB}
abbrev J2 (X:Cx)(ifs:List Expr)(f:cq):Prop:=pG X ifs (oi X.K f)
structure lA (X:Cx) (e:List Expr) (f:cq):Prop where mk::o:J2 X e f
theorem iV:lA X [] cJ:=⟨fun pins s σ H Q I ai=>by
 obtain⟨ρ,w,t,b,ρ',gd,ee,k⟩:=ai
 cases ee
 exact HF pins s σ H Q I (k H w gd Go.refl)⟩
theorem xp{c:Expr}{g:cq}(h:iS X c g):lA X [c] g:=⟨have h:=h.o;HG h⟩
theorem iW(deep:Bool)(hc:X.calm=true)(S:bI X k N' scope)(hi:rA X tg iter it)(hg:∀ C s H fp,om (eK X N' scope C s H fp) X.N.length tg pt)(ht:∀ C s H fp,lA (eK X N' scope C s H fp) ifs tt)(he:∀ C s H fp,QD (eK X N' scope C s H fp) elt te)(hs:∀ x,foldedSetIterable iter X.env x=pure x:=by intro _;rfl):QD X (.ListComp elt [⟨tg,iter,ifs,0⟩] scope pos) (dF k it pt tt te deep):=⟨have hi:=hi.o;have hg:=fun C s H fp=>(hg C s H fp).o;have ht:=fun C s H fp=>(ht C s H fp).o;have he:=fun C s H fp=>(he C s H fp).o;by
 intro pins s σ H Q I h
 have:=AU σ H Q h
 rw[I.len]at this
 exact HR (N':=N') hc S hi hg ht he hs pins s σ H Q I this⟩
theorem xq{y:Str}{py jS:Pos}(deep:Bool)(hN:X.N.Nodup)(hy:X.N[i]? = some y)(hx:Loc X.env.scope y)(wQ:swapsWith (.ListComp elt [⟨tg,iter,ifs,0⟩] scope pos) (some (.Name y py)) jS.line X.env=pure true)(hc:X.calm=true)(S:bI X k N' scope)(hi:rA X tg iter it)(hg:∀ C s H fp,om (eK X N' scope C s H fp) X.N.length tg pt)(ht:∀ C s H fp,lA (eK X N' scope C s H fp) ifs tt)(he:∀ C s H fp,QD (eK X N' scope C s H fp) elt te)(hs:∀ x,foldedSetIterable iter X.env x=pure x:=by intro _;rfl)(hf:X.fn y=true\/X.env.scope.names.lookup y=some .local:=by first|exact .inl rfl|exact .inr rfl|assumption):iu X (.Assign [.Name y py] (.ListComp elt [⟨tg,iter,ifs,0⟩] scope pos) jS) (bq i (dF k it pt tt te deep)):=⟨have hi:=hi.o;have hg:=fun C s H fp=>(hg C s H fp).o;have ht:=fun C s H fp=>(ht C s H fp).o;have he:=fun C s H fp=>(he C s H fp).o;by
 intro pins s σ H D I h
 have hl:i<σ.length:=by rw[I.len];exact(Qv.mp hy).1
 refine HS (N':=N') (te:=tD X.K te) (tt:=oi X.K tt) (g:=uj X.K X.N.length pt) (wi:=uh X.K it) hN hy hx wQ hc S hi hg ht he hs hf pins s σ H D I ?_
 have z:=AO (te:=tT k (uh X.K it) (uj X.K σ.length pt) (oi X.K tt) (tD X.K te)) hl (fun Q q=>AU σ H Q q) h
 rw[I.len]at z
 exact z⟩
end
mutual
def bN:D->PyData
 | .aS=>.none
 | .bl b=>.bool b
 | .int i=>.int i
 | .str x=>.str x
 | .tup ds=>.tuple (dG ds)
 | .lst ds=>.list (dG ds)
 | .eM _ _=>.none
 | .exc _=>.none
 | .ob _ _ _ _=>.none
 | .mp _ _=>.none
def dG:List D->List PyData
 | []=>[]
 | d::ds=>bN d::dG ds
end
mutual
def fu:D->Bool
 | .eM _ _=>false
 | .exc _=>false
 | .ob _ _ _ _=>false
 | .mp _ _=>false
 | .tup ds=>jn ds
 | .lst ds=>jn ds
 | _=>true
def jn:List D->Bool
 | []=>true
 | d::ds=>fu d&&jn ds
end
def eH (d:D):Bool:=fu d&&SeqAt.shaped (bN d)
theorem mJ{d:D}(h:eH d=true):fu d=true:=(QG.mp h).1
theorem mK{d:D}(h:eH d=true):SeqAt.shaped (bN d)=true:=(QG.mp h).2
def lC (d e:D):Bool:=PyData.eqv (bN d) (bN e)
section
variable {X:Cx}{pins:List (Addr×Obj)}{σ:St}{H:Hp}{s:Shared}
theorem Rep.reads(I:Inv X pins σ H s){w:Wn}{o:Ow}:∀ {q:Nat} {d:D} {v:V} {F:List Addr} {u:Value},Rep X.K H w o q d v F->bj v u->fu d=true->∃ as,Reads s.heap u (bN d) as:=by
 intro q d v F u r
 refine(Rep.rec (motive_1:=fun q d v F _=>∀ u,bj v u->fu d=true->∃ as,Reads s.heap u (bN d) as) (motive_2:=fun q ds vs F _=>∀ us,aR vs us->jn ds=true->∃ as,ReadsAll s.heap us (dG ds) as) ?_ ?_ ?_ ?_ ?_ ?_ ?_ ?_ ?_ ?_ ?_ ?_ ?_ ?_ ?_ r:∀ u,bj v u->fu d=true->∃ as,Reads s.heap u (bN d) as) u
 ·intro q u ru hn;cases ru;exact⟨_,by unfold bN;exact .none⟩
 ·intro q b u ru hn;cases ru;exact⟨_,by unfold bN;exact .bool b⟩
 ·intro q i u ru hn;obtain⟨t,rfl⟩:=ru;exact⟨_,by unfold bN;exact .int i t⟩
 ·intro q x u ru hn;obtain⟨t,rfl⟩:=ru;exact⟨_,by unfold bN;exact .str x t⟩
 ·intro q a vs ds h r ih u ru hn
  cases ru
  obtain⟨ak,rv,p,hz⟩:=I.tuple (cC.of h)
  obtain⟨as,ra⟩:=ih ak rv (by unfold fu at hn;exact hn)
  obtain⟨ob,ho,hc,n,hd⟩:=p
  exact⟨_,by unfold bN;exact .tuple ho hc hd ra⟩
 ·intro q a ks vs ds h e r ih u ru hn;cases hn
 ·intro q a nm ob v h x n u ru hn;cases hn
 ·intro q f c fo oc u1 u2 vs ds h1 h2 x r ih u ru hn;cases hn
 ·intro a vs ds h r ih u ru hn
  cases ru
  obtain⟨ak,rv,p,hz⟩:=I.list h.sq
  obtain⟨as,ra⟩:=ih ak rv (by unfold fu at hn;exact hn)
  obtain⟨ob,ho,hc,n,hd⟩:=p.isList
  exact⟨_,by unfold bN;exact .list ho hc hd ra⟩
 ·intro a vs ds h n0 r ih u ru hn
  cases ru
  obtain⟨ak,rv,p,hz⟩:=I.list (.inl h)
  obtain⟨as,ra⟩:=ih ak rv (by unfold fu at hn;exact hn)
  obtain⟨ob,ho,hc,n,hd⟩:=p.isList
  exact⟨_,by unfold bN;exact .list ho hc hd ra⟩
 ·intro q a vs ds F h e r ne ih u ru hn
  cases ru
  obtain⟨ak,rv,p,hz⟩:=I.list (bX.of h)
  obtain⟨as,ra⟩:=ih ak rv (by unfold fu at hn;exact hn)
  obtain⟨ob,ho,hc,n,hd⟩:=p.isList
  exact⟨_,by unfold bN;exact .list ho hc hd ra⟩
 ·intro a vs ds k x h i e l r ih u ru hn;cases hn
 ·intro q a vs ds k x h i e l r ih u ru hn;cases hn
 ·intro q us ru hn;cases ru;exact⟨_,by unfold dG;exact .nil⟩
 ·intro q d v ds vs F G r s' ne lh lj us ru hn
  cases ru with
  | cons rv J4=>
   unfold jn at hn
   obtain⟨as,ra⟩:=lh _ rv (QG.mp hn).1
   obtain⟨bs,rb⟩:=lj _ J4 (QG.mp hn).2
   exact⟨_,by unfold dG;exact .cons ra rb⟩
end
def Is (K:PySem.W.Frag)(H:Hp)(d:D)(v:V):Prop:=∃ w o q F,Rep K H w o q d v F
def AZ (K:PySem.W.Frag):R2:=fun x y H Q=>∃ d e,Is K H d x/\Is K H e y/\eH d=true/\eH e=true/\Q (.bl (lC d e)) H
def A_ (K:PySem.W.Frag):R2:=fun x y H Q=>∃ d e,Is K H d x/\Is K H e y/\eH d=true/\eH e=true/\Q (.bl (!lC d e)) H
def inD (d:D):D->Option Bool
 | .lst ds=>some ((dG ds).any fun y=>PyData.eqv y (bN d))
 | .tup ds=>some ((dG ds).any fun y=>PyData.eqv y (bN d))
 | _=>none
def Ba (K:PySem.W.Frag)(neg:Bool):R2:=fun x y H Q=>∃ d e b,Is K H d x/\Is K H e y/\eH d=true/\eH e=true/\inD d e=some b/\Q (.bl (if neg then !b else b)) H
section
variable {X:Cx}{a b c e:Expr}{fa fb fc f:aB}{pos:Pos}
theorem Bb(hu:X.A.units+64<cLine):cE X (compareOp .Eq) (AZ X.K):=by
 intro pins s σ H x y v u Q I rx ry ⟨d,e,⟨w,o,q,F,h1⟩,⟨w',o',q',F',h2⟩,k1,k2,hq⟩
 obtain⟨as,ra⟩:=h1.reads I rx (mJ k1)
 obtain⟨bs,rb⟩:=h2.reads I ry (mJ k2)
 exact eq_dataH ra rb (mK k1) (mK k2) hu ⟨.bl _,H,I,rfl,hq⟩
theorem J5(hu:X.A.units+64<cLine):cE X (compareOp .NotEq) (A_ X.K):=by
 intro pins s σ H x y v u Q I rx ry ⟨d,e,⟨w,o,q,F,h1⟩,⟨w',o',q',F',h2⟩,k1,k2,hq⟩
 obtain⟨as,ra⟩:=h1.reads I rx (mJ k1)
 obtain⟨bs,rb⟩:=h2.reads I ry (mJ k2)
 exact ne_dataH ra rb (mK k1) (mK k2) hu ⟨.bl _,H,I,rfl,hq⟩
theorem J6(hu:X.A.units+65<cLine):cE X (compareOp .In) (Ba X.K false):=by
 intro pins s σ H x y v u Q I rx ry ⟨d,e,b,⟨w,o,q,F,h1⟩,⟨w',o',q',F',h2⟩,k1,k2,hb,hq⟩
 obtain⟨as,ra⟩:=h1.reads I rx (mJ k1)
 obtain⟨bs,rb⟩:=h2.reads I ry (mJ k2)
 replace k1:=mK k1
 replace k2:=mK k2
 cases e with
 | lst ds=>
  cases hb
  unfold bN at rb k2
  exact SeqAt.in_list_reads rb ra (Q9 k2) (Q9 k1) (room_in_shaped k1 hu) ⟨.bl _,H,I,rfl,hq⟩
 | tup ds=>
  cases hb
  unfold bN at rb k2
  exact SeqAt.in_tuple_reads rb ra (Q9 k2) (Q9 k1) (room_in_shaped k1 hu) ⟨.bl _,H,I,rfl,hq⟩
 | _=>cases hb
def cK (x y:D):Option D:=if eH x=true/\eH y=true then some (.bl (lC x y))else none
def fJ (x y:D):Option D:=if eH x=true/\eH y=true then some (.bl (!lC x y))else none
def uk (x y:D):Option D:=if eH x=true/\eH y=true then(inD x y).map fun b=>.bl b else none
theorem Bc:∀ σ H Q,tD K (e2 cK fa fb) σ H Q->jk (AZ K) (tD K fa) (tD K fb) σ H Q:=rm fun x y d h=>by
 unfold cK at h
 split at h
 next hk=>
  cases h
  exact⟨_,rfl,fun H w o o' q q' u u' F F' r1 r2 _ Q hq=>⟨x,y,⟨_,_,_,_,r1⟩,⟨_,_,_,_,r2⟩,hk.1,hk.2,hq⟩⟩
 ·cases h
theorem J7:∀ σ H Q,tD K (e2 fJ fa fb) σ H Q->jk (A_ K) (tD K fa) (tD K fb) σ H Q:=rm fun x y d h=>by
 unfold fJ at h
 split at h
 next hk=>
  cases h
  exact⟨_,rfl,fun H w o o' q q' u u' F F' r1 r2 _ Q hq=>⟨x,y,⟨_,_,_,_,r1⟩,⟨_,_,_,_,r2⟩,hk.1,hk.2,hq⟩⟩
 ·cases h
theorem hIn:∀ σ H Q,tD K (e2 uk fa fb) σ H Q->jk (Ba K false) (tD K fa) (tD K fb) σ H Q:=rm fun x y d h=>by
 unfold uk at h
 split at h
 next hk=>
  cases hi:inD x y with
  | none=>rw[hi]at h;cases h
  | some b=>
   rw[hi]at h
   cases h
   exact⟨_,rfl,fun H w o o' q q' u u' F F' r1 r2 _ Q hq=>⟨x,y,b,⟨_,_,_,_,r1⟩,⟨_,_,_,_,r2⟩,hk.1,hk.2,hi,hq⟩⟩
 ·cases h
theorem um{k:Nat}(hr:aD k X.A)(ha:QD X a fa)(hb:QD X b fb):QD X (.Compare a [.Eq] [b] pos) (e2 cK fa fb):=⟨have ha:=ha.o;have hb:=hb.o;ID (Bb hr.units) Bc ha hb (tF _)⟩
theorem lD{k:Nat}(hr:aD k X.A)(ha:QD X a fa)(hb:QD X b fb):iS X (.Compare a [.Eq] [b] pos) (cG (e2 cK fa fb)):=⟨have ha:=ha.o;have hb:=hb.o;ue (Bb hr.units) Bc ha hb (tF _)⟩
theorem pQ{k:Nat}(hr:aD k X.A)(ha:QD X a fa)(hb:QD X b fb):iS X (.Compare a [.NotEq] [b] pos) (cG (e2 fJ fa fb)):=⟨have ha:=ha.o;have hb:=hb.o;ue (J5 hr.units) J7 ha hb (tF _)⟩
theorem Bd{k:Nat}(r:aD k A):A.units+65<cLine:=by have:=r.un;omega
theorem J8{k:Nat}(hr:aD k X.A)(ha:QD X a fa)(hb:QD X b fb)(hm:behindInMarks .In b=false:=by with_unfolding_all rfl):iS X (.Compare a [.In] [b] pos) (cG (e2 uk fa fb)):=⟨have ha:=ha.o;have hb:=hb.o;ue (J6 (Bd hr)) hIn ha hb hm⟩
end
@[simp] def eB (h:List D->Option D)(g:bM):aB:=fun ρ=>match g ρ with
 | some (ds,ρ1)=>match h ds with
  | some d=>some (d,9,ρ1)
  | none=>none
 | none=>none
section
variable {X:Cx}{a b c e:Expr}{es:List Expr}{fa fb fc f:aB}{g:bM}{pos p p1 p2:Pos}
theorem xr{h:List D->Option D}{r:List V->Hp->VK->Prop}(hh:∀ ds d,h ds=some d->∃ v,lq d=some v/\∀ H w vs,WL K w H->ae K H w .f 0 ds vs []->∀ Q:VK,Q v H->r vs H Q) :
  ∀ σ H Q,tD K (eB h g) σ H Q->tG r (xg K g) σ H Q:=fun σ H Q ai=>by
 obtain⟨ρ,w,t,r',q,ρ',gd,ee,k⟩:=ai
 unfold eB at ee
 split at ee
 next ds ρ1 h1=>
  split at ee
  next d hd=>
   cases ee
   obtain⟨v,hv,hr⟩:=hh ds _ hd
   exact⟨ρ,w,t,ds,_,gd,h1,fun vs H1 w1 g1 aO r1=>hr H1 w1 vs g1.wl r1 Q (k v H1 w1 [] g1.up aO (w_ hv))⟩
  ·cases ee
 ·cases ee
theorem one{w:Wn}{o:Ow}{d:D}(r:ae K H w o 0 [d] vs []):∃ v,vs=[v]/\Rep K H w o 0 d v []:=by
 have l:=r.length
 match vs,l with
 | [v],_=>
  obtain⟨v',h1,h2⟩:=r.get (i:=0) rfl
  cases h1
  exact⟨v,rfl,h2⟩
theorem two{w:Wn}{o:Ow}{d d':D}(r:ae K H w o 0 [d,d'] vs []):∃ v v',vs=[v,v']/\Rep K H w o 0 d v []/\Rep K H w o 0 d' v' []:=by
 have l:=r.length
 match vs,l with
 | [v,v'],_=>
  obtain⟨u,h1,h2⟩:=r.get (i:=0) rfl
  obtain⟨u',h3,h4⟩:=r.get (i:=1) rfl
  cases h1
  cases h3
  exact⟨v,v',rfl,h2,h4⟩
def cL:D->Option Nat
 | .lst ds=>some ds.length
 | .tup ds=>some ds.length
 | _=>none
@[simp] def iX:List D->Option D
 | [d]=>(cL d).map fun n=>.int (Int.ofNat n)
 | _=>none
theorem Rep.len{w:Wn}{o:Ow}{q:Nat}{d:D}(r:Rep K H w o q d v F)(h:cL d=some n):∃ p ys,v=.ref p/\(bX K H p ys\/cC K H p ys)/\ys.length=n:=by
 cases d with
 | lst ds=>
  cases h
  obtain⟨p,vs,q',G,rfl,hq,rs⟩:=r.ls
  exact⟨p,vs,rfl,.inl hq,rs.length.symm⟩
 | tup ds=>
  cases h
  obtain⟨p,vs,rfl,hq,rs⟩:=r.d9
  exact⟨p,vs,rfl,.inr hq,rs.length.symm⟩
 | _=>cases h
theorem pR(hm:X.mg "len" = none)(ha:eG X [a] g)(hg:Gl X "len":=by rfl)(he:starEach [a] X.env=(false,eval a X.env)::starEach [] X.env:=by rfl)(bV:(backTo pos (starEach [] X.env)).any (·.1)=false:=by rfl):QD X (.Call (.Name "len" p) [a] [] pos) (eB iX g):=⟨have ha:=ha.o;PE.imp (pC v5 hg hm JS ha (by decide) (by decide) he bV) (xr fun ds d h=>by
  match ds,h with
  | [d0],h=>
   cases hl:cL d0 with
   | none=>simp only[iX,hl,Option.map_none]at h;cases h
   | some n=>
    simp only[iX,hl,Zh,Option.some.injEq]at h
    subst h
    refine⟨_,rfl,fun H w vs wl r Q hq=>?_⟩
    obtain⟨v,rfl,rv⟩:=one r
    obtain⟨p,ys,rfl,hs,hn⟩:=rv.len hl
    exact⟨p,ys,rfl,hs,by rw[hn];exact hq⟩)⟩
@[simp] def bE (i:Nat):aB:=fun ρ=>match ρ[i]? with
 | some (some (d,_))=>match cL d with
  | some n=>some (.int (Int.ofNat n),9,ρ)
  | none=>none
 | _=>none
theorem cT{x:Str}(hm:X.mg "len" = none)(h:QE X (.Name x p1) (fO i))(hg:Gl X "len":=by rfl)(he:starEach [.Name x p1] X.env=(false,eval (.Name x p1) X.env)::starEach [] X.env:=by rfl)(bV:(backTo pos (starEach [] X.env)).any (·.1)=false:=by rfl):QD X (.Call (.Name "len" p) [.Name x p1] [] pos) (bE i):=⟨have h:=h.o;PE.imp (pC v5 hg hm JS (ml h pA he) (by decide) (by decide) he bV) fun σ H Q ai=>by
 obtain⟨ρ,w,t,r',q,ρ',gd,ee,k⟩:=ai
 unfold bE at ee
 split at ee
 next d q0 e0=>
  split at ee
  next n hn=>
   cases ee
   obtain⟨v,F,h1,h2⟩:=gd.slot i d q0 e0
   obtain⟨p,ys,rfl,hs,hl⟩:=h2.len hn
   exact⟨_,h1,p,ys,rfl,hs,by rw[hl];exact k _ H w [] gd.up Go.refl (.int _)⟩
  ·cases ee
 ·cases ee⟩
@[simp] def uo:List D->Option D
 | [.int i,.int j]=>some (.int (if j > i then j else i))
 | _=>none
theorem Be(hc:X.calm=true)(hm:X.mg "max" = none)(hb:bootBuiltins "max" = some (.builtin "max"))(ha:eG X (a::es) g)(hg:Gl X "max":=by rfl)(he:starEach (a::es) X.env=(false,eval a X.env)::starEach es X.env:=by rfl)(bV:(backTo pos (starEach es X.env)).any (·.1)=false:=by rfl):QD X (.Call (.Name "max" p) (a::es) [] pos) (eB uo g):=⟨have ha:=ha.o;PE.imp (pC (FU hc) hg hm hb ha (by decide) (by decide) he bV) (xr fun ds d h=>by
  unfold uo at h
  split at h
  next i j=>
   cases h
   refine⟨_,rfl,fun H w vs wl r Q hq=>?_⟩
   obtain⟨v,v',rfl,r1,r2⟩:=two r
   exact⟨i,j,by rw[eN r1,eN r2],hq⟩
  ·cases h)⟩
@[simp] def rC (g:bM):aB:=fun ρ=>match g ρ with
 | some ([.lst ds],ρ1)=>some (.lst ds,1,ρ1)
 | some ([.tup ds],ρ1)=>some (.lst ds,1,ρ1)
 | _=>none
theorem J9(hm:X.mg "list" = none)(hb:bootBuiltins "list" = some (.type "list"))(ha:eG X [a] g)(hg:Gl X "list":=by rfl)(he:starEach [a] X.env=(false,eval a X.env)::starEach [] X.env:=by rfl)(bV:(backTo pos (starEach [] X.env)).any (·.1)=false:=by rfl):QD X (.Call (.Name "list" p) [a] [] pos) (rC g):=⟨have ha:=ha.o;PE.imp (tH G2 hg hm hb ha (by decide) (by decide) he bV) fun σ H Q ai=>by
 obtain⟨ρ,w,t,r',q,ρ',gd,ee,k⟩:=ai
 unfold rC at ee
 split at ee
 next ds ρ1 h1=>
  cases ee
  refine⟨ρ,w,t,_,_,gd,h1,fun vs H1 w1 g1 aO r1=>?_⟩
  obtain⟨v,rfl,rv⟩:=one r1
  obtain⟨p,ys,rfl,hs,rs⟩:=rv.eO
  refine⟨p,ys,rfl,.inl hs,fun l hl=>?_⟩
  obtain⟨a1,a2,a3⟩:=pK g1 hl rs
  exact k _ _ _ _ a1 (aO.trans a2) a3
 next ds ρ1 h1=>
  cases ee
  refine⟨ρ,w,t,_,_,gd,h1,fun vs H1 w1 g1 aO r1=>?_⟩
  obtain⟨v,rfl,rv⟩:=one r1
  obtain⟨p,ys,rfl,hs,rs⟩:=rv.d9
  refine⟨p,ys,rfl,.inr hs,fun l hl=>?_⟩
  obtain⟨a1,a2,a3⟩:=pK g1 hl rs
  exact k _ _ _ _ a1 (aO.trans a2) a3
 ·cases ee⟩
@[simp] def ix (g:bM):aB:=fun ρ=>match g ρ with
 | some ([.lst ds],ρ1)=>some (.tup ds,9,ρ1)
 | some ([.tup ds],ρ1)=>some (.tup ds,9,ρ1)
 | _=>none
theorem mL(hm:X.mg "tuple" = none)(hb:bootBuiltins "tuple" = some (.type "tuple"))(ha:eG X [a] g)(hg:Gl X "tuple":=by rfl)(he:starEach [a] X.env=(false,eval a X.env)::starEach [] X.env:=by rfl)(bV:(backTo pos (starEach [] X.env)).any (·.1)=false:=by rfl):QD X (.Call (.Name "tuple" p) [a] [] pos) (ix g):=⟨have ha:=ha.o;PE.imp (tH G3 hg hm hb ha (by decide) (by decide) he bV) fun σ H Q ai=>by
 obtain⟨ρ,w,t,r',q,ρ',gd,ee,k⟩:=ai
 unfold ix at ee
 split at ee
 next ds ρ1 h1=>
  cases ee
  refine⟨ρ,w,t,_,_,gd,h1,fun vs H1 w1 g1 aO r1=>?_⟩
  obtain⟨v,rfl,rv⟩:=one r1
  obtain⟨p,ys,rfl,hs,rs⟩:=rv.eO
  refine⟨p,ys,rfl,.inl ⟨hs,fun l hl=>?_⟩⟩
  obtain⟨a1,a2,a3⟩:=pL g1 hl rs
  exact k _ _ _ _ a1 (aO.trans a2) a3
 next ds ρ1 h1=>
  cases ee
  refine⟨ρ,w,t,_,_,gd,h1,fun vs H1 w1 g1 aO r1=>?_⟩
  obtain⟨v,rfl,rv⟩:=one r1
  have rr:=rv
  obtain⟨p,ys,rfl,hs,rs⟩:=rv.d9
  refine⟨p,ys,rfl,.inr ⟨hs,?_⟩⟩
  exact k _ H1 w1 [] g1.up aO (((rr.cc rfl).2 9).any g1.wl)
 ·cases ee⟩
def Bf (ta:TA):TE:=fun σ H Q=>ta σ H fun vs H1=>∃ j:Int,vs=[.int j] /\ -(2 ^ 62)<=j/\j<2 ^ 62/\∀ p,H1 p=none->Q (.ref p) (upd H1 p (.jH 0 j))
theorem Bg{ta:TA}(hg:Gl X "range")(hm:X.mg "range" = none)(ha:PA X [a] ta)(hs:starEach [a] X.env=[(false,eval a X.env)]:=by rfl):PE X (.Call (.Name "range" p) [a] [] pos) (Bf ta):=by
 intro pins s σ H Q I h
 refine Call_ (qH I hg hm boot_range (ZJ (aV (ha pos pins s σ H _ I h) fun us s1 ⟨vs,H1,I1,r1,q1⟩=>?_) hs rfl))
 obtain⟨j,e,q1,q2,q⟩:=q1
 subst e
 cases r1 with
 | cons r rr=>
  cases rr
  obtain⟨t,rfl⟩:=r
  refine call_range_1 ?_
  exact⟨.ref s1.heap.objs.size,upd H1 s1.heap.objs.size (.jH 0 j),I1.laid (fun b u e=>Qf _ e) (Qc _) ⟨_,_,_,Qs _ rfl⟩,rfl,q _ (I1.aF.fresh (Qc _))⟩
end
theorem Bh{j:Int}(h1:-(2 ^ 62)<=j)(h2:j<2 ^ 62):Builtin.Range.small 0 j 1=true:=by
 have hs:Builtin.Range.rangeSize 0 j 1=((j.toNat:Nat):Int):=by
  simp[Builtin.Range.rangeSize]<;>split<;>omega
 simp only[Builtin.Range.small,hs,Builtin.Range.rangeFitsLong]
 simp
 omega
theorem Bi(j:Int):Builtin.Range.rangeSize 0 j 1=((j.toNat:Nat):Int):=by
 simp[Builtin.Range.rangeSize]<;>split<;>omega
theorem Bj{acc:Array Value}(h:ItemsOf (fun i v=>∃ t,v=Value.int (0+(i:Nat)*1) t) acc n):aR (mD n) acc.toList:=by
 have key:∀ (us:List Value) (k:Nat),(∀ j v,us[j]? = some v->∃ t,v=Value.int (((k+j:Nat)):Int) t)->aR ((List.range' k us.length).map fun i=>V.int (Int.ofNat i)) us:=by
  intro us
  induction us with
  | nil=>intro k _;exact .nil
  | cons u r ih=>
   intro k hk
   obtain⟨t,e⟩:=hk 0 u rfl
   refine .cons ⟨t,by rw[e];rfl⟩ (ih (k+1) fun j v hv=>?_)
   obtain⟨t',e'⟩:=hk (j+1) v (by simpa using hv)
   exact⟨t',by rw[e'];congr 2;omega⟩
 have:=key acc.toList 0 fun j v hv=>by
  obtain⟨t,e⟩:=h.2 j v (by simpa using hv)
  exact⟨t,by rw[e];congr 1;omega⟩
 have hl:acc.toList.length=n:=by simpa using h.1
 rw[hl]at this
 unfold mD
 rw[List.range_eq_range']
 exact this
section
variable {prog:Program}{w:World}{A:Around}{E:Value->Shared->Prop}{s:Shared}
open AutoSeq1 (wpAny_loadPart')
theorem J_{Q:List Value->Shared->Prop}{r:Addr}{a:Int}{t v:Tok}(hh:A.handled=none)(hr:IsRange s.heap r a b c t u v)(eQ:Builtin.Range.small a b c=true)(hn:Builtin.Range.rangeSize a b c=n)(hlen:n<=2 ^ 24)
  (hQ:∀ h' tk aX,(∀ b o',s.heap.get? b=some o'->h'.get? b=some o')->ItemsOf (fun i v=>∃ t,v=.int (a+i*c) t) aX n->Q aX.toList { s with heap:=h',toks:=tk }) :
  wpAny (model prog w) A (collect (.ref r)) Q E s:=by
 unfold collect
 refine Qb (wpAny_runValue (Z9 F.entry_proto_collect ?_))
 rw[Around.under_plainId F.plain_proto_collect _]
 show wpAny _ A.in1 (newList [] >>= fun l=>again (.builtin "list.__iadd__" ⟨[l,.ref r],[]⟩)) _ _ s
 refine Qb (Ze ?_)
 refine Qk ⟨plainId_quiet F.plain_list_iadd _,Z9 F.entry_list_iadd ?_⟩
 rw[Around.under_plainId F.plain_list_iadd _]
 show wpAny _ A.in1 (Builtin.List.listExtendWith (.ref s.heap.objs.size) (.ref r) (.ref s.heap.objs.size)) _ _ _
 have hS:(s.heap.push { cls:=.type "list",data:=.seq ([]:List Value).toArray }).get? s.heap.objs.size=some { cls:=.type "list",data:=.seq #[] 0 }:=Qs _ rfl
 have rD:∀ (h':Heap) (tk:Nat) (aX:Array Value) (c':Nat),(∀ b o,b≠s.heap.objs.size->(s.heap.push { cls:=.type "list",data:=.seq ([]:List Value).toArray }).get? b=some o->h'.get? b=some o)->
   h'.get? s.heap.objs.size=some { cls:=.type "list",dict:=none,data:=.seq aX c',slots:=#[] }->ItemsOf (fun i v=>∃ t,v=.int (a+i*c) t) aX n->wpAny (model prog w) A (match Value.ref s.heap.objs.size with
   | Value.ref a=>do
    match (<- load a).data with
     | Data.seq xs _=>pure xs.toList
     | _=>unsupported "internal:collect"
   | _=>unsupported "internal:collect") Q E { s with heap:=h',toks:=tk }:=fun h' tk aX c' hk lE cP=>by
  show wpAny _ A (load s.heap.objs.size >>= _) _ _ _
  refine Qb (wpAny_load lE ?_)
  refine Qk (hQ h' tk aX (fun b o' hb=>?_) cP)
  exact hk b o' (QX (Qn hb)) (Qf _ hb)
 refine Zr (wpAny_extend_range (A:=A) (R:=fun rs s'=>rs=.ok (.ret (.ref s.heap.objs.size))/\∃ h' tk aX c',s'={ s with heap:=h',toks:=tk }/\(∀ b o,b≠s.heap.objs.size->(s.heap.push { cls:=.type "list",data:=.seq ([]:List Value).toArray }).get? b=some o->h'.get? b=some o) /\
   h'.get? s.heap.objs.size=some { cls:=.type "list",dict:=none,data:=.seq aX c',slots:=#[] }/\ItemsOf (fun i v=>∃ t,v=.int (a+i*c) t) aX n)
  (s:={ s with heap:=s.heap.push { cls:=.type "list",data:=.seq ([]:List Value).toArray } }) hh (Qf _ hr) eQ hn hlen s.heap.objs.size (.ref s.heap.objs.size) 0 hS (fun h' tk aX c' hk lE cP=>⟨rfl,h',tk,aX,c',rfl,hk,lE,cP⟩)) (fun fin s' h=>?_) (fun e s' h=>?_)
 ·cases fin with
  | done f=>
   obtain⟨e,h',tk,aX,c',rfl,hk,lE,cP⟩:=h
   cases e
   exact rD h' tk aX c' hk lE cP
  | again c'=>exact⟨h.1,Jg h.2 fun r pB hr=>by
    obtain⟨rfl,h',tk,aX,c',rfl,hk,lE,cP⟩:=hr
    exact rD h' tk aX c' hk lE cP⟩
 ·exact absurd h.1 (by simp)
end
theorem Ka(r:Addr)(a b c:Int)(t u v:Tok)(n:Nat)(eQ:Builtin.Range.small a b c=true)(hn:Builtin.Range.rangeSize a b c=n)(hlen:n<=2 ^ 24) :
  Meets (Builtin.«tuple.__new__» ⟨[.type "tuple",.ref r],[]⟩)
   (fun A R s=>A.handled=none/\IsRange s.heap r a b c t u v/\∀ (h':Heap) tk aX,(∀ b o',s.heap.get? b=some o'->h'.get? b=some o')->ItemsOf (fun i v=>∃ t,v=.int (a+i*c) t) aX n->R (.ok (.ret (.ref h'.objs.size))) { s with heap:=h'.push { cls:=.type "tuple",data:=.seq aX },toks:=tk }):=
 .of_wp fun prog w A R s h=>by
  obtain⟨hp,g,d,tk,os⟩:=s;obtain⟨hh,hr,h⟩:=h
  have eL:=sub_tuple_self
  have Bk:=init_tuple_lookup
  have RW:=madeHere_tuple
  have hT:Shared.TypeIs ⟨hp,g,d,tk,os⟩ (.ref r) "range":=⟨_,hr,rfl⟩
  have Kb:A.in1.handled=none:=hh
  wp_walk using AutoSeq1.wpAny_loadPart' hr,JE hT,J_ Kb hr eQ hn hlen
  intro h' Kc aX hk cP
  show wpAny _ _ (Builtin.Tuple.tupleExact aX.toList.toArray >>= fun v=>ret v) _ _ _
  unfold Builtin.Tuple.tupleExact
  have hsz:aX.size<=sizeLine:=by rw[cP.1];exact hlen
  refine Qb (Ze ?_ (by show aX.toList.toArray.size<=sizeLine;simpa using hsz))
  refine Qk ⟨_,rfl,?_⟩
  have e:aX.toList.toArray=aX:=by simp
  rw[e]
  exact h h' Kc aX hk cP
theorem Kd{prog:Program}{w:World}{E:Value->Shared->Prop}{s:Shared}{r:Addr}{a:Int}{t v:Tok}{Q:Value->Shared->Prop}(hh:A.handled=none)(hr:IsRange s.heap r a b c t u v)(eQ:Builtin.Range.small a b c=true)(hn:Builtin.Range.rangeSize a b c=n)(hlen:n<=2 ^ 24)
  (h:∀ (h':Heap) tk aX,(∀ b o',s.heap.get? b=some o'->h'.get? b=some o')->ItemsOf (fun i v=>∃ t,v=.int (a+i*c) t) aX n->Q (.ref h'.objs.size) { s with heap:=h'.push { cls:=.type "tuple",data:=.seq aX },toks:=tk }) :
  wpAny (model prog w) A (call (.type "tuple") [.ref r]) Q E s:=
 callType_new F.called_tuple (by decide) (F.typeCall_tuple_1 _) (F.newCall_tuple_1 _) (fun obj=>F.args_object_init_2 obj _) F.entry_tuple_new
  (Ka r a b c t u v n eQ hn hlen) ⟨hh,hr,fun h' tk aX hk cP=>⟨⟨_,Qs _ rfl,rfl⟩,h h' tk aX hk cP⟩⟩
section
variable {X:Cx}
def xt (mk:List V->HO):List V->Hp->VK->Prop:=fun xs H Q=>∃ a j,xs=[.ref a]/\H a=some (.jH 0 j) /\ -1000<=j/\j<=1000/\∀ p,H p=none->Q (.ref p) (upd H p (mk (mD j.toNat)))
theorem Ke(hc:X.calm=true):kr X (.type "list") (xt .lst):=by
 intro pins s σ H xs us Q I r h
 obtain⟨a,j,rfl,hr,j1,j2,q⟩:=h
 obtain⟨u,rfl,rx⟩:=nO r
 cases rx
 obtain⟨t,u,v,ho⟩:=(show cM X.prog X.w H s.heap a (.jH 0 j)from I.aF a _ hr)
 refine call_list_range (I.ok.hd hc) ho (Bh (by omega) (by omega)) (Bi j) (by omega) fun h' tk aX c' hk lE cP=>?_
 refine⟨.ref s.heap.objs.size,_,I.laid (t':=tk) (o:=.lst (mD j.toNat)) hk (Qc _) ⟨by rw[AQ];exact QK (by omega:j.toNat<=1000) (by decide),aX.toList,c',Bj cP,by simpa using lE⟩,rfl,q _ (I.aF.fresh (Qc _))⟩
theorem Kf(hc:X.calm=true):kr X (.type "tuple") (xt .tup):=by
 intro pins s σ H xs us Q I r h
 obtain⟨a,j,rfl,hr,j1,j2,q⟩:=h
 obtain⟨u,rfl,rx⟩:=nO r
 cases rx
 obtain⟨t,u,v,ho⟩:=(show cM X.prog X.w H s.heap a (.jH 0 j)from I.aF a _ hr)
 refine Kd (I.ok.hd hc) ho (Bh (by omega) (by omega)) (Bi j) (by omega) fun h' tk aX hk cP=>?_
 have I1:Inv X pins σ H { s with heap:=h',toks:=tk }:=I.kept hk
 have I2:Inv X pins σ (upd H h'.objs.size (.tup (mD j.toNat))) { s with heap:=h'.push { cls:=.type "tuple",data:=.seq aX },toks:=tk }:=
  I1.laid (t':=tk) (fun b o e=>Qf _ e) (Qc _) (show cM X.prog X.w _ _ _ (.tup _)from⟨by rw[AQ];exact QK (by omega:j.toNat<=1000) (by decide),aX.toList,Bj cP,by simpa using jz.new h' aX⟩)
 exact⟨.ref h'.objs.size,_,I2,rfl,q _ (I1.aF.fresh (Qc _))⟩
variable {a:Expr}{g:bM}{pos p p1 jo:Pos}
@[simp] def mM (g:bM):aB:=fun ρ=>match b6 g ρ with
 | some (ds,ρ1)=>some (.lst ds,1,ρ1)
 | none=>none
@[simp] def Bl (g:bM):aB:=fun ρ=>match b6 g ρ with
 | some (ds,ρ1)=>some (.tup ds,9,ρ1)
 | none=>none
theorem Bm{mk:List V->HO}{q0:Nat}{md:List D->D}(al:∀ {ρ:aN} {σ:St} {H1:Hp} {w1:Wn} {t:Nat} {p:Addr} {vs:List V} {ds:List D},Good K ρ σ H1 w1 t->H1 p=none->ae K H1 w1 .f 0 ds vs []->∃ w' F,Good K ρ σ (upd H1 p (mk vs)) w' (t+1)/\Go H1 w1 (upd H1 p (mk vs)) w'/\Rep K (upd H1 p (mk vs)) w' (.t t) q0 (md ds) (.ref p) F) :
  ∀ σ H Q,tD K (fun ρ=>match b6 g ρ with
   | some (ds,ρ1)=>some (md ds,q0,ρ1)
   | none=>none) σ H Q->tG (xt mk) (zQ (Bf (xg K g)) vV) σ H Q:=fun σ H Q ai=>by
 obtain⟨ρ,w,t,r',q,ρ',gd,ee,k⟩:=ai
 dsimp only at ee
 split at ee
 next ds ρ1 h1=>
  cases ee
  unfold b6 at h1
  split at h1
  next n ρ2 h2=>
   split at h1
   next hn=>
    cases h1
    refine⟨ρ,w,t,_,_,gd,h2,fun vs H1 w1 g1 aO r1=>?_⟩
    obtain⟨v,rfl,rv⟩:=one r1
    have hv:=eN rv
    subst hv
    refine⟨n,rfl,by omega,by omega,fun p hp=>⟨p,n,rfl,fi,hn.1,hn.2,fun l hl=>?_⟩⟩
    have ne:∀ a x,H1 a=some x->a≠p:=fun a x e=>ib e hp
    have st:cz H1 w1 (upd H1 p (.jH 0 n)) w1:=fun a x e nn=>⟨sm (by rw[ba (ne a x e)];exact e),nn⟩
    have nw:∀ a o,w1 a=some o->a≠p:=fun a o e=>by obtain⟨vs,q⟩:=g1.wl a o e;exact ne a _ q
    have g2:Good K ρ' σ (upd H1 p (.jH 0 n)) w1 t:=⟨⟨fun a o e=>by
     obtain⟨us,q⟩:=g1.wl a o e
     exact⟨us,by rw[ba (nw a o e)];exact q⟩,g1.wl.tb.upd rfl (.inl hp)⟩,g1.ws,g1.wt,g1.len,fun i d q e=>by
     obtain⟨v,F,h1,h2⟩:=g1.slot i d q e
     exact⟨v,F,h1,Rep.go g1.wl st h2 fun a m=>⟨ba (nw a _ (h2.av a m)),h2.av a m⟩⟩⟩
    have bQ:Go H1 w1 (upd H1 p (.jH 0 n)) w1:=⟨st,fun a o e _=>⟨ba (nw a o e),e⟩⟩
    obtain⟨w',F,a1,a2,a3⟩:=al g2 hl (IJ n.toNat)
    exact k _ _ _ _ a1 ((aO.trans bQ).trans a2) a3
   ·cases h1
  ·cases h1
 ·cases ee
theorem xu(hc:X.calm=true)(hm:X.mg "list" = none)(hb:bootBuiltins "list" = some (.type "list"))(xw:X.mg "range" = none)(ha:eG X [a] g)(hg:Gl X "list":=by rfl)(xx:Gl X "range":=by rfl)(hs:starEach [a] X.env=[(false,eval a X.env)]:=by rfl)(he:starEach [.Call (.Name "range" p1) [a] [] jo] X.env=(false,eval (.Call (.Name "range" p1) [a] [] jo) X.env)::starEach [] X.env:=by rfl)(bV:(backTo pos (starEach [] X.env)).any (·.1)=false:=by rfl):QD X (.Call (.Name "list" p) [.Call (.Name "range" p1) [a] [] jo] [] pos) (mM g):=⟨have ha:=ha.o;PE.imp (tH (Ke hc) hg hm hb (ml (Bg xx xw ha hs) pA he) (by decide) (by decide) he bV) (Bm fun g hp r=>by
  obtain⟨a1,a2,a3⟩:=pK g hp r
  exact⟨_,_,a1,a2,a3⟩)⟩
theorem Kg(hc:X.calm=true)(hm:X.mg "tuple" = none)(hb:bootBuiltins "tuple" = some (.type "tuple"))(xw:X.mg "range" = none)(ha:eG X [a] g)(hg:Gl X "tuple":=by rfl)(xx:Gl X "range":=by rfl)(hs:starEach [a] X.env=[(false,eval a X.env)]:=by rfl)(he:starEach [.Call (.Name "range" p1) [a] [] jo] X.env=(false,eval (.Call (.Name "range" p1) [a] [] jo) X.env)::starEach [] X.env:=by rfl)(bV:(backTo pos (starEach [] X.env)).any (·.1)=false:=by rfl):QD X (.Call (.Name "tuple" p) [.Call (.Name "range" p1) [a] [] jo] [] pos) (Bl g):=⟨have ha:=ha.o;PE.imp (tH (Kf hc) hg hm hb (ml (Bg xx xw ha hs) pA he) (by decide) (by decide) he bV) (Bm fun g hp r=>by
  obtain⟨a1,a2,a3⟩:=pL g hp r
  exact⟨_,_,a1,a2,a3⟩)⟩
end
end L3
namespace L3
open PySem PySem.Spec PyProof.Rows L2
theorem Kh{M:Model}{A:Around}{E:Value->Shared->Prop}{s:Shared}{β:Type}{n:Nat}(f:Nat->β->Sem (ForInStep β))(I:List Nat->β->Shared->Prop)(Q:β->Shared->Prop)(b:β)
  (turn:∀ x bC b s,I (x::bC) b s->wpAny M A (f x b) (fun r s'=>match r with|.yield b'=>I bC b' s' | .done b'=>Q b' s') E s)
  (fin:∀ b s,I [] b s->Q b s) (h:I (List.range' 0 n 1) b s):wpAny M A (forIn [0:n] b f) Q E s:=by
 rw[Std.Legacy.Range.forIn_eq_forIn_range']
 refine wpAny_forIn_list f I Q turn fin _ b ?_
 have e:(Std.Legacy.Range.size [0:n])=n:=by simp[Std.Legacy.Range.size]
 show I (List.range' 0 (Std.Legacy.Range.size [0:n]) 1) b s
 rw[e]
 exact h
open AutoSeq1 (wpAny_loadPart') in
theorem Ki(l:Addr)(items:Array Value)(n:Nat)(dd:Option Addr)(sl:Array (Option Value))(x:Value)(e:Value->Bool)(j:Nat)(hj:j<items.size)(hit:e items[j]=true)(vY:∀ m (hm:m<items.size),m<j->e items[m]=false) :
  Meets (Builtin.«tuple.index» ⟨[.ref l,x],[]⟩)
   (fun A R s=>s.heap.get? l=some { cls:=.type "tuple",dict:=dd,data:=.seq items n,slots:=sl }/\(∀ y,y∈items->SeqAt.EqAt A.in1 s y x (e y))/\R (.ok (.ret (.int j s.toks))) { s with toks:=s.toks+1 }):=
 .of_wp fun prog w A R s h=>by
  obtain⟨hp,g,d,tk,os⟩:=s;obtain⟨hl,he,h⟩:=h
  wp_walk using wpAny_loadPart' hl,Kh _ (fun bC b s'=>b.1=none/\s'=⟨hp,g,d,tk,os⟩/\∃ i k,bC=List.range' i k 1/\i+k=items.size/\i<=j) _
  case turn=>
   rintro y bC b s' ⟨hb,rfl,i,k,hr,Kj,xy⟩
   cases k with
   | zero=>simp at hr
   | succ k=>
    rw[List.range'_succ]at hr
    obtain⟨rfl,rfl⟩:=List.cons.inj hr
    have dt:y<items.size:=by omega
    have xA:items[y]? = some items[y]:=by simp[dt]
    rw[xA]
    refine Qb (he _ (Array.getElem_mem dt) prog w _ _ ?_)
    by_cases Kk:y=j
    ·subst Kk
     rw[hit]
     wp_walk
     exact⟨_,rfl,h⟩
    ·rw[vY y dt (by omega)]
     wp_walk
     exact⟨rfl,rfl,y+1,k,rfl,by omega,by omega⟩
  case fin=>
   rintro ⟨b1,b2⟩ s' ⟨hb,rfl,i,k,hr,Kj,xy⟩
   cases k with
   | zero=>omega
   | succ k=>simp[List.range'_succ]at hr
  case h=>
   exact⟨rfl,rfl,0,items.size,by simp,by omega,by omega⟩
end L3
namespace L3
open PySem PySem.Spec PyProof.Rows L2
variable {F:List Addr}{H:Hp}{K:PySem.W.Frag}{N ps:List Str}{P:Program}{Q:Value->Shared->Prop}{base:Heap}{body:ay}{d:D}{ds:List D}{i n q t:Nat}{mg:Str->Option Value}{o:Ow}{st:Stmt}{u:Value}{vs:List V}{w:Wn}{x:Str}{ρ:aN}{σ:St}
def uq (d:D)(ds:List D):Option Nat:=(dG ds).findIdx? fun y=>PyData.eqv y (bN d)
def Kl (K:PySem.W.Frag):V->List V->Hp->VK->Prop:=fun x xs H Q=>∃ ds d y j,xs=[y]/\Is K H (.tup ds) x/\Is K H d y/\eH (.tup ds)=true/\eH d=true/\uq d ds=some j/\Q (.int (Int.ofNat j)) H
section
variable {X:Cx}{a b c e:Expr}{es:List Expr}{fa fb fc f:aB}{g:bM}{pos p p1 p2 aK apos:Pos}
theorem Km(hu:X.A.units+65<cLine):Ad X "tuple.index" (Kl X.K):=by
 intro pins s σ H x xs v us Q I rx rs ⟨ds,d,y,j,e,⟨w,o,q,F,h1⟩,⟨w',o',q',F',h2⟩,k1,k2,hj,hq⟩
 subst e
 obtain⟨u,rfl,ru⟩:=nO rs
 obtain⟨as,ra⟩:=h1.reads I rx (mJ k1)
 obtain⟨bs,rb⟩:=h2.reads I ru (mJ k2)
 replace k1:=mK k1
 replace k2:=mK k2
 unfold bN at ra k1
 have mO:PyData.canLayAll0 (dG ds)=true:=Q9 k1
 have kx:=Q9 k2
 cases ra with
 | @tuple a ob vs n _ _ ho Bn hd Bo=>
  obtain⟨cls,dd,data,sl⟩:=ob
  simp only at Bn hd
  subst Bn hd
  have rE:=SeqAt.readsAll_map _ _ _ mO Bo
  have Kn:=List.findIdx?_eq_some_iff_getElem.mp hj
  obtain⟨xB,Ko,Kp⟩:=Kn
  have hlen:vs.size=(dG ds).length:=by rw[<- rE];simp
  have ur:∀ m (hm:m<vs.size) (ot:m<(dG ds).length),SeqAt.readOf s.heap vs[m]=(dG ds)[m]:=fun m hm ot=>by
   have:(vs.toList.map (SeqAt.readOf s.heap))[m]? = (dG ds)[m]?:=by rw[rE]
   simpa [hm,ot]using this
  refine ZT Jw ⟨_,ho,rfl⟩ PySem.F.entry_tuple_index (PySem.F.args_tuple_index_2 _ _)
   (Ki a vs n dd sl u (fun y=>PyData.eqv (SeqAt.readOf s.heap y) (bN d)) j (by omega) (by rw[ur j (by omega) xB];simpa using Ko) (fun m hm Kq=>by rw[ur m hm (by omega)];simpa using Kp m Kq)) ⟨ho,SeqAt.items_eqAt Bo rb mO kx (room_in_shaped k2 hu),?_⟩
  exact⟨.int (Int.ofNat j),H,I.tok _,⟨_,rfl⟩,hq⟩
@[simp] def xC (fo:aB)(g:bM):aB:=fun ρ=>match fo ρ with
 | some (.tup ds,_,ρ1)=>match g ρ1 with
  | some ([d],ρ2)=>if eH (.tup ds)=true/\eH d=true then match uq d ds with
   | some j=>some (.int (Int.ofNat j),9,ρ2)
   | none=>none
   else none
  | _=>none
 | _=>none
theorem Kr{k:Nat}(hr:aD k X.A)(ho:QD X a fa)(ha:eG X [e] g)(dk:attributeBase a "index" X.env (eval a X.env)=eval a X.env:=by rfl)(gn:((backTo aK (starEach [e] X.env)).all (fun x=>!x.1)&&(backToKw aK (keywordEach [] X.env)).all (fun x=>x.1.isSome)
   && decide ([e].length+([]:List Keyword).length+(if([]:List Keyword).isEmpty then 0 else 1)<30))=true:=by rfl) (dm:(apos.endLine==aK.line)=true:=by rfl) (hs:starEach [e] X.env=(false,eval e X.env)::starEach [] X.env:=by rfl) (cW:(backTo aK (starEach [] X.env)).any (·.1)=false:=by rfl):QD X (.Call (.Attribute a "index" apos) [e] [] aK) (xC fa g):=⟨have ho:=ho.o;have ha:=ha.o;PE.imp (v7 PySem.F.plainAttrs_tuple Jw PySem.F.type_tuple_index (Km (Bd hr)) ho ha dk gn dm hs cW) fun σ H Q ai=>by
 obtain⟨ρ,w,t,r',q,ρ',gd,ee,k⟩:=ai
 unfold xC at ee
 split at ee
 next ds q1 ρ1 h1=>
  split at ee
  next d ρ2 h2=>
   split at ee
   next aF=>
    split at ee
    next j hj=>
     cases ee
     refine⟨ρ,w,t,_,_,_,gd,h1,fun v H1 w1 F1 g1 aO r1=>?_⟩
     have r0:=r1.drop (o:=.f) (Qc t)
     have gg:=g1.drop (t':=t)
     obtain⟨p0,vs,rfl,hq,rs⟩:=r0.rp
     refine⟨?_,ρ1,bZ t w1,t,_,_,gg,h2,fun uu H2 w2 g2 bQ r2=>?_⟩
     ·exact .inr (.inl ⟨rfl,.inr ⟨_,hq⟩⟩)
     ·obtain⟨v2,rfl,Ks⟩:=one r2
      have r3:Rep X.K H2 w2 .f 0 (.tup ds) (.ref p0) []:=r0.mE gg.wl bQ.bo
      exact⟨ds,d,v2,j,rfl,⟨_,_,_,_,r3⟩,⟨_,_,_,_,Ks⟩,aF.1,aF.2,hj,k _ H2 w2 [] g2.up ((aO.drop gd.wt).trans bQ) (.int _)⟩
    ·cases ee
   ·cases ee
  ·cases ee
 ·cases ee⟩
theorem Good.mut(g:Good K ρ σ H w t)(e:ρ[i]? = some (some (.lst ds,1))) :
  ∃ l vs,σ[i]? = some (some (.ref l))/\H l=some (.lst vs)/\ae K H w .f 0 ds vs []/\∀ bg gE,ae K H w .f 0 bg gE []->
   Good K (ρ.set i (some (.lst bg,1))) σ (upd H l (.lst gE)) w t/\Go H w (upd H l (.lst gE)) w:=by
 obtain⟨v,F,h1,h2⟩:=g.slot i _ _ e
 cases h2 with
 | @own _ l vs _ F' hl hw rs ne=>
  have hF:=rs.zero
  subst hF
  refine⟨l,vs,h1,hl,rs.any g.wl,fun bg gE r'=>?_⟩
  have nl:∀ a o,w a=some o->o ≠ .s i->a≠l:=fun a o e n z=>by subst z;rw[hw]at e;exact n (Qp e).symm
  have nn:∀ a,w a=none->a≠l:=fun a e z=>by subst z;rw[hw]at e;cases e
  have st:cz H w (upd H l (.lst gE)) w:=fun a x h n=>⟨sm (by rw[ba (nn a n)];exact h),n⟩
  refine⟨⟨⟨fun a o h=>?_,g.wl.tb.upd rfl (.inr (g.wl l _ hw))⟩,g.ws,g.wt,by rw[QJ];exact g.len,fun j d' q' e'=>?_⟩,⟨st,fun a o h n=>⟨ba (nl a o h (n i)),h⟩⟩⟩
  ·by_cases z:a=l
   ·subst z;exact⟨.l _,fi⟩
   ·obtain⟨us,q⟩:=g.wl a o h
    exact⟨us,by rw[ba z];exact q⟩
  ·by_cases hj:i=j
   ·subst hj
    rw[Qz (Qv.mp e).1]at e'
    cases e'
    exact⟨_,_,h1,.own fi hw (ae.go g.wl st r' nM) (fun z=>nomatch z)⟩
   ·rw[Qx hj]at e'
    obtain⟨v',F',lF,eo⟩:=g.slot j d' q' e'
    exact⟨v',F',lF,Rep.go g.wl st eo fun a m=>⟨ba (nl a _ (eo.av a m) (fun z=>hj (by cases z;rfl))),eo.av a m⟩⟩
@[simp] def pS:Option (OD)->Bool
 | some (some (.lst _,_))=>true
 | _=>false
theorem Good.bY(g:Good K ρ σ H w t)(h:pS ρ[i]? = true):∃ l,σ[i]? = some (some (.ref l))/\∃ vs,bX K H l vs:=by
 unfold pS at h
 split at h
 next ds q e=>
  obtain⟨v,F,h1,h2⟩:=g.slot i _ _ e
  obtain⟨p,vs,_,_,rfl,hq,_⟩:=h2.ls
  exact⟨p,h1,vs,hq⟩
 ·cases h
@[simp] def hU (i:Nat)(g:bM):aB:=fun ρ=>if pS ρ[i]? = true then match g ρ with
 | some ([d],ρ1)=>match ρ1[i]? with
  | some (some (.lst ds,1))=>if ds.length<=1000 then some (.aS,9,ρ1.set i (some (.lst (ds++[d]),1)))else none
  | _=>none
 | _=>none
 else none
theorem kD(h:QE X (.Name x p1) (fO i))(ha:eG X [e] g)(dk:attributeBase (.Name x p1) "append" X.env (eval (.Name x p1) X.env)=eval (.Name x p1) X.env:=by rfl)(gn:((backTo aK (starEach [e] X.env)).all (fun x=>!x.1)&&(backToKw aK (keywordEach [] X.env)).all (fun x=>x.1.isSome)
   && decide ([e].length+([]:List Keyword).length+(if([]:List Keyword).isEmpty then 0 else 1)<30))=true:=by rfl) (dm:(apos.endLine==aK.line)=true:=by rfl) (hs:starEach [e] X.env=(false,eval e X.env)::starEach [] X.env:=by rfl) (cW:(backTo aK (starEach [] X.env)).any (·.1)=false:=by rfl):QD X (.Call (.Attribute (.Name x p1) "append" apos) [e] [] aK) (hU i g):=⟨have h:=h.o;have ha:=ha.o;PE.imp (v7 JB PySem.F.slot_list_append PySem.F.type_list_append G8 h ha dk gn dm hs cW) fun σ H Q ai=>by
 obtain⟨ρ,w,t,r',q,ρ',gd,ee,k⟩:=ai
 unfold hU at ee
 split at ee
 next hl=>
  obtain⟨l,eP,us,hq⟩:=gd.bY hl
  split at ee
  next d ρ1 h1=>
   split at ee
   next ds e1=>
    split at ee
    next hlen=>
     cases ee
     refine⟨_,eP,.inl ⟨rfl,us,hq⟩,ρ,w,t,_,_,gd,h1,fun vs H1 w1 g1 aO r1=>?_⟩
     obtain⟨v,rfl,rv⟩:=one r1
     obtain⟨l',ws,gP,hH,rs,mk⟩:=g1.mut e1
     rw[eP]at gP
     cases gP
     have r2:ae X.K H1 w1 .f 0 (ds++[d]) (ws++[v]) []:=ae.snoc (F:=[]) (G:=[]) rv rs nM
     obtain⟨m1,m2⟩:=mk _ _ r2
     refine⟨l,ws,v,rfl,rfl,hH,by rw[<- rs.length];exact pF hlen,?_⟩
     exact k .aS _ w1 [] m1.up (aO.trans m2) .aS
    ·cases ee
   ·cases ee
  ·cases ee
 ·cases ee⟩
theorem ae.eraseIdx:∀ {ds:List D} {vs:List V} (i:Nat),ae K H w .f 0 ds vs []->ae K H w .f 0 (ds.eraseIdx i) (vs.eraseIdx i) []
 | ds,vs,i,r=>by
  generalize hF:([]:List Addr)=F at r
  cases r with
  | nil=>exact .nil
  | @cons _ d v ds vs F G r s _=>
   have h1:F=[]:=r.zero
   have h2:G=[]:=s.zero
   subst h1 h2
   cases i with
   | zero=>exact s
   | succ j=>exact .cons (F:=[]) (G:=[]) r (ae.eraseIdx j s) nM
@[simp] def lG (i:Nat)(g:bM):aB:=fun ρ=>if pS ρ[i]? = true then match g ρ with
 | some ([.int n],ρ1)=>match ρ1[i]? with
  | some (some (.lst ds,1))=>if -1000<=n/\n<=1000 then match seqIndex? n ds.length with
   | some j=>match ds[j]? with
    | some d=>some (d,b_ d,ρ1.set i (some (.lst (ds.eraseIdx j),1)))
    | none=>none
   | none=>none
   else none
  | _=>none
 | _=>none
 else none
theorem Bp(h:QE X (.Name x p1) (fO i))(ha:eG X [e] g)(dk:attributeBase (.Name x p1) "pop" X.env (eval (.Name x p1) X.env)=eval (.Name x p1) X.env:=by rfl)(gn:((backTo aK (starEach [e] X.env)).all (fun x=>!x.1)&&(backToKw aK (keywordEach [] X.env)).all (fun x=>x.1.isSome)
   && decide ([e].length+([]:List Keyword).length+(if([]:List Keyword).isEmpty then 0 else 1)<30))=true:=by rfl) (dm:(apos.endLine==aK.line)=true:=by rfl) (hs:starEach [e] X.env=(false,eval e X.env)::starEach [] X.env:=by rfl) (cW:(backTo aK (starEach [] X.env)).any (·.1)=false:=by rfl):QD X (.Call (.Attribute (.Name x p1) "pop" apos) [e] [] aK) (lG i g):=⟨have h:=h.o;have ha:=ha.o;PE.imp (v7 JB PySem.F.slot_list_pop PySem.F.type_list_pop G_ h ha dk gn dm hs cW) fun σ H Q ai=>by
 obtain⟨ρ,w,t,r',q,ρ',gd,ee,k⟩:=ai
 unfold lG at ee
 split at ee
 next hl=>
  obtain⟨l,eP,us,hq⟩:=gd.bY hl
  split at ee
  next n ρ1 h1=>
   split at ee
   next ds e1=>
    split at ee
    next hn=>
     split at ee
     next j hj=>
      split at ee
      next d hd=>
       cases ee
       refine⟨_,eP,.inl ⟨rfl,us,hq⟩,ρ,w,t,_,_,gd,h1,fun vs H1 w1 g1 aO r1=>?_⟩
       obtain⟨v,rfl,rv⟩:=one r1
       have hv:=eN rv
       subst hv
       obtain⟨l',ws,gP,hH,rs,mk⟩:=g1.mut e1
       rw[eP]at gP
       cases gP
       obtain⟨y,hy,ry⟩:=rs.get hd
       obtain⟨m1,m2⟩:=mk _ _ (rs.eraseIdx j)
       refine⟨l,ws,n,j,y,rfl,rfl,hH,by omega,by omega,by rw[<- rs.length];exact hj,hy,?_⟩
       have Ku:Rep X.K _ w1 (.t t) 0 r' y []:=Rep.go g1.wl m2.bo ry nM
       exact k y _ w1 [] m1.up (aO.trans m2) Ku.iq
      ·cases ee
     ·cases ee
    ·cases ee
   ·cases ee
  ·cases ee
 ·cases ee⟩
end
theorem ae.rF:∀ {ds:List D} {vs:List V} {F:List Addr} {i:Nat} {d:D},ae K H w o q ds vs F->ds[i]? = some d->∃ v G,vs[i]? = some v/\Rep K H w o q d v G/\∀ a∈G,a∈F
 | _,_,_,_,_,.nil,e=>by simp at e
 | _,_,_,0,_,.cons r _ _,e=>by
  simp at e;subst e;exact⟨_,_,rfl,r,fun a m=>QM _ m⟩
 | _,_,_,i+1,d,.cons _ s _,e=>by
  obtain⟨v,G,h1,h2,h3⟩:=ae.rF (i:=i) (d:=d) s (by simpa using e)
  exact⟨v,G,by simpa using h1,h2,fun a m=>Qi _ (h3 a m)⟩
theorem ae.Bq{i:Int}(r:ae K H w o q ds vs F)(h:L2.cO ds i=some d):∃ v G,L2.cO vs i=some v/\Rep K H w o q d v G/\∀ a∈G,a∈F:=by
 unfold L2.cO at h ⊢
 rw[<- r.length]
 cases e:gD ds.length i with
 | none=>rw[e]at h;cases h
 | some j=>
  rw[e]at h
  exact r.rF h
@[simp] def aU (n:Nat)(fb:aB):aB:=fun ρ=>match ρ[n]? with
 | some (some _)=>match fb ρ with
  | some (.int i,_,ρ2)=>match ρ2[n]? with
   | some (some (x,q))=>match bJ x i with
    | some d=>if d.bY=true/\1<q/\x.bY=true then none else some (d,b_ d,ρ2)
    | none=>none
   | _=>none
  | _=>none
 | _=>none
section
variable {X:Cx}{a b c e:Expr}{es:List Expr}{fa fb fc f:aB}{g:bM}{pos p p1 p2 aK apos:Pos}
theorem bF(h:QE X (.Name x p1) (fO n))(hb:QD X b fb)(hs:pD b:=by exact fun _ _=>rfl):QD X (.Subscript (.Name x p1) b pos) (aU n fb):=⟨have h:=h.o;have hb:=hb.o;PE.imp (qR qS h hb hs) fun σ H Q ai=>by
 obtain⟨ρ,w,t,r',q,ρ',gd,ee,k⟩:=ai
 unfold aU at ee
 split at ee
 next z0 e0=>
  obtain⟨d0,q0⟩:=z0
  obtain⟨v,F,eP,_⟩:=gd.slot n d0 q0 e0
  split at ee
  next i q2 ρ2 h2=>
   split at ee
   next x q e2=>
    split at ee
    next d hd=>
     split at ee
     ·cases ee
     next hn=>
      cases ee
      refine⟨v,eP,ρ,w,t,_,_,_,gd,h2,fun y H2 w2 F2 g2 go r2=>?_⟩
      have hy:=eN r2
      subst hy
      have gg:=g2.drop (t':=t)
      obtain⟨v',F',gP,rr⟩:=gg.slot n x q e2
      rw[eP]at gP
      cases gP
      have fin:∀ u,Rep X.K H2 (bZ t w2) (.t t) 0 r' u []->Q u H2:=fun u ru=>k u H2 (bZ t w2) [] gg.up (go.drop gd.wt) ru.iq
      cases x with
      | lst ds=>
       by_cases Kv:q=0
       ·subst Kv
        obtain⟨p0,vs,rfl,hq,rs⟩:=rr.eO
        obtain⟨u,hu,ru⟩:=rs.cO hd
        exact .inl ⟨p0,vs,i,u,rfl,rfl,hq,hu,fin u (ru.any gg.wl)⟩
       ·by_cases Kw:q=1
        ·subst Kw
         cases rr with
         | own h0 _ rs _=>
          have z0:=rs.zero
          subst z0
          obtain⟨u,hu,ru⟩:=rs.cO hd
          exact .inl ⟨_,_,i,u,rfl,rfl,bX.of h0,hu,fin u (ru.any gg.wl)⟩
        ·obtain⟨p0,vs,q',G,rfl,hq,rs⟩:=rr.ls
         obtain⟨u,G',hu,ru,_⟩:=rs.Bq hd
         refine .inl ⟨p0,vs,i,u,rfl,rfl,hq,hu,fin u ?_⟩
         cases hL:r'.bY with
         | false=>exact((ru.cc hL).2 0).any gg.wl
         | true=>exact absurd ⟨hL,by omega,rfl⟩ hn
      | tup ds=>
       obtain⟨p0,vs,rfl,hq,rs⟩:=rr.d9
       obtain⟨u,hu,ru⟩:=rs.cO hd
       exact .inr (.inl ⟨p0,vs,i,u,rfl,rfl,hq,hu,fin u (ru.any gg.wl)⟩)
      | _=>cases hd
    ·cases ee
   ·cases ee
  ·cases ee
 ·cases ee⟩
@[simp] def pU (fa fb:aB):aB:=fun ρ=>match fa ρ with
 | some (.lst ds,1,ρ1)=>match fb ρ1 with
  | some (.int n,_,ρ2)=>if -1000<=n/\n<=1000/\ds.length*n.toNat<=1000 then some (.lst (List.replicate n.toNat ds).flatten,1,ρ2)else none
  | _=>none
 | _=>none
theorem ae.app{es:List D}{us:List V}(s:ae K H w .f 0 es us []):∀ {ds:List D} {vs:List V},ae K H w .f 0 ds vs []->ae K H w .f 0 (ds++es) (vs++us) []
 | ds,vs,r=>by
  generalize hF:([]:List Addr)=F at r
  cases r with
  | nil=>rw[<- hF];exact s
  | @cons _ d v ds vs F G r t _=>
   have h1:F=[]:=r.zero
   have h2:G=[]:=t.zero
   subst h1 h2
   exact .cons (F:=[]) (G:=[]) r (ae.app s t) nM
theorem ae.times(r:ae K H w .f 0 ds vs []):∀ n:Nat,ae K H w .f 0 (List.replicate n ds).flatten (List.replicate n vs).flatten []
 | 0=>.nil
 | n+1=>by
  rw[Zb,Zb,Zp,Zp]
  exact ae.app (ae.times r n) r
theorem Br(ha:QD X a fa)(hb:QD X b fb):QD X (.BinOp a .Mult b pos) (pU fa fb):=⟨have ha:=ha.o;have hb:=hb.o;PE.imp (mi Hb ha hb) fun σ H Q ai=>by
 obtain⟨ρ,w,t,r',q,ρ',gd,ee,k⟩:=ai
 unfold pU at ee
 split at ee
 next ds ρ1 h1=>
  split at ee
  next n q2 ρ2 h2=>
   split at ee
   next hn=>
    cases ee
    refine oa gd h1 h2 fun u u' H2 w2 F1 F2 g2 go r1 r2=>?_
    have xf:=eN r2
    subst xf
    cases r1 with
    | @own _ l vs _ F hl hw rs ne=>
     have hF:=rs.zero
     subst hF
     have gg:=g2.drop (t':=t)
     have lH:ae X.K H2 (bZ t w2) .f 0 ds vs []:=ae.go g2.wl (fun a x h n=>⟨sm h,t7 n⟩) rs nM
     refine⟨l,n,vs,rfl,rfl,hl,by omega,by omega,?_,fun p hp=>?_⟩
     ·rw[<- rs.length];exact oh hn.2.2
     ·obtain⟨a1,a2,a3⟩:=pK gg hp (lH.times n.toNat)
      exact k _ _ _ _ a1 ((go.drop gd.wt).trans a2) a3
   ·cases ee
  ·cases ee
 ·cases ee⟩
end
theorem ae.row(wl:WL K w H):∀ {rows:List D} {vs:List V} {F:List Addr} {i:Nat} {row:List D},ae K H w o 1 rows vs F->rows[i]? = some (.lst row)->
  ∃ b ws,vs[i]? = some (.ref b)/\H b=some (.lst ws)/\w b=some o/\b∈F/\ae K H w .f 0 row ws [] /\
   ∀ fK iY,ae K H w .f 0 fK iY []->ae K (upd H b (.lst iY)) w o 1 (rows.set i (.lst fK)) vs F
 | _,_,_,_,_,.nil,e=>by simp at e
 | _,_,_,0,row,.cons r s ne,e=>by
  simp at e
  subst e
  cases r with
  | @own _ b ws _ F' hb hw rs nb=>
   have hF:=rs.zero
   subst hF
   refine⟨b,ws,rfl,hb,hw,by simp,rs.any wl,fun fK iY r'=>?_⟩
   have nn:∀ a,w a=none->a≠b:=fun a e z=>by subst z;rw[hw]at e;cases e
   have st:cz H w (upd H b (.lst iY)) w:=fun a x h n=>⟨sm (by rw[ba (nn a n)];exact h),n⟩
   refine .cons (.own fi hw (ae.go wl st r' nM) (fun z=>nomatch z)) (ae.go wl st s fun a m=>⟨ba fun z=>?_,s.av a m⟩) ne
   subst z
   exact ne a (by simp) m
 | _,_,_,i+1,row,.cons (d:=d) (v:=v) (F:=F) (G:=G) r s ne,e=>by
  obtain⟨b,ws,h1,h2,h3,h4,h5,mk⟩:=ae.row wl (i:=i) (row:=row) s (by simpa using e)
  refine⟨b,ws,by simpa using h1,h2,h3,Qi _ h4,h5,fun fK iY r'=>?_⟩
  have nn:∀ a,w a=none->a≠b:=fun a e z=>by subst z;rw[h3]at e;cases e
  have st:cz H w (upd H b (.lst iY)) w:=fun a x h n=>⟨sm (by rw[ba (nn a n)];exact h),n⟩
  refine .cons (Rep.go wl st r fun a m=>⟨ba fun z=>?_,r.av a m⟩) (mk fK iY r') ne
  subst z
  exact ne a m h4
theorem Good.xD{m:Nat}{rows row:List D}(g:Good K ρ σ H w t)(e:ρ[i]? = some (some (.lst rows,2)))(em:rows[m]? = some (.lst row)) :
  ∃ l vs b ws,σ[i]? = some (some (.ref l))/\bX K H l vs/\vs.length=rows.length/\vs[m]? = some (.ref b)/\H b=some (.lst ws)/\ae K H w .f 0 row ws []/\∀ fK iY,ae K H w .f 0 fK iY []->
   Good K (ρ.set i (some (.lst (rows.set m (.lst fK)),2))) σ (upd H b (.lst iY)) w t/\Go H w (upd H b (.lst iY)) w:=by
 obtain⟨v,F,h1,h2⟩:=g.slot i _ _ e
 cases h2 with
 | @own _ l vs _ F' hl hw rs nl=>
  obtain⟨b,ws,b1,b2,b3,b4,b5,mk⟩:=ae.row g.wl rs em
  have Kx:l≠b:=fun z=>by subst z;exact nl b4
  refine⟨l,vs,b,ws,h1,bX.of hl,rs.length.symm,b1,b2,b5,fun fK iY r'=>?_⟩
  have Bs:∀ a o,w a=some o->o ≠ .s i->a≠b:=fun a o e n z=>by subst z;rw[b3]at e;exact n (Qp e).symm
  have nn:∀ a,w a=none->a≠b:=fun a e z=>by subst z;rw[b3]at e;cases e
  have st:cz H w (upd H b (.lst iY)) w:=fun a x h n=>⟨sm (by rw[ba (nn a n)];exact h),n⟩
  refine⟨⟨⟨fun a o h=>?_,g.wl.tb.upd rfl (.inr (g.wl b _ b3))⟩,g.ws,g.wt,by rw[QJ];exact g.len,fun j d' q' e'=>?_⟩,⟨st,fun a o h n=>⟨ba (Bs a o h (n i)),h⟩⟩⟩
  ·by_cases z:a=b
   ·subst z;exact⟨.l _,fi⟩
   ·obtain⟨us,q⟩:=g.wl a o h
    exact⟨us,by rw[ba z];exact q⟩
  ·by_cases hj:i=j
   ·subst hj
    rw[Qz (Qv.mp e).1]at e'
    cases e'
    exact⟨_,_,h1,.own (by rw[ba Kx];exact hl) hw (mk fK iY r') nl⟩
   ·rw[Qx hj]at e'
    obtain⟨v',F',lF,eo⟩:=g.slot j d' q' e'
    exact⟨v',F',lF,Rep.go g.wl st eo fun a m=>⟨ba (Bs a _ (eo.av a m) (fun z=>hj (by cases z;rfl))),eo.av a m⟩⟩
theorem ae.rG{v:V}(rv:Rep K H w .f 0 d v []):∀ {ds:List D} {vs:List V} (i:Nat),ae K H w .f 0 ds vs []->ae K H w .f 0 (ds.set i d) (vs.set i v) []
 | ds,vs,i,r=>by
  generalize hF:([]:List Addr)=F at r
  cases r with
  | nil=>rw[<- hF];exact .nil
  | @cons _ d' v' ds vs F G r s _=>
   have h1:F=[]:=r.zero
   have h2:G=[]:=s.zero
   subst h1 h2
   cases i with
   | zero=>exact .cons (F:=[]) (G:=[]) rv s nM
   | succ j=>exact .cons (F:=[]) (G:=[]) r (ae.rG rv j s) nM
abbrev jq:=aN->Option Int
def tQ (K:PySem.W.Frag)(f:jq):TE:=fun σ H Q=>∃ ρ w t i,Good K ρ σ H w t/\f ρ=some i/\Q (.int i) H
abbrev PQ (X:Cx)(e:Expr)(f:jq):Prop:=PE X e (tQ X.K f)
structure QQ (X:Cx) (e:Expr) (f:jq):Prop where mk::o:PQ X e f
@[simp] def ou (n:Nat):jq:=fun ρ=>match ρ[n]? with
 | some (some (.int i,_))=>some i
 | _=>none
@[simp] def ow (n:Nat)(f:jq):jq:=fun ρ=>match f ρ with
 | some i=>match ρ[n]? with
  | some (some (x,_))=>match bJ x i with
   | some (.int j)=>some j
   | _=>none
  | _=>none
 | none=>none
section
variable {X:Cx}{a b c e:Expr}{es:List Expr}{fa fb fc f:aB}{qa qb:jq}{g:bM}{pos p p1 p2 aK apos:Pos}
theorem Bu(h:QE X (.Name x p1) (fO n)):QQ X (.Name x p1) (ou n):=⟨have h:=h.o;PE.imp h fun σ H Q ai=>by
 obtain⟨ρ,w,t,i,gd,ee,k⟩:=ai
 unfold ou at ee
 split at ee
 next j q e0=>
  cases ee
  obtain⟨v,F,h1,h2⟩:=gd.slot n _ _ e0
  rw[eN h2]at h1
  exact⟨_,h1,k⟩
 ·cases ee⟩
theorem Bv(h:QE X (.Name x p1) (fO n))(hb:QQ X b qb)(hs:pD b:=by exact fun _ _=>rfl):QQ X (.Subscript (.Name x p1) b pos) (ow n qb):=⟨have h:=h.o;have hb:=hb.o;PE.imp (qR qS h hb hs) fun σ H Q ai=>by
 obtain⟨ρ,w,t,i,gd,ee,k⟩:=ai
 unfold ow at ee
 split at ee
 next i0 h0=>
  split at ee
  next x q e0=>
   split at ee
   next j hj=>
    cases ee
    obtain⟨v,F,h1,h2⟩:=gd.slot n _ _ e0
    refine⟨v,h1,ρ,w,t,i0,gd,h0,?_⟩
    cases x with
    | lst ds=>
     obtain⟨p0,vs,q',G,rfl,hq,rs⟩:=h2.ls
     obtain⟨u,G',hu,ru,_⟩:=rs.Bq hj
     rw[eN ru]at hu
     exact .inl ⟨p0,vs,i0,_,rfl,rfl,hq,hu,k⟩
    | tup ds=>
     obtain⟨p0,vs,rfl,hq,rs⟩:=h2.d9
     obtain⟨u,hu,ru⟩:=rs.cO hj
     rw[eN ru]at hu
     exact .inr (.inl ⟨p0,vs,i0,_,rfl,rfl,hq,hu,k⟩)
    | _=>cases hj
   ·cases ee
  ·cases ee
 ·cases ee⟩
@[simp] def rH (n:Nat)(qi qj:jq)(fe:aB):ay:=fun ρ=>match fe ρ with
 | some (d,_,ρ1)=>match qi ρ1,qj ρ1,ρ1[n]? with
  | some i,some j,some (some (.lst rows,2))=>match gD rows.length i with
   | some m=>match rows[m]? with
    | some (.lst row)=>match gD row.length j with
     | some k=>some (.nx (ρ1.set n (some (.lst (rows.set m (.lst (row.set k d))),2))))
     | none=>none
    | _=>none
   | none=>none
  | _,_,_=>none
 | none=>none
theorem Ky(h:QE X (.Name x p1) (fO n))(ha:QQ X a qa)(hb:QQ X b qb)(he:QD X e f)(hi:pD a:=by exact fun _ _=>rfl)(xE:∀ v,assign (.Subscript (.Subscript (.Name x p1) a p2) b p) X.env v=(do
   let ov <- holding [v] (eval (.Subscript (.Name x p1) a p2) X.env)
   let iv <- holding [v,ov] (eval b X.env)
   standAt p
   holding [v,ov,iv] (setItem ov iv v)
   release [v,ov,iv] []):=by exact fun _=>rfl) (hs:swapsWithSole [.Subscript (.Subscript (.Name x p1) a p2) b p] e pos.line X.env=pure false:=by rfl):iu X (.Assign [.Subscript (.Subscript (.Name x p1) a p2) b p] e pos) (rH n qa qb f):=⟨have h:=h.o;have ha:=ha.o;have hb:=hb.o;have he:=he.o;by
 refine PS.imp (zz he (Fn (qR qS h ha hi) hb GY xE) hs) fun D σ H ⟨ρ,w,o,gd,ee,k⟩=>?_
 unfold rH at ee
 split at ee
 next d q0 ρ1 h1=>
  split at ee
  next i j rows hi hj er=>
   split at ee
   next m hm=>
    split at ee
    next row xF=>
     split at ee
     next kk hk=>
      cases ee
      refine⟨ρ,w,0,d,q0,ρ1,gd,h1,fun v H1 w1 F1 g1 aO r1=>?_⟩
      have rv:=r1.drop (o:=.f) (Qc 0)
      have gg:=g1.drop (t':=0)
      obtain⟨l,vs,b0,ws,m1,m2,m3,m4,m5,m6,mk⟩:=gg.xD er xF
      refine⟨_,m1,ρ1,bZ 0 w1,0,i,gg,hi,.inl ⟨l,vs,i,.ref b0,rfl,rfl,m2,?_,ρ1,bZ 0 w1,0,j,gg,hj,b0,ws,j,kk,rfl,rfl,m5,?_,?_⟩⟩
      ·unfold cO;rw[m3,hm];exact m4
      ·rw[<- m6.length];exact hk
      ·obtain⟨n1,n2⟩:=mk _ _ (m6.rG rv kk)
       exact k _ _ _ rfl n1 ((aO.drop gd.wt).trans n2)
     ·cases ee
    ·cases ee
   ·cases ee
  ·cases ee
 ·cases ee⟩
end
@[simp] def kE (fa fb:aB):aB:=fun ρ=>match fa ρ with
 | some (.bl b,_,ρ1)=>if b=true then fb ρ1 else some (.bl false,9,ρ1)
 | _=>none
@[simp] def xG (fa:aB):aB:=fun ρ=>match fa ρ with
 | some (.bl b,_,ρ1)=>some (.bl (!b),9,ρ1)
 | _=>none
section
variable {X:Cx}{a b c e:Expr}{es bC:List Expr}{fa fb fc f:aB}{g:bM}{pos p p1 p2 aK apos:Pos}
theorem uv{op}(h:QD X a fa):QD X (.BoolOp op [a] pos) fa:=⟨have h:=h.o;EW h⟩
theorem rJ(ha:QD X a fa)(hb:QD X (.BoolOp .And (b::bC) pos) fb):QD X (.BoolOp .And (a::b::bC) pos) (kE fa fb):=⟨have ha:=ha.o;have hb:=hb.o;PE.imp (EX ha hb) fun σ H Q ai=>by
 obtain⟨ρ,w,t,r',q,ρ',gd,ee,k⟩:=ai
 unfold kE at ee
 split at ee
 next b' q1 ρ1 h1=>
  refine⟨ρ,w,t,_,_,_,gd,h1,fun v H1 w1 F1 g1 aO r1=>?_⟩
  cases r1
  refine⟨b',rfl,?_⟩
  split at ee
  ·rename_i hb;rw[Qe hb]
   exact⟨ρ1,bZ t w1,t,r',q,ρ',g1.drop,ee,fun v H2 w2 F g2 bQ=>k v H2 w2 F g2 ((aO.drop gd.wt).trans bQ)⟩
  ·rename_i hb;rw[Qh hb]
   cases ee
   exact k _ H1 w1 [] g1 aO (.bl false)
 ·cases ee⟩
theorem Kz(ha:QD X a fa):QD X (.UnaryOp .Not a pos) (xG fa):=⟨have ha:=ha.o;PE.imp (EY ha) fun σ H Q ai=>by
 obtain⟨ρ,w,t,r',q,ρ',gd,ee,k⟩:=ai
 unfold xG at ee
 split at ee
 next b' q1 ρ1 h1=>
  cases ee
  refine⟨ρ,w,t,_,_,_,gd,h1,fun v H1 w1 F1 g1 aO r1=>?_⟩
  cases r1
  exact⟨b',rfl,k _ H1 w1 [] g1 aO (.bl _)⟩
 ·cases ee⟩
end
section
variable {es bC:List Expr}{a b c e:Expr}{pos:Pos}{env:Env}
theorem et{op}:starEach (.BinOp a op b pos::bC) env=(false,eval (.BinOp a op b pos) env)::starEach bC env:=by simp only[starEach]
theorem KA:starEach (.IfExp a b c pos::bC) env=(false,eval (.IfExp a b c pos) env)::starEach bC env:=by simp only[starEach]
theorem pV{g sc}:starEach (.ListComp a g sc pos::bC) env=(false,eval (.ListComp a g sc pos) env)::starEach bC env:=by simp only[starEach]
theorem bD{k}:starEach (.Call a es k pos::bC) env=(false,eval (.Call a es k pos) env)::starEach bC env:=by simp only[starEach]
theorem pW{v k}:starEach (.Constant v k pos::bC) env=(false,eval (.Constant v k pos) env)::starEach bC env:=by simp only[starEach]
theorem lI{x}:starEach (.Attribute a x pos::bC) env=(false,eval (.Attribute a x pos) env)::starEach bC env:=by simp only[starEach]
theorem gp:starEach (.Subscript a b pos::bC) env=(false,eval (.Subscript a b pos) env)::starEach bC env:=by simp only[starEach]
theorem eI{x}:starEach (.Name x pos::bC) env=(false,eval (.Name x pos) env)::starEach bC env:=by simp only[starEach]
theorem rK:starEach (.List es pos::bC) env=(false,eval (.List es pos) env)::starEach bC env:=by simp only[starEach]
theorem uw{k}:starEach (.Tuple es k pos::bC) env=(false,eval (.Tuple es k pos) env)::starEach bC env:=by simp only[starEach]
end
def At (K:PySem.W.Frag)(mg:Str->Option Value)(x:Str)(st:Stmt)(ps:List Str):Prop:=
 ∃ f fd,iN K x x st f fd/\mg x=some (.ref f)/\gL K fd ps []
def au (P:Program)(w:World)(K:PySem.W.Frag)(mg:Str->Option Value)(base:Heap)(k:Nat)(x:Str)(n:Nat)(F:List D->OD):Prop:=
 ∃ f fd ps,bO P w K mg base c_ k f fd ps (iR K n F)/\mg x=some (.ref f)/\PySem.W.keepIn K (.ref f)=true/\gL K fd ps []
theorem au.mk{w:World}{k:Nat}(a:At K mg x st ps)(S:af N ps (aG st))
  (h:∀ (f:Addr) (aQ:Value) (A:Around) (outer:List Env) (s:Shared) (H:Hp) (E:XK),aD k (A.deeper (envOfC x (aG st) s.heap.objs.size f aQ))->lu (fP c_ P w K mg base N x (aG st) f aQ A outer s H E).gj (d7 st) body) :
  au P w K mg base (k+1) x ps.length (bw N.length body):=by
 obtain⟨f,fd,F,m,b⟩:=a
 exact⟨f,fd,ps,xk F S (h f),m,F.kp,b⟩
section
variable {X:Cx}{a b c e:Expr}{es bC:List Expr}{fa fb fc f:aB}{g:bM}{pos p p1 p2 aK apos:Pos}
theorem a_{j k:Nat}{F:List D->OD}(C:au X.prog X.w X.K X.mg X.base k x n F)(hr:aD j X.A)(hk:k<=j)(ha:eG X (e::es) g)(hg:Gl X x:=by rfl)(il:(x==("__debug__":Str))=false:=by decide)(he:starEach (e::es) X.env=(false,eval e X.env)::starEach es X.env:=by rfl)(bV:(backTo pos (starEach es X.env)).any (·.1)=false:=by rfl):QD X (.Call (.Name x p) (e::es) [] pos) (aH F n g):=⟨have ha:=ha.o;by
 obtain⟨f,fd,ps,G,hm,xH,hb⟩:=C
 exact Iz G (hr.mono hk) hm xH hb pE ha hg il he bV⟩
end
theorem TB.only(h:wg H)(hn:∀ x∈pI,PySem.W.tabIn K x=none):TB K H:=by
 refine⟨fun P ps e=>?_,fun P ps e=>?_,fun x hx c P e=>by rw[hn x hx]at e;cases e⟩<;>rcases h P with z|⟨o,xs,z⟩<;>rw[e]at z<;>cases z
theorem KC{F:List D->OD}(h:∀ ns:List Int,ns.length<=63->∃ q,F [.lst (ns.map D.int)]=some (.bl true,q)){a:Addr}{ns:List Int}(hl:ns.length<=63)(hS:bX K H a (ns.map V.int))(tb:TB K H){E:XK} :
  iR K 1 F [.ref a] H (fun v _=>v=.bl true) E:=by
 obtain⟨q,e⟩:=h ns hl
 have r:Rep K H (fun _=>none) .f 0 (.lst (ns.map D.int)) (.ref a) []:=by
  rcases bX.cases hS with z|z
  ·exact .shr z rfl (ui ns)
  ·exact .kl z (ui ns)
 exact⟨rfl,[.lst (ns.map D.int)],fun _=>none,.bl true,q,(fun a o z=>nomatch z),⟨(fun a o z=>nomatch z),tb⟩,.cons (F:=[]) (G:=[]) r .nil nM,e,fun v H' w' Fo _ _ rr=>by cases rr;rfl⟩
theorem KD{w:World}{k:Nat}{f:Addr}{fd:FuncData}(F:iN K x x st f fd)(S:af N ps (aG st))
  (h:∀ (f:Addr) (aQ:Value) (A:Around) (outer:List Env) (s:Shared) (H:Hp) (E:XK),aD k (A.deeper (envOfC x (aG st) s.heap.objs.size f aQ))->lu (fP c_ P w K mg base N x (aG st) f aQ A outer s H E).gj (d7 st) body) :
  bO P w K mg base c_ (k+1) f fd ps (iR K ps.length (bw N.length body)):=xk F S (h f)
section
variable {X:Cx}{a b c e:Expr}{es elts:List Expr}{fa fb fc f:aB}{g:bM}{pos p p1 p2 tp:Pos}{kt:Nat}
@[simp] def RX (g:bM):iT:=fun ρ=>match g ρ with
 | some ([.tup ds,.tup es],ρ1)=>if ds.length<=1000 then some ((ds.zip es).map fun x=>.tup [x.1,x.2],ρ1)else none
 | _=>none
end
abbrev lJ:=List D->aN->Option aN
def KG (K:PySem.W.Frag)(b:Nat)(pt:lJ):kU:=fun vs σ H Q=>∃ ds ρ w t ρ',Good K ρ σ H w t/\ae K H w .f 0 ds vs []/\pt ds ρ=some ρ'/\∀ aA H' w',aA.length=σ.length->(∀ i,i<b->aA[i]? = σ[i]?)->Good K ρ' aA H' w' t->Go H w H' w'->Q aA H'
theorem ko.imp{X:Cx}{tg:List Expr}{t t':kU}(h:ko X tg t)(i:∀ v σ H Q,t' v σ H Q->t v σ H Q):ko X tg t':=fun pins s σ H v u Q I r q=>h pins s σ H v u Q I r (i v σ H Q q)
abbrev KH (X:Cx)(b:Nat)(tg:List Expr)(pt:lJ):Prop:=ko X tg (KG X.K b pt)
structure lK (X:Cx) (b:Nat) (e:List Expr) (f:lJ):Prop where mk::o:KH X b e f
@[simp] def ux:lJ:=fun ds ρ=>match ds with
 | []=>some ρ
 | _=>none
@[simp] def jY (pt:ek)(ps:lJ):lJ:=fun ds ρ=>match ds with
 | []=>none
 | d::r=>match pt d ρ with
  | some ρ1=>ps r ρ1
  | none=>none
@[simp] def xI (ps:lJ):ek:=fun d ρ=>match d with
 | .tup ds=>ps ds ρ
 | _=>none
section
variable {X:Cx}{k b:Nat}{e:Expr}{es:List Expr}{pt:ek}{ps:lJ}{pos:Pos}
theorem KI:lK X b [] ux:=⟨ko.imp Fh fun v σ H Q ai=>by
 obtain⟨ds,ρ,w,t,ρ',g,r,e,k⟩:=ai
 unfold ux at e
 split at e
 ·cases e
  generalize hF:([]:List Addr)=F at r
  cases r
  exact⟨rfl,k σ H w rfl (fun _ _=>rfl) g Go.refl⟩
 ·cases e⟩
theorem xJ(h1:om X b e pt)(h2:lK X b es ps)(hs:(assignEach (e::es) X.env).map (·.2)=assign e X.env::(assignEach es X.env).map (·.2):=by rfl):lK X b (e::es) (jY pt ps):=⟨have h1:=h1.o;have h2:=h2.o;ko.imp (Fi h1 h2 hs) fun v σ H Q ai=>by
 obtain⟨ds,ρ,w,t,ρ',g,r,e,k⟩:=ai
 unfold jY at e
 split at e
 ·cases e
 next d bC=>
  split at e
  next ρ1 h1=>
   generalize hF:([]:List Addr)=F at r
   cases r with
   | cons ra rb _=>
    have z1:=ra.zero
    have z2:=rb.zero
    subst z1 z2
    refine⟨_,_,rfl,d,ρ,w,t,ρ1,g,ra,h1,fun nJ H1 w1 l1 s1 g1 aO=>⟨bC,ρ1,w1,t,ρ',g1,rb.mE g.wl aO.bo,e,fun jN H2 w2 l2 s2 g2 bQ=>k jN H2 w2 (l2.trans l1) (fun i hi=>(s2 i hi).trans (s1 i hi)) g2 (aO.trans bQ)⟩⟩
  ·cases e⟩
theorem KJ(hc:X.calm=true)(h:lK X b es ps)(hl:∀ ds ρ ρ',ps ds ρ=some ρ'->ds.length=n)(hn:(assignEach es X.env).length=n:=by rfl)(jM:(assignEach es X.env).findIdx? (·.1)=none:=by rfl):om X b (.Tuple es k pos) (xI ps):=⟨have h:=h.o;PG.imp (Fl hc h hn jM) fun v σ H Q ai=>by
 obtain⟨d,ρ,w,t,ρ',g,r,e,k⟩:=ai
 unfold xI at e
 split at e
 next ds=>
  obtain⟨a,vs,rfl,hq,rs⟩:=r.d9
  exact⟨a,vs,rfl,hq,by rw[<- rs.length];exact hl _ _ _ e,ds,ρ,w,t,ρ',g,rs,e,k⟩
 ·cases e⟩
end
theorem Bw:∀ {bs:List Bool} {us:List Value},aR (bs.map V.bl) us->LSm.BoolsAre us bs
 | [],_,h=>by cases h;exact .nil
 | b::bs,_,h=>by
  cases h with
  | cons r rr=>
   cases r
   exact .cons b (Bw rr)
section
variable {X:Cx}{a b c e:Expr}{es:List Expr}{fa fb fc f:aB}{g:bM}{pos p p1 p2:Pos}
theorem KN(hc:X.calm=true):kr X (.builtin "all") (fun xs H Q=>∃ (a:Addr) (bs:List Bool),xs=[.ref a]/\bX X.K H a (bs.map V.bl)/\Q (.bl (bs.all id)) H):=by
 intro pins s σ H xs us Q I r h
 obtain⟨l,bs,rfl,hq,q⟩:=h
 obtain⟨u,rfl,ru⟩:=nO r
 cases ru
 obtain⟨ak,rv,pl,hz⟩:=I.list hq
 have hb:=Bw rv
 have hl:s.heap.IsList l ak.toArray:=pl.isList
 have lt:l<s.heap.objs.size:=by obtain⟨_,e,_⟩:=hl;exact Qn e
 refine call_all_walk (Js hl ⟨s.heap.objs.size,[s.heap.objs.size,l],[s.heap.objs.size],ak.toArray.size,_,_,fun i=>(bs[i]?).getD true,rfl,Walks.list (A:=X.A.in1) (I.ok.hd hc) _ l (QX lt) ak.toArray,
  ⟨⟨_,Qs _ rfl,rfl,rfl⟩,hl.push _⟩,fun i v s' Q' E' hP hQ=>?_,fun h' tk hk=>?_⟩)
 ·obtain⟨b,e,rfl⟩:=hb.get i v (by simpa using hP)
  simp only[e,Option.getD_some]at hQ
  exact Zo hQ
 ·have e:((List.range ak.toArray.size).all fun i=>(bs[i]?).getD true)=bs.all id:=by
   rw[Qg,hb.length];exact LSm.range_all bs
  rw[e]
  exact⟨.bl (bs.all id),H,I.kept fun b o z=>hk b o (fun m=>by rw[QB.mp m]at z;exact QL _ (Qn z)) (Qf _ z),rfl,q⟩
def mP:List D->Option (List Bool)
 | []=>some []
 | .bl b::r=>(mP r).map (b :: ·)
 | _=>none
def mQ:List D->Option D
 | [.lst ds]=>(mP ds).map fun bs=>.bl (bs.all id)
 | _=>none
theorem Bx:∀ {ds:List D} {vs:List V} {bs:List Bool},ae K H w o 0 ds vs []->mP ds=some bs->vs=bs.map V.bl
 | ds,vs,bs,r,e=>by
  generalize hF:([]:List Addr)=F at r
  cases r with
  | nil=>cases e;rfl
  | @cons _ d v bg gE F' G' r1 r2 _=>
   have h2:G'=[]:=r2.zero
   subst h2
   cases r1 with
   | bl b=>
    unfold mP at e
    cases e':mP bg with
    | none=>rw[e']at e;cases e
    | some RY=>
     rw[e']at e
     cases e
     rw[Bx r2 e']
     rfl
   | _=>cases e
theorem By(hc:X.calm=true)(hm:X.mg "all" = none)(ha:eG X [a] g)(hg:Gl X "all":=by rfl)(he:starEach [a] X.env=(false,eval a X.env)::starEach [] X.env:=by rfl)(bV:(backTo pos (starEach [] X.env)).any (·.1)=false:=by rfl):QD X (.Call (.Name "all" p) [a] [] pos) (eB mQ g):=⟨have ha:=ha.o;PE.imp (pC (KN hc) hg hm PyProof.Rows.boot_all ha (by decide) (by decide) he bV) (xr fun ds d h=>by
  unfold mQ at h
  split at h
  next cX=>
   cases e:mP cX with
   | none=>rw[e]at h;cases h
   | some bs=>
    rw[e]at h
    cases h
    refine⟨_,rfl,fun H w vs wl r Q hq=>?_⟩
    obtain⟨v,rfl,rv⟩:=one r
    obtain⟨p,ys,rfl,hs,rs⟩:=rv.eO
    rw[Bx rs e]at hs
    exact⟨p,bs,rfl,hs,hq⟩
  ·cases h)⟩
theorem Bz{α:Type}(l:List α)(f:α->Bool):mP (l.map fun i=>.bl (f i))=some (l.map f):=by
 induction l with
 | nil=>rfl
 | cons a l ih=>rw[Q3,mP,ih];rfl
end
inductive IT where
 | int|bool|tuple|list|str
def IT.nm:IT->String
 | .int=>"int"
 | .bool=>"bool"
 | .tuple=>"tuple"
 | .list=>"list"
 | .str=>"str"
def fL:IT->D->Bool
 | .int,.int _=>true
 | .int,.bl _=>true
 | .bool,.bl _=>true
 | .tuple,.tup _=>true
 | .list,.lst _=>true
 | .str,.str _=>true
 | _,_=>false
def BA:D->String
 | .aS=>"NoneType"
 | .bl _=>"bool"
 | .int _=>"int"
 | .str _=>"str"
 | .tup _=>"tuple"
 | .eM _ _=>"dict"
 | .exc _=>"object"
 | .ob _ _ _ _=>"function"
 | .mp _ _=>"dict"
 | .lst _=>"list"
section
variable {X:Cx}{pins:List (Addr×Obj)}{σ:St}{H:Hp}{s:Shared}
theorem KO{x:V}{c:Value}{b:Bool}{A:Around}{E:Value->Shared->Prop}(I:Inv X pins σ H s)(rx:bj x u)(r:Rep X.K H w o q d x F)
  (e:PySem.W.kitOne X.K (.type (BA d)) c=some b) (hx:∀ nm,d ≠ .exc nm) (hi:∀ C fs p ds,d ≠ .mp (.i C fs p) ds) (h:∀ tk,Q (.bool b) { s with toks:=tk }):wpAny (model X.prog X.w) A (call (.builtin "isinstance") [u,c]) Q E s:=by
 cases r with
 | exc _ _ _=>exact absurd rfl (hx _)
 | ob h1 h2 x r=>
  cases rx
  obtain⟨e1,_⟩:=(show cM X.prog X.w H s.heap _ (.dZ _ _)from I.aF _ _ h1)
  exact QT Io I.di ⟨_,e1,x.1⟩ e (fun z=>nomatch z) h
 | aS=>exact ij I rx .aS e h
 | bl y=>exact ij I rx (.bl y) e h
 | int i=>exact ij I rx (.int i) e h
 | str y=>exact ij I rx (.str y) e h
 | tup ha _=>exact ij I rx (.tup ha) e h
 | eM ha _ _=>exact ij I rx (.dK ha) e h
 | kl ha _=>
  obtain⟨ob,ak,n,hk,hc,hd,_⟩:=ha
  cases rx
  exact QT Jt I.di ⟨ob,I.di _ _ hk,hc⟩ e (fun z=>nomatch z) h
 | shr ha _ _=>
  rcases ha with ha|⟨ob,ha⟩
  ·exact ij I rx (.lst ha) e h
  ·exact ij I rx (.dZ ha) e h
 | own ha _ _ _=>exact ij I rx (.lst ha) e h
 | @la a vs ds k y ha i _ _ _=>
  cases k with
  | t ks=>cases i;exact ij I rx (.dT ha) e h
  | k ks=>cases i;exact ij I rx (.dK ha) e h
  | i C fs p=>exact absurd rfl (hi _ _ _ _)
 | @fR q a vs ds k y ha i _ _ _=>
  cases k with
  | t ks=>cases i;exact ij I rx (.dT ha) e h
  | k ks=>cases i;exact ij I rx (.dK ha) e h
  | i C fs p=>exact absurd rfl (hi _ _ _ _)
theorem KP{C:Str}{fs:List Str}{pn:Option Addr}{x:V}{A:Around}{E:Value->Shared->Prop}(I:Inv X pins σ H s)(rx:bj x u)(r:Rep X.K H w o q (.mp (.i C fs pn) ds) x F)
  (T:IT) (h:∀ tk,Q (.bool false) { s with toks:=tk }):wpAny (model X.prog X.w) A (call (.builtin "isinstance") [u,.type T.nm]) Q E s:=by
 cases r with
 | la ha i _ _ _=>
  obtain⟨C,dx,_,rfl,c,_⟩:=i
  exact ij I rx (.ins ha c.cl c.ha c.hn c.qL c.hm) (c.no _ (by cases T<;>simp[IT.nm])) h
 | fR ha i _ _ _=>
  obtain⟨C,dx,_,rfl,c,_⟩:=i
  exact ij I rx (.ins ha c.cl c.ha c.hn c.qL c.hm) (c.no _ (by cases T<;>simp[IT.nm])) h
theorem KQ(T:IT)(d:D)(hx:∀ nm,d ≠ .exc nm):PySem.W.kitOne K (.type (BA d)) (.type T.nm)=some (fL T d):=by
 cases T<;>cases d<;>first|rfl|exact absurd rfl (hx _)
end
section
variable {X:Cx}{a b c e:Expr}{es:List Expr}{fa fb fc f:aB}{ga gb:cq}{g:bM}{pos p p1 p2 pT:Pos}
theorem KR(T:IT):kr X (.builtin "isinstance") (fun xs H Q=>∃ x w o q F d,xs=[x,.ty T.nm]/\Rep X.K H w o q d x F/\Q (.bl (fL T d)) H):=by
 intro pins s σ H xs us Q I r h
 obtain⟨x,w,o,q,F,d,rfl,rd,hq⟩:=h
 obtain⟨u,v,rfl,ru,rv⟩:=zM r
 cases rv
 by_cases hx:∃ nm,d=.exc nm
 ·obtain⟨nm,rfl⟩:=hx
  cases rd with
  | exc ha xo _=>
   obtain⟨C,hc,k⟩:=xo
   cases ru
   obtain⟨e1,_⟩:=(show cM X.prog X.w H s.heap _ (.dZ _ _)from I.aF _ _ ha)
   have hT:fL T (.exc nm)=false:=by cases T<;>rfl
   rw[hT]at hq
   refine H_ (x:=_) I.di ⟨e1,hc⟩ k.xc (by cases T<;>kernel_rfl) (k.no _ (by cases T<;>simp[IT.nm])) ⟨.bl false,H,I.tok _,rfl,hq⟩
 ·by_cases hi:∃ C fs p ds,d=.mp (.i C fs p) ds
  ·obtain⟨C,fs,p,ds,rfl⟩:=hi
   exact KP I ru rd T fun tk=>⟨.bl (fL T (.mp (.i C fs p) ds)),H,I.tok _,by cases T<;>rfl,hq⟩
  ·exact KO I ru rd (KQ T d fun nm z=>hx ⟨nm,z⟩) (fun nm z=>hx ⟨nm,z⟩) (fun C fs p ds z=>hi ⟨C,fs,p,ds,z⟩) fun tk=>⟨.bl (fL T d),H,I.tok _,rfl,hq⟩
@[simp] def oy (T:IT)(fa:aB):aB:=fun ρ=>match fa ρ with
 | some (d,_,ρ1)=>some (.bl (fL T d),9,ρ1)
 | none=>none
theorem rL(T:IT){t:Str}(hm:X.mg "isinstance" = none)(KS:X.mg t=none)(KU:bootBuiltins t=some (.type T.nm))(ha:QD X a fa)(hg:Gl X "isinstance":=by rfl)(KW:Gl X t:=by rfl)(KY:t ≠ "__name__":=by decide)(KZ:(t==("__debug__":Str))=false:=by decide)(hs:starEach [a,.Name t pT] X.env=(false,eval a X.env)::starEach [.Name t pT] X.env:=by rfl)(bV:(backTo pos (starEach [.Name t pT] X.env)).any (·.1)=false:=by rfl):QD X (.Call (.Name "isinstance" p) [a,.Name t pT] [] pos) (oy T fa):=⟨have ha:=ha.o;PE.imp (pC (KR T) hg hm PyProof.Rows.boot_isinstance (ml ha (ml (EM (v:=.ty T.nm) KW KS KU rfl KY KZ) pA eI) hs) (by decide) (by decide) hs bV) fun σ H Q ai=>by
 obtain⟨ρ,w,t,r',q,ρ',gd,ee,k⟩:=ai
 unfold oy at ee
 split at ee
 next d q1 ρ1 h1=>
  cases ee
  refine⟨ρ,w,t,_,_,_,gd,h1,fun v H1 w1 F1 g1 aO r1=>?_⟩
  exact⟨v,w1,_,_,F1,d,rfl,r1,k _ H1 (bZ t w1) [] g1.drop.up (aO.drop gd.wt) (.bl _)⟩
 ·cases ee⟩
@[simp] def uy (g1 g2:D->D->Option D)(fa fb fc:aB):aB:=fun ρ=>match fa ρ with
 | some (x,_,ρ1)=>match fb ρ1 with
  | some (y,_,ρ2)=>match g1 x y with
   | some (.bl true)=>match fc ρ2 with
    | some (z,_,el)=>match g2 y z with
     | some d=>some (d,9,el)
     | none=>none
    | none=>none
   | some (.bl false)=>some (.bl false,9,ρ2)
   | _=>none
  | none=>none
 | none=>none
theorem K0{op nN:CmpOp}{g1 g2:Int->Int->Option D}{h1 h2:Int->Int->V}(ho:cE X (compareOp op) (kX h1))(iI:cE X (compareOp nN) (kX h2))(e1:∀ i j d,g1 i j=some d->lq d=some (h1 i j))(jZ:∀ i j d,g2 i j=some d->lq d=some (h2 i j))
  (ha:PD X a fa) (hb:PD X b fb) (hc:PD X c fc) (hm:lastMarks [op,nN] [b,c]=false:=by with_unfolding_all rfl):PD X (.Compare a [op,nN] [b,c] pos) (uy (gI g1) (gI g2) fa fb fc):=PE.imp (FP ho iI ha hb hc hm) fun σ H Q ai=>by
 obtain⟨ρ,w,t,r',q,ρ',gd,ee,k⟩:=ai
 unfold uy at ee
 split at ee
 next x q1 ρ1 a1=>
  split at ee
  next y q2 ρ2 a2=>
   refine oa gd a1 a2 fun u v H2 w2 F1 F2 BB bQ r1 r2=>?_
   have gg:=BB.drop (t':=t)
   split at ee
   next hg=>
    obtain⟨i,j,rfl,rfl,oz⟩:=rn hg
    refine⟨i,j,eN r1,eN r2,true,by have:=e1 i j _ oz;simpa [lq]using this.symm,?_⟩
    rw[Qe rfl]
    split at ee
    next z q3 el a3=>
     refine⟨ρ2,bZ t w2,t,z,q3,el,gg,a3,fun v3 H3 w3 F3 g3 fI r3=>?_⟩
     split at ee
     next d hd=>
      cases ee
      obtain⟨j',l,ej,rfl,l_⟩:=rn hd
      cases ej
      exact⟨j,l,eN r2,eN r3,oe k gd g3 ((bQ.drop gd.wt).trans fI) (w_ (jZ j l _ l_))⟩
     ·cases ee
    ·cases ee
   next hg=>
    obtain⟨i,j,rfl,rfl,oz⟩:=rn hg
    cases ee
    refine⟨i,j,eN r1,eN r2,false,by have:=e1 i j _ oz;simpa [lq]using this.symm,?_⟩
    rw[Qh (by decide)]
    exact oe k gd BB bQ (.bl false)
   ·cases ee
  ·cases ee
 ·cases ee
theorem K1(ha:QD X a fa)(hb:QD X b fb)(hc:QD X c fc)(hm:lastMarks [.LtE,.Lt] [b,c]=false:=by with_unfolding_all rfl):QD X (.Compare a [.LtE,.Lt] [b,c] pos) (uy AM mB fa fb fc):=⟨have ha:=ha.o;have hb:=hb.o;have hc:=hc.o;K0 FK zI (fun i j d h=>by cases h;rfl) (fun i j d h=>by cases h;rfl) ha hb hc hm⟩
@[simp] def RZ (fa:aB):aB:=fun ρ=>match fa ρ with
 | some (.int i,_,ρ1)=>some (.int (-i),9,ρ1)
 | _=>none
section
variable {prog:Program}{w:World}{A:Around}{E:Value->Shared->Prop}{s:Shared}
theorem K2(l b:Addr)(us vs:Array Value)(n m:Nat)(d1 d2:Option Addr)(s1 s2:Array (Option Value))(h0:us.isEmpty=true) :
  Meets (Builtin.«tuple.__add__» ⟨[.ref l,.ref b],[]⟩) (fun _ R s=>s.heap.get? l=some { cls:=.type "tuple",dict:=d1,data:=.seq us n,slots:=s1 }/\s.heap.get? b=some { cls:=.type "tuple",dict:=d2,data:=.seq vs m,slots:=s2 }/\R (.ok (.ret (.ref b))) s):=
 .of_wp fun prog w A R s h=>by
  obtain⟨hp,g,d,tk,os⟩:=s
  obtain⟨hl,hb,h⟩:=h
  have f2:=AutoSeq1.sub_tuple_tuple
  wp_walk using wpAny_loadPart' hl,wpAny_loadPart' hb
  exact⟨_,rfl,h⟩
theorem K3{t b:Addr}{ws:List Value}(ht:IsTup s.heap t #[])(hb:IsTup s.heap b ws.toArray)(h:Q (.ref b) s):wpAny (model prog w) A (binaryOp .Add (.ref t) (.ref b)) Q E s:=by
 obtain⟨⟨c1,d1,a1,s1⟩,e1,mO,n1,rM⟩:=id ht
 obtain⟨⟨c2,d2,a2,s2⟩,e2,kx,n2,BC⟩:=id hb
 simp only at mO rM kx BC
 subst mO rM kx BC
 exact JD ⟨_,e1,rfl⟩ ⟨_,e2,rfl⟩ Jx seq_tuple_add ZW ZV (ZP _ _) (K2 t b #[] ws.toArray n1 n2 d1 d2 s1 s2 rfl) ⟨e1,e2,h⟩
end
theorem K4:cE X (binaryOp .Add) (fun x y H Q=>∃ a b ys,x=.ref a/\y=.ref b/\cC X.K H a []/\cC X.K H b ys/\Q (.ref b) H):=by
 intro pins s σ H x y v u Q I rx ry h
 obtain⟨a,b,ys,rfl,rfl,ha,hb,q⟩:=h
 cases rx
 cases ry
 obtain⟨ak,r1,p1,_⟩:=I.tuple ha
 obtain⟨jQ,r2,p2,_⟩:=I.tuple hb
 cases r1
 exact K3 p1 p2 ⟨.ref b,H,I,rfl,q⟩
theorem cE.or{f:Value->Value->Sem Value}{r r':R2}(h:cE X f r)(h':cE X f r'):cE X f (fun x y H Q=>r x y H Q\/r' x y H Q):=fun pins s σ H x y v u Q I rx ry q=>q.elim (fun z=>h pins s σ H x y v u Q I rx ry z) fun z=>h' pins s σ H x y v u Q I rx ry z
@[simp] def mR (fa fb:aB):aB:=fun ρ=>match fa ρ with
 | some (.tup ds,_,ρ1)=>match fb ρ1 with
  | some (.tup es,_,ρ2)=>if ds.length+es.length<=1000 then some (.tup (ds++es),9,ρ2)else none
  | _=>none
 | _=>none
theorem uz(ha:QD X a fa)(hb:QD X b fb):QD X (.BinOp a .Add b pos) (mR fa fb):=⟨have ha:=ha.o;have hb:=hb.o;PE.imp (mi (cE.or K4 GQ) ha hb) fun σ H Q ai=>by
 obtain⟨ρ,w,t,r',q,ρ',gd,ee,k⟩:=ai
 unfold mR at ee
 split at ee
 next ds q1 ρ1 h1=>
  split at ee
  next es q2 ρ2 h2=>
   split at ee
   next hl=>
    cases ee
    refine oa gd h1 h2 fun u u' H2 w2 F1 F2 g2 go r1 r2=>?_
    have oA:=r1.drop (o:=.f) (Qc t)
    have uA:=r2.drop (o:=.f) (ZM t)
    have gg:=g2.drop (t':=t)
    have mU:=go.drop gd.wt
    obtain⟨p1,vs,rfl,lL,s1⟩:=oA.d9
    obtain⟨p2,us,rfl,uB,s2⟩:=uA.d9
    have l1:=s1.length
    have l2:=s2.length
    cases ds with
    | nil=>
     have:vs=[]:=Q0.mp (by rw[<- l1];rfl)
     subst this
     refine .inl ⟨p1,p2,us,rfl,rfl,lL,uB,k _ H2 (bZ t w2) [] gg.up mU ?_⟩
     exact(Rep.go gg.wl (fun a x e n=>⟨sm e,n⟩) uA nM:Rep X.K H2 (bZ t w2) (.t t) 0 _ _ []).cc rfl |>.2 9
    | cons d ds=>
     refine .inr ⟨p1,p2,vs,us,rfl,rfl,lL,uB,(fun z=>by rw[z]at l1;cases l1),oh (by rw[<- l1,<- l2];exact hl),fun z=>?_,fun _ p hp=>?_⟩
     ·have:es=[]:=Q0.mp (by rw[l2,z];rfl)
      subst this
      rw[Zg]at k
      exact k _ H2 (bZ t w2) [] gg.up mU ((Rep.go gg.wl (fun a x e n=>⟨sm e,n⟩) oA nM:Rep X.K H2 (bZ t w2) (.t t) 0 _ _ []).cc rfl |>.2 9)
     ·obtain⟨a1,a2,a3⟩:=pL gg hp (s2.app s1)
      exact k _ _ _ _ a1 (mU.trans a2) a3
   ·cases ee
  ·cases ee
 ·cases ee⟩
abbrev oB:=aN->Option (Option Int×aN)
def K5 (K:PySem.W.Frag)(f:oB):TO:=fun σ H Q=>∃ ρ w t o ρ',Good K ρ σ H w t/\f ρ=some (o,ρ')/\∀ H' w',Good K ρ' σ H' w' t->Go H w H' w'->Q o H'
abbrev K6 (X:Cx)(e:Option Expr)(f:oB):Prop:=PO X e (K5 X.K f)
structure uC (X:Cx) (e:Option Expr) (f:oB):Prop where mk::o:K6 X e f
@[simp] def xK:oB:=fun ρ=>some (none,ρ)
@[simp] def uD (f:aB):oB:=fun ρ=>match f ρ with
 | some (.int i,_,ρ1)=>some (some i,ρ1)
 | _=>none
theorem PO.imp{e:Option Expr}{t t':TO}(h:PO X e t)(i:∀ σ H Q,t' σ H Q->t σ H Q):PO X e t':=fun pins s σ H Q I q=>h pins s σ H Q I (i σ H Q q)
theorem BD:uC X none xK:=⟨PO.imp GI fun σ H Q ai=>by
 obtain⟨ρ,w,t,o,ρ',gd,ee,k⟩:=ai
 cases ee
 exact k H w gd Go.refl⟩
theorem BE(h:QD X e f):uC X (some e) (uD f):=⟨have h:=h.o;PO.imp (GJ h) fun σ H Q ai=>by
 obtain⟨ρ,w,t,o,ρ',gd,ee,k⟩:=ai
 unfold uD at ee
 split at ee
 next i q1 ρ1 h1=>
  cases ee
  exact⟨ρ,w,t,_,_,_,gd,h1,fun v H1 w1 F1 g1 aO r1=>⟨i,eN r1,k H1 (bZ t w1) g1.drop (aO.drop gd.wt)⟩⟩
 ·cases ee⟩
section
variable {prog:Program}{w:World}{A:Around}{E:Value->Shared->Prop}{s:Shared}
theorem K7{t sl:Addr}{us:Array Value}{vl vu:Value}{lo hi:Option Int}(ht:IsTup s.heap t us)(hs:s.heap.IsSliceOf sl vl vu .none)(pl:IsPart vl lo)(pu:IsPart vu hi)
  (hw:HT.aZ us.size 0 lo=0/\HT.aZ us.size us.size hi=us.size) (h:Q (.ref t) s):wpAny (model prog w) A (getItem (.ref t) (.ref sl)) Q E s:=by
 obtain⟨os,nS,tK,qQ⟩:=id hs
 have ts:s.TypeIs (.ref sl) "slice":=⟨os,nS,tK⟩
 unfold getItem
 try with_reducible refine Zs ?_
 first|refine Qb (Qk ?_)|skip
 refine Qb (wpAny_sequenceKey ht.typeIs (by decide) (Qb (wpAny_callSpecial?_slot (name:=Str.ofString "__getitem__") ht.typeIs QS (wpAny_call_entry QS ht.typeIs entry_tuple_getitem ?_ (args_tuple_getitem _ _)))))
 show wpAny _ _ (Builtin.Tuple.tupleItemsOf (.ref t) >>= _) _ _ s
 refine Qb (tupleItemsOf_ ht (Qb (JE ts ?_)))
 rw[Qe (by decide)]
 refine Qb (HT.Ab hs pl pu ?_)
 have yes:(((HT.aZ us.size 0 lo:Nat):Int)==0&&(1:Int)==1&&(HT.aZ us.size us.size hi-HT.aZ us.size 0 lo)==us.size)=true:=by rw[hw.1,hw.2];simp
 show wpAny _ _ (if(((HT.aZ us.size 0 lo:Nat):Int)==0&&(1:Int)==1&&(HT.aZ us.size us.size hi-HT.aZ us.size 0 lo)==us.size)=true then _ else _) _ _ s
 rw[Qe yes]
 refine Qb (m:=Builtin.Tuple.tupleIsExact _) ?_
 unfold Builtin.Tuple.tupleIsExact
 refine Qb (JE ht.typeIs (Qk ?_))
 rw[Qe (by decide)]
 exact Qb (wpAny_rule (Qk ⟨_,rfl,Qk h⟩))
end
def lM (xs:List D)(lo hi:Option Int):List D:=(xs.drop (HT.aZ xs.length 0 lo)).take (HT.aZ xs.length xs.length hi-HT.aZ xs.length 0 lo)
@[simp] def uE (fa:aB)(fl fh:oB):aB:=fun ρ=>match fa ρ with
 | some (.tup ds,_,ρ1)=>match fl ρ1 with
  | some (lo,ρ2)=>match fh ρ2 with
   | some (hi,el)=>some (.tup (lM ds lo hi),9,el)
   | none=>none
  | none=>none
 | _=>none
theorem ae.mV:∀ {ds:List D} {vs:List V} (i:Nat),ae K H w .f 0 ds vs []->ae K H w .f 0 (ds.take i) (vs.take i) []
 | _,_,0,_=>by rw[List.take_zero,List.take_zero];exact .nil
 | ds,vs,i+1,r=>by
  generalize hF:([]:List Addr)=F at r
  cases r with
  | nil=>exact .nil
  | cons r s _=>
   have h2:=s.zero
   have h1:=r.zero
   subst h2
   subst h1
   exact .cons (F:=[]) (G:=[]) r (ae.mV i s) nM
theorem K8:mq X (fun x lo hi H Q=>∃ a xs,x=.ref a/\cC X.K H a xs/\(HT.aZ xs.length 0 lo=0/\HT.aZ xs.length xs.length hi=xs.length)/\Q (.ref a) H):=by
 intro pins s σ H x v vl vu lo hi sl Q I rx hs pl pu h
 obtain⟨a,xs,rfl,hx,hw,q⟩:=h
 cases rx
 obtain⟨ak,r,ht,hz⟩:=I.tuple hx
 have hlen:ak.toArray.size=xs.length:=by rw[Qg];exact r.length.symm
 exact⟨"tuple",_,QS.lookup,ht.typeIs,K7 ht hs pl pu (by rw[hlen];exact hw) ⟨.ref a,H,I,rfl,q⟩⟩
theorem BF{lo hi:Option Expr}{fl fh:oB}(ha:QD X a fa)(hl:uC X lo fl)(hh:uC X hi fh):QD X (.Subscript a (.Slice lo hi none p2) pos) (uE fa fl fh):=⟨have ha:=ha.o;have hl:=hl.o;have hh:=hh.o;PE.imp (GL (K8.or GO) ha hl hh) fun σ H Q ai=>by
 obtain⟨ρ,w,t,r',q,ρ',gd,ee,k⟩:=ai
 unfold uE at ee
 split at ee
 next ds q1 ρ1 h1=>
  split at ee
  next lo ρ2 h2=>
   split at ee
   next hi el h3=>
    cases ee
    refine⟨ρ,w,t,_,_,_,gd,h1,fun v H1 w1 F1 g1 aO r1=>?_⟩
    have BG:=g1.drop (t':=t)
    have r0:=r1.drop (o:=.f) (Qc t)
    refine⟨ρ1,bZ t w1,t,_,_,BG,h2,fun H2 w2 g2 bQ=>⟨ρ2,w2,t,_,_,g2,h3,fun H3 w3 g3 fI=>?_⟩⟩
    have r3:=(r0.mE BG.wl bQ.bo).mE g2.wl fI.bo
    obtain⟨p1,vs,rfl,lL,s1⟩:=r3.d9
    have l1:=s1.length
    by_cases hw:HT.aZ ds.length 0 lo=0/\HT.aZ ds.length ds.length hi=ds.length
    ·have ec:lM ds lo hi=ds:=by unfold lM;rw[hw.1,hw.2,JT,Nat.sub_zero,List.take_length]
     rw[ec]at k
     refine .inl ⟨p1,vs,rfl,lL,by rw[<- l1];exact hw,?_⟩
     exact k _ H3 w3 [] g3.up (((aO.drop gd.wt).trans bQ).trans fI) ((Rep.go g3.wl (fun a x e n=>⟨sm e,n⟩) r3 nM:Rep X.K H3 w3 (.t t) 0 _ _ []).cc rfl |>.2 9)
    ·refine .inr ⟨p1,vs,rfl,lL,by rw[<- l1];exact hw,fun p hp=>?_⟩
     have s4:ae X.K H3 w3 .f 0 (lM ds lo hi) (mr vs lo hi) []:=by
      unfold lM mr
      rw[<- l1]
      exact(s1.mG _).mV _
     obtain⟨a1,a2,a3⟩:=pL g3 hp s4
     exact k _ _ _ _ a1 ((((aO.drop gd.wt).trans bQ).trans fI).trans a2) a3
   ·cases ee
  ·cases ee
 ·cases ee⟩
end
section
variable {X:Cx}{k b n:Nat}{a c e tg:Expr}{es:List Expr}{pt:ek}{ps:lJ}{pos:Pos}{fa fb f:aB}
theorem K9{p q r:ek}:∀ ds ρ ρ',jY p (jY q (jY r ux)) ds ρ=some ρ'->ds.length=3:=fun ds ρ ρ' h=>by
 match ds with
 | []=>cases h
 | [_]=>unfold jY at h;simp at h;split at h<;>cases h
 | [_,_]=>unfold jY at h;simp at h;split at h;(split at h<;>cases h);cases h
 | [_,_,_]=>rfl
 | _::_::_::_::_=>
  exfalso
  unfold jY at h
  simp at h
  split at h
  ·split at h
   ·split at h<;>cases h
   ·cases h
  ·cases h
@[simp] def uF (f:aB)(pt:ek):ay:=fun ρ=>match f ρ with
 | some (d,_,ρ1)=>match pt d ρ1 with
  | some ρ2=>some (.nx ρ2)
  | none=>none
 | none=>none
theorem K_(he:QD X e f)(hg:om X 0 tg pt)(hs:swapsWithSole [tg] e pos.line X.env=pure false:=by rfl)(hw:swappedStores [tg] e X.env=pure none:=by rfl)(h1:(assignEach [tg] X.env).map (·.2)=[assign tg X.env]:=by rfl):iu X (.Assign [tg] e pos) (uF f pt):=⟨have he:=he.o;have hg:=hg.o;PS.imp (zz he hg hs hw h1) fun D σ H ai=>by
 obtain⟨ρ,w,o,g,ee,k⟩:=ai
 unfold uF at ee
 split at ee
 next d q ρ1 h1=>
  split at ee
  next ρ2 h2=>
   cases ee
   refine⟨ρ,w,0,d,q,ρ1,g,h1,fun v H1 w1 F1 g1 aO r1=>?_⟩
   exact⟨d,ρ1,bZ 0 w1,0,ρ2,g1.drop,r1.drop (Qc 0),h2,fun aA H' w' hl _ g' d8=>k aA H' w' hl g' ((aO.drop g.wt).trans d8)⟩
  ·cases ee
 ·cases ee⟩
end
theorem La:fillsNumberSlot (.type "tuple") "mul" = pure false:=PySem.fillsNumberSlot_seq (id:="tuple.__mul__") (r:=some (.builtin "tuple.__rmul__")) Z4.lookup (by decide +kernel) F.slot_tuple_rmul.lookup (by decide +kernel)
theorem Lb:seqRepeat? (.type "tuple")=pure (some (.builtin "tuple.__mul__")):=by
 unfold seqRepeat?
 rw[PySem.seqSlot_of (T:="tuple") (name:="__mul__") (id:="tuple.__mul__") Z4.lookup (by decide +kernel),PySem.seqSlot_of (T:="tuple") (name:="__rmul__") (id:="tuple.__rmul__") F.slot_tuple_rmul.lookup (by decide +kernel)];rfl
theorem Lc(a:Int)(t:Tok)(l:Addr)(us:Array Value)(n:Nat)(dd:Option Addr)(sl:Array (Option Value)) :
  Meets (Builtin.«int.__rmul__» ⟨[.int a t,.ref l],[]⟩) (fun _ R s=>s.heap.get? l=some { cls:=.type "tuple",dict:=dd,data:=.seq us n,slots:=sl }/\R (.ok (.ret Value.notImplemented)) s):=.of_wp fun prog w A R s h=>by
 obtain⟨hp,g,d,tk,os⟩:=s
 obtain⟨hl,h⟩:=h
 wp_walk
 exact⟨_,rfl,h⟩
theorem Ld(t:Tok)(l:Addr)(us:Array Value)(n:Nat)(dd:Option Addr)(sl:Array (Option Value)) :
  Meets (Builtin.«tuple.__mul__» ⟨[.ref l,.int 1 t],[]⟩) (fun _ R s=>s.heap.get? l=some { cls:=.type "tuple",dict:=dd,data:=.seq us n,slots:=sl }/\R (.ok (.ret (.ref l))) s):=.of_wp fun prog w A R s h=>by
 obtain⟨hp,g,d,tk,os⟩:=s
 obtain⟨hl,h⟩:=h
 have f1:=AutoSeq1.idx_int
 wp_walk using wpAny_loadPart' hl
 exact⟨_,rfl,h⟩
theorem Le(k:Int)(t:Tok)(l:Addr)(us:Array Value)(n:Nat)(dd:Option Addr)(sl:Array (Option Value))(h2:¬ (decide (k < -(2 ^ 63))||decide (k ≥ 2 ^ 63))=true)(h3:¬ (us.isEmpty||k==1)=true)(h4:¬ (decide (k<=0)||us.isEmpty)=true)(h5:¬ (us.size:Int)*k > (2 ^ 63-1) / 8)(h6:¬ Builtin.Tuple.tupleTooMany ((us.size:Int)*k)=true)(hsz:(List.foldl (· ++ ·) #[] (List.replicate k.toNat us)).size<=sizeLine) :
  Meets (Builtin.«tuple.__mul__» ⟨[.ref l,.int k t],[]⟩) (fun _ R s=>s.heap.get? l=some { cls:=.type "tuple",dict:=dd,data:=.seq us n,slots:=sl }/\R (.ok (.ret (.ref s.heap.objs.size))) { s with heap:=s.heap.push { cls:=.type "tuple",data:=.seq (List.foldl (· ++ ·) #[] (List.replicate k.toNat us)) } }):=.of_wp fun prog w A R s h=>by
 obtain⟨hp,g,d,tk,os⟩:=s
 obtain⟨hl,h⟩:=h
 have f1:=AutoSeq1.idx_int
 wp_walk using wpAny_loadPart' hl
 rw[Qh h2]
 wp_walk using wpAny_loadPart' hl
 rw[Qh h5]
 wp_walk using wpAny_loadPart' hl
 exact⟨_,rfl,h⟩
section
variable {X:Cx}{a b c e:Expr}{fa fb fc f:aB}{pos:Pos}
theorem Lf:cE X (binaryOp .Mult) (fun x y H Q=>∃ a k xs,x=.ref a/\y=.int k/\cC X.K H a xs/\xs ≠ []/\1<=k/\xs.length*k.toNat<=1000/\(k=1->Q (.ref a) H)/\(k≠1->∀ p,H p=none->Q (.ref p) (upd H p (.tup (List.replicate k.toNat xs).flatten)))):=by
 intro pins s σ H x y v u Q I rx ry h
 obtain⟨l,k,xs,rfl,rfl,hq,iP,h1,hz,q1,q2⟩:=h
 cases rx
 obtain⟨t,rfl⟩:=ry
 obtain⟨ak,r,pt,_⟩:=I.tuple hq
 obtain⟨⟨c1,d1,a1,s1⟩,e,mO,n1,rM⟩:=id pt
 simp only at mO rM
 subst mO rM
 have hl:=r.length
 have oC:0<ak.length:=by rw[<- hl];exact Jf.mpr iP
 refine Jq (T:="tuple") (U:="int") (by decide) ⟨_,e,rfl⟩ (fun s'=>JF s' k t) La F.fills_int_mul Z8 Lb F.slot_int_index.lookup
  (ZT Z8 (JF s k t) F.entry_int_rmul (F.args_int_rmul_2 _ _) (Lc k t l ak.toArray n1 d1 s1) ⟨e,rfl,⟨_,e,rfl⟩,?_⟩)
 by_cases hk:k=1
 ·subst hk
  exact ZT Z4 ⟨_,e,rfl⟩ F.entry_tuple_mul (F.args_tuple_mul_2 _ _) (Ld t l ak.toArray n1 d1 s1) ⟨e,⟨.ref l,H,I,rfl,q1 rfl⟩⟩
 ·have hm:ak.length*k.toNat<=1000:=by rw[<- hl];exact hz
  have R0:k.toNat<=1000:=by
   have:=Nat.le_mul_of_pos_left k.toNat oC
   omega
  have f0:List.foldl (fun x1 x2=>x1++x2) #[] (List.replicate k.toNat ak.toArray)=(List.replicate k.toNat ak).flatten.toArray:=by
   have:=v8 ak k.toNat []
   rw[JL]at this
   exact this
  have lf:(List.replicate k.toNat ak).flatten.length<=1000:=by rw[v_,JX];exact hm
  have em:((ak.toArray.size:Nat):Int)*k=((ak.length*k.toNat:Nat):Int):=by
   rw[Qg,Int.natCast_mul,JU (by omega)]
  refine ZT Z4 ⟨_,e,rfl⟩ F.entry_tuple_mul (F.args_tuple_mul_2 _ _) (Le k t l ak.toArray n1 d1 s1 (by simp;omega) (by simp[hk];exact Jr oC) (by simp;exact⟨by omega,Jr oC⟩) (by rw[em];omega) (by
   unfold Builtin.Tuple.tupleTooMany
   rw[em]
   simp only[gt_iff_lt,Zq,Int.not_lt]
   have:(1000:Nat)<=sizeLine:=by decide
   omega) (by rw[f0,Qg];exact oh lf)) ⟨e,?_⟩
  rw[f0]
  refine⟨.ref s.heap.objs.size,_,I.laid (t':=s.toks) (o:=.tup (List.replicate k.toNat xs).flatten) (fun b ob q=>Qf _ q) (Qc _) ?_,rfl,q2 hk _ (I.aF.fresh (Qc _))⟩
  exact⟨oh (by rw[v_,JX];exact hz),_,r.rep k.toNat,jz.new _ _⟩
@[simp] def xM (fa fb:aB):aB:=fun ρ=>match fa ρ with
 | some (.tup ds,_,ρ1)=>match fb ρ1 with
  | some (.int n,_,ρ2)=>if ds.isEmpty=false/\1<=n/\ds.length*n.toNat<=1000 then some (.tup (List.replicate n.toNat ds).flatten,9,ρ2)else none
  | _=>none
 | _=>none
theorem Lg(ha:QD X a fa)(hb:QD X b fb):QD X (.BinOp a .Mult b pos) (xM fa fb):=⟨have ha:=ha.o;have hb:=hb.o;PE.imp (mi Lf ha hb) fun σ H Q ai=>by
 obtain⟨ρ,w,t,r',q,ρ',gd,ee,k⟩:=ai
 unfold xM at ee
 split at ee
 next ds q1 ρ1 h1=>
  split at ee
  next n q2 ρ2 h2=>
   split at ee
   next hl=>
    cases ee
    obtain⟨hd,hn,hz⟩:=hl
    refine oa gd h1 h2 fun u u' H2 w2 F1 F2 g2 go r1 r2=>?_
    have oA:=r1.drop (o:=.f) (Qc t)
    have gg:=g2.drop (t':=t)
    have mU:=go.drop gd.wt
    obtain⟨p1,vs,rfl,lL,s1⟩:=oA.d9
    have l1:=s1.length
    refine⟨p1,n,vs,rfl,eN r2,lL,fun z=>?_,hn,by rw[<- l1];exact hz,fun z=>?_,fun _ p hp=>?_⟩
    ·subst z
     have:ds=[]:=Q0.mp l1
     subst this
     cases hd
    ·subst z
     have e:(List.replicate (Int.toNat 1) ds).flatten=ds:=by show(List.replicate 1 ds).flatten=ds;simp
     rw[e]at k
     exact k _ H2 (bZ t w2) [] gg.up mU ((Rep.go gg.wl (fun a x e n=>⟨sm e,n⟩) oA nM:Rep X.K H2 (bZ t w2) (.t t) 0 _ _ []).cc rfl |>.2 9)
    ·obtain⟨a1,a2,a3⟩:=pL gg hp (s1.times n.toNat)
     exact k _ _ _ _ a1 (mU.trans a2) a3
   ·cases ee
  ·cases ee
 ·cases ee⟩
end
section
variable {X:Cx}{a b c e:Expr}{es:List Expr}{fa fb fc f:aB}{ga gb gc:cq}{g:bM}{qa qb:jq}{s:ay}{pos p p1 p2 aK apos:Pos}
@[simp] def rN:ay:=fun _=>none
theorem xN:iu X st rN:=⟨PS.imp Fe fun D σ H ai=>by obtain⟨ρ,w,o,g,ee,k⟩:=ai;cases ee⟩
def j0 (c:cq)(b:ay):Nat->aN->Option Out
 | 0,_=>none
 | m+1,ρ=>match c ρ with
  | none=>none
  | some (t,ρ1)=>if t=true then match b ρ1 with
    | none=>none
    | some (.nx ρ2)=>j0 c b m ρ2
    | some (.ct ρ2)=>j0 c b m ρ2
    | some (.bk ρ2)=>some (.nx ρ2)
    | some (.rt d q)=>some (.rt d q)
   else some (.nx ρ1)
def xO (c:cq)(b:ay):ay:=j0 c b 1000
theorem Lh{body:List Stmt}(hp:PassesOwn (model X.prog X.w) X.A X.env X.xe)(hc:iS X c gc)(hb:dv X body s):iu X (.While c body [] pos) (xO gc s):=⟨have hc:=hc.o;have hb:=hb.o;PS.imp (Ft hp hc hb) fun D σ H ai=>by
 obtain⟨ρ,w,o,g,ee,k⟩:=ai
 refine⟨fun m aA H'=>aA.length=σ.length/\∃ ρ' w',Good X.K ρ' aA H' w' 0/\j0 gc s m ρ'=some o/\jE X.K D σ.length H' w' o,⟨1000,rfl,ρ,w,g,ee,k⟩,?_⟩
 rintro m aA H' ⟨eP,ρ',w',g',e',k'⟩
 cases m with
 | zero=>cases e'
 | succ m=>
  unfold j0 at e'
  split at e'
  ·cases e'
  next t ρ1 h1=>
   refine⟨ρ',w',0,t,ρ1,g',h1,fun H1 w1 g1 aO=>?_⟩
   cases t with
   | true=>
    rw[Qe rfl]at e' ⊢
    refine⟨fun jN H2=>jN.length=σ.length/\∃ ρ2 w2,Good X.K ρ2 jN H2 w2 0/\j0 gc s m ρ2=some o/\jE X.K D σ.length H2 w2 o,fun jN H2 n2=>⟨m,QU m,n2⟩,?_⟩
    have nx:∀ {gG:aN},j0 gc s m gG=some o->∀ iw H5 w5,iw.length=aA.length->Good X.K gG iw H5 w5 0->Go H1 w1 H5 w5->iw.length=σ.length/\∃ ρ2 w2,Good X.K ρ2 iw H5 w2 0/\j0 gc s m ρ2=some o/\jE X.K D σ.length H5 w2 o:=fun {gG} e5 iw H5 w5 l5 g5 gO=>⟨by rw[l5,eP],gG,w5,g5,e5,k'.trans (aO.trans gO)⟩
    cases h6:s ρ1 with
    | none=>rw[h6]at e';cases e'
    | some o6=>
     rw[h6]at e'
     refine⟨ρ1,w1,o6,g1,h6,?_⟩
     cases o6 with
     | nx gG=>exact nx e'
     | ct gG=>exact nx e'
     | bk gG=>
      cases e'
      exact fun iw H5 w5 l5 g5 gO=>k' iw H5 w5 (by rw[l5,eP]) g5 (aO.trans gO)
     | rt d q=>
      cases e'
      exact fun v H5 w5 F xj gO r5=>k' v H5 w5 F xj (aO.trans gO) r5
   | false=>
    rw[Qh (by decide)]at e' ⊢
    cases e'
    exact k' aA H1 w1 eP g1 aO⟩
@[simp] def R1 (n:Nat)(qi:jq)(fe:aB):ay:=fun ρ=>match fe ρ with
 | some (d,_,ρ1)=>match qi ρ1,ρ1[n]? with
  | some i,some (some (.lst ds,1))=>match gD ds.length i with
   | some m=>some (.nx (ρ1.set n (some (.lst (ds.set m d),1))))
   | none=>none
  | _,_=>none
 | none=>none
def Li (K:PySem.W.Frag):R2:=fun x y H Q=>∃ l b xs zs,x=.ref l/\y=.ref b/\bX K H l xs/\bX K H b zs/\xs.length+zs.length<=sizeLine/\∀ p,H p=none->Q (.ref p) (upd H p (.lst (xs++zs)))
theorem Lj:cE X (binaryOp .Add) (Li X.K):=by
 intro pins s σ H x y v u Q I rx ry h
 obtain⟨l,b,xs,zs,rfl,rfl,hH,hB,hz,q⟩:=h
 cases rx
 cases ry
 obtain⟨ak,r,pl,z⟩:=I.list hH
 obtain⟨jQ,r2,Lk,z2⟩:=I.list hB
 obtain⟨⟨cls,dd,data,sl⟩,n,ho,hc,_,hd⟩:=pl
 obtain⟨⟨vX,tI,data2,tJ⟩,n2,nR,kx,_,hd2⟩:=Lk
 simp only at hc hd kx hd2
 subst hc hd kx hd2
 have l1:=r.length
 have l2:=r2.length
 refine JD ⟨_,ho,rfl⟩ ⟨_,nR,rfl⟩ noFill_list_add seq_list_add PySem.F.slot_list_add PySem.F.entry_list_add (PySem.F.args_list_add_2 _ _) (list_addW l b ak.toArray jQ.toArray n n2 dd tI sl tJ (by rw[Qg,Qg,<- l1,<- l2];exact hz)) ⟨ho,nR,?_⟩
 have e:ak.toArray++jQ.toArray=(ak++jQ).toArray:=by simp
 rw[e]
 exact⟨.ref _,_,I.qV (t':=s.toks) (r.append r2) (by rw[Qt];omega),rfl,q _ I.fresh⟩
@[simp] def oE (fa fb:aB):aB:=fun ρ=>match fa ρ with
 | some (.lst ds,_,ρ1)=>match fb ρ1 with
  | some (.lst es,_,ρ2)=>if ds.length+es.length<=1000 then some (.lst (ds++es),1,ρ2)else none
  | _=>none
 | _=>none
theorem BH(ha:QD X a fa)(hb:QD X b fb):QD X (.BinOp a .Add b pos) (oE fa fb):=⟨have ha:=ha.o;have hb:=hb.o;PE.imp (mi Lj ha hb) fun σ H Q ai=>by
 obtain⟨ρ,w,t,r',q,ρ',gd,ee,k⟩:=ai
 unfold oE at ee
 split at ee
 next ds q1 ρ1 h1=>
  split at ee
  next es q2 ρ2 h2=>
   split at ee
   next hl=>
    cases ee
    refine oa gd h1 h2 fun u u' H2 w2 F1 F2 g2 go r1 r2=>?_
    have oA:=r1.drop (o:=.f) (Qc t)
    have uA:=r2.drop (o:=.f) (ZM t)
    have gg:=g2.drop (t':=t)
    have mU:=go.drop gd.wt
    obtain⟨p1,vs,rfl,lL,s1⟩:=oA.eO
    obtain⟨p2,us,rfl,uB,s2⟩:=uA.eO
    refine⟨p1,p2,vs,us,rfl,rfl,lL,uB,oh (by rw[<- s1.length,<- s2.length];exact hl),fun p hp=>?_⟩
    obtain⟨a1,a2,a3⟩:=pK gg hp (s2.app s1)
    exact k _ _ _ _ a1 (mU.trans a2) a3
   ·cases ee
  ·cases ee
 ·cases ee⟩
end
section
variable {X:Cx}{a b c e:Expr}{es:List Expr}{fa fb fc f:aB}{ga gb gc:cq}{g:bM}{qa qb:jq}{s:ay}{pos p p1 p2 p3 aK apos:Pos}
@[simp] def mW (n:Nat)(c:Int):jq:=fun ρ=>match ρ[n]? with
 | some (some (.tup es,_))=>match L2.cO es c with
  | some d=>match cL d with
   | some m=>some (Int.ofNat m)
   | none=>none
  | none=>none
 | _=>none
theorem BI{n j:Nat}{c:Int}(hm:X.mg "len" = none)(h:QE X (.Name x p1) (fO n))(hg:Gl X "len":=by rfl)(hs:pD (.Constant (.int c) j p2):=by exact fun _ _=>rfl)(he:starEach [.Subscript (.Name x p1) (.Constant (.int c) j p2) p3] X.env=(false,eval (.Subscript (.Name x p1) (.Constant (.int c) j p2) p3) X.env)::starEach [] X.env:=by rfl)(bV:(backTo pos (starEach [] X.env)).any (·.1)=false:=by rfl):QQ X (.Call (.Name "len" p) [.Subscript (.Name x p1) (.Constant (.int c) j p2) p3] [] pos) (mW n c):=⟨have h:=h.o;PE.imp (pC v5 hg hm JS (ml (qR qS h zp hs) pA he) (by decide) (by decide) he bV) fun σ H Q ai=>by
 obtain⟨ρ,w,t,i,gd,ee,k⟩:=ai
 unfold mW at ee
 split at ee
 next es q e0=>
  split at ee
  next d hd=>
   split at ee
   next m ot=>
    cases ee
    obtain⟨v,F,h1,h2⟩:=gd.slot n _ _ e0
    obtain⟨p0,vs,rfl,hq,rs⟩:=h2.d9
    obtain⟨u,hu,ru⟩:=rs.cO hd
    obtain⟨p',ys,rfl,k_,hl⟩:=ru.len ot
    exact⟨_,h1,.inr (.inl ⟨p0,vs,c,_,rfl,rfl,hq,hu,p',ys,rfl,k_,by rw[hl];exact k⟩)⟩
   ·cases ee
  ·cases ee
 ·cases ee⟩
@[simp] def rO (k l:Str)(qa qb:jq):aB:=fun ρ=>match qa ρ,qb ρ with
 | some i,some j=>some (.eM [k,l] [.int i,.int j],9,ρ)
 | _,_=>none
theorem Ll{H1:Hp}{p:Addr}{ks:List Str}{w1:Wn}(g:Good K ρ σ H1 w1 t)(hp:H1 p=none)(r:ae K H1 w1 .f 0 ds vs []) :
  Good K ρ σ (upd H1 p (.dK (jT ks vs))) w1 (t+1)/\Go H1 w1 (upd H1 p (.dK (jT ks vs))) w1/\Rep K (upd H1 p (.dK (jT ks vs))) w1 (.t t) 9 (.eM ks ds) (.ref p) []:=by
 have ne:∀ a x,H1 a=some x->a≠p:=fun a x e=>ib e hp
 have nw:∀ a o,w1 a=some o->a≠p:=fun a o e=>by obtain⟨vs,q⟩:=g.wl a o e;exact ne a _ q
 have st:cz H1 w1 (upd H1 p (.dK (jT ks vs))) w1:=fun a x e n=>⟨sm (by rw[ba (ne a x e)];exact e),n⟩
 refine⟨⟨⟨fun a o e=>?_,g.wl.tb.upd rfl (.inl hp)⟩,g.ws,fun a i e=>Q7 (g.wt a i e),g.len,fun i d q e=>?_⟩,⟨st,fun a o e _=>⟨ba (nw a o e),e⟩⟩,?_⟩
 ·obtain⟨us,q⟩:=g.wl a o e
  exact⟨us,by rw[ba (nw a o e)];exact q⟩
 ·obtain⟨v,F,h1,h2⟩:=g.slot i d q e
  exact⟨v,F,h1,Rep.go g.wl st h2 fun a m=>⟨ba (nw a _ (h2.av a m)),h2.av a m⟩⟩
 ·exact .eM fi (by
   cases q:w1 p with
   | none=>rfl
   | some o=>exact absurd rfl (nw p o q)) (ae.go g.wl st r nM)
theorem Lm{k l:Str}{j1 j2:Nat}(Ln:k≠l)(ha:QQ X a qa)(hb:QQ X b qb):QD X (.Dict [some (.Constant (.str k) j1 p1),some (.Constant (.str l) j2 p2)] [a,b] pos) (rO k l qa qb):=⟨have ha:=ha.o;have hb:=hb.o;PE.imp (Hv (Aq vF ha (Aq vF hb Ht)) rfl rfl (by simp) (by show 2<=15;decide)) fun σ H Q ai=>by
 obtain⟨ρ,w,t,r',q,ρ',gd,ee,kk⟩:=ai
 unfold rO at ee
 split at ee
 next i j hi hj=>
  cases ee
  intro p0 hp
  have ne:∀ a x,H a=some x->upd H p0 (.dK []) a=some x:=fun a x e=>by rw[ba (ib e hp)];exact e
  obtain⟨g1,aO⟩:=gd.more ⟨ne,fun t=>t.upd rfl (.inl hp)⟩
  refine⟨ρ,w,t,i,g1,hi,ρ,w,t,j,g1,hj,fi,[(.inr k,.int i),(.inr l,.int j)],rfl,by show 2<=15;decide,?_⟩
  have e:nZ [] [((.inr k:Key),V.int i),(.inr l,.int j)]=jT [k,l] [.int i,.int j]:=by
   have xP:¬ ((Sum.inr k:Key)=.inr l):=fun z=>Ln (JY z)
   simp[nZ,k6,jT,xP]
  rw[e,EC]
  obtain⟨a1,a2,a3⟩:=Ll (ks:=[k,l]) (ds:=[.int i,.int j]) (vs:=[.int i,.int j]) gd hp (.cons (F:=[]) (G:=[]) (.int i) (.cons (F:=[]) (G:=[]) (.int j) .nil nM) nM)
  exact kk _ _ _ _ a1 a2 a3
 ·cases ee⟩
def hV:List Str->List D->Str->Option D
 | x::ks,d::ds,k=>if x=k then some d else hV ks ds k
 | _,_,_=>none
@[simp] def xQ (fo fe ff:aB):aB:=fun ρ=>match fo ρ with
 | some (.eM ks ds,_,ρ1)=>match fe ρ1 with
  | some (.str k,_,ρ2)=>match ff ρ2 with
   | some (z,_,el)=>some ((hV ks ds k).getD z,b_ ((hV ks ds k).getD z),el)
   | none=>none
  | _=>none
 | _=>none
theorem BJ(k:Str):∀ {ks:List Str} {ds:List D} {vs:List V},ae K H w o 0 ds vs []->
  (∀ d,hV ks ds k=some d->∃ v,iO (jT ks vs) (.inr k)=some v/\Rep K H w o 0 d v [])/\(hV ks ds k=none->iO (jT ks vs) (.inr k)=none)
 | [],ds,vs,r=>by
  refine⟨fun d h=>?_,fun _=>rfl⟩
  unfold hV at h
  cases h
 | x::ks,ds,vs,r=>by
  generalize hF:([]:List Addr)=F at r
  cases r with
  | nil=>exact⟨(fun d h=>by unfold hV at h;cases h),fun _=>rfl⟩
  | @cons _ d' v' bg gE F' G' r s _=>
   have h1:F'=[]:=r.zero
   have h2:G'=[]:=s.zero
   subst h1 h2
   have ih:=BJ k (ks:=ks) s
   by_cases hx:x=k
   ·subst hx
    refine⟨fun d h=>?_,fun h=>?_⟩
    ·unfold hV at h
     rw[Qe rfl]at h
     cases h
     exact⟨v',wo rfl,r⟩
    ·unfold hV at h
     rw[Qe rfl]at h
     cases h
   ·have hk:¬ ((Sum.inr x:Key)=.inr k):=fun z=>hx (JY z)
    have e:iO (jT (x::ks) (v'::gE)) (.inr k)=iO (jT ks gE) (.inr k):=wq hk
    rw[e]
    unfold hV
    rw[Qh hx]
    exact ih
theorem Lo{k:Nat}(hr:aD k X.A)(ho:QD X a fa)(he:QD X b fb)(hf:QD X c fc)(dk:attributeBase a "get" X.env (eval a X.env)=eval a X.env:=by rfl)(gn:((backTo aK (starEach [b,c] X.env)).all (fun x=>!x.1)&&(backToKw aK (keywordEach [] X.env)).all (fun x=>x.1.isSome)
   && decide (([b,c]:List Expr).length+([]:List Keyword).length+(if([]:List Keyword).isEmpty then 0 else 1)<30))=true:=by rfl) (dm:(apos.endLine==aK.line)=true:=by rfl) (Lp:backTo aK (starEach [b,c] X.env)=[(false,eval b X.env),(false,eval c X.env)]:=by rfl):QD X (.Call (.Attribute a "get" apos) [b,c] [] aK) (xQ fa fb fc):=⟨have ho:=ho.o;have he:=he.o;have hf:=hf.o;PE.imp (HA (Hl hr) ho he hf ⟨dk,gn,dm,Lp⟩) fun σ H Q ai=>by
 obtain⟨ρ,w,t,r',q,ρ',gd,ee,kk⟩:=ai
 unfold xQ at ee
 split at ee
 next ks ds q1 ρ1 h1=>
  split at ee
  next k0 q2 ρ2 h2=>
   split at ee
   next z q3 el h3=>
    cases ee
    refine⟨ρ,w,t,_,_,_,gd,h1,fun x H1 w1 F1 g1 aO r1=>?_⟩
    have Lq:=r1
    cases Lq with
    | @eM _ a0 _ tP _ pX _ _=>
     refine⟨a0,rfl,.inl ⟨_,.inl pX⟩,ρ1,w1,t+1,_,_,_,g1,h2,fun y H2 w2 F2 g2 bQ r2=>⟨ρ2,w2,t+2,_,_,_,g2,h3,fun zv H3 w3 F3 g3 fI r3=>?_⟩⟩
     have hy:y=kV (.inr k0):=by cases r2;rfl
     subst hy
     have Lr:=(r1.gone g1.wl (bQ.trans fI)).drop (o:=.t t) (Qc t)
     have rz:=r3.drop (o:=.t t) (t':=t) (by omega)
     have go:=(aO.trans bQ).trans fI
     cases Lr with
     | @eM _ _ _ vs _ hH _ rs=>
      obtain⟨v1,v2⟩:=BJ (ks:=ks) k0 rs
      refine⟨_,qZ.k hH,?_⟩
      cases hg:hV ks ds k0 with
      | none=>
       rw[v2 hg]
       rw[hg]at kk
       exact oe kk gd g3 go rz.iq
      | some d=>
       obtain⟨v,ev,rv⟩:=v1 d hg
       rw[ev]
       rw[hg]at kk
       exact oe kk gd g3 go rv.iq
   ·cases ee
  ·cases ee
 ·cases ee⟩
theorem Ls{bC:List Expr}{env:Env}{ks:List (Option Expr)}{vs:List Expr}:starEach (.Dict ks vs pos::bC) env=(false,eval (.Dict ks vs pos) env)::starEach bC env:=by simp only[starEach]
end
end L3
namespace L3
open PySem PySem.Spec PyProof.Rows PySem.W L2
structure Lu (P:Program) (w:World) (outer:List Env) (H:Hp) (s:Shared) (a C t:Addr) (B:Heap) (H':Hp) (s':Shared):Prop where
 os:s'.os=s.os
 bare:AllBare s'.gens
 un:Un (g_ outer) [] H H' s.heap s'.heap
 aF:cN P w H' s'.heap
 fl:Heap.FlyingW B outer a (.ref C) (.ref t) s'.heap
 old:∀ b o,s.heap.get? b=some o->H b=none->b ∉ g_ outer->B.get? b=some o
 Lv:∀ b o,s.heap.get? b=some o->b ∉ g_ outer->∃ o',B.get? b=some o'
 qA:∀ b u o,H' b=some u->s'.heap.get? b=some o->B.get? b=some o
 free:H' a=none
abbrev R3:=aN->Option Str
end L3
namespace L3
open PySem PySem.Spec PyProof.Rows PySem.W L2 PySem.SeqAt
end L3
namespace L3
open PySem PySem.Spec PyProof.Rows L2
end L3
namespace L3
open PySem PySem.Spec PyProof.Rows PySem.W L2
abbrev R4:=aN->Option (Str×aN)
def CE (Y:Cx)(pins:List (Addr×Obj))(σ:St)(H:Hp)(w:Wn)(nm:Str)(ρ1:aN)(ev:Value)(s':Shared):Prop:=
 ∃ s1 H1 w1 a C t B H',ev=.ref a/\Inv Y.gj pins σ H1 s1/\Good Y.K ρ1 σ H1 w1 0/\Go H w H1 w1/\Lu Y.prog Y.w Y.stack H1 s1 a C t B H' s'/\nsIn Y.K mainGlobals nm=some (some (.ref C))/\(∀ b o,H1 b=some o->Sm o (H' b))/\TB Y.K H'
end L3
namespace L3
open PySem PySem.Spec PyProof.Rows L2
end L3
namespace L3
open PySem PySem.Spec PyProof.Rows PySem.W L2
abbrev met (ks:List Int):List Int:=firstMet (fun i=>ks.getD i 0) ks.length
def bl (m:Nat):List Nat:=(List.range 5).filter fun i=>m.testBit i
def bt (m:Nat)(led:Bool):SetTable:={ mask:=if(bl m).length<5 then 7 else 31,place:=(bl m).toArray,dummies:=#[],finger:=0,led:=led,moves:=if(bl m).length<5 then 0 else 1,plain:=true }
def Lw (m:Nat)(z:Nat->Tok):Array (Int×Value):=((bl m).map fun v:Nat=>(Int.ofNat v,Value.int (Int.ofNat v) (z v))).toArray
def so (m:Nat)(z:Nat->Tok)(ep:Nat)(led:Bool):Obj:={ cls:=.type "set",dict:=none,data:=.set (Lw m z) ep (bt m led) }
def bor (m v:Nat):Nat:=m ||| 1 <<< v
def rl (m v:Nat)(led:Bool):=((bt m led).put v).1.relaid ((bl (bor m v)).map Int.ofNat).toArray (SetTable.grown (bl (bor m v)).length)
def mb (val:Nat->Nat):Nat->Nat
 | 0=>0
 | i+1=>bor (mb val i) (val i)
theorem tM:∀ {ks:List Int} {us:List Value},IntsAre us ks->aR (ks.map V.int) us
 | _,_,.nil=>.nil
 | _,_,.cons k t r=>.cons ⟨t,rfl⟩ (tM r)
end L3
namespace L3
open PySem PySem.Spec PyProof.Rows L2
end L3
namespace L3
open PySem PySem.Spec PyProof.Rows PySem.W L2
end L3
namespace L3
open PySem PySem.Spec PyProof.Rows L2
end L3
namespace L3
open PySem PySem.Spec PyProof.Rows PySem.W L2
end L3
namespace L3
open PySem PySem.Spec PyProof.Rows L2
end L3
namespace L3
open PySem PySem.Spec PyProof.Rows PySem.W L2
end L3
namespace L3
open PySem PySem.SetTable
variable {xs:Array Nat}
def Rs (xs:Array Nat):Prop:=∀ a b,a<b->b<xs.size->xs.getD a 0<xs.getD b 0
theorem BK{i:Nat}(h:i<xs.size)(a b:Nat):xs.getD i a=xs.getD i b:=by
 unfold Array.getD
 rw[dif_pos h,dif_pos h]
theorem xR(r:Rs xs)(j:Nat):∀ (fuel lo hi:Nat),hi-lo<=fuel->lo<=hi->hi<=xs.size->(∀ i,i<lo->xs.getD i 0<j)->(∀ i,hi<=i->i<xs.size->j<=xs.getD i 0)->
  below.go xs j fuel lo hi<=xs.size/\(∀ i,i<below.go xs j fuel lo hi->xs.getD i 0<j)/\(∀ i,below.go xs j fuel lo hi<=i->i<xs.size->j<=xs.getD i 0)
 | 0,lo,hi,hf,hl,hs,h1,h2=>by
  unfold below.go
  exact⟨by omega,h1,fun i a b=>h2 i (by omega) b⟩
 | fuel+1,lo,hi,hf,hl,hs,h1,h2=>by
  unfold below.go
  by_cases c:lo<hi
  ·rw[Qe c]
   have hm:(lo+hi) / 2<xs.size:=by omega
   by_cases d:xs.getD ((lo+hi) / 2) j<j
   ·rw[Qe d]
    rw[BK hm j 0]at d
    refine xR r j fuel _ hi (by omega) (by omega) hs (fun i cR=>?_) h2
    by_cases e:i=(lo+hi) / 2
    ·rw[e];exact d
    ·exact Ji (r i _ (by omega) hm) d
   ·rw[Qh d]
    rw[BK hm j 0]at d
    refine xR r j fuel lo _ (by omega) (by omega) (by omega) h1 (fun i a b=>?_)
    by_cases e:i=(lo+hi) / 2
    ·rw[e];omega
    ·have:=r ((lo+hi) / 2) i (by omega) b
     omega
  ·rw[Qh c]
   exact⟨by omega,h1,fun i a b=>h2 i (by omega) b⟩
theorem BL(r:Rs xs)(j:Nat):below xs j<=xs.size/\(∀ i,i<below xs j->xs.getD i 0<j)/\(∀ i,below xs j<=i->i<xs.size->j<=xs.getD i 0):=
 xR r j xs.size 0 xs.size (by omega) (by omega) (Qc _) (fun _ h=>absurd h (Ja _)) (fun i a b=>by omega)
def Lx (mask:Nat)(p:Probe):Probe:=if p.more > 0 then { p with j:=p.j+1,more:=p.more-1 }else { p with j:=(leap mask p.i p.perturb).1,more:=runEnd mask (leap mask p.i p.perturb).1-(leap mask p.i p.perturb).1,i:=(leap mask p.i p.perturb).1,perturb:=(leap mask p.i p.perturb).2 }
def BM (mask:Nat)(h:Int):Probe:={ j:=bits h % (mask+1),more:=runEnd mask (bits h % (mask+1))-bits h % (mask+1),i:=bits h % (mask+1),perturb:=bits h,dummy:=none }
def xS (mask:Nat)(p:Probe):Nat->Probe
 | 0=>p
 | m+1=>xS mask (Lx mask p) m
def lst (mask:Nat):Nat->Nat×Nat->Nat×Nat
 | 0,x=>x
 | s+1,x=>lst mask s (leap mask x.1 x.2)
def xT (mask:Nat):Nat->Nat->Nat
 | 0,a=>a
 | s+1,a=>xT mask s ((a*5+1) % (mask+1))
structure Mk (mask:Nat):Prop where
 all:∀ e,e<=mask->∃ s,s<mask+1/\xT mask s 0=e
 kB:xT mask (mask+1) 0=0
 odd:mask % 2=1
 k7:mask<=511
structure Ly (t:SetTable) (hs:List Int):Prop where
 sz:t.place.size=hs.length
 rs:Rs t.place
 nd:t.dummies = #[]
 rd:Mk t.mask
 le:∀ (i j:Nat),t.place[i]? = some j->j<=t.mask
 room:hs.length<=t.mask
 R5:∀ (i j:Nat) (h:Int),t.place[i]? = some j->hs[i]? = some h->∃ m,m<10*turns t.mask/\(xS t.mask (BM t.mask h) m).j=j/\∀ m',m'<m->∃ i',t.slot (xS t.mask (BM t.mask h) m').j=.live i'
theorem qJ{α:Type}(xs:Array α)(p:Nat)(x:α)(hp:p<=xs.size)(i:Nat):(insertAt xs p x)[i]? = if i<p then xs[i]? else if i=p then some x else xs[i-1]?:=by
 have e:(insertAt xs p x).toList=xs.toList.take p++x::xs.toList.drop p:=by
  unfold insertAt
  simp
  exact JH (by rw[Zy,Za];exact Qc _)
 rw[<- ZI,e]
 by_cases h1:i<p
 ·rw[Qe h1,Qw (by rw[Zc,Za];omega),Zv h1,ZI]
 ·rw[Qh h1,QV (by rw[Zc,Za];omega),Zc,Za,Nat.min_eq_left hp]
  by_cases h2:i=p
  ·rw[Qe h2,h2,Nat.sub_self];rfl
  ·rw[Qh h2]
   obtain⟨k,rfl⟩:∃ k,i=p+k+1:=⟨i-p-1,by omega⟩
   rw[show p+k+1-p=k+1 by omega,ZB,List.getElem?_drop,ZI]
   rfl
end L3
namespace L3
open PySem PySem.Spec PyProof.Rows PySem.W L2
end L3
namespace L3
open PySem PySem.W PyProof.Rows
def lN {α:Type}(lt:Nat->Nat->Bool):KasT α->α
 | .ret a=>a
 | .ask i j k=>lN lt (k (lt i j))
variable {r:Nat->Int}
abbrev mX (r:Nat->Int)(i j:Nat):Bool:=decide (r i<r j)
abbrev xv (r:Nat->Int)(p:Array Nat)(i:Nat):Int:=r (p.getD i 0)
theorem BN{x:Nat->Int}{n:Nat}(h:∀ k,1<=k->k<n->x (k-1)<=x k):∀ (i j:Nat),i<=j->j<n->x i<=x j:=by
 intro i j
 induction j with
 | zero=>
  intro a _
  have:i=0:=by omega
  subst this
  exact JZ _
 | succ j ih=>
  intro a b
  by_cases z:i=j+1
  ·subst z;exact JZ _
  ·exact Int.le_trans (ih (by omega) (by omega)) (h (j+1) (by omega) b)
structure Dn (r:Nat->Int) (p0 p:Array Nat) (n q:Nat):Prop where
 pm:p.Perm p0
 le:n<=p0.size
 q1:q<n
 dn:∀ k,1<=k->k<n->xv r p k<=xv r p (k-1)
 eq:∀ k,n-(q+1)<=k->k<n->xv r p k=xv r p (n-1)
variable {r:Nat->Int}
theorem uG{p:Array Nat}{k:Nat}(up:∀ j,1<=j->j<k->xv r p (j-1)<=xv r p j):∀ (f l u:Nat),u-l<=f->l<=u->u<=k->(∀ i,i<l->xv r p i<=xv r p k)->(∀ i,u<=i->i<k->xv r p k<xv r p i)->
  lN (mX r) (kas_place p k f l u)<=k/\(∀ i,i<lN (mX r) (kas_place p k f l u)->xv r p i<=xv r p k)/\(∀ i,lN (mX r) (kas_place p k f l u)<=i->i<k->xv r p k<xv r p i)
 | 0,l,u,hf,hl,hu,h1,h2=>⟨by show l<=k;omega,h1,fun i a b=>h2 i (by have:l<=i:=a;omega) b⟩
 | f+1,l,u,hf,hl,hu,h1,h2=>by
  have e:lN (mX r) (kas_place p k (f+1) l u)=if l ≥ u then l else if xv r p k<xv r p ((l+u) / 2)then lN (mX r) (kas_place p k f l ((l+u) / 2))else lN (mX r) (kas_place p k f ((l+u) / 2+1) u):=by
   show lN (mX r) (if l ≥ u then KasT.ret l else KasT.ask (p.getD k 0) (p.getD ((l+u) / 2) 0) fun c=>if c=true then kas_place p k f l ((l+u) / 2)else kas_place p k f ((l+u) / 2+1) u)=_
   by_cases c:l ≥ u
   ·rw[Qe c,Qe c];rfl
   ·rw[Qh c,Qh c]
    show lN (mX r) (if decide (r (p.getD k 0)<r (p.getD ((l+u) / 2) 0))=true then kas_place p k f l ((l+u) / 2)else kas_place p k f ((l+u) / 2+1) u)=_
    by_cases d:xv r p k<xv r p ((l+u) / 2)
    ·rw[Qe d,Qe (Q6 d)]
    ·rw[Qh d,Qh (by rw[Zq];exact d)]
  rw[e]
  by_cases c:l ≥ u
  ·rw[Qe c]
   exact⟨by omega,h1,fun i a b=>h2 i (by omega) b⟩
  ·rw[Qh c]
   by_cases d:xv r p k<xv r p ((l+u) / 2)
   ·rw[Qe d]
    refine uG up f l _ (by omega) (by omega) (by omega) h1 fun i a b=>?_
    exact Int.lt_of_lt_of_le d (BN up _ i a b)
   ·rw[Qh d]
    refine uG up f _ u (by omega) (by omega) hu (fun i a=>?_) h2
    have:=BN up i ((l+u) / 2) (by omega) (by omega)
    omega
variable {lt:Nat->Nat->Bool}{n:Nat}
abbrev rk (x:Nat×Nat):Int:=Int.ofNat (x.1*1000+x.2)
end L3
namespace L3
open PySem PySem.Spec PyProof.Rows PySem.W L2
variable {C a l:Addr}{F:D->List D->Option D}{H:Hp}{K:PySem.W.Frag}{N:List Str}{body:ay}{d:D}{ds cX:List D}{f:Str}{i q t:Nat}{o o':Ow}{pl:Sem Bool}{u v:V}{vs:List V}{w w':Wn}{z:HO}{ρ:aN}{σ:St}
section
variable {α β:Type}[DecidableEq α]
def vL:List α->List β->α->Option β
 | x::ks,d::ds,k=>if x=k then some d else vL ks ds k
 | _,_,_=>none
def jr:List α->List β->α->β->List β
 | x::ks,d::ds,k,e=>(if x=k then e else d)::jr ks ds k e
 | _,_,_,_=>[]
end
theorem BO{α β:Type}[DecidableEq α](k:α)(e:β):∀ {ks:List α} {ds:List β},ks.length=ds.length->(jr ks ds k e).length=ds.length
 | [],[],_=>rfl
 | x::ks,d::ds,h=>by
  show(jr ks ds k e).length+1=ds.length+1
  rw[BO k e (JI h)]
section
variable {K:PySem.W.Frag}{H:Hp}{w:Wn}{o:Ow}
theorem ae.split(r:ae K H w o 0 (d::ds) vs []):∃ v us,vs=v::us/\Rep K H w o 0 d v []/\ae K H w o 0 ds us []:=by
 generalize hF:([]:List Addr)=F at r
 cases r with
 | @cons _ d' v' bg gE F' G' r s _=>
  have h1:F'=[]:=r.zero
  have h2:G'=[]:=s.zero
  subst h1 h2
  exact⟨v',gE,rfl,r,s⟩
theorem ae.xU(r:Rep K H w o 0 d v [])(s:ae K H w o 0 ds vs []):ae K H w o 0 (d::ds) (v::vs) []:=.cons (F:=[]) (G:=[]) r s nM
theorem ae.oF(r:ae K H w o 0 [] vs []):vs=[]:=by
 have:=r.length
 cases vs with
 | nil=>rfl
 | cons _ _=>cases this
theorem BP{α:Type}[DecidableEq α](k:α):∀ {ks:List α} {ds:List D} {vs:List V},ae K H w o 0 ds vs []->
  (∀ d,vL ks ds k=some d->∃ v,vL ks vs k=some v/\Rep K H w o 0 d v [])/\(vL ks ds k=none->vL ks vs k=none)
 | [],ds,vs,r=>⟨fun d h=>by simp[vL]at h,fun _=>by simp[vL]⟩
 | x::ks,[],vs,r=>by
  rw[r.oF]
  exact⟨fun d h=>by simp[vL]at h,fun _=>by simp[vL]⟩
 | x::ks,d::ds,vs,r=>by
  obtain⟨v,us,rfl,r1,s⟩:=r.split
  have ih:=BP k (ks:=ks) s
  by_cases hx:x=k
  ·simp only[vL,Qe hx]
   exact⟨fun d' h=>by cases h;exact⟨v,rfl,r1⟩,fun h=>by cases h⟩
  ·simp only[vL,Qh hx]
   exact ih
theorem BQ{α:Type}[DecidableEq α](k:α){e:D}(re:Rep K H w o 0 e u []):∀ {ks:List α} {ds:List D} {vs:List V},ae K H w o 0 ds vs []->ae K H w o 0 (jr ks ds k e) (jr ks vs k u) []
 | [],ds,vs,r=>by simp only[jr];exact .nil
 | x::ks,[],vs,r=>by
  rw[r.oF]
  simp only[jr];exact .nil
 | x::ks,d::ds,vs,r=>by
  obtain⟨v,us,rfl,r1,s⟩:=r.split
  simp only[jr]
  refine .xU ?_ (BQ k re s)
  by_cases hx:x=k
  ·rw[Qe hx,Qe hx];exact re
  ·rw[Qh hx,Qh hx];exact r1
end
theorem Lz(v:OX):lg v.ho=false:=by cases v<;>rfl
theorem MK.BR{k:MK}{x:HO}(h:k.Is K a vs x):lg x=false:=by
 obtain⟨v,rfl⟩:=MK.ox h
 exact Lz v
section
variable {K:PySem.W.Frag}{σ:St}{ρ:aN}{t:Nat}
theorem Rep.xV{k:MK}{F:List Addr}(r:Rep K H w o q (.mp k ds) v F):∃ a vs z,v=.ref a/\H a=some z/\k.Is K a vs z/\k.len=ds.length/\ae K H w o 0 ds vs []:=by
 cases r with
 | la h i e l r=>exact⟨_,_,_,rfl,h,i,l,r⟩
 | fR h i e l r=>exact⟨_,_,_,rfl,h,i,l,r⟩
theorem Good.rP{k:MK}(g:Good K ρ σ H w t)(e:ρ[i]? = some (some (.mp k ds,q))) :
  ∃ l vs z,σ[i]? = some (some (.ref l))/\H l=some z/\k.Is K l vs z/\k.len=ds.length/\ae K H w .f 0 ds vs []:=by
 obtain⟨v,F,h1,h2⟩:=g.slot i _ _ e
 obtain⟨a,vs,z,rfl,x1,x2,x3,x4⟩:=h2.xV
 exact⟨a,vs,z,h1,x1,x2,x3,x4.any g.wl⟩
theorem Good.xW{k:MK}(g:Good K ρ σ H w t)(e:ρ[i]? = some (some (.mp k ds,1))) :
  ∃ l vs z,σ[i]? = some (some (.ref l))/\H l=some z/\k.Is K l vs z/\k.len=ds.length/\ae K H w .f 0 ds vs []/\∀ k' bg gE z',k'.Is K l gE z'->k'.len=bg.length->ae K H w .f 0 bg gE []->
   Good K (ρ.set i (some (.mp k' bg,1))) σ (upd H l z') w t/\Go H w (upd H l z') w:=by
 obtain⟨v,F,h1,h2⟩:=g.slot i _ _ e
 cases h2 with
 | @fR _ l vs _ _ z hl gM hw hlen rs=>
  refine⟨l,vs,z,h1,hl,gM,hlen,rs.any g.wl,fun k' bg gE z' i' l' r'=>?_⟩
  have nl:∀ a o,w a=some o->o ≠ .s i->a≠l:=fun a o e n z=>by subst z;rw[hw]at e;exact n (Qp e).symm
  have nn:∀ a,w a=none->a≠l:=fun a e z=>by subst z;rw[hw]at e;cases e
  have st:cz H w (upd H l z') w:=fun a x h n=>⟨sm (by rw[ba (nn a n)];exact h),n⟩
  refine⟨⟨⟨fun a o h=>?_,g.wl.tb.upd (MK.BR i') (.inr (g.wl l _ hw))⟩,g.ws,g.wt,by rw[QJ];exact g.len,fun j d' q' e'=>?_⟩,⟨st,fun a o h n=>⟨ba (nl a o h (n i)),h⟩⟩⟩
  ·by_cases z:a=l
   ·subst z
    obtain⟨v,rfl⟩:=MK.ox i'
    exact⟨v,fi⟩
   ·obtain⟨us,q⟩:=g.wl a o h
    exact⟨us,by rw[ba z];exact q⟩
  ·by_cases hj:i=j
   ·subst hj
    rw[Qz (Qv.mp e).1]at e'
    cases e'
    exact⟨_,_,h1,.fR fi i' hw l' (ae.go g.wl st r' nM)⟩
   ·rw[Qx hj]at e'
    obtain⟨v',F',lF,eo⟩:=g.slot j d' q' e'
    exact⟨v',F',lF,Rep.go g.wl st eo fun a m=>⟨ba (nl a _ (eo.av a m) (fun z=>hj (by cases z;rfl))),eo.av a m⟩⟩
end
theorem Rep.xX(hl:H l=some z)(hz:(∀ xs,z ≠ .lst xs)/\∀ ob u,z ≠ .dZ ob u)(n:∀ a,a≠l->w a=none->w' a=none):∀ {q:Nat} {d:D} {v:V} {F:List Addr},Rep K H w o q d v F->fu d=true->(∀ a∈F,w' a=some o')->Rep K H w' o' q d v F:=by
 intro q d v F r
 refine Rep.rec (motive_1:=fun q d v F _=>fu d=true->(∀ a∈F,w' a=some o')->Rep K H w' o' q d v F) (motive_2:=fun q ds vs F _=>jn ds=true->(∀ a∈F,w' a=some o')->ae K H w' o' q ds vs F) ?_ ?_ ?_ ?_ ?_ ?_ ?_ ?_ ?_ ?_ ?_ ?_ ?_ ?_ ?_ r
 ·intro q _ _;exact .aS
 ·intro q b _ _;exact .bl b
 ·intro q i _ _;exact .int i
 ·intro q x _ _;exact .str x
 ·intro q a vs ds h r ih hn _;exact .tup h (ih (by unfold fu at hn;exact hn) nM)
 ·intro q a ks vs ds h e r ih hn _;cases hn
 ·intro q a nm ob u h x n hn _;cases hn
 ·intro q f c fo oc u u' vs ds h1 h2 x r ih hn _;cases hn
 ·intro a vs ds h r ih hn _;exact .kl h (ih (by unfold fu at hn;exact hn) nM)
 ·intro a vs ds h e r ih hn _
  refine .shr h (n a (fun q=>?_) e) (ih (by unfold fu at hn;exact hn) nM)
  subst q
  rcases h with h|⟨ob,h⟩
  ·rw[hl]at h;exact hz.1 _ (Qp h)
  ·rw[hl]at h;exact hz.2 _ _ (Qp h)
 ·intro q a vs ds F h e r ne ih hn k;exact .own h (k _ Qd) (ih (by unfold fu at hn;exact hn) fun a m=>k a (Qa _ m)) ne
 ·intro a vs ds k x h i e l r ih hn _;cases hn
 ·intro q a vs ds k x h i e l r ih hn _;cases hn
 ·intro q _ _;exact .nil
 ·intro q d v ds vs F G r s ne lh lj hn k
  unfold jn at hn
  exact .cons (lh (QG.mp hn).1 fun a m=>k a (QM _ m)) (lj (QG.mp hn).2 fun a m=>k a (Qi _ m)) ne
def pY:Nat->D->Bool
 | 0,d=>fu d
 | _+1,.mp _ ds=>jn ds
 | _+1,d=>fu d
theorem Rep.xY(hl:H l=some z)(hz:(∀ xs,z ≠ .lst xs)/\∀ ob u,z ≠ .dZ ob u)(n:∀ a,a≠l->w a=none->w' a=none){F:List Addr}(r:Rep K H w o q d v F)(hd:pY q d=true)(k:∀ a∈F,w' a=some o'):Rep K H w' o' q d v F:=by
 cases q with
 | zero=>exact Rep.xX hl hz n r hd k
 | succ q=>
  cases d with
  | mp mk ds=>
   cases r with
   | fR h i e le rs=>
    refine .fR h i (k _ (QB.mpr rfl)) le ?_
    have hd:jn ds=true:=hd
    have key:∀ {ds:List D} {vs:List V},jn ds=true->ae K H w o 0 ds vs []->ae K H w' o' 0 ds vs []:=by
     intro ds
     induction ds with
     | nil=>intro vs _ r;rw[r.oF];exact .nil
     | cons d ds ih=>
      intro vs hn r
      obtain⟨v,us,rfl,r1,s⟩:=r.split
      unfold jn at hn
      exact .xU (Rep.xX hl hz n r1 (QG.mp hn).1 nM) (ih (QG.mp hn).2 s)
    exact key hd rs
  | _=>exact Rep.xX hl hz n r hd k
theorem LA{H':Hp}{Fo:List Addr}(g:Good K ρ σ H w t)(hl:H l=some z)(hw:w l=some (.s i))(hz:(∀ xs,z ≠ .lst xs)/\(∀ ob u,z ≠ .dZ ob u))(LB:lg z=false)
  (go:Go H (fun a=>if a=l then none else(w a).map fun _=>Ow.f) H' w') (jD:WL K w' H') (r:Rep K H' w' (.t 0) q d v Fo) (hd:pY q d=true) :
  Good K ρ σ H' (fun a=>if a∈Fo then some (.t t)else w a) (t+1)/\Go H w H' (fun a=>if a∈Fo then some (.t t)else w a)/\Rep K H' (fun a=>if a∈Fo then some (.t t)else w a) (.t t) q d v Fo:=by
 obtain⟨s1,s2⟩:=go.bo l z hl (Qe rfl)
 have fj:H' l=some z:=s1.eq LB
 have kf:∀ a o,w a=some o->H' a=H a:=fun a o e=>by
  by_cases ha:a=l
  ·rw[ha,fj,hl]
  ·exact(go.keep a .f (by show(if a=l then none else(w a).map _)=_;rw[Qh ha,e];rfl) (fun _ z=>nomatch z)).1
 have kw:∀ a o,w a=some o->a≠l->w' a=some .f:=fun a o e ha=>(go.keep a .f (by show(if a=l then none else(w a).map _)=_;rw[Qh ha,e];rfl) (fun _ z=>nomatch z)).2
 have nf:∀ a x,H a=some x->a ∉ Fo:=fun a x e m=>by
  have h1:=r.av a m
  by_cases ha:a=l
  ·rw[ha,s2]at h1;cases h1
  ·cases ew:w a with
   | none=>
    have:=(go.bo a x e (by show(if a=l then none else(w a).map _)=_;rw[Qh ha,ew];rfl)).2
    rw[h1]at this;cases this
   | some o=>rw[kw a o ew ha]at h1;cases h1
 have nw:∀ a o,w a=some o->a ∉ Fo:=fun a o e=>by obtain⟨vs,q⟩:=g.wl a o e;exact nf a _ q
 have st:cz H w H' (fun a=>if a∈Fo then some (.t t)else w a):=fun a x e n=>by
  have ha:a≠l:=fun q=>by rw[q,hw]at n;cases n
  refine⟨(go.bo a x e (by show(if a=l then none else(w a).map _)=_;rw[Qh ha,n];rfl)).1,?_⟩
  show(if a∈Fo then _ else _)=_
  rw[Qh (nf a x e)];exact n
 have wv:∀ a o,(if a∈Fo then some (Ow.t t)else w a)=some o->(a∈Fo/\o=.t t)\/w a=some o:=fun a o e=>by
  split at e
  ·cases e;exact .inl ⟨by assumption,rfl⟩
  ·exact .inr e
 refine⟨⟨⟨fun a o e=>?_,jD.tb⟩,fun a i e=>?_,fun a i e=>?_,g.len,fun i d q e=>?_⟩,⟨st,fun a o e _=>⟨kf a o e,by show(if a∈Fo then _ else _)=_;rw[Qh (nw a o e)];exact e⟩⟩,?_⟩
 ·rcases wv a o e with⟨m,_⟩|z
  ·exact jD a _ (r.av a m)
  ·obtain⟨vs,h⟩:=g.wl a o z
   exact⟨vs,(kf a o z).trans h⟩
 ·rcases wv a _ e with⟨_,z⟩|z
  ·cases z
  ·exact g.ws a i z
 ·rcases wv a _ e with⟨_,z⟩|z
  ·cases z;exact QU _
  ·exact Q7 (g.wt a i z)
 ·obtain⟨v,F,h1,h2⟩:=g.slot i d q e
  refine⟨v,F,h1,Rep.go g.wl st h2 fun a m=>⟨kf a _ (h2.av a m),?_⟩⟩
  show(if a∈Fo then _ else _)=_
  rw[Qh (nw a _ (h2.av a m))]
  exact h2.av a m
 ·refine Rep.xY fj hz (fun a ha n=>?_) r hd fun a m=>Qe m
  show(if a∈Fo then _ else _)=_
  rw[Qh (fun m=>by have:=r.av a m;rw[n]at this;cases this)]
  cases ew:w a with
  | none=>rfl
  | some o=>have:=kw a o ew ha;rw[n]at this;cases this
section
variable {X:Cx}{a b c e:Expr}{fa fb fc f:aB}{p p1 p2 pos pos' aK apos:Pos}{x y:Str}{i j:Nat}
theorem MK.LC{a:Addr}{k:MK}(h:k.Is K a vs z):(∀ xs,z ≠ .lst xs)/\∀ ob u,z ≠ .dZ ob u:=by
 cases k with
 | t ks=>cases h;exact⟨(fun _ z=>nomatch z),(fun _ _ z=>nomatch z)⟩
 | k ks=>cases h;exact⟨(fun _ z=>nomatch z),(fun _ _ z=>nomatch z)⟩
 | i C fs p=>obtain⟨_,dx,_,rfl,_⟩:=h;exact⟨(fun _ z=>nomatch z),(fun _ _ z=>nomatch z)⟩
end
def j3 (fs:List Str)(f:Str):List Str:=if f∈fs then fs else fs++[f]
def iZ {β:Type}(fs:List Str)(ds:List β)(f:Str)(d:β):List β:=if f∈fs then jr fs ds f d else ds++[d]
theorem xZ:∀ {fs:List Str} {vs:List V} {f:Str},(fs.zip vs).lookup f=vL fs vs f
 | [],vs,f=>by simp[vL]
 | g::fs,[],f=>by simp[vL]
 | g::fs,v::vs,f=>by
  show List.lookup f ((g,v)::fs.zip vs)=(if g=f then some v else vL fs vs f)
  rw[QR]
  by_cases h:g=f
  ·subst h;rw[Qe rfl,ZA]
  ·rw[Qh h,beq_false_of_ne (fun z=>h z.symm)]
   exact xZ
theorem x5{β:Type}:∀ {fs:List Str} {ds:List β} {f:Str} {d:β},vL fs ds f=some d->f∈fs
 | [],ds,f,d,h=>by simp[vL]at h
 | g::fs,[],f,d,h=>by simp[vL]at h
 | g::fs,x::ds,f,d,h=>by
  have h:(if g=f then some x else vL fs ds f)=some d:=h
  by_cases e:g=f
  ·rw[e];exact Qd
  ·rw[Qh e]at h;exact Qa _ (x5 h)
theorem BS{β:Type}{u:β}:∀ {fs:List Str} {vs:List β},fs.length=vs.length->f ∉ fs->jr fs vs f u=vs
 | [],[],_,_=>rfl
 | g::fs,v::vs,hl,h=>by
  show(if g=f then u else v)::jr fs vs f u=v::vs
  rw[Qh (fun z:g=f=>h (by rw[z];exact Qd)),BS (by simpa using hl) (fun z=>h (Qa _ z))]
theorem BU:∀ {fs:List Str} {vs:List V},fs.Nodup->fs.length=vs.length->gk f u (fs.zip vs)=(j3 fs f).zip (iZ fs vs f u)
 | [],[],_,_=>by simp[gk,j3,iZ]
 | g::fs,v::vs,nd,hl=>by
  have BV:=Zn.mp nd
  have fj:fs.length=vs.length:=by simpa using hl
  show(if g=f then(g,u)::fs.zip vs else(g,v)::gk f u (fs.zip vs))=_
  by_cases h:g=f
  ·subst h
   rw[Qe rfl]
   unfold j3 iZ
   rw[Qe Qd,Qe Qd]
   show _=(g::fs).zip ((if g=g then u else v)::jr fs vs g u)
   rw[Qe rfl,BS fj BV.1]
   rfl
  ·rw[Qh h,BU BV.2 fj]
   unfold j3 iZ
   by_cases hm:f∈fs
   ·rw[Qe hm,Qe hm,Qe (Qa _ hm),Qe (Qa _ hm)]
    show _=(g::fs).zip ((if g=f then u else v)::jr fs vs f u)
    rw[Qh h]
    rfl
   ·have ot:f ∉ g::fs:=fun z=>(Qr.mp z).elim (fun e=>h e.symm) hm
    rw[Qh hm,Qh hm,Qh ot,Qh ot]
    rfl
theorem LD{β γ:Type}{fs:List Str}{ds:List β}{d:β}(hl:fs.length=ds.length):(j3 fs f).length=(iZ fs ds f d).length:=by
 unfold j3 iZ
 by_cases h:f∈fs
 ·rw[Qe h,Qe h,BO _ _ hl,hl]
 ·rw[Qh h,Qh h,Qt,Qt,hl]
  rfl
def fV (i:Nat)(f:Str):aB:=fun ρ=>match ρ[i]? with
 | some (some (.mp (.i _ fs _) ds,_))=>match vL fs ds f with
  | some d=>some (d,b_ d,ρ)
  | none=>none
 | _=>none
def i5 (nm:Str)(i:Nat)(f:Str)(fe:aB):ay:=fun ρ=>match fe ρ with
 | some (d,_,ρ1)=>match ρ1[i]? with
  | some (some (.mp (.i gH fs p) ds,1))=>if gH=nm/\fs.Nodup/\ds.length<999 then some (.nx (ρ1.set i (some (.mp (.i nm (j3 fs f) p) (iZ fs ds f d),1))))else none
  | _=>none
 | none=>none
def iy (K:PySem.W.Frag)(nm f:Str):Prop:=∀ C,nsIn K mainGlobals nm=some (some (.ref C))->mj K C f
section
variable {X:Cx}{a b c e:Expr}{fa fb fc f:aB}{p p1 p2 pos pos' aK apos:Pos}{x g nm:Str}{i j:Nat}
theorem i6(h:QE X (.Name x p1) (fO i))(hb:attributeBase (.Name x p1) g X.env (eval (.Name x p1) X.env)=eval (.Name x p1) X.env:=by rfl):QD X (.Attribute (.Name x p1) g pos) (fV i g):=⟨have h:=h.o;PE.imp (Gf h hb) fun σ H Q ai=>by
 obtain⟨ρ,w,t,r',q,ρ',gd,ee,kk⟩:=ai
 unfold fV at ee
 split at ee
 next nm fs pn ds q1 e1=>
  split at ee
  next d hg=>
   cases ee
   obtain⟨l,vs,z,eP,hH,gM,_,rs⟩:=gd.rP e1
   obtain⟨C,dx,_,rfl,ic,na,_⟩:=gM
   obtain⟨v,hv,rd⟩:=(BP g rs).1 _ hg
   exact⟨_,eP,l,C,dx,_,v,rfl,hH,ic.cl,na g (x5 hg),by rw[xZ];exact hv,kk _ H w [] gd.up Go.refl (rd.any gd.wl).iq⟩
  ·cases ee
 ·cases ee⟩
theorem kF(hn:iy X.K nm g)(h:QE X (.Name x p1) (fO i))(hv:QD X e f)(hs:swapsWith e (some (.Attribute (.Name x p1) g pos')) pos.line X.env=pure false:=by rfl):iu X (.Assign [.Attribute (.Name x p1) g pos'] e pos) (i5 nm i g f):=⟨have h:=h.o;have hv:=hv.o;PS.imp (Gg h hv hs) fun Dn σ H ai=>by
 obtain⟨ρ,w,o,gd,ee,kk⟩:=ai
 unfold i5 at ee
 split at ee
 next d q0 ρ1 h0=>
  split at ee
  next gH fs pn ds e1=>
   split at ee
   next hh=>
    obtain⟨rfl,nd,k7⟩:=hh
    cases ee
    refine⟨ρ,w,0,_,_,_,gd,h0,fun u H1 w1 F1 g1 aO r1=>?_⟩
    have gg:=g1.drop (t':=0)
    obtain⟨l,vs,z,eP,hH,gM,hl,rs,mk⟩:=gg.xW e1
    have rv:=r1.drop (o:=.f) (t':=0) (Qc 0)
    obtain⟨C,dx,fk,rfl,ic,na,BW⟩:=gM
    have hl:fs.length=ds.length:=hl
    have lv:=rs.length
    have LF:fs.length=vs.length:=by omega
    have lH:ae X.K H1 (bZ 0 w1) .f 0 (iZ fs ds g d) (iZ fs vs g u) []:=by
     unfold iZ
     split
     ·exact BQ g rv rs
     ·exact ae.snoc (F:=[]) (G:=[]) rv rs nM
    obtain⟨m1,m2⟩:=mk (.i gH (j3 fs g) pn) (iZ fs ds g d) (iZ fs vs g u) (.ins C dx ((j3 fs g).zip (iZ fs vs g u))) ⟨C,dx,fk,rfl,ic,fun y hy=>by
     unfold j3 at hy
     split at hy
     ·exact na y hy
     ·rcases QN.mp hy with z|z
      ·exact na y z
      ·rw[QB.mp z];exact hn C fk,BW⟩ (LD (γ:=Unit) hl) lH
    refine⟨_,eP,l,C,dx,fs.zip vs,rfl,hH,ic.cl,hn C fk,by rw[List.length_zip];omega,?_⟩
    rw[BU nd LF]
    exact kk σ _ _ rfl m1 ((aO.drop gd.wt).trans m2)
   ·cases ee
  ·cases ee
 ·cases ee⟩
end
def eJ (l:Addr)(w:Wn):Wn:=fun a=>if a=l then some (.s 0)else(w a).map fun _=>Ow.f
theorem BX:eJ l w l=some (.s 0):=Qe rfl
theorem BY(h:w a=some o)(n:a≠l):eJ l w a=some .f:=by unfold eJ;rw[Qh n,h];rfl
theorem uH(h:w a=none)(n:a≠l):eJ l w a=none:=by unfold eJ;rw[Qh n,h];rfl
theorem x6(h:eJ l w a=some o):(a=l/\o=.s 0)\/(a≠l/\o=.f/\∃ o',w a=some o'):=by
 unfold eJ at h
 split at h
 ·rename_i e;cases h;exact .inl ⟨e,rfl⟩
 next e=>
  cases ew:w a with
  | none=>rw[ew]at h;cases h
  | some o'=>rw[ew]at h;cases h;exact .inr ⟨e,rfl,o',rfl⟩
def rQ (K:PySem.W.Frag)(n:Nat)(F:D->List D->Option D):Sp:=fun vs H Q _=>vs.length=n/\∃ l us nm fs cX ds w b8 bg,vs=.ref l::us /\
 (∀ a o,w a=some o->(a=l/\o=.s 0)\/(a≠l/\o=.f))/\WL K w H/\Rep K H w (.s 0) 1 (.mp (.i nm fs (some l)) cX) (.ref l) [l]/\ae K H w .f 0 ds us [] /\
 F (.mp (.i nm fs (some l)) cX) ds=some (.mp (.i nm b8 (some l)) bg) /\
 ∀ H' w',Go H w H' w'->WL K w' H'->Rep K H' w' (.s 0) 1 (.mp (.i nm b8 (some l)) bg) (.ref l) [l]->Q .aS H'
@[simp] def rR (n:Nat)(d:D)(ds:List D):aN:=some (d,1)::(ds.map (fun d=>some (d,b_ d))++List.replicate (n-(ds.length+1)) none)
def hX (n:Nat)(body:ay):D->List D->Option D:=fun d ds=>match body (rR n d ds)with
 | some (.nx ρ)=>match (ρ[0]?:Option (OD))with
  | some (some (.mp k ds,1))=>some (.mp k ds)
  | _=>none
 | _=>none
theorem LG{us:List V}(hw:∀ a o,w a=some o->(a=l/\o=.s 0)\/(a≠l/\o=.f))(wl:WL K w H)(r0:Rep K H w (.s 0) 1 d (.ref l) [l])(r:ae K H w .f 0 ds us []):Good K (rR N.length d ds) (L2.gC N (.ref l::us)) H w 0:=by
 refine⟨wl,(fun a i e=>by
  rcases hw a _ e with⟨_,z⟩|⟨_,z⟩
  ·cases z;unfold L2.gC;simp
  ·cases z),(fun a i e=>by
  rcases hw a _ e with⟨_,z⟩|⟨_,z⟩<;>cases z),?_,fun i d' q e=>?_⟩
 ·unfold rR L2.gC
  simp[r.length]
 ·unfold rR at e
  cases i with
  | zero=>
   cases e
   exact⟨_,_,by unfold L2.gC;rfl,r0⟩
  | succ i=>
   rw[ZB]at e
   by_cases hi:i<ds.length
   ·rw[Qw (by simpa using hi),Qo]at e
    cases h:ds[i]? with
    | none=>rw[h]at e;cases e
    | some d1=>
     rw[h]at e
     cases e
     obtain⟨v,hv,rv⟩:=r.get h
     refine⟨v,[],?_,(rv.any wl:Rep K H w (.s (i+1)) 0 _ v []).iq⟩
     unfold L2.gC
     rw[Q3,List.cons_append,ZB,Qw (by rw[Qm,<- r.length];exact hi),Qo,hv]
     rfl
   ·rw[QV (by simpa using hi),Q5]at e
    split at e<;>cases e
theorem LH{n:Nat}{Q:VK}{E:XK}(h:rQ K n (hX N.length body) vs H Q E):rq K body { nx:=fun _ H'=>Q .aS H',rt:=Q } (L2.gC N vs) H:=by
 obtain⟨hn,l,us,nm,fs,cX,ds,w,b8,bg,rfl,hw,wl,r0,rs,e,k⟩:=h
 unfold hX at e
 split at e
 next ρ' h1=>
  split at e
  next k0 d0 e0=>
   cases e
   refine⟨_,w,_,LG hw wl r0 rs,h1,fun aA H' w' _ g' d8=>k H' w' d8 g'.wl ?_⟩
   obtain⟨v,F,_,r⟩:=g'.slot 0 _ _ e0
   cases r with
   | @fR _ a vs _ _ z hH gM ho hl lH=>
    have ha:a=l:=by
     obtain⟨_,_,_,_,_,_,hp⟩:=gM
     exact hp l rfl
    subst ha
    exact .fR hH gM ho hl lH
  ·cases e
 ·cases e
structure i7 (K:PySem.W.Frag) (nm m qual:Str) (st:Stmt) (ps:List Str):Prop where
 ex:∃ C f fd,nsIn K mainGlobals nm=some (some (.ref C))/\gK K C m f/\iN K m qual st f fd/\gL K fd ps []
def gQ (P:Program)(w:World)(K:PySem.W.Frag)(mg:Str->Option Value)(base:Heap)(k:Nat)(nm m:Str)(n:Nat)(F:D->List D->Option D):Prop:=
 ∃ C f fd ps,nsIn K mainGlobals nm=some (some (.ref C))/\gK K C m f/\bO P w K mg base c_ k f fd ps (rQ K n F)/\gL K fd ps []
def gR (P:Program)(w:World)(K:PySem.W.Frag)(mg:Str->Option Value)(base:Heap)(k:Nat)(nm m:Str)(n:Nat)(F:List D->OD):Prop:=
 ∃ C f fd ps,nsIn K mainGlobals nm=some (some (.ref C))/\gK K C m f/\bO P w K mg base c_ k f fd ps (iR K n F)/\gL K fd ps []
def lO (P:Program)(w:World)(K:PySem.W.Frag)(mg:Str->Option Value)(base:Heap)(k:Nat)(x:Str)(n:Nat)(F:D->List D->Option D):Prop:=
 ∃ f fd ps,bO P w K mg base c_ k f fd ps (rQ K n F)/\mg x=some (.ref f)/\PySem.W.keepIn K (.ref f)=true/\gL K fd ps []
def lP (P:Program)(w:World)(K:PySem.W.Frag)(mg:Str->Option Value)(base:Heap)(k:Nat)(nm:Str)(n:Nat)(F:D->List D->Option D):Prop:=
 ∃ C f fd ps,nsIn K mainGlobals nm=some (some (.ref C))/\mg nm=some (.ref C)/\L2.Mk K C f/\fE K C/\bO P w K mg base c_ k f fd ps (rQ K n F)/\gL K fd ps []
theorem x8{P:Program}{wd:World}{mg:Str->Option Value}{base:Heap}{x qual:Str}{st:Stmt}{f:Addr}{fd:FuncData}{ps:List Str}{k:Nat}(F:iN K x qual st f fd)(S:af N ps (aG st))
  (h:∀ (aQ:Value) (A:Around) (outer:List Env) (s:Shared) (H:Hp) (E:XK),aD k (A.deeper (envOfC qual (aG st) s.heap.objs.size f aQ))->lu (fP c_ P wd K mg base N qual (aG st) f aQ A outer s H E).gj (d7 st) body) :
  bO P wd K mg base c_ (k+1) f fd ps (rQ K ps.length (hX N.length body)):=
 F.ok S (fun vs H Q E h=>h.1) fun aQ A outer s H vs Q E hr jC=>⟨_,h aQ A outer s H E hr,LH jC⟩
section
variable {P:Program}{w:World}{K:PySem.W.Frag}{mg:Str->Option Value}{base:Heap}{k:Nat}{x nm m qual:Str}{st:Stmt}{N ps:List Str}{body:ay}
theorem gQ.mk(a:i7 K nm m qual st ps)(S:af N ps (aG st))
  (h:∀ (f:Addr) (aQ:Value) (A:Around) (outer:List Env) (s:Shared) (H:Hp) (E:XK),aD k (A.deeper (envOfC qual (aG st) s.heap.objs.size f aQ))->lu (fP c_ P w K mg base N qual (aG st) f aQ A outer s H E).gj (d7 st) body) :
  gQ P w K mg base (k+1) nm m ps.length (hX N.length body):=by
 obtain⟨C,f,fd,hC,hm,F,b⟩:=a.ex
 exact⟨C,f,fd,ps,hC,hm,x8 F S (h f),b⟩
theorem gR.mk(a:i7 K nm m qual st ps)(S:af N ps (aG st))
  (h:∀ (f:Addr) (aQ:Value) (A:Around) (outer:List Env) (s:Shared) (H:Hp) (E:XK),aD k (A.deeper (envOfC qual (aG st) s.heap.objs.size f aQ))->lu (fP c_ P w K mg base N qual (aG st) f aQ A outer s H E).gj (d7 st) body) :
  gR P w K mg base (k+1) nm m ps.length (bw N.length body):=by
 obtain⟨C,f,fd,hC,hm,F,b⟩:=a.ex
 exact⟨C,f,fd,ps,hC,hm,xk F S (h f),b⟩
theorem lO.mk(a:At K mg x st ps)(S:af N ps (aG st))
  (h:∀ (f:Addr) (aQ:Value) (A:Around) (outer:List Env) (s:Shared) (H:Hp) (E:XK),aD k (A.deeper (envOfC x (aG st) s.heap.objs.size f aQ))->lu (fP c_ P w K mg base N x (aG st) f aQ A outer s H E).gj (d7 st) body) :
  lO P w K mg base (k+1) x ps.length (hX N.length body):=by
 obtain⟨f,fd,F,m,b⟩:=a
 exact⟨f,fd,ps,x8 F S (h f),m,F.kp,b⟩
theorem lP.mk(a:i7 K nm "__init__" qual st ps)(hc:∀ C,nsIn K mainGlobals nm=some (some (.ref C))->mg nm=some (.ref C)/\makesIn K C=true/\keepIn K (.ref C)=true/\fE K C)(S:af N ps (aG st))
  (h:∀ (f:Addr) (aQ:Value) (A:Around) (outer:List Env) (s:Shared) (H:Hp) (E:XK),aD k (A.deeper (envOfC qual (aG st) s.heap.objs.size f aQ))->lu (fP c_ P w K mg base N qual (aG st) f aQ A outer s H E).gj (d7 st) body) :
  lP P w K mg base (k+1) nm ps.length (hX N.length body):=by
 obtain⟨C,f,fd,hC,hm,F,b⟩:=a.ex
 obtain⟨h1,h2,h3,h4⟩:=hc C hC
 exact⟨C,f,fd,ps,hC,h1,⟨h2,hm.at_,hm.fn,h3⟩,h4,x8 F S (h f),b⟩
end
def mY (F:D->List D->Option D)(nm:Str)(fs:List Str)(cX ds:List D):Option (List Str×List D):=
 open Classical in if h:∃ r:List Str×List D,∀ p,F (.mp (.i nm fs (some p)) cX) ds=some (.mp (.i nm r.1 (some p)) r.2)then some h.choose else none
theorem uI{nm:Str}{fs:List Str}{r:List Str×List D}(h:mY F nm fs cX ds=some r)(p:Addr):F (.mp (.i nm fs (some p)) cX) ds=some (.mp (.i nm r.1 (some p)) r.2):=by
 unfold mY at h
 split at h
 next e=>
  cases h
  exact e.choose_spec p
 ·cases h
theorem x9{nm:Str}{fs b8:List Str}{bg:List D}(h:∀ p,F (.mp (.i nm fs (some p)) cX) ds=some (.mp (.i nm b8 (some p)) bg)):mY F nm fs cX ds=some (b8,bg):=by
 have e:∃ r:List Str×List D,∀ p,F (.mp (.i nm fs (some p)) cX) ds=some (.mp (.i nm r.1 (some p)) r.2):=⟨(b8,bg),h⟩
 have hm:mY F nm fs cX ds=some e.choose:=by
  unfold mY
  rw[dif_pos e]
 have h2:=e.choose_spec 0
 rw[h 0]at h2
 rw[hm]
 generalize e.choose=r at h2 ⊢
 obtain⟨r1,r2⟩:=r
 injection h2 with h2
 injection h2 with h3 h4
 injection h3 with h5 h6
 subst h4
 subst h6
 rfl
theorem rS{nm:Str}{fs:List Str}{p0:Option Addr}(g:Good K ρ σ H w t)(e:ρ[i]? = some (some (.mp (.i nm fs p0) cX,1))) :
  ∃ l C dx vs,σ[i]? = some (some (.ref l))/\H l=some (.ins C dx (fs.zip vs))/\nsIn K mainGlobals nm=some (some (.ref C))/\fE K C/\WL K (eJ l w) H/\Rep K H (eJ l w) (.s 0) 1 (.mp (.i nm fs (some l)) cX) (.ref l) [l] /\
  (∀ d v,Rep K H w .f 0 d v []->Rep K H (eJ l w) .f 0 d v [])/\(∀ ds us,ae K H w .f 0 ds us []->ae K H (eJ l w) .f 0 ds us []) /\
  ∀ b8 bg H' w',Go H (eJ l w) H' w'->WL K w' H'->Rep K H' w' (.s 0) 1 (.mp (.i nm b8 (some l)) bg) (.ref l) [l]->
   Good K (ρ.set i (some (.mp (.i nm b8 p0) bg,1))) σ H' w t/\Go H w H' w:=by
 obtain⟨v,F,h1,h2⟩:=g.slot i _ _ e
 cases h2 with
 | @fR _ l vs _ _ z hl gM hw hlen rs=>
  obtain⟨C,dx,fk,rfl,ic,na,hp⟩:=gM
  have rT:cz H w H (eJ l w):=fun a x h n=>⟨sm h,uH n (fun z=>by rw[z,hw]at n;cases n)⟩
  refine⟨l,C,dx,vs,h1,hl,fk,ic,⟨fun a o ee=>?_,g.wl.tb⟩,.fR hl ⟨C,dx,fk,rfl,ic,na,fun d z=>Qp z⟩ BX hlen (ae.go g.wl rT rs nM),fun d v r=>Rep.go g.wl rT r nM,fun ds us r=>ae.go g.wl rT r nM,fun b8 bg H' w' go jD r'=>?_⟩
  ·rcases x6 ee with⟨rfl,_⟩|⟨_,_,o',ew⟩
   ·exact g.wl _ _ hw
   ·exact g.wl _ _ ew
  ·have kf:∀ a o,w a=some o->a≠l->H' a=H a/\w' a=some .f:=fun a o ea n=>go.keep a .f (BY ea n) (fun _ z=>nomatch z)
   have nl:∀ a o,w a=some o->o ≠ .s i->a≠l:=fun a o ea n z=>by subst z;rw[hw]at ea;exact n (Qp ea).symm
   have st:cz H w H' w:=fun a x ea n=>⟨(go.bo a x ea (uH n (fun z=>by rw[z,hw]at n;cases n))).1,n⟩
   have jA:cz H' w' H' w:=fun a x ea n=>⟨sm ea,by
    cases ew:w a with
    | none=>rfl
    | some o=>
     by_cases rU:a=l
     ·subst rU
      have:=r'.av a (QB.mpr rfl)
      rw[n]at this;cases this
     ·have:=(kf a o ew rU).2
      rw[n]at this;cases this⟩
   have R6:=r'
   cases r' with
   | @fR _ _ gE _ _ z' fj oG oH j4 lH=>
    refine⟨⟨⟨fun a o ea=>?_,jD.tb⟩,g.ws,g.wt,by rw[QJ];exact g.len,fun j d' q' e'=>?_⟩,⟨st,fun a o ea n=>⟨(kf a o ea (nl a o ea (n i))).1,ea⟩⟩⟩
    ·by_cases rU:a=l
     ·subst rU;exact jD _ _ oH
     ·obtain⟨us,q⟩:=g.wl a o ea
      exact⟨us,(kf a o ea rU).1.trans q⟩
    ·by_cases hj:i=j
     ·subst hj
      rw[Qz (Qv.mp e).1]at e'
      cases e'
      obtain⟨C',x_,oI,rfl,ya,yb,_⟩:=oG
      exact⟨_,_,h1,.fR fj ⟨C',x_,oI,rfl,ya,yb,hp⟩ hw j4 (ae.go jD jA lH nM)⟩
     ·rw[Qx hj]at e'
      obtain⟨v',F',lF,eo⟩:=g.slot j d' q' e'
      exact⟨v',F',lF,Rep.go g.wl st eo fun a m=>⟨(kf a _ (eo.av a m) (nl a _ (eo.av a m) (fun z=>hj (by cases z;rfl)))).1,eo.av a m⟩⟩
theorem uJ:∀ a o,eJ l w a=some o->(a=l/\o=.s 0)\/(a≠l/\o=.f):=fun a o e=>by
 rcases x6 e with z|⟨z1,z2,_⟩
 ·exact .inl z
 ·exact .inr ⟨z1,z2⟩
@[simp] def uK (nm m:Str):Option (OD)->Bool
 | some (some (.mp (.i gH fs _) _,1))=>decide (gH=nm) && !fs.contains m
 | _=>false
def kG (nm m:Str)(F:D->List D->Option D)(n i:Nat)(g:bM):aB:=fun ρ=>if uK nm m ρ[i]? = true then match g ρ with
 | some (ds,ρ1)=>match ρ1[i]? with
  | some (some (.mp (.i gH fs p0) cX,1))=>if gH=nm/\ds.length+1=n then match mY F nm fs cX ds with
   | some (b8,bg)=>some (.aS,9,ρ1.set i (some (.mp (.i nm b8 p0) bg,1)))
   | none=>none
   else none
  | _=>none
 | none=>none
 else none
def kH (F:D->List D->Option D)(n i:Nat)(g:bM):aB:=fun ρ=>match ρ[i]? with
 | some (some (.mp (.i _ _ _) _,1))=>match g ρ with
  | some (ds,ρ1)=>match ρ1[i]? with
   | some (some (.mp (.i nm fs p0) cX,1))=>if ds.length+1=n then match mY F nm fs cX ds with
    | some (b8,bg)=>some (.aS,9,ρ1.set i (some (.mp (.i nm b8 p0) bg,1)))
    | none=>none
    else none
   | _=>none
  | none=>none
 | _=>none
def pZ (nm:Str)(F:D->List D->Option D)(n:Nat)(g:bM):aB:=fun ρ=>match g ρ with
 | some (ds,ρ1)=>if ds.length+1=n then match mY F nm [] [] ds with
  | some (b8,bg)=>some (.mp (.i nm b8 none) bg,1,ρ1)
  | none=>none
  else none
 | none=>none
def js (nm m:Str)(F:List D->OD)(i:Nat):aB:=fun ρ=>match ρ[i]? with
 | some (some (.mp (.i gH fs p) ds,1))=>if gH=nm/\fs.contains m=false then match F [.mp (.i nm fs p) ds]with
  | some (r,q)=>if pY q r=true then some (r,q,ρ)else none
  | none=>none
  else none
 | _=>none
theorem yc{fs:List Str}{m:Str}(h:fs.contains m=false):(fs.zip vs).lookup m=none:=by
 rw[xZ]
 cases e:vL fs vs m with
 | none=>rfl
 | some d=>
  have:=x5 e
  rw[List.contains_iff_mem.mpr this]at h
  cases h
section
variable {X:Cx}{a b c e:Expr}{es:List Expr}{fa fb fc f:aB}{g:bM}{p p1 p2 pos pos' aK apos:Pos}{x y nm m:Str}{i j k n:Nat}
theorem BZ{o:Option (OD)}(h:uK nm m o=true):∃ fs p ds,o=some (some (.mp (.i nm fs p) ds,1))/\fs.contains m=false:=by
 unfold uK at h
 split at h
 next gH fs p ds=>
  obtain⟨h1,h2⟩:=QG.mp h
  cases Ju h1
  exact⟨fs,p,ds,rfl,by simpa using h2⟩
 ·cases h
theorem B0{pl:Sem Bool}(Cm:gQ X.prog X.w X.K X.mg X.base k nm m n F)(hr:aD j X.A)(hk:k<=j)(h:QE X (.Name x p1) (fO i))(ha:eG X (e::es) g)(jM:starEach (e::es) X.env=(false,eval e X.env)::starEach es X.env:=by rfl)(bV:(backTo pos (starEach es X.env)).any (·.1)=false:=by rfl)(ht:eval (.Call (.Attribute (.Name x p1) m apos) (e::es) [] pos) X.env=(do
   let ov <- eval (.Name x p1) X.env
   standAt apos.atName
   let (f,first) <- holding [ov] (getMethod ov m pl)
   callWith pos f first (backTo pos (starEach (e::es) X.env)) (backToKw pos (keywordEach [] X.env))):=by rfl):QD X (.Call (.Attribute (.Name x p1) m apos) (e::es) [] pos) (kG nm m F n i g):=⟨have h:=h.o;have ha:=ha.o;by
 obtain⟨C,f,fd,ps,hC,hm,G,hb⟩:=Cm
 intro pins s σ H Q I ai
 have hh:=ai
 obtain⟨ρ,w,t,r',q,ρ',gd,ee,kk⟩:=ai
 unfold kG at ee
 split at ee
 next yd=>
  split at ee
  next ds ρ1 h1=>
   split at ee
   next gH fs p0 cX e1=>
    split at ee
    next hn=>
     obtain⟨rfl,hn⟩:=hn
     split at ee
     next b8 bg hM=>
      cases ee
      obtain⟨LJ,LK,LL,e0,hc⟩:=BZ yd
      obtain⟨l0,C0,uM,tP,s0,pX,jt,uN,_⟩:=rS gd e0
      rw[hC]at jt
      cases jt
      refine Gs (E:=E0) (dvs:=[]) (pl:=pl) h uN.cl hm G (hr.mono hk) hb .nil pE ha jM bV ht pins s σ H Q I ?_
      refine⟨_,s0,l0,uM,_,rfl,pX,yc hc,ρ,w,t,ds,ρ1,gd,h1,fun vs H1 w1 g1 aO r1=>?_⟩
      obtain⟨l,C1,dx,LM,s1,LN,ye,LO,rV,rl,rep,ju,kB⟩:=rS g1 e1
      rw[s0]at s1
      cases s1
      rw[Zg]
      refine⟨by rw[Qy,<- r1.length,hn],l0,vs,gH,fs,cX,ds,eJ l0 w1,b8,bg,rfl,uJ,rV,rl,ju _ _ r1,uI hM l0,fun H2 w2 bQ jl r2=>?_⟩
      obtain⟨g2,fI⟩:=kB b8 bg H2 w2 bQ jl r2
      exact kk .aS H2 w1 [] g2.up (aO.trans fI) .aS
     ·cases ee
    ·cases ee
   ·cases ee
  ·cases ee
 ·cases ee⟩
theorem B1(Cm:gQ X.prog X.w X.K X.mg X.base k nm m 1 F)(hr:aD j X.A)(hk:k<=j)(h:QE X (.Name x p1) (fO i))(ht:eval (.Call (.Attribute (.Name x p1) m apos) [] [] pos) X.env=(do
   let ov <- eval (.Name x p1) X.env
   standAt apos.atName
   let (f,first) <- holding [ov] (getMethod ov m pl)
   callWith pos f first (backTo pos (starEach [] X.env)) (backToKw pos (keywordEach [] X.env))):=by rfl):QD X (.Call (.Attribute (.Name x p1) m apos) [] [] pos) (kG nm m F 1 i ag):=⟨have h:=h.o;by
 obtain⟨C,f,fd,ps,hC,hm,G,hb⟩:=Cm
 intro pins s σ H Q I ai
 have hh:=ai
 obtain⟨ρ,w,t,r',q,ρ',gd,ee,kk⟩:=ai
 unfold kG at ee
 split at ee
 next yd=>
  split at ee
  next ds ρ1 h1=>
   split at ee
   next gH fs p0 cX e1=>
    split at ee
    next hn=>
     obtain⟨rfl,hn⟩:=hn
     split at ee
     next b8 bg hM=>
      cases ee
      cases h1
      obtain⟨LJ,LK,LL,e0,hc⟩:=BZ yd
      obtain⟨l,C0,uM,tP,s0,pX,jt,uN,rV,rl,rep,ju,kB⟩:=rS gd e1
      rw[e1]at e0
      cases e0
      rw[hC]at jt
      cases jt
      refine zT (E:=E0) (dvs:=[]) (pl:=pl) h uN.cl hm G (hr.mono hk) hb .nil pE ht pins s σ H Q I ?_
      refine⟨_,s0,l,uM,_,rfl,pX,yc hc,rfl,l,[],gH,fs,cX,[],eJ l w,b8,bg,rfl,uJ,rV,rl,.nil,uI hM l,fun H2 w2 bQ jl r2=>?_⟩
      obtain⟨g2,fI⟩:=kB b8 bg H2 w2 bQ jl r2
      exact kk .aS H2 w [] g2.up fI .aS
     ·cases ee
    ·cases ee
   ·cases ee
  ·cases ee
 ·cases ee⟩
theorem yf(Cm:lO X.prog X.w X.K X.mg X.base k x n F)(hr:aD j X.A)(hk:k<=j)(hv:QE X (.Name y p1) (fO i))(ha:eG X (e::es) g)(hg:Gl X x:=by rfl)(il:(x==("__debug__":Str))=false:=by decide)(s0:starEach (.Name y p1::e::es) X.env=(false,eval (.Name y p1) X.env)::starEach (e::es) X.env:=by rfl)(bV:(backTo pos (starEach (e::es) X.env)).any (·.1)=false:=by rfl):QD X (.Call (.Name x p) (.Name y p1::e::es) [] pos) (kH F n i g):=⟨have hv:=hv.o;have ha:=ha.o;by
 obtain⟨f,fd,ps,G,hm,xH,hb⟩:=Cm
 refine PE.imp (zS G (hr.mono hk) hg hm xH hb .nil pE (ml hv ha s0) il s0 bV) fun σ H Q ai=>?_
 obtain⟨ρ,w,t,r',q,ρ',gd,ee,kk⟩:=ai
 unfold kH at ee
 split at ee
 next B2 p6 R7 lQ e0=>
  split at ee
  next ds ρ1 h1=>
   split at ee
   next gH fs p0 cX e1=>
    split at ee
    next hn=>
     split at ee
     next b8 bg hM=>
      cases ee
      obtain⟨l0,C0,uM,tP,s0,pX,jt,uN,_⟩:=rS gd e0
      refine⟨_,s0,ρ,w,t,ds,ρ1,gd,h1,fun vs H1 w1 g1 aO r1=>?_⟩
      obtain⟨l,C1,dx,LM,s1,LN,ye,LO,rV,rl,rep,ju,kB⟩:=rS g1 e1
      rw[s0]at s1
      cases s1
      rw[Zg]
      refine⟨by rw[Qy,<- r1.length,hn],l0,vs,gH,fs,cX,ds,eJ l0 w1,b8,bg,rfl,uJ,rV,rl,ju _ _ r1,uI hM l0,fun H2 w2 bQ jl r2=>?_⟩
      obtain⟨g2,fI⟩:=kB b8 bg H2 w2 bQ jl r2
      exact kk .aS H2 w1 [] g2.up (aO.trans fI) .aS
     ·cases ee
    ·cases ee
   ·cases ee
  ·cases ee
 ·cases ee⟩
end
section
variable {K:PySem.W.Frag}{σ:St}{ρ:aN}{t:Nat}
theorem LP{H1:Hp}{w1:Wn}{x dx:Addr}{nm:Str}(g1:Good K ρ σ H1 w1 t)(fk:nsIn K mainGlobals nm=some (some (.ref C)))(ic:fE K C)(hx:H1 x=none)(uO:H1 dx=none)(ne:dx≠x) :
  WL K (eJ x w1) (upd (upd H1 dx (.own x)) x (.ins C dx []))/\Rep K (upd (upd H1 dx (.own x)) x (.ins C dx [])) (eJ x w1) (.s 0) 1 (.mp (.i nm [] (some x)) []) (.ref x) [x] /\
  (∀ ds us,ae K H1 w1 .f 0 ds us []->ae K (upd (upd H1 dx (.own x)) x (.ins C dx [])) (eJ x w1) .f 0 ds us []) /\
  ∀ b8 bg H2 w2,Go (upd (upd H1 dx (.own x)) x (.ins C dx [])) (eJ x w1) H2 w2->WL K w2 H2->Rep K H2 w2 (.s 0) 1 (.mp (.i nm b8 (some x)) bg) (.ref x) [x]->
   Good K ρ σ H2 (ir x (.t t) w1) (t+1)/\Go H1 w1 H2 (ir x (.t t) w1)/\Rep K H2 (ir x (.t t) w1) (.t t) 1 (.mp (.i nm b8 none) bg) (.ref x) [x]:=by
 have nx:∀ a y,H1 a=some y->a≠x/\a≠dx:=fun a y e=>⟨ib e hx,ib e uO⟩
 have up:∀ a y,H1 a=some y->upd (upd H1 dx (.own x)) x (.ins C dx []) a=some y:=fun a y e=>by rw[ba (nx a y e).1,ba (nx a y e).2];exact e
 have nw:∀ a o,w1 a=some o->a≠x:=fun a o e=>by obtain⟨vs,q⟩:=g1.wl a o e;exact(nx a _ q).1
 have yg:WL K (eJ x w1) (upd (upd H1 dx (.own x)) x (.ins C dx [])):=⟨fun a o e=>by
  rcases x6 e with⟨rfl,_⟩|⟨_,_,o',ew⟩
  ·exact⟨.i C dx [],fi⟩
  ·obtain⟨vs,q⟩:=g1.wl a o' ew
   exact⟨vs,up a _ q⟩,(g1.wl.tb.upd (p:=dx) (x:=.own x) rfl (.inl uO)).upd rfl (.inl (by rw[ba (Z5 ne)];exact hx))⟩
 have rT:cz H1 w1 (upd (upd H1 dx (.own x)) x (.ins C dx [])) (eJ x w1):=fun a y e n=>⟨sm (up a y e),uH n (nx a y e).1⟩
 refine⟨yg,.fR fi ⟨C,dx,fk,rfl,ic,(fun f z=>nomatch z),fun d z=>Qp z⟩ BX rfl .nil,fun ds us r=>ae.go g1.wl rT r nM,fun b8 bg H2 w2 go jl r2=>?_⟩
 have kf:∀ a o,w1 a=some o->H2 a=H1 a/\w2 a=some .f:=fun a o e=>by
  obtain⟨h1,h2⟩:=go.keep a .f (BY e (nw a o e)) (fun _ z=>nomatch z)
  obtain⟨vs,q⟩:=g1.wl a o e
  exact⟨by rw[h1,up a _ q,q],h2⟩
 have st:cz H1 w1 H2 (ir x (.t t) w1):=fun a y e n=>⟨(go.bo a y (up a y e) (uH n (nx a y e).1)).1,by rw[fS (nx a y e).1];exact n⟩
 have jA:cz H2 w2 H2 (ir x (.t t) w1):=fun a y e n=>⟨sm e,by
  by_cases j5:a=x
  ·subst j5
   have:=r2.av a (QB.mpr rfl)
   rw[n]at this;cases this
  ·rw[fS j5]
   cases ew:w1 a with
   | none=>rfl
   | some o=>
    have:=(kf a o ew).2
    rw[n]at this;cases this⟩
 cases r2 with
 | @fR _ _ gE _ _ z' fj oG oH j4 lH=>
  refine⟨⟨⟨fun a o e=>?_,jl.tb⟩,fun a i e=>?_,fun a i e=>?_,g1.len,fun i d q e=>?_⟩,⟨st,fun a o e _=>⟨(kf a o e).1,(fS (nw a o e)).trans e⟩⟩,?_⟩
  ·by_cases j5:a=x
   ·subst j5;exact jl _ _ oH
   ·rw[fS j5]at e
    obtain⟨us,q⟩:=g1.wl a o e
    exact⟨us,(kf a o e).1.trans q⟩
  ·by_cases j5:a=x
   ·subst j5;rw[lp]at e;cases e
   ·rw[fS j5]at e;exact g1.ws a i e
  ·by_cases j5:a=x
   ·subst j5;rw[lp]at e;cases e;exact QU _
   ·rw[fS j5]at e;exact Q7 (g1.wt a i e)
  ·obtain⟨v',F',lF,eo⟩:=g1.slot i d q e
   exact⟨v',F',lF,Rep.go g1.wl st eo fun a m=>⟨(kf a _ (eo.av a m)).1,(fS (nw a _ (eo.av a m))).trans (eo.av a m)⟩⟩
  ·obtain⟨C',x_,oI,rfl,ya,yb,_⟩:=oG
   exact .fR fj ⟨C',x_,oI,rfl,ya,yb,fun d z=>nomatch z⟩ lp j4 (ae.go jl jA lH nM)
end
section
variable {X:Cx}{a b c e:Expr}{es:List Expr}{fa fb fc f:aB}{g:bM}{p p1 p2 pos pos' aK apos:Pos}{x y nm m:Str}{i j k n:Nat}
theorem B3(Cm:lP X.prog X.w X.K X.mg X.base k nm n F)(hr:aD j X.A)(hk:k+1<=j)(ha:eG X (e::es) g)(hg:Gl X nm:=by rfl)(il:(nm==("__debug__":Str))=false:=by decide)(he:starEach (e::es) X.env=(false,eval e X.env)::starEach es X.env:=by rfl)(bV:(backTo pos (starEach es X.env)).any (·.1)=false:=by rfl):QD X (.Call (.Name nm p) (e::es) [] pos) (pZ nm F n g):=⟨have ha:=ha.o;by
 obtain⟨C,f,fd,ps,hC,hmg,M,ic,G,hb⟩:=Cm
 refine PE.imp (Gv M G (hr.mono hk) hg hmg hb .nil pE ha il he bV) fun σ H Q ai=>?_
 obtain⟨ρ,w,t,r',q,ρ',gd,ee,kk⟩:=ai
 unfold pZ at ee
 split at ee
 next ds ρ1 h1=>
  split at ee
  next hn=>
   split at ee
   next b8 bg hM=>
    cases ee
    refine⟨ρ,w,t,ds,ρ',gd,h1,fun vs H1 w1 g1 aO r1=>fun x dx hx uO ne=>?_⟩
    obtain⟨yg,r0,ju,kB⟩:=LP g1 hC ic hx uO ne
    rw[Zg]
    refine⟨by rw[Qy,<- r1.length,hn],x,vs,nm,[],[],ds,eJ x w1,b8,bg,rfl,uJ,yg,r0,ju _ _ r1,uI hM x,fun H2 w2 bQ jl r2=>⟨rfl,?_⟩⟩
    obtain⟨b1,b2,b3⟩:=kB b8 bg H2 w2 bQ jl r2
    exact kk _ _ _ _ b1 (aO.trans b2) b3
   ·cases ee
  ·cases ee
 ·cases ee⟩
theorem mZ{F:List D->OD}(Cm:gR X.prog X.w X.K X.mg X.base k nm m 1 F)(hr:aD j X.A)(hk:k<=j)(h:QE X (.Name x p1) (fO i))(ht:eval (.Call (.Attribute (.Name x p1) m apos) [] [] pos) X.env=(do
   let ov <- eval (.Name x p1) X.env
   standAt apos.atName
   let (f,first) <- holding [ov] (getMethod ov m pl)
   callWith pos f first (backTo pos (starEach [] X.env)) (backToKw pos (keywordEach [] X.env))):=by rfl):QD X (.Call (.Attribute (.Name x p1) m apos) [] [] pos) (js nm m F i):=⟨have h:=h.o;by
 obtain⟨C,f,fd,ps,hC,hm,G,hb⟩:=Cm
 intro pins s σ H Q I ai
 obtain⟨ρ,w,t,r',q,ρ',gd,ee,kk⟩:=ai
 unfold js at ee
 split at ee
 next gH fs pn ds e1=>
  split at ee
  next hn=>
   obtain⟨rfl,hc⟩:=hn
   split at ee
   next r q1 hF=>
    split at ee
    next aF=>
     cases ee
     obtain⟨v,Fs,t1,t2⟩:=gd.slot i _ _ e1
     cases t2 with
     | @fR _ l vs _ _ z hH gM hw hlen rs=>
      obtain⟨C0,dx,fk,rfl,ic,na,BW⟩:=id gM
      rw[hC]at fk
      cases fk
      refine zT (E:=E0) (dvs:=[]) (pl:=pl) h ic.cl hm G (hr.mono hk) hb .nil pE ht pins s σ H Q I ?_
      have fr:∀ a,w a=none->(fun a=>if a=l then none else(w a).map fun _=>Ow.f) a=none:=fun a n=>by
       show(if a=l then none else(w a).map _)=_
       split
       ·rfl
       ·rw[n];rfl
      refine⟨_,t1,l,dx,_,rfl,hH,yc hc,rfl,[.mp (.i gH fs pn) ds],fun a=>if a=l then none else(w a).map fun _=>Ow.f,r',q,fun a o e=>?_,⟨fun a o e=>?_,gd.wl.tb⟩,?_,hF,fun v H3 w3 Fo fI LQ rr=>?_⟩
      ·have e:(if a=l then none else(w a).map fun _=>Ow.f)=some o:=e
       split at e
       ·cases e
       ·cases ew:w a with
        | none=>rw[ew]at e;cases e
        | some o'=>rw[ew]at e;cases e;rfl
      ·have e:(if a=l then none else(w a).map fun _=>Ow.f)=some o:=e
       split at e
       ·cases e
       ·cases ew:w a with
        | none=>rw[ew]at e;cases e
        | some o'=>exact gd.wl a o' ew
      ·exact .xU (.la hH gM (Qe rfl) hlen (ae.freeze fr rs nM)) .nil
      ·obtain⟨b1,b2,b3⟩:=LA gd hH hw (MK.LC gM) (MK.BR gM) fI LQ rr aF
       exact kk _ _ _ _ b1 b2 b3
    ·cases ee
   ·cases ee
  ·cases ee
 ·cases ee⟩
end
def lR (i:Nat)(ds:List D):ay:=open Classical in fun ρ=>if ρ[i]? = some (some (.lst ds,1))then some (.nx ρ)else none
theorem LR(h:ρ[i]? = some (some (.lst ds,1))):lR i ds ρ=some (.nx ρ):=by
 unfold lR
 rw[Qe h]
theorem LS{o:Out}(h:lR i ds ρ=some o):o=.nx ρ/\ρ[i]? = some (some (.lst ds,1)):=by
 unfold lR at h
 split at h
 next e=>
  exact⟨(Qp h).symm,e⟩
 ·cases h
def rW (i j:Nat)(f:aB):ay:=fun ρ=>match ρ[i]? with
 | some (some (.lst ds,1))=>if i≠j/\ds.length<=1000 then da (aP j) (aC (cI f) (lR i ds)) ds ρ else none
 | _=>none
section
variable {X:Cx}{e:Expr}{f:aB}{p1 p2 pos pos':Pos}{x y:Str}{i j:Nat}
theorem LU(hp:PassesOwn (model X.prog X.w) X.A X.env X.xe)(hc:X.calm=true)(hN:X.N.Nodup)(hj:X.N[j]? = some y)(hy:Loc X.env.scope y)(hv:QE X (.Name x p1) (fO i))(he:QD X e f)(hf:X.fn y=true\/X.env.scope.names.lookup y=some .local:=by first|exact .inl rfl|exact .inr rfl)(LV:swapsWith e none pos'.line X.env=pure false:=by rfl)(hs:∀ z,foldedSetIterable (.Name x p1) X.env z=pure z:=by intro _;rfl):iu X (.For (.Name y p2) (.Name x p1) [.Expr e pos'] [] pos) (rW i j f):=⟨have hv:=hv.o;have he:=he.o;PS.imp (zD hp hc (Fx hv) (zy hN hj hy hf) (zt (zw he LV)) hs) fun Dn σ H ai=>by
 obtain⟨ρ,w,o,g,ee,k⟩:=ai
 unfold rW at ee
 split at ee
 next ds e1=>
  split at ee
  next fA=>
   obtain⟨xy,hl⟩:=fA
   obtain⟨v,F,t1,t2⟩:=g.slot i _ _ e1
   cases t2 with
   | @own _ l vs _ F' hH hw rs nf=>
    refine⟨_,t1,l,rfl,⟨vs,bX.of hH⟩,fun n m aA H'=>m=ds.length-n/\n<=ds.length/\aA.length=σ.length/\aA[i]? = some (some (.ref l))/\∃ ρ' w',Good X.K ρ' aA H' w' 0/\ρ'[i]? = some (some (.lst ds,1))/\da (aP j) (aC (cI f) (lR i ds)) (ds.drop n) ρ'=some o/\jE X.K Dn σ.length H' w' o,
     ⟨ds.length,by simp,ZC _,rfl,t1,ρ,w,g,e1,ee,k⟩,?_⟩
    rintro n m aA H' ⟨rfl,hn,eP,rX,ρ',w',g',e',f',k'⟩
    obtain⟨v2,F2,u1,u2⟩:=g'.slot i _ _ e'
    rw[rX]at u1
    cases u1
    cases u2 with
    | @own _ _ uu _ F3 yh R8 yi R9=>
     have hlen:=yi.length
     have hz:=yi.zero
     subst hz
     by_cases dt:n<ds.length
     ·obtain⟨x0,uP,LW⟩:=yi.get (Qj dt)
      refine .inr ⟨⟨uu,x0,bX.of yh,uP⟩,fun hE H3=>ds.length-(n+1)=ds.length-(n+1)/\n+1<=ds.length/\hE.length=σ.length/\hE[i]? = some (some (.ref l))/\∃ ρ' w',Good X.K ρ' hE H3 w' 0/\ρ'[i]? = some (some (.lst ds,1))/\da (aP j) (aC (cI f) (lR i ds)) (ds.drop (n+1)) ρ'=some o/\jE X.K Dn σ.length H3 w' o,
       fun hE H3 n3=>⟨ds.length-(n+1),by omega,n3⟩,fun x H2 LX=>?_⟩
      obtain⟨rfl,hx⟩:=LX
      have ex:=hx uu (bX.of yh)
      rw[uP]at ex
      cases ex
      have ed:ds.drop n=ds[n]::ds.drop (n+1):=Zl dt
      rw[ed]at f'
      unfold da at f'
      split at f'
      ·cases f'
      next el h3=>
       unfold aP at h3
       split at h3
       next xB=>
        cases h3
        obtain⟨g3,fI⟩:=g'.rB (i:=j) (by rw[<- g'.len];exact xB) (LW.any g'.wl)
        show zu (tD X.K f) _ (aA.set j (some x0)) H2
        unfold aC cI at f'
        cases yj:f (ρ'.set j (some (ds[n],b_ ds[n])))with
        | none=>rw[yj]at f';cases f'
        | some r1=>
         obtain⟨d1,q1,mH⟩:=r1
         rw[yj]at f'
         dsimp only at f'
         cases hk:lR i ds mH with
         | none=>rw[hk]at f';cases f'
         | some o4=>
          obtain⟨rfl,e4⟩:=LS hk
          rw[hk]at f'
          refine⟨_,_,0,d1,q1,mH,g3,yj,fun v4 H4 w4 F4 g4 jW r4=>⟨rfl,dt,by rw[QJ];exact eP,?_,mH,bZ 0 w4,g4.drop,e4,f',?_⟩⟩
          ·rw[Qx (fun z=>xy z.symm)];exact rX
          ·exact k'.trans (fI.trans (jW.drop g3.wt))
       ·cases h3
     ·have cR:n=ds.length:=JM hn (Nat.not_lt.mp dt)
      subst cR
      refine .inl ⟨⟨uu,bX.of yh,by omega⟩,?_⟩
      have ed:ds.drop ds.length=[]:=by simp
      rw[ed]at f'
      cases f'
      exact k' aA H' w' eP g' Go.refl
  ·cases ee
 ·cases ee⟩
theorem rY{T:String}(h:mroIn K C (.type T)=some false)(m:kitMeta T=true):kitOne K (.ref C) (.type T)=some false:=by
 have s:subIn K (.ref C) (.type T)=some false:=h
 unfold kitOne
 rw[Qh (by intro z;exact absurd z (by simp))]
 show(if kitMeta T=true then subIn K (.ref C) (.type T)else none)=_
 rw[Qe m,s]
theorem fE.LY(h0:mroIn K C (.type "bool")=some false)(h1:mroIn K C (.type "int")=some false)(h2:mroIn K C (.type "tuple")=some false)(h3:mroIn K C (.type "list")=some false)(h4:mroIn K C (.type "str")=some false) :
  ∀ t∈(["bool","int","tuple","list","str"]:List String),kitOne K (.ref C) (.type t)=some false:=fun t ht=>by
 simp only[Qr,QI,or_false]at ht
 rcases ht with rfl|rfl|rfl|rfl|rfl
 ·exact rY h0 (by kernel_rfl)
 ·exact rY h1 (by kernel_rfl)
 ·exact rY h2 (by kernel_rfl)
 ·exact rY h3 (by kernel_rfl)
 ·exact rY h4 (by kernel_rfl)
theorem iy.of{nm f:Str}(n:nsIn K mainGlobals nm=some (some (.ref C)))(h:findIn K (.ref C) f=some none):iy K nm f:=fun C' e=>by
 rw[n]at e
 cases e
 exact h
end
end L3
namespace L3
open PySem PySem.Spec PyProof.Rows L2
variable {K:PySem.W.Frag}{N ps:List Str}{P:Program}{X:Cx}{base:Heap}{body:ay}{es:List Expr}{g:bM}{mg:Str->Option Value}{st:Stmt}{w:World}{x:Str}
theorem qv(i:Nat){pos:Pos}(hN:X.N[i]? = some x:=by rfl)(hv:px X.env.scope x:=by first|exact Or.inl rfl|exact Or.inr (Or.inl rfl)|exact Or.inr (Or.inr rfl))(hd:(x==("__debug__":Str))=false:=by decide)(fA:(x==("__classdict__":Str))=false:=by decide):QE X (.Name x pos) (fO i):=⟨pv i hN hv hd fA⟩
theorem ql(i:Nat){pos:Pos}(hN:X.N[i]? = some x)(hv:X.env.scope.names.lookup x=some .local)(hd:(x==("__debug__":Str))=false:=by decide)(fA:(x==("__classdict__":Str))=false:=by decide):QE X (.Name x pos) (fO i):=⟨pv i hN (.inl hv) hd fA⟩
theorem yk{e:Expr}{f:cq}(h:uc X e f):iS X e f:=⟨PW.pt h.o⟩
theorem aE(i:Nat){pos:Pos}(hN:X.N[i]? = some x)(hv:X.env.scope.names.lookup x=some .local)(hd:(x==("__debug__":Str))=false:=by decide)(fA:(x==("__classdict__":Str))=false:=by decide):QD X (.Name x pos) (ab i):=cn (ql i hN hv hd fA)
theorem az(i:Nat){pos:Pos}(hN:X.N[i]? = some x)(hv:X.env.scope.names.lookup x=some .local)(hr:eG X es g)(hd:(x==("__debug__":Str))=false:=by decide)(fA:(x==("__classdict__":Str))=false:=by decide):eG X (.Name x pos::es) (aa (ab i) g):=aq (aE i hN hv hd fA) hr eI
theorem bU{i:Int}{j:Nat}{pos:Pos}(hr:eG X es g):eG X (.Constant (.int i) j pos::es) (aa (eC (.int i)) g):=aq aT hr pW
theorem au.bK{k:Nat}(a:At K mg x st ps)(S:af N ps (aG st))
  (h:∀ (f:Addr) (aQ:Value) (A:Around) (outer:List Env) (s:Shared) (H:Hp) (E:XK),aD k (A.deeper (envOfC x (aG st) s.heap.objs.size f aQ))->dv (fP c_ P w K mg base N x (aG st) f aQ A outer s H E).gj (d7 st) body) :
  au P w K mg base (k+1) x ps.length (bw N.length body):=au.mk a S fun f aQ A outer s H E hr=>(h f aQ A outer s H E hr).o
theorem LZ{k:Nat}{f:Addr}{fd:FuncData}(F:iN K x x st f fd)(S:af N ps (aG st))
  (h:∀ (f:Addr) (aQ:Value) (A:Around) (outer:List Env) (s:Shared) (H:Hp) (E:XK),aD k (A.deeper (envOfC x (aG st) s.heap.objs.size f aQ))->dv (fP c_ P w K mg base N x (aG st) f aQ A outer s H E).gj (d7 st) body) :
  bO P w K mg base c_ (k+1) f fd ps (iR K ps.length (bw N.length body)):=KD F S fun f aQ A outer s H E hr=>(h f aQ A outer s H E hr).o
end L3
namespace L3
open PySem PySem.Spec PyProof.Rows PySem.W L2
variable {K:PySem.W.Frag}{x:Str}
theorem j0l(a:nsIn K mainGlobals x=some none):tabIn K x=none:=by unfold tabIn;rw[a]
theorem T0.of(h1:tabIn K "turned" = none)(h2:tabIn K "chain_ladder" = none)(h3:tabIn K "flat_ladder" = none)(h4:tabIn K "paired" = none)(h5:tabIn K "height_of" = none)(h6:tabIn K "_law_high" = none):∀ x∈pI,tabIn K x=none:=fun x hx=>by
 unfold pI at hx
 simp only[Qr,QI,or_false]at hx
 rcases hx with rfl|rfl|rfl|rfl|rfl|rfl<;>assumption
theorem L4{l:PySem.W.OpenLaw}{n k:Nat}{q:Program}{loose:List Str}{XP:(Str->Option Value)->Heap->Prop}{YP:World->Heap->Prop}{d:DefRec}{K:Params->PySem.W.Frag}{F0:List D->OD}
  (hn:l.most=some n) (nP:n<=sizeLine) (qX:d.params.defaults=[]) (hr:aD k callerA) (hY:∀ (w:World) (h:Heap),YP w h->(K w.params).In h)
  (F:∀ (w:World) (mg:Str->Option Value) (fa:Addr) (h:Heap),(K w.params).In h->h.Ns mainGlobals mg->mg d.name=some (.ref fa)->(∀ x∈pI,tabIn (K w.params) x=none) /\
    ∃ fd:FuncData,(∀ (s:Shared) (u:Value),BindsTo s fd ⟨[u],[]⟩ [(x,u)])/\∀ base:Heap,(K w.params).In base->base.Ns mainGlobals mg->bO l.prog w (K w.params) mg base c_ k fa fd [x] (iR (K w.params) 1 F0))
  (jC:∀ (w:World) (H:Hp) (a:Addr) (ns:List Int),ns.length<=n->TB (K w.params) H->bX (K w.params) H a (ns.map V.int)->iR (K w.params) 1 F0 [.ref a] H (fun v _=>v=.bl true) fun _ _ _=>False) :
  PySem.W.WalkO q loose XP YP l.row.toRowW d [] (fun f vs=>PySem.call f vs):=by
 refine Ak.Hg hn qX fun w bL aJ mg mb fa o pm cd doc a vs ns G Y ho hd fA hmg nX hints hlen hg=>?_
 have KX:=hY w _ Y
 obtain⟨hT,fd,hb,hF⟩:=F w mg fa _ KX G.T.g hmg
 exact Hi KX G.T.g G.T.b G.T.builtins G.T.nolimit hg nX hints (QK hlen nP) hr hF hb (fun H hO hS=>jC w H a ns hlen (TB.only hO hT) hS) fun _ _ _ z=>z
def hI (v:Nat):Int:=if v=7 then -2 else Int.ofNat v
section
variable {P:Program}{w:World}{K:PySem.W.Frag}{mg:Str->Option Value}{base:Heap}{k:Nat}{x nm m qual:Str}{st:Stmt}{N ps:List Str}{body:ay}
theorem gQ.bK(a:i7 K nm m qual st ps)(S:af N ps (aG st))
  (h:∀ (f:Addr) (aQ:Value) (A:Around) (outer:List Env) (s:Shared) (H:Hp) (E:XK),aD k (A.deeper (envOfC qual (aG st) s.heap.objs.size f aQ))->dv (fP c_ P w K mg base N qual (aG st) f aQ A outer s H E).gj (d7 st) body) :
  gQ P w K mg base (k+1) nm m ps.length (hX N.length body):=gQ.mk a S fun f aQ A outer s H E hr=>(h f aQ A outer s H E hr).o
theorem gR.bK(a:i7 K nm m qual st ps)(S:af N ps (aG st))
  (h:∀ (f:Addr) (aQ:Value) (A:Around) (outer:List Env) (s:Shared) (H:Hp) (E:XK),aD k (A.deeper (envOfC qual (aG st) s.heap.objs.size f aQ))->dv (fP c_ P w K mg base N qual (aG st) f aQ A outer s H E).gj (d7 st) body) :
  gR P w K mg base (k+1) nm m ps.length (bw N.length body):=gR.mk a S fun f aQ A outer s H E hr=>(h f aQ A outer s H E hr).o
theorem lO.bK(a:At K mg x st ps)(S:af N ps (aG st))
  (h:∀ (f:Addr) (aQ:Value) (A:Around) (outer:List Env) (s:Shared) (H:Hp) (E:XK),aD k (A.deeper (envOfC x (aG st) s.heap.objs.size f aQ))->dv (fP c_ P w K mg base N x (aG st) f aQ A outer s H E).gj (d7 st) body) :
  lO P w K mg base (k+1) x ps.length (hX N.length body):=lO.mk a S fun f aQ A outer s H E hr=>(h f aQ A outer s H E hr).o
theorem lP.bK(a:i7 K nm "__init__" qual st ps)(hc:∀ C,nsIn K mainGlobals nm=some (some (.ref C))->mg nm=some (.ref C)/\makesIn K C=true/\keepIn K (.ref C)=true/\fE K C)(S:af N ps (aG st))
  (h:∀ (f:Addr) (aQ:Value) (A:Around) (outer:List Env) (s:Shared) (H:Hp) (E:XK),aD k (A.deeper (envOfC qual (aG st) s.heap.objs.size f aQ))->dv (fP c_ P w K mg base N qual (aG st) f aQ A outer s H E).gj (d7 st) body) :
  lP P w K mg base (k+1) nm ps.length (hX N.length body):=lP.mk a hc S fun f aQ A outer s H E hr=>(h f aQ A outer s H E hr).o
end
end L3
namespace L3
open PySem PySem.Spec PyProof.Rows L2
theorem m7{k:Nat}{pt:ek}{tt:cq}{te:aB}{deep:Bool}:∀ (ds:List D) (S:Nat->aN) (b:Nat->Bool) (v:Nat->D),
  (∀ i (h:i<ds.length),∃ ρ1 ρ2,pt ds[i] (S i++List.replicate k none)=some ρ1/\tt ρ1=some (b i,ρ2) /\
    (if b i=true then ∃ q el,te ρ2=some (v i,q,el)/\¬ (deep=true/\(v i).bY=true/\q≠1)/\el.take (S i).length=S (i+1)else ρ2.take (S i).length=S (i+1)))->
  iU k pt tt te deep ds (S 0)=some (((List.range ds.length).filter b).map v,S ds.length)
 | [],S,b,v,_=>rfl
 | d::ds,S,b,v,h=>by
  obtain⟨ρ1,ρ2,h1,h2,h3⟩:=h 0 (by simp)
  have ih:=m7 ds (fun i=>S (i+1)) (fun i=>b (i+1)) (fun i=>v (i+1)) (fun i hi=>h (i+1) (by simpa using hi))
  have er:((List.range (d::ds).length).filter b).map v=(if b 0=true then [v 0]else [])++((List.range ds.length).filter fun i=>b (i+1)).map fun i=>v (i+1):=by
   rw[Qy,ZE,List.filter_cons,List.filter_map]
   split<;>simp[ZL]
  rw[er]
  unfold iU
  rw[show pt d (S 0++List.replicate k none)=some ρ1 from h1]
  simp only[h2]
  split at h3
  next hb=>
   obtain⟨q,el,h4,h5,h6⟩:=h3
   simp only[hb,ZX,h4,Qh h5,h6,ih]
   rfl
  next hb=>
   simp only[hb,h3,ih]
   rfl
theorem j6{pt:ek}{body:ay}:∀ (ds:List D) (I:Nat->aN->Prop) (ρ:aN),(∀ i (h:i<ds.length) ρ,I i ρ->∃ ρ1 ρ2,pt ds[i] ρ=some ρ1/\(body ρ1=some (.nx ρ2)\/body ρ1=some (.ct ρ2))/\I (i+1) ρ2)->I 0 ρ->∃ ρ',da pt body ds ρ=some (.nx ρ')/\I ds.length ρ'
 | [],I,ρ,_,h0=>⟨ρ,rfl,h0⟩
 | d::ds,I,ρ,h,h0=>by
  obtain⟨ρ1,ρ2,h1,h2,h3⟩:=h 0 (by simp) ρ h0
  obtain⟨ρ',e,h4⟩:=j6 ds (fun i=>I (i+1)) ρ2 (fun i hi=>h (i+1) (by simpa using hi)) h3
  refine⟨ρ',?_,h4⟩
  unfold da
  rw[show pt d ρ=some ρ1 from h1]
  rcases h2 with h2|h2<;>(simp only[h2];exact e)
theorem bb{f g:ay}{ρ ρ1:aN}(h:f ρ=some (.nx ρ1)):aC f g ρ=g ρ1:=by unfold aC;rw[h]
theorem yl{f g:ay}{ρ:aN}{d:D}{q:Nat}(h:f ρ=some (.rt d q)):aC f g ρ=some (.rt d q):=by unfold aC;rw[h]
theorem fw{n:Nat}{body:ay}{ds:List D}{d:D}{q:Nat}(h:body (jF n ds)=some (.rt d q)):bw n body ds=some (d,q):=by unfold bw;rw[h]
theorem i8{k:Nat}{it:iT}{pt:ek}{tt:cq}{te:aB}{deep:Bool}{ρ ρ1 ρ2:aN}{ds vs:List D}(hi:it ρ=some (ds,ρ1))(hc:iU k pt tt te deep ds ρ1=some (vs,ρ2)):dF k it pt tt te deep ρ=some (.lst vs,if deep=true then 2 else 1,ρ2):=by unfold dF;rw[hi];simp only[hc]
theorem L5{i:Nat}{f:aB}{ρ ρ1:aN}{d:D}{q:Nat}(h:f ρ=some (d,q,ρ1)):bq i f ρ=some (.nx (ρ1.set i (some (d,q)))):=by unfold bq;rw[h]
theorem iz{f:aB}{ρ ρ1:aN}{d:D}{q:Nat}(h:f ρ=some (d,q,ρ1)):bp f ρ=some (.rt d q):=by unfold bp;rw[h]
theorem jv{it:iT}{pt:ek}{body:ay}{ρ ρ1:aN}{ds:List D}(h:it ρ=some (ds,ρ1)):dI it pt body ρ=da pt body ds ρ1:=by unfold dI;rw[h]
theorem B4{g:cq}{s s':ay}{ρ ρ1:aN}(h:g ρ=some (true,ρ1)):cH g s s' ρ=s ρ1:=by unfold cH;rw[h];rfl
theorem p7{g:cq}{s s':ay}{ρ ρ1:aN}(h:g ρ=some (false,ρ1)):cH g s s' ρ=s' ρ1:=by unfold cH;rw[h];rfl
theorem i_{i:Nat}{f:aB}{ρ ρ1 ρ2:aN}{d:D}{q:Nat}(h:f ρ=some (d,q,ρ1))(e:ρ1.set i (some (d,q))=ρ2):bq i f ρ=some (.nx ρ2):=by rw[L5 h,e]
theorem dH{f:aB}{ρ ρ1:aN}{d:D}{q:Nat}(h:f ρ=some (d,q,ρ1)):aa f ag ρ=some ([d],ρ1):=by unfold aa;rw[h];rfl
theorem eR{f:aB}{g:bM}{ρ ρ1 ρ2:aN}{d:D}{q:Nat}{ds:List D}(h:f ρ=some (d,q,ρ1))(h':g ρ1=some (ds,ρ2)):aa f g ρ=some (d::ds,ρ2):=by unfold aa;rw[h];simp only[h']
theorem B5{g:bM}{ρ ρ1:aN}{ds:List D}(h:g ρ=some ([.lst ds],ρ1)):ix g ρ=some (.tup ds,9,ρ1):=by unfold ix;rw[h]
theorem B6{g:bM}{ρ ρ1:aN}{ds:List D}(h:b6 g ρ=some (ds,ρ1)):mM g ρ=some (.lst ds,1,ρ1):=by unfold mM;rw[h]
theorem fx{F:List D->OD}{n:Nat}{g:bM}{ρ ρ1:aN}{ds:List D}{d:D}{q:Nat}(h:g ρ=some (ds,ρ1))(hl:ds.length=n)(hF:F ds=some (d,q)):aH F n g ρ=some (d,q,ρ1):=by unfold aH;rw[h];simp only[hl,ZX,hF]
def ao (l:List Nat):List D:=l.map fun i=>.int (Int.ofNat i)
abbrev iD (k:Nat):D:=.int (Int.ofNat k)
abbrev uL (v:List Nat):OD:=some (.lst (ao v),1)
abbrev v9 (v:List Nat):OD:=some (.tup (ao v),9)
abbrev b9 (b:Bool):OD:=some (.bl b,9)
abbrev i9 (k:Nat):OD:=some ((iD k),9)
def jw (n:Nat)(f:Nat->Nat->Nat)(i:Nat):D:=.tup (ao ((List.range n).map fun j=>f i j))
def aY (n:Nat)(f:Nat->Nat->Nat):D:=.tup ((List.range n).map fun i=>jw n f i)
abbrev t9 (n:Nat)(f:Nat->Nat->Nat):OD:=some (aY n f,9)
def dw (n:Nat)(f:Nat->Nat->Nat)(i:Nat):D:=.lst (ao ((List.range n).map fun j=>f i j))
def bA (n:Nat)(f:Nat->Nat->Nat):D:=.lst ((List.range n).map fun i=>dw n f i)
@[simp] theorem R_{n:Nat}{f:Nat->Nat->Nat}:(aY n f).bY=false:=rfl
@[simp] theorem Sa{n:Nat}{f:Nat->Nat->Nat}{i:Nat}:(jw n f i).bY=false:=rfl
@[simp] theorem Sb{n:Nat}{f:Nat->Nat->Nat}:(bA n f).bY=true:=rfl
@[simp] theorem Sd{n:Nat}{f:Nat->Nat->Nat}{i:Nat}:(dw n f i).bY=true:=rfl
theorem fM(l:List Nat):(ao l).length=l.length:=by simp[ao]
theorem uQ(l:List Nat)(i:Nat):(ao l)[i]? = (l[i]?).map fun x=>.int (Int.ofNat x):=by simp[ao]
theorem rZ{n i:Nat}(h:i<n):gD n (Int.ofNat i)=some i:=by
 unfold gD
 rw[Qe (by exact Int.natCast_nonneg i),Qe (by show(i:Int)<n;omega)]
 rfl
theorem oJ{α:Type}{xs:List α}{i:Nat}{x:α}(h:xs[i]? = some x):L2.cO xs (Int.ofNat i)=some x:=by
 unfold L2.cO
 rw[rZ (Qv.mp h).1]
 exact h
theorem B7{l:List Nat}{i x:Nat}(h:l[i]? = some x):L2.cO (ao l) (Int.ofNat i)=some (iD x):=oJ (by rw[uQ,h];rfl)
theorem B8{g:Nat->D}{n i:Nat}(h:i<n):L2.cO ((List.range n).map g) (Int.ofNat i)=some (g i):=oJ (by rw[Qo,QZ h];rfl)
theorem oK{g:Nat->Nat}{n i:Nat}(h:i<n):L2.cO (ao ((List.range n).map g)) (Int.ofNat i)=some (iD (g i)):=B7 (by rw[Qo,QZ h];rfl)
theorem r_{n:Nat}{f:Nat->Nat->Nat}{i:Nat}(h:i<n):bJ (aY n f) (Int.ofNat i)=some (jw n f i):=B8 h
theorem uR{n:Nat}{f:Nat->Nat->Nat}{i j:Nat}(h:j<n):bJ (jw n f i) (Int.ofNat j)=some (iD (f i j)):=oK h
theorem L6{n:Nat}{f:Nat->Nat->Nat}{i:Nat}(h:i<n):bJ (bA n f) (Int.ofNat i)=some (dw n f i):=B8 h
theorem L7{n:Nat}{f:Nat->Nat->Nat}{i j:Nat}(h:j<n):bJ (dw n f i) (Int.ofNat j)=some (iD (f i j)):=oK h
theorem ja{n:Nat}{f:Nat->Nat->Nat}:cL (aY n f)=some n:=by simp[aY,cL]
theorem se{n:Nat}{f:Nat->Nat->Nat}:cL (bA n f)=some n:=by simp[bA,cL]
theorem uS{n:Nat}{f g:Nat->Nat->Nat}(h:∀ a b,a<n->b<n->f a b=g a b):bA n f=bA n g:=by
 unfold bA dw
 refine ZG D.lst (Zx fun a ha=>?_)
 refine ZG (fun l=>D.lst (ao l)) (Zx fun b hb=>?_)
 exact h a b (QP.mp ha) (QP.mp hb)
theorem B9{α:Type}{g:Nat->α}{n m:Nat}{x:α}:((List.range n).map g).set m x=(List.range n).map fun a=>if a=m then x else g a:=by
 apply Q8
 intro i
 by_cases hi:i<n
 ·by_cases h:m=i
  ·subst h
   rw[Qz (by simpa using hi),Qo,QZ hi]
   simp
  ·rw[Qx h,Qo,Qo,QZ hi]
   simp
   exact fun z=>absurd z.symm h
 ·rw[Qu (by simp;omega),Qu (by simp;omega)]
theorem B_{g:Nat->Nat}{n:Nat}:ao ((List.range n).map g)=(List.range n).map fun i=>.int (Int.ofNat (g i)):=by simp[ao]
theorem L8{n:Nat}{f:Nat->Nat->Nat}{a b v:Nat}:D.lst (((List.range n).map fun i=>dw n f i).set a (.lst ((ao ((List.range n).map fun j=>f a j)).set b (iD v))))=bA n fun i j=>if i=a/\j=b then v else f i j:=by
 unfold bA
 rw[B9]
 refine ZG D.lst (Zx fun i hi=>?_)
 by_cases h:i=a
 ·subst h
  rw[Qe rfl,B_,B9]
  unfold dw
  rw[B_]
  refine ZG D.lst (Zx fun j hj=>?_)
  by_cases hj:j=b<;>simp[hj]
 ·rw[Qh h]
  unfold dw
  simp[h]
theorem L9(n:Nat):D.lst (List.replicate n [D.int 0]).flatten=dw n (fun _ _=>0) 0:=by
 unfold dw ao
 congr 1
 simp[ZZ,List.map_const']
theorem Ca:∀ ds:List D,dG ds=ds.map bN
 | []=>rfl
 | d::ds=>by rw[dG,Ca ds];rfl
def lay (d:D):Bool:=fu d&&(bN d).canLay0
theorem uT{d:D}(h:lay d=true):fu d=true:=(QG.mp h).1
theorem Cb{d:D}(h:lay d=true):(bN d).canLay0=true:=(QG.mp h).2
theorem ym:∀ {ds:List D},(∀ d∈ds,lay d=true)->jn ds=true
 | [],_=>rfl
 | d::ds,h=>by
  show(fu d&&jn ds)=true
  rw[uT (h d Qd),ym fun x m=>h x (Qa _ m)]
  rfl
def iq (d:D):Nat:=(bN d).depth
theorem yn:∀ {ds:List D},(∀ d∈ds,lay d=true)->PyData.canLayAll0 (dG ds)=true
 | [],_=>rfl
 | d::ds,h=>by
  rw[dG,PyData.canLayAll0,yn fun x m=>h x (Qa _ m),Bool.and_true]
  exact Cb (h d Qd)
theorem yo{k:Nat}:∀ {ds:List D},(∀ d∈ds,iq d<=k)->PyData.depthAll (dG ds)<=k
 | [],_=>ZC _
 | d::ds,h=>by
  rw[dG,PyData.depthAll]
  exact Nat.max_le.mpr ⟨h d Qd,yo fun x m=>h x (Qa _ m)⟩
def Sh (k:Nat)(d:D):Prop:=lay d=true/\iq d<=k
theorem Sh.int{k:Nat}(i:Int):Sh k (.int i):=⟨rfl,ZC _⟩
theorem Sh.aS{k:Nat}:Sh k .aS:=⟨rfl,ZC _⟩
theorem Sh.tup{k:Nat}{ds:List D}(h:∀ d∈ds,Sh k d):Sh (k+1) (.tup ds):=⟨QG.mpr ⟨ym fun d m=>(h d m).1,yn fun d m=>(h d m).1⟩,Jz (yo fun d m=>(h d m).2)⟩
theorem Sh.lst{k:Nat}{ds:List D}(h:∀ d∈ds,Sh k d):Sh (k+1) (.lst ds):=⟨QG.mpr ⟨ym fun d m=>(h d m).1,yn fun d m=>(h d m).1⟩,Jz (yo fun d m=>(h d m).2)⟩
theorem Sh.ok{k:Nat}{d:D}(h:Sh k d)(hk:k<=64:=by decide):eH d=true:=by
 show(fu d&&((bN d).canLay0&&decide ((bN d).depth<=64)))=true
 rw[uT h.1,Cb h.1,Z6,Z6]
 exact Q6 (QK h.2 hk)
theorem Cc{l:List Nat}{d:D}(m:d∈ao l):Sh 0 d:=by
 obtain⟨x,_,rfl⟩:=QF.mp m
 exact .int _
theorem yp(l:List Nat):Sh 1 (.lst (ao l)):=.lst fun _ m=>Cc m
theorem lS(l:List Nat):Sh 1 (.tup (ao l)):=.tup fun _ m=>Cc m
theorem L_(n:Nat)(f:Nat->Nat->Nat):Sh 2 (aY n f):=.tup fun d m=>by
 obtain⟨x,_,rfl⟩:=QF.mp m
 exact lS _
theorem yq:∀ l l':List Nat,PyData.eqvAll (dG (ao l)) (dG (ao l'))=decide (l=l')
 | [],[]=>rfl
 | [],_::_=>rfl
 | _::_,[]=>rfl
 | x::l,y::l'=>by
  show(((x:Int)==(y:Int))&&PyData.eqvAll (dG (ao l)) (dG (ao l')))=_
  rw[yq l l']
  by_cases h:x=y
  ·subst h;simp
  ·have:((x:Int)==(y:Int))=false:=by simp;omega
   rw[this]
   simp[h]
theorem Ma(l l':List Nat):lC (.lst (ao l)) (.lst (ao l'))=decide (l=l'):=yq l l'
theorem yr(l l':List Nat):lC (.tup (ao l)) (.tup (ao l'))=decide (l=l'):=yq l l'
theorem yt(i j:Int):lC (.int i) (.int j)=decide (i=j):=by
 show(i==j)=_
 rw[Bool.beq_eq_decide_eq]
theorem Cd(i j:Nat):lC (iD i) (iD j)=decide (i=j):=by
 rw[yt]
 exact decide_eq_decide.mpr ⟨fun h=>Int.ofNat.inj h,fun h=>by rw[h]⟩
theorem Mb(l l':List Nat):cK (.lst (ao l)) (.lst (ao l'))=some (.bl (decide (l=l'))):=by unfold cK;rw[Qe ⟨(yp l).ok,(yp l').ok⟩,Ma]
theorem Ce(i j:Int):cK (.int i) (.int j)=some (.bl (decide (i=j))):=by unfold cK;rw[Qe ⟨(Sh.int (k:=0) i).ok,(Sh.int (k:=0) j).ok⟩,yt]
theorem Mc(i j:Int):fJ (.int i) (.int j)=some (.bl (!decide (i=j))):=by unfold fJ;rw[Qe ⟨(Sh.int (k:=0) i).ok,(Sh.int (k:=0) j).ok⟩,yt]
theorem yu(i j:Nat):cK (iD i) (iD j)=some (.bl (decide (i=j))):=by unfold cK;rw[Qe ⟨(Sh.int (k:=0) _).ok,(Sh.int (k:=0) _).ok⟩,Cd]
theorem uU(i j:Nat):fJ (iD i) (iD j)=some (.bl (!decide (i=j))):=by unfold fJ;rw[Qe ⟨(Sh.int (k:=0) _).ok,(Sh.int (k:=0) _).ok⟩,Cd]
theorem Cf{α:Type}{p:α->Bool}:∀ {l:List α} {j:Nat} {x:α},l[j]? = some x->p x=true->(∀ i y,i<j->l[i]? = some y->p y=false)->l.findIdx? p=some j
 | [],j,x,h,_,_=>by simp at h
 | a::l,0,x,h,hp,_=>by
  simp at h;subst h
  simp[List.findIdx?_cons,hp]
 | a::l,j+1,x,h,hp,hn=>by
  have h0:p a=false:=hn 0 a (Nat.succ_pos _) rfl
  have ih:=Cf (l:=l) (j:=j) (x:=x) (by simpa using h) hp fun i y hi hy=>hn (i+1) y (Nat.succ_lt_succ hi) (by simpa using hy)
  simp[List.findIdx?_cons,h0,ih]
structure aI (n:Nat) (f:Nat->Nat->Nat):Prop where
 lo:0<n
 hi:n<=16
 cl:∀ i j,i<n->j<n->f i j<n
 idem:∀ i,i<n->f i i=i
 comm:∀ i j,i<n->j<n->f i j=f j i
 assoc:∀ i j k,i<n->j<n->k<n->f (f i j) k=f i (f j k)
 bot:∃ z,z<n/\∀ j,j<n->f z j=j
def yv (n:Nat)(f:Nat->Nat->Nat):Bool:=
 decide (0<n)&&decide (n<=16)&&((List.range n).all fun i=>(List.range n).all fun j=>decide (f i j<n))&&((List.range n).all fun i=>decide (f i i=i))&&((List.range n).all fun i=>(List.range n).all fun j=>decide (f i j=f j i)) &&
 ((List.range n).all fun i=>(List.range n).all fun j=>(List.range n).all fun k=>decide (f (f i j) k=f i (f j k)))&&((List.range n).any fun z=>(List.range n).all fun j=>decide (f z j=j))
theorem Md{n:Nat}{f:Nat->Nat->Nat}(h:yv n f=true):aI n f:=by
 unfold yv at h
 simp only[Zz,Zq,Zk,List.any_eq_true,QP]at h
 obtain⟨⟨⟨⟨⟨⟨h1,h2⟩,h3⟩,h4⟩,h5⟩,h6⟩,z,hz,h7⟩:=h
 exact⟨h1,h2,fun i j hi hj=>h3 i hi j hj,h4,fun i j hi hj=>h5 i hi j hj,fun i j k hi hj hk=>h6 i hi j hj k hk,z,hz,h7⟩
theorem aI.Me{n:Nat}{f:Nat->Nat->Nat}(L:aI n f){π ι:Nat->Nat}(h1:∀ i,i<n->π i<n)(h2:∀ i,i<n->ι i<n)(h3:∀ i,i<n->ι (π i)=i)(h4:∀ i,i<n->π (ι i)=i):aI n fun a b=>π (f (ι a) (ι b)):=by
 obtain⟨l1,l2,cl,idem,comm,assoc,z,hz,bot⟩:=L
 refine⟨l1,l2,fun i j hi hj=>h1 _ (cl _ _ (h2 i hi) (h2 j hj)),fun i hi=>?_,fun i j hi hj=>?_,fun i j k hi hj hk=>?_,π z,h1 z hz,fun j hj=>?_⟩
 ·show π (f (ι i) (ι i))=i
  rw[idem _ (h2 i hi),h4 i hi]
 ·show π (f (ι i) (ι j))=π (f (ι j) (ι i))
  rw[comm _ _ (h2 i hi) (h2 j hj)]
 ·show π (f (ι (π (f (ι i) (ι j)))) (ι k))=π (f (ι i) (ι (π (f (ι j) (ι k)))))
  rw[h3 _ (cl _ _ (h2 i hi) (h2 j hj)),h3 _ (cl _ _ (h2 j hj) (h2 k hk)),assoc _ _ _ (h2 i hi) (h2 j hj) (h2 k hk)]
 ·show π (f (ι (π z)) (ι j))=j
  rw[h3 z hz,bot _ (h2 j hj),h4 j hj]
def cw (p:Nat->Nat->Nat)(n:Nat):Nat->List Nat
 | 0=>List.range n
 | k+1=>(cw p n k).eraseIdx (p k (cw p n k).length)
def drawn (p:Nat->Nat->Nat)(n k:Nat):Nat:=(cw p n k).getD (p k (cw p n k).length) 0
theorem Cg:∀ (l:List Nat) (j:Nat),(ao l).eraseIdx j=ao (l.eraseIdx j)
 | [],_=>rfl
 | _::_,0=>rfl
 | a::l,j+1=>ZG ((iD a) :: ·) (Cg l j)
theorem sf{p:Nat->Nat->Nat}{n:Nat}(hp:∀ k m,0<m->p k m<m):∀ k,k<=n->(cw p n k).length=n-k
 | 0,_=>by simp[cw]
 | k+1,h=>by
  have ih:=sf hp k (Nat.le_of_succ_le h)
  have:=hp k (n-k) (by omega)
  rw[cw,List.length_eraseIdx,ih,Qe this]
  omega
theorem Ci:∀ {l:List Nat} {j:Nat} (h:j<l.length),(l[j]::l.eraseIdx j).Perm l
 | a::l,0,_=>List.Perm.refl _
 | a::l,j+1,h=>(List.Perm.swap a (l[j]'(by simpa using h)) (l.eraseIdx j)).trans (List.Perm.cons a (Ci (by simpa using h)))
theorem Cj{p:Nat->Nat->Nat}{n:Nat}(hp:∀ k m,0<m->p k m<m):∀ k,k<=n->(((List.range k).map (drawn p n))++cw p n k).Perm (List.range n)
 | 0,_=>by simp[cw]
 | k+1,h=>by
  have ih:=Cj hp k (Nat.le_of_succ_le h)
  have hl:=sf hp k (by omega:k<=n)
  have hj:p k (cw p n k).length<(cw p n k).length:=by rw[hl];exact hp k _ (by omega)
  refine List.Perm.trans ?_ ih
  rw[Jb,Zi,ZY]
  refine List.Perm.append_left _ ?_
  have e:drawn p n k=(cw p n k)[p k (cw p n k).length]:=by unfold drawn;rw[Qq,Qj hj];rfl
  show(drawn p n k::(cw p n (k+1))).Perm _
  rw[e,cw]
  exact Ci hj
theorem uV{p:Nat->Nat->Nat}{n:Nat}(hp:∀ k m,0<m->p k m<m):((List.range n).map (drawn p n)).Perm (List.range n):=by
 have h:=Cj hp n (Qc n)
 have hl:=sf hp n (Qc n)
 rw[Nat.sub_self]at hl
 rw[Q0.mp hl,Zg]at h
 exact h
theorem Ck{p:Nat->Nat->Nat}{n:Nat}(hp:∀ k m,0<m->p k m<m){i:Nat}(h:i<n):drawn p n i<n:=by
 have m:drawn p n i∈(List.range n).map (drawn p n):=QF.mpr ⟨i,QP.mpr h,rfl⟩
 exact QP.mp ((uV hp).mem_iff.mp m)
def jb (p:Nat->Nat->Nat)(n a:Nat):Nat:=((List.range n).map (drawn p n)).idxOf a
theorem Cn{p:Nat->Nat->Nat}{n:Nat}(hp:∀ k m,0<m->p k m<m){a:Nat}(h:a<n):jb p n a<n:=by
 have m:a∈(List.range n).map (drawn p n):=(uV hp).mem_iff.mpr (QP.mpr h)
 have:=Jj m
 rw[Qm,QO]at this
 exact this
theorem Co{p:Nat->Nat->Nat}{n:Nat}(hp:∀ k m,0<m->p k m<m){a:Nat}(h:a<n):drawn p n (jb p n a)=a:=by
 have m:a∈(List.range n).map (drawn p n):=(uV hp).mem_iff.mpr (QP.mpr h)
 have:=List.getElem_idxOf (Jj m)
 rw[JC,List.getElem_range]at this
 exact this
theorem Cp{p:Nat->Nat->Nat}{n:Nat}(hp:∀ k m,0<m->p k m<m){i:Nat}(h:i<n):jb p n (drawn p n i)=i:=by
 have nd:((List.range n).map (drawn p n)).Nodup:=(uV hp).nodup_iff.mpr List.nodup_range
 have hi:i<((List.range n).map (drawn p n)).length:=by simpa using h
 have:=nd.idxOf_getElem i hi
 rw[JC,List.getElem_range]at this
 exact this
theorem oM{i n:Nat}{tt:cq}{te:aB}{ρ:aN}{deep:Bool}(hi:ρ.length=i)(b:Nat->Bool)(v:Nat->D)(q:Nat->Nat)(ht:∀ j,j<n->tt (ρ++[(i9 j)])=some (b j,ρ++[(i9 j)]))
  (he:∀ j,j<n->b j=true->te (ρ++[(i9 j)])=some (v j,q j,ρ++[(i9 j)])) (hd:deep=true->∀ j,(v j).bY=true->q j=1:=by intro h;cases h) :
  iU 1 (aP i) tt te deep (bW n) ρ=some (((List.range n).filter b).map v,ρ):=by
 have h:=m7 (k:=1) (pt:=aP i) (tt:=tt) (te:=te) (deep:=deep) (bW n) (fun _=>ρ) b v (fun j hj=>?_)
 ·rw[eh]at h
  exact h
 ·rw[eh]at hj
  refine⟨ρ++[(i9 j)],_,?_,ht j hj,?_⟩
  ·have:(bW n)[j]'(by rw[eh];exact hj)=(iD j):=by simp[bW]
   rw[this]
   unfold aP
   rw[Qe (by simp[hi])]
   subst hi
   simp[JN]
  ·by_cases hb:b j=true
   ·rw[Qe hb]
    exact⟨q j,_,he j hj hb,fun⟨h1,h2,h3⟩=>h3 (hd h1 j h2),by simp⟩
   ·rw[Qh hb]
    simp
theorem Cq{z:Nat}:∀ n:Nat,(List.range n).filter (fun w=>decide (w=z))=if z<n then [z]else []
 | 0=>by simp
 | n+1=>by
  rw[Jb,List.filter_append,Cq n]
  by_cases h:n=z
  ·subst h;simp
  ·have:¬ (n=z):=h
   by_cases h2:z<n
   ·rw[Qe h2,Qe (by omega)];simp[h]
   ·rw[Qh h2,Qh (by omega)];simp[h]
theorem Mf{n:Nat}{g:Nat->Nat}:(List.range n).map g=List.range n ↔ ∀ j,j<n->g j=j:=by
 constructor
 ·intro h j hj
  have:=ZG (fun l=>l[j]?) h
  simpa [hj]using this
 ·intro h
  have e:=Zx (l:=List.range n) (f:=g) (g:=id) fun a ha=>h a (QP.mp ha)
  rw[e,List.map_id]
namespace aI
variable {z:Nat}
variable {n:Nat}{f:Nat->Nat->Nat}(L:aI n f)
include L
theorem j7{x:Nat}(hz:z<n)(bz:∀ j,j<n->f z j=j)(hx:x<n)(bx:∀ j,j<n->f x j=j):x=z:=by
 have h1:=bx z hz
 have h2:=bz x hx
 rw[L.comm x z hx hz]at h1
 omega
theorem fold_lt:∀ {l:List Nat} {a:Nat},a<n->(∀ x∈l,x<n)->l.foldl f a<n
 | [],a,ha,_=>ha
 | y::l,a,ha,h=>fold_lt (l:=l) (L.cl a y ha (h y Qd)) fun x m=>h x (Qa _ m)
theorem Cr:∀ {l:List Nat} {a x:Nat},a<n->x<n->(∀ x∈l,x<n)->f x a=a->f x (l.foldl f a)=l.foldl f a
 | [],a,x,_,_,_,e=>e
 | y::l,a,x,ha,hx,h,e=>by
  have hy:=h y Qd
  refine Cr (l:=l) (L.cl a y ha hy) hx (fun x m=>h x (Qa _ m)) ?_
  rw[<- L.assoc x a y hx ha hy,e]
theorem gS:∀ {l:List Nat} {a x:Nat},a<n->(∀ x∈l,x<n)->x∈l->f x (l.foldl f a)=l.foldl f a
 | y::l,a,x,ha,h,m=>by
  have hy:=h y Qd
  have hl:∀ x∈l,x<n:=fun x m=>h x (Qa _ m)
  rcases Qr.mp m with rfl|m
  ·refine Cr L (l:=l) (L.cl a x ha hy) hy hl ?_
   rw[L.comm a x ha hy,<- L.assoc x x a hy hy ha,L.idem x hy]
  ·exact gS (l:=l) (L.cl a y ha hy) hl m
theorem eS(hz:z<n)(bz:∀ j,j<n->f z j=j):∀ {l:List Nat} {a:Nat},a<n->(∀ x∈l,x<n)->l.foldl f a=f a (l.foldl f z)
 | [],a,ha,_=>by show a=f a z;rw[L.comm a z ha hz,bz a ha]
 | y::l,a,ha,h=>by
  have hy:=h y Qd
  have hl:∀ x∈l,x<n:=fun x m=>h x (Qa _ m)
  show l.foldl f (f a y)=f a (l.foldl f (f z y))
  rw[bz y hy,eS hz bz (L.cl a y ha hy) hl,eS hz bz hy hl,L.assoc a y _ ha hy (L.fold_lt hz hl)]
end aI
theorem yw{pt:ek}{body:ay}{d:D}{q:Nat}:∀ (ds:List D) (I:aN->Prop) (ok:Nat->Bool) (ρ:aN),
  (∀ i (h:i<ds.length) ρ,I ρ->∃ ρ1,pt ds[i] ρ=some ρ1/\(ok i=true->∃ ρ2,body ρ1=some (.nx ρ2)/\I ρ2)/\(ok i=false->body ρ1=some (.rt d q)))->I ρ->
  ((List.range ds.length).all ok=true->∃ ρ',da pt body ds ρ=some (.nx ρ')/\I ρ')/\((List.range ds.length).all ok=false->da pt body ds ρ=some (.rt d q))
 | [],I,ok,ρ,_,h0=>⟨fun _=>⟨ρ,rfl,h0⟩,fun h=>by simp at h⟩
 | x::ds,I,ok,ρ,h,h0=>by
  obtain⟨ρ1,h1,h2,h3⟩:=h 0 (by simp) ρ h0
  have e1:pt x ρ=some ρ1:=h1
  have er:(List.range (x::ds).length).all ok=(ok 0&&(List.range ds.length).all fun i=>ok (i+1)):=by
   rw[Qy,ZE,JV,JJ];rfl
  rw[er]
  cases hk:ok 0 with
  | false=>
   refine⟨fun z=>by simp at z,fun _=>?_⟩
   unfold da
   simp only[e1,h3 hk]
  | true=>
   obtain⟨ρ2,h4,h5⟩:=h2 hk
   obtain⟨i1,i2⟩:=yw ds I (fun i=>ok (i+1)) ρ2 (fun i hi=>h (i+1) (by simpa using hi)) h5
   rw[Z6]
   unfold da
   simp only[e1,h4]
   exact⟨i1,i2⟩
theorem range_all{n:Nat}{p:Nat->Bool}:(List.range n).all p=true ↔ ∀ i,i<n->p i=true:=by
 rw[Zk]
 exact⟨fun h i hi=>h i (QP.mpr hi),fun h i hi=>h i (QP.mp hi)⟩
theorem Cs(p:Nat->Bool):∀ l:List Nat,((List.range l.length).all fun i=>p (l.getD i 0))=l.all p
 | []=>rfl
 | a::l=>by
  rw[Qy,ZE,JV,JJ,JV,<- Cs p l]
  rfl
theorem Ct{l:List Nat}{i:Nat}(h:i<(ao l).length):(ao l)[i]=(iD (l.getD i 0)):=by
 have h':i<l.length:=by rw[fM]at h;exact h
 simp[ao,h']
theorem yx{l:List Nat}{i:Nat}(h:i<l.length):l.getD i 0∈l:=by
 rw[Qq,Qj h]
 exact QW h
theorem Mg{i:Nat}{te:aB}{ρ:aN}{deep:Bool}(l:List Nat)(hi:ρ.length=i)(v:Nat->D)(q:Nat->Nat)
  (he:∀ x,x∈l->te (ρ++[(i9 x)])=some (v x,q x,ρ++[(i9 x)])) (hd:deep=true->∀ j,(v j).bY=true->q j=1:=by intro h;cases h) :
  iU 1 (aP i) cJ te deep (ao l) ρ=some (l.map v,ρ):=by
 have h:=m7 (k:=1) (pt:=aP i) (tt:=cJ) (te:=te) (deep:=deep) (ao l) (fun _=>ρ) (fun _=>true) (fun j=>v (l.getD j 0)) (fun j hj=>?_)
 ·rw[fM,show(List.range l.length).filter (fun _=>true)=List.range l.length by simp]at h
  rw[h]
  have e:(List.range l.length).map (fun j=>v (l.getD j 0))=l.map v:=by
   apply Q8
   intro k
   by_cases hk:k<l.length
   ·simp[hk]
   ·rw[Qu (by simp;omega),Qu (by simp;omega)]
  rw[e]
 ·have Mh:j<l.length:=by rw[fM]at hj;exact hj
  refine⟨ρ++[(i9 (l.getD j 0))],_,?_,rfl,?_⟩
  ·rw[Ct hj]
   unfold aP
   rw[Qe (by simp[hi])]
   subst hi
   simp[JN]
  ·rw[Qe rfl]
   exact⟨q _,_,he _ (yx Mh),fun⟨h1,h2,h3⟩=>h3 (hd h1 _ h2),by simp⟩
theorem m8{g:D->D->Option D}{fa fb:aB}{ρ ρ1 ρ2:aN}{x y d:D}{q q':Nat}(ha:fa ρ=some (x,q,ρ1))(hb:fb ρ1=some (y,q',ρ2))(hg:g x y=some d):e2 g fa fb ρ=some (d,9,ρ2):=by unfold e2;rw[ha];simp only[hb,hg]
theorem uW{f:aB}{ρ ρ1:aN}{b:Bool}{q:Nat}(h:f ρ=some (.bl b,q,ρ1)):cG f ρ=some (b,ρ1):=by unfold cG;rw[h]
theorem Cu{i:Nat}{g:bM}{ρ ρ1 ρ2:aN}{ds:List D}{d:D}(hl:pS ρ[i]? = true)(hg:g ρ=some ([d],ρ1))(h1:ρ1[i]? = some (some (.lst ds,1)))(hn:ds.length<=1000)(e:ρ1.set i (some (.lst (ds++[d]),1))=ρ2):cI (hU i g) ρ=some (.nx ρ2):=by
 unfold cI hU
 rw[Qe hl,hg]
 simp only[h1,Qe hn,e]
theorem yy{b:List D->Option D}{g:bM}{ρ ρ1:aN}{ds:List D}{d:D}(h:g ρ=some (ds,ρ1))(hd:b ds=some d):eB b g ρ=some (d,9,ρ1):=by unfold eB;rw[h];simp only[hd]
def eT (n:Nat)(r:Nat->Nat):D:=.tup (ao ((List.range n).map r))
abbrev r9 (n:Nat)(r:Nat->Nat):OD:=some (eT n r,9)
@[simp] theorem Se{n:Nat}{r:Nat->Nat}:(eT n r).bY=false:=rfl
theorem sg{n i:Nat}{r:Nat->Nat}(h:i<n):bJ (eT n r) (Int.ofNat i)=some (iD (r i)):=oK h
theorem uX(l l':List Nat):fJ (.tup (ao l)) (.tup (ao l'))=some (.bl (!decide (l=l'))):=by unfold fJ;rw[Qe ⟨(lS l).ok,(lS l').ok⟩,yr]
theorem Mi(l l':List Nat):cK (.tup (ao l)) (.tup (ao l'))=some (.bl (decide (l=l'))):=by unfold cK;rw[Qe ⟨(lS l).ok,(lS l').ok⟩,yr]
theorem Cv(n:Nat)(r:Nat->Nat):Sh 1 (eT n r):=lS _
namespace aI
variable {b x y z:Nat}
variable {n:Nat}{f:Nat->Nat->Nat}(L:aI n f)
include L
theorem le_trans(hx:x<n)(hy:y<n)(hz:z<n)(h1:f x y=y)(h2:f y z=z):f x z=z:=by
 rw[<- h2,<- L.assoc x y z hx hy hz,h1]
theorem jc(hx:x<n)(hy:y<n)(h1:f x y=y)(h2:f y x=x):x=y:=by
 rw[L.comm y x hy hx,h1]at h2;exact h2.symm
theorem oN(hx:x<n)(hy:y<n):f x (f x y)=f x y:=by rw[<- L.assoc x x y hx hx hy,L.idem x hx]
theorem yz(hx:x<n)(hy:y<n):f y (f x y)=f x y:=by rw[L.comm x y hx hy];exact L.oN hy hx
theorem lub(hx:x<n)(hy:y<n)(hz:z<n)(h1:f x z=z)(h2:f y z=z):f (f x y) z=z:=by rw[L.assoc x y z hx hy hz,h2,h1]
theorem fW(hz:z<n)(bz:∀ j,j<n->f z j=j)(hb:b<n):∀ {l:List Nat},(∀ x∈l,x<n)->(∀ x∈l,f x b=b)->f (l.foldl f z) b=b
 | [],_,_=>bz b hb
 | y::l,h,k=>by
  have hy:=h y Qd
  have hl:∀ x∈l,x<n:=fun x m=>h x (Qa _ m)
  have e:(y::l).foldl f z=f y (l.foldl f z):=by
   show l.foldl f (f z y)=_
   rw[bz y hy,L.eS hz bz hy hl]
  rw[e]
  exact L.lub hy (L.fold_lt hz hl) hb (k y Qd) (fW hz bz hb hl fun x m=>k x (Qa _ m))
omit L
def low (n:Nat)(f:Nat->Nat->Nat)(x:Nat):List Nat:=(List.range n).filter fun y=>decide (f y x=x)
theorem cf:y∈low n f x ↔ y<n/\f y x=x:=by simp[low]
def lr (n:Nat)(f:Nat->Nat->Nat)(z:Nat)(r:Nat->Nat)(x:Nat):Nat:=((low n f x).map r).foldl f z
include L
variable {z:Nat}(hz:z<n)(bz:∀ j,j<n->f z j=j){r s:Nat->Nat}(hr:∀ i,i<n->r i<n)
include hz bz hr
theorem gq:∀ y∈(low n f x).map r,y<n:=fun y m=>by
 obtain⟨k,hk,rfl⟩:=QF.mp m
 exact hr k (cf.mp hk).1
theorem m9(x:Nat):lr n f z r x<n:=L.fold_lt hz (gq L hz bz hr)
theorem sh(hy:y<n)(h:f y x=x):f (r y) (lr n f z r x)=lr n f z r x:=L.gS hz (gq L hz bz hr) (QF.mpr ⟨y,cf.mpr ⟨hy,h⟩,rfl⟩)
theorem j8(hb:b<n)(h:∀ y,y<n->f y x=x->f (r y) b=b):f (lr n f z r x) b=b:=L.fW hz bz hb (gq L hz bz hr) fun y m=>by
 obtain⟨k,hk,rfl⟩:=QF.mp m
 exact h k (cf.mp hk).1 (cf.mp hk).2
theorem j9(hx:x<n)(hy:y<n)(h:f x y=y):f (lr n f z r x) (lr n f z r y)=lr n f z r y:=
 L.j8 hz bz hr (L.m9 hz bz hr y) fun k hk e=>L.sh hz bz hr hk (L.le_trans hk hx hy e h)
end aI
theorem jd{α:Type}{us:List α}(h:us.length=1):∃ a,us=[a]:=match us,h with|[a],_=>⟨a,rfl⟩
theorem fX{α:Type}{us:List α}(h:us.length=2):∃ a b,us=[a,b]:=by
 cases us with
 | nil=>cases h
 | cons a us=>
  obtain⟨b,hh⟩:=jd (JI h)
  exact⟨a,b,by rw[hh]⟩
theorem j_{α:Type}{us:List α}(h:us.length=3):∃ a b c,us=[a,b,c]:=by
 cases us with
 | nil=>cases h
 | cons a us=>
  obtain⟨b,c,hh⟩:=fX (JI h)
  exact⟨a,b,c,by rw[hh]⟩
theorem uY{α:Type}{us:List α}(h:us.length=4):∃ a b c d,us=[a,b,c,d]:=by
 cases us with
 | nil=>cases h
 | cons a us=>
  obtain⟨b,c,d,hh⟩:=j_ (JI h)
  exact⟨a,b,c,d,by rw[hh]⟩
theorem Mj{pt:ek}{body:ay}{d:D}{ds:List D}{ρ ρ1 ρ2:aN}(h1:pt d ρ=some ρ1)(h2:body ρ1=some (.nx ρ2)):da pt body (d::ds) ρ=da pt body ds ρ2:=by
 show(match pt d ρ with|none=>none|some ρ1=>_)=_
 simp only[h1,h2]
theorem Cw{α J σ:Type}{pt:ek}{body:ay}(enc:α->D)(S:σ->J->aN)(g:σ->α->σ)(I:σ->Prop):∀ (l:List α) (s:σ) (j:J),I s->
  (∀ x∈l,∀ s j,I s->I (g s x)/\∃ ρ1 j',pt (enc x) (S s j)=some ρ1/\body ρ1=some (.nx (S (g s x) j')))->∃ j',da pt body (l.map enc) (S s j)=some (.nx (S (l.foldl g s) j'))/\I (l.foldl g s)
 | [],s,j,i,_=>⟨j,rfl,i⟩
 | x::l,s,j,i,h=>by
  obtain⟨i1,ρ1,j1,h1,h2⟩:=h x Qd s j i
  obtain⟨j2,e,i2⟩:=Cw enc S g I l (g s x) j1 i1 fun y m=>h y (Qa _ m)
  exact⟨j2,(Mj h1 h2).trans e,i2⟩
theorem Cy{c:cq}{b:ay}{Q:aN->Prop}(I:Nat->aN->Prop)
  (h:∀ k ρ,I k ρ->(∃ ρ1,c ρ=some (false,ρ1)/\Q ρ1)\/(∃ ρ1 ρ2 k',c ρ=some (true,ρ1)/\b ρ1=some (.nx ρ2)/\k'<k/\I k' ρ2)):∀ m k ρ,k<m->I k ρ->∃ ρ',j0 c b m ρ=some (.nx ρ')/\Q ρ'
 | 0,k,_,hk,_=>absurd hk (Ja k)
 | m+1,k,ρ,hk,i=>by
  rcases h k ρ i with⟨ρ1,h1,h2⟩|⟨ρ1,ρ2,k',h1,h2,h3,h4⟩
  ·exact⟨ρ1,by unfold j0;simp[h1],h2⟩
  ·obtain⟨ρ',e,q⟩:=Cy I h m k' ρ2 (by omega) h4
   refine⟨ρ',?_,q⟩
   unfold j0
   simp[h1,h2,e]
theorem Ml{c:cq}{b:ay}{Q:aN->Prop}(I:Nat->aN->Prop){k:Nat}{ρ:aN}(hk:k<1000)(i:I k ρ)
  (h:∀ k ρ,I k ρ->(∃ ρ1,c ρ=some (false,ρ1)/\Q ρ1)\/(∃ ρ1 ρ2 k',c ρ=some (true,ρ1)/\b ρ1=some (.nx ρ2)/\k'<k/\I k' ρ2)):∃ ρ',xO c b ρ=some (.nx ρ')/\Q ρ':=Cy I h 1000 k ρ hk i
def gv (v:List Nat)(i:Nat):Nat:=v.getD i 0
theorem yA{v:List Nat}{i:Nat}(h:i<v.length):v[i]? = some (gv v i):=by unfold gv;simp[h]
theorem Mm{v:List Nat}{i:Nat}(h:i<v.length):gv v i∈v:=yx h
theorem Cz{v:List Nat}{i:Nat}(h:i<v.length):bJ (.tup (ao v)) (Int.ofNat i)=some (iD (gv v i)):=B7 (yA h)
theorem Mn{v:List Nat}{i:Nat}(h:i<v.length)(x j:Nat):gv (v.set i x) j=if j=i then x else gv v j:=by
 unfold gv
 rw[Qq,Qq]
 by_cases e:j=i
 ·subst e;rw[Qe rfl,Qz h];rfl
 ·rw[Qh e,Qx (fun z=>e z.symm)]
theorem CA{u v:List Nat}(h:u.length=v.length)(k:∀ i,i<u.length->gv u i=gv v i):u=v:=by
 apply Q8
 intro i
 by_cases hi:i<u.length
 ·rw[yA hi,yA (by omega),k i hi]
 ·rw[Qu (by omega),Qu (by omega)]
structure Vn (n p:Nat) (v:List Nat):Prop where
 len:v.length=p
 lt:∀ x∈v,x<n
theorem Vn.gv{n p:Nat}{v:List Nat}(h:Vn n p v){i:Nat}(hi:i<p):gv v i<n:=h.lt _ (Mm (by rw[h.len];exact hi))
theorem Vn.set{n p:Nat}{v:List Nat}(h:Vn n p v){i x:Nat}(hx:x<n):Vn n p (v.set i x):=⟨by rw[QJ];exact h.len,fun y hy=>by
 rcases List.mem_or_eq_of_mem_set hy with h' | h'
 ·exact h.lt y h'
 ·rw[h'];exact hx⟩
def dQ (f:Nat->Nat->Nat)(p:Nat)(u v:List Nat):Prop:=∀ i,i<p->f (gv u i) (gv v i)=gv v i
abbrev hZ:=Nat×(List Nat->Nat)
def bh (f:Nat->Nat->Nat)(v:List Nat)(s:hZ):List Nat:=v.set s.1 (f (gv v s.1) (s.2 v))
structure je (n p:Nat) (f:Nat->Nat->Nat) (s:hZ):Prop where
 pl:s.1<p
 lt:∀ v,Vn n p v->s.2 v<n
 mono:∀ u v,Vn n p u->Vn n p v->dQ f p u v->f (s.2 u) (s.2 v)=s.2 v
def m_ (f:Nat->Nat->Nat)(l:List hZ)(v:List Nat):Prop:=∀ s∈l,f (s.2 v) (gv v s.1)=gv v s.1
namespace aI
variable {s:hZ}{u v:List Nat}
variable {n:Nat}{f:Nat->Nat->Nat}(L:aI n f){p:Nat}
include L
theorem dy(h:Vn n p v):dQ f p v v:=fun i hi=>L.idem _ (h.gv hi)
theorem fY{w:List Nat}(hu:Vn n p u)(hv:Vn n p v)(hw:Vn n p w)(a:dQ f p u v)(b:dQ f p v w):dQ f p u w:=fun i hi=>L.le_trans (hu.gv hi) (hv.gv hi) (hw.gv hi) (a i hi) (b i hi)
theorem eU(hu:Vn n p u)(hv:Vn n p v)(a:dQ f p u v)(b:dQ f p v u):u=v:=
 CA (hu.len.trans hv.len.symm) fun i hi=>by
  rw[hu.len]at hi
  exact L.jc (hu.gv hi) (hv.gv hi) (a i hi) (b i hi)
theorem gT(hs:je n p f s)(h:Vn n p v):Vn n p (bh f v s):=h.set (L.cl _ _ (h.gv hs.pl) (hs.lt v h))
theorem eV(hs:je n p f s)(h:Vn n p v)(i:Nat):gv (bh f v s) i=if i=s.1 then f (gv v s.1) (s.2 v)else gv v i:=Mn (by rw[h.len];exact hs.pl) _ _
theorem iA(hs:je n p f s)(h:Vn n p v):dQ f p v (bh f v s):=fun i hi=>by
 rw[L.eV hs h]
 by_cases e:i=s.1
 ·subst e;rw[Qe rfl];exact L.oN (h.gv hi) (hs.lt v h)
 ·rw[Qh e];exact L.idem _ (h.gv hi)
theorem ka(hs:je n p f s)(hu:Vn n p u)(hv:Vn n p v)(a:dQ f p u v):dQ f p (bh f u s) (bh f v s):=fun i hi=>by
 rw[L.eV hs hu,L.eV hs hv]
 by_cases e:i=s.1
 ·subst e
  rw[Qe rfl,Qe rfl]
  have h1:=hu.gv hs.pl
  have h2:=hs.lt u hu
  have h3:=hv.gv hs.pl
  have h4:=hs.lt v hv
  exact L.lub h1 h2 (L.cl _ _ h3 h4) (L.le_trans h1 h3 (L.cl _ _ h3 h4) (a _ hs.pl) (L.oN h3 h4)) (L.le_trans h2 h4 (L.cl _ _ h3 h4) (hs.mono u v hu hv a) (L.yz h3 h4))
 ·rw[Qh e,Qh e];exact a i hi
theorem gr(hs:je n p f s)(h:Vn n p v):bh f v s=v ↔ f (s.2 v) (gv v s.1)=gv v s.1:=by
 constructor
 ·intro e
  have:=ZG (fun u=>gv u s.1) e
  rw[L.eV hs h,Qe rfl]at this
  rw[L.comm _ _ (hs.lt v h) (h.gv hs.pl)]
  exact this
 ·intro e
  refine CA (by unfold bh;rw[QJ]) fun i hi=>?_
  rw[L.eV hs h]
  by_cases e':i=s.1
  ·subst e';rw[Qe rfl,L.comm _ _ (h.gv hs.pl) (hs.lt v h)];exact e
  ·rw[Qh e']
theorem gu:∀ {l:List hZ} {v:List Nat},(∀ s∈l,je n p f s)->Vn n p v->Vn n p (l.foldl (bh f) v)
 | [],v,_,h=>h
 | s::l,v,hs,h=>gu (l:=l) (fun t m=>hs t (Qa _ m)) (L.gT (hs s Qd) h)
theorem eX:∀ {l:List hZ} {v:List Nat},(∀ s∈l,je n p f s)->Vn n p v->dQ f p v (l.foldl (bh f) v)
 | [],v,_,h=>L.dy h
 | s::l,v,hs,h=>by
  have h1:=L.gT (hs s Qd) h
  have hl:∀ t∈l,je n p f t:=fun t m=>hs t (Qa _ m)
  exact L.fY h h1 (L.gu (l:=l) hl h1) (L.iA (hs s Qd) h) (eX (l:=l) hl h1)
theorem dR{a:List Nat}(ha:Vn n p a):∀ {l:List hZ} {v:List Nat},(∀ s∈l,je n p f s)->Vn n p v->m_ f l a->dQ f p v a->dQ f p (l.foldl (bh f) v) a
 | [],v,_,h,_,e=>e
 | s::l,v,hs,h,c,e=>by
  have s0:=hs s Qd
  have h1:=L.gT s0 h
  have hl:∀ t∈l,je n p f t:=fun t m=>hs t (Qa _ m)
  refine dR ha (l:=l) hl h1 (fun t m=>c t (Qa _ m)) ?_
  have:=L.ka s0 h ha e
  rw[(L.gr s0 ha).mpr (c s Qd)]at this
  exact this
theorem dJ:∀ {l:List hZ} {v:List Nat},(∀ s∈l,je n p f s)->Vn n p v->(l.foldl (bh f) v=v ↔ m_ f l v)
 | [],v,_,h=>⟨fun _ _ m=>(QI m).elim,fun _=>rfl⟩
 | s::l,v,hs,h=>by
  have s0:=hs s Qd
  have h1:=L.gT s0 h
  have hl:∀ t∈l,je n p f t:=fun t m=>hs t (Qa _ m)
  constructor
  ·intro e
   have e0:l.foldl (bh f) (bh f v s)=v:=e
   have up:=L.eX hl h1
   rw[e0]at up
   have e1:bh f v s=v:=L.eU h1 h up (L.iA s0 h)
   rw[e1]at e0
   have c:=(dJ (l:=l) hl h).mp e0
   intro t m
   rcases Qr.mp m with rfl|m
   ·exact(L.gr s0 h).mp e1
   ·exact c t m
  ·intro c
   show l.foldl (bh f) (bh f v s)=v
   rw[(L.gr s0 h).mpr (c s Qd)]
   exact(dJ (l:=l) hl h).mpr fun t m=>c t (Qa _ m)
def cnt (n:Nat)(f:Nat->Nat->Nat)(x:Nat):Nat:=((List.range n).filter fun y=>decide (f x y=y)).length
def mu (n:Nat)(f:Nat->Nat->Nat)(v:List Nat):Nat:=(v.map (cnt n f)).sum
omit L in
theorem Mp(x:Nat):cnt n f x<=n:=by
 have:=Z3 (fun y=>decide (f x y=y)) (List.range n)
 rw[QO]at this
 exact this
omit L in
theorem si(h:Vn n p v):mu n f v<=p*n:=by
 have key:∀ l:List Nat,(l.map (cnt n f)).sum<=l.length*n:=by
  intro l
  induction l with
  | nil=>simp
  | cons x l ih=>
   have:=Mp (n:=n) (f:=f) x
   simp only[Q3,List.sum_cons,Qy,Nat.succ_mul]
   omega
 have:=key v
 rw[h.len]at this
 exact this
omit L in
theorem CB{q r:Nat->Bool}{a:Nat}:∀ {l:List Nat},(∀ x∈l,r x=true->q x=true)->a∈l->q a=true->r a=false->(l.filter r).length<(l.filter q).length
 | y::l,h,ha,hq,hr=>by
  have hl:∀ x∈l,r x=true->q x=true:=fun x m=>h x (Qa _ m)
  have le:∀ l:List Nat,(∀ x∈l,r x=true->q x=true)->(l.filter r).length<=(l.filter q).length:=by
   intro l
   induction l with
   | nil=>intro _;simp
   | cons z l ih=>
    intro h
    have i:=ih fun x m=>h x (Qa _ m)
    by_cases hz:r z=true
    ·rw[Q1 hz,Q1 (h z Qd hz)]
     simp only[Qy];omega
    ·rw[Zf hz]
     by_cases sj:q z=true
     ·rw[Q1 sj];simp only[Qy];omega
     ·rw[Zf sj];exact i
  by_cases e:y=a
  ·subst e
   rw[Zf (by rw[hr];simp),Q1 hq]
   have:=le l hl
   simp only[Qy];omega
  ·have yB:a∈l:=by
    rcases Qr.mp ha with h' | h'
    ·exact absurd h'.symm e
    ·exact h'
   have i:=CB (l:=l) hl yB hq hr
   by_cases hz:r y=true
   ·rw[Q1 hz,Q1 (h y Qd hz)]
    simp only[Qy];omega
   ·rw[Zf hz]
    by_cases sj:q y=true
    ·rw[Q1 sj];simp only[Qy];omega
    ·rw[Zf sj];exact i
theorem oO{x y:Nat}(hx:x<n)(hy:y<n)(h:f x y=y)(ne:x≠y):cnt n f y<cnt n f x:=by
 refine CB (a:=x) (fun k m hk=>?_) (QP.mpr hx) (Q6 (L.idem x hx)) (Q2 fun e=>ne (L.jc hx hy h e))
 exact Q6 (L.le_trans hx hy (QP.mp m) h (Ju hk))
theorem nc(hu:Vn n p u)(hv:Vn n p v)(a:dQ f p u v)(ne:u≠v):mu n f v<mu n f u:=by
 have key:∀ (u v:List Nat),u.length=v.length->(∀ x∈u,x<n)->(∀ x∈v,x<n)->(∀ i,i<u.length->f (gv u i) (gv v i)=gv v i)->((v.map (cnt n f)).sum<=(u.map (cnt n f)).sum)/\(u≠v->(v.map (cnt n f)).sum<(u.map (cnt n f)).sum):=by
  intro u
  induction u with
  | nil=>
   intro v hl _ _ _
   have:v=[]:=Q0.mp hl.symm
   subst this
   exact⟨Qc _,fun h=>absurd rfl h⟩
  | cons x u ih=>
   intro v hl h1 h2 h3
   cases v with
   | nil=>cases hl
   | cons y v=>
    have fj:u.length=v.length:=by simpa using hl
    obtain⟨i1,i2⟩:=ih v fj (fun z m=>h1 z (Qa _ m)) (fun z m=>h2 z (Qa _ m)) (fun i hi=>h3 (i+1) (by simpa using hi))
    have e0:f x y=y:=h3 0 (by simp)
    have hx:=h1 x Qd
    have hy:=h2 y Qd
    simp only[Q3,List.sum_cons]
    by_cases e:x=y
    ·subst e
     exact⟨by omega,fun h=>by have:=i2 (fun z=>h (by rw[z]));omega⟩
    ·have:=L.oO hx hy e0 e
     exact⟨by omega,fun _=>by omega⟩
 exact(key u v (hu.len.trans hv.len.symm) hu.lt hv.lt (fun i hi=>a i (by rw[<- hu.len];exact hi))).2 ne
end aI
end L3
namespace My
open PySem PySem.Spec PyProof.Rows L2 L3
variable {F:D->List D->Option D}{a d x:D}{an od p0:Option Addr}{b:Nat×Nat}{body:ay}{cd ct dc oc pm:Value}{ds bg cX lQ:List D}{f:Nat->Nat->Nat}{fe te:aB}{b8 p6 ps:List Str}{g:bM}{h i j m n p q q':Nat}{l:PySem.W.OpenLaw}{ns:List Int}{qual:Str}{r:Nat->Nat}{s:hZ}{sl:Array (Option Value)}{st:Stmt}{v:List Nat}{ρ ρ1 ρ2:aN}
def top (i:Nat):Stmt:=PySem.Challenge.pw_ladderhall_k61_whole_any_coming.main.body.getD i (.Pass ⟨0,0,0,0⟩)
structure Bt (mg:Str->Option Value):Prop where
 ng:mg "all" = none
 oP:mg "bool" = none
 sk:mg "int" = none
 br:mg "isinstance" = none
 ax:mg "len" = none
 gw:mg "list" = none
 nh:mg "max" = none
 ar:mg "range" = none
 sr:mg "str" = none
 bu:mg "tuple" = none
structure Kt (K:PySem.W.Frag):Prop where
 gU:iy K "Keeper" "begins"
 kb:iy K "Keeper" "ladder"
 cU:iy K "Keeper" "many_raises"
 kc:iy K "Keeper" "places"
 ke:iy K "Keeper" "ways"
 gV:iy K "Keeper" "worths"
section
variable {P:Program}{w:World}{K:PySem.W.Frag}{mg:Str->Option Value}{base:Heap}
def CC:ay:=aC (cH (cG (e2 mB (ab 1) (bE 0))) (bp (aU 0 (ab 1))) d_)
 (aC (cH (cG (e2 cK (ab 0) (du ag))) (bp (eC (.int 0))) d_)
 (bp (e2 bB (e2 iQ (aU 0 (e2 og (ab 1) (bE 0))) (eC (.int 31))) (ab 1))))
def su:=bw 2 (CC)
theorem Mq:af ["_law_script","_law_k"] ["_law_script","_law_k"] (aG (top 35)):=bP (by decide +kernel)
theorem Mr(B:Bt mg)(a:At K mg "_law_cell" (top 35) ["_law_script","_law_k"]):au P w K mg base 1 "_law_cell" 2 (su):=
 au.bK a Mq fun _ _ _ _ _ _ _ hr=>
  aL (ft (uf (aE 1 rfl rfl) (cT B.ax (ql 0 rfl rfl))) (aM (bH (bF (ql 0 rfl rfl) (aE 1 rfl rfl)))) fF)
  (aL (ft (lD hr (aE 0 rfl rfl) (fq aj)) (aM (bH aT)) fF)
  (aM (bH (cA (jU (bF (ql 0 rfl rfl) (pO (aE 1 rfl rfl) (cT B.ax (ql 0 rfl rfl)))) aT) (aE 1 rfl rfl)))))
def CD:ay:=aC (bq 3 (e2 og (e2 iQ (e2 bB (aH su 2 (aa (ab 0) (aa (ab 1) ag))) (e2 iQ (eC (.int 6151)) (e2 bB (ab 1) (eC (.int 1))))) (eC (.int 40692))) (eC (.int 2147483399))))
 (bp (e2 og (e2 og (e2 bB (e2 iQ (ab 3) (ab 3)) (e2 ub (ab 3) (eC (.int 31)))) (eC (.int 2147483629))) (ab 2)))
def cj:=bw 4 (CD)
theorem CF:af ["_law_script","_law_k","_law_many","_law_drawn"] ["_law_script","_law_k","_law_many"] (aG (top 36)):=bP (by decide +kernel)
theorem Ms(B:Bt mg)(Mt:au P w K mg base 1 "_law_cell" 2 su)(a:At K mg "_law_pick" (top 36) ["_law_script","_law_k","_law_many"]):au P w K mg base 2 "_law_pick" 3 (cj):=
 au.bK a CF fun _ _ _ _ _ _ _ hr=>
  aL (bR (i:=3) CF.nd rfl (Or.inl rfl) (pO (jU (cA (a_ Mt hr (by decide) (az 0 rfl rfl (az 1 rfl rfl aj))) (jU aT (cA (aE 1 rfl rfl) aT))) aT) aT))
  (aM (bH (pO (pO (cA (jU (aE 3 rfl rfl) (aE 3 rfl rfl)) (xb (aE 3 rfl rfl) aT)) aT) (aE 2 rfl rfl))))
def Mu:ay:=bp (dF 1 (b6 (aa (ab 0) ag)) (aP 1) cJ (dF 1 (b6 (aa (ab 0) ag)) (aP 2) cJ (eB uo (aa (ab 1) (aa (ab 2) ag))) false) false)
def iB:=bw 1 (Mu)
theorem Mv:af ["_law_many"] ["_law_many"] (aG (top 37)):=bP (by decide +kernel)
abbrev CG:List Str:=["_law_many","_law_one","_law_other"]
theorem Mw:(CG).Nodup:=by decide +kernel
abbrev CH:List Str:=["_law_many","_law_one"]
theorem Mx:(CH).Nodup:=by decide +kernel
theorem Mz(B:Bt mg)(a:At K mg "_law_chain" (top 37) ["_law_many"]):au P w K mg base 1 "_law_chain" 1 (iB):=
 au.bK a Mv fun _ _ _ _ _ _ _ hr=>
  aM (bH (iW (k:=1) (N':=CH) false rfl ⟨rfl,by decide +kernel,rfl,rfl,rfl⟩ (dP B.ar (aq (cn (qv 0)) aj eI)) (fun _ _ _ _=>cu (i:=1) (show 1<=1 by decide) Mx rfl (Or.inr rfl) (Or.inl rfl)) (fun _ _ _ _=>iV) (fun _ _ _ _=>iW (k:=1) (N':=CG) false rfl ⟨rfl,by decide +kernel,rfl,rfl,rfl⟩ (dP B.ar (aq (cn (qv 0)) aj eI)) (fun _ _ _ _=>cu (i:=2) (show 2<=2 by decide) Mw rfl (Or.inl rfl) (Or.inr rfl)) (fun _ _ _ _=>iV) (fun _ _ _ _=>Be rfl B.nh JP (aq (cn (qv 1)) (aq (cn (qv 2)) aj eI) eI)))))
abbrev MA:ay:=aC (bq 7 (cF (aU 0 (e2 ub (ab 4) (ab 2))) (e2 ub (ab 6) (ab 2))))
 (cI (hU 5 (aa (e2 bB (e2 iQ (ab 7) (ab 2)) (cF (aU 1 (e2 og (ab 4) (ab 2))) (e2 og (ab 6) (ab 2)))) ag)))
abbrev MB:ay:=aC (bq 5 (du ag))
 (aC (dI (b6 (aa (e2 iQ (bE 0) (ab 2)) ag)) (aP 6) MA)
 (cI (hU 3 (aa (ab 5) ag))))
def MC:ay:=aC (bq 2 (bE 1))
 (aC (bq 3 (du ag))
 (aC (dI (b6 (aa (e2 iQ (bE 0) (ab 2)) ag)) (aP 4) MB)
 (bp (ab 3))))
def kI:=bw 8 (MC)
theorem oQ:af ["_law_one","_law_other","_law_many","_law_made","_law_here","_law_row","_law_there","_law_first"] ["_law_one","_law_other"] (aG (top 38)):=bP (by decide +kernel)
theorem MD(B:Bt mg)(a:At K mg "_law_couples" (top 38) ["_law_one","_law_other"]):au P w K mg base 1 "_law_couples" 2 (kI):=
 au.bK a oQ fun _ _ _ _ _ _ _ hr=>
  aL (bR (i:=2) oQ.nd rfl (Or.inl rfl) (cT B.ax (ql 1 rfl rfl)))
  (aL (bR (i:=3) oQ.nd rfl (Or.inl rfl) (fq aj))
  (aL (gF QA rfl (dP B.ar (aq (jU (cT B.ax (ql 0 rfl rfl)) (aE 2 rfl rfl)) aj et)) (cu (i:=4) (show 0<=4 by decide) oQ.nd rfl (Or.inl rfl)) (aL (bR (i:=5) oQ.nd rfl (Or.inl rfl) (fq aj))
  (aL (gF QA rfl (dP B.ar (aq (jU (cT B.ax (ql 0 rfl rfl)) (aE 2 rfl rfl)) aj et)) (cu (i:=6) (show 0<=6 by decide) oQ.nd rfl (Or.inl rfl)) (aL (bR (i:=7) oQ.nd rfl (Or.inl rfl) (fm (bF (ql 0 rfl rfl) (xb (aE 4 rfl rfl) (aE 2 rfl rfl))) (xb (aE 6 rfl rfl) (aE 2 rfl rfl))))
  (aM (fG (kD (ql 5 rfl rfl) (aq (cA (jU (aE 7 rfl rfl) (aE 2 rfl rfl)) (fm (bF (ql 1 rfl rfl) (pO (aE 4 rfl rfl) (aE 2 rfl rfl))) (pO (aE 6 rfl rfl) (aE 2 rfl rfl)))) aj et))))))
  (aM (fG (kD (ql 3 rfl rfl) (az 5 rfl rfl aj)))))))
  (aM (bH (aE 3 rfl rfl)))))
abbrev ME:ay:=cI (hU 3 (aa (xi (pP (cG (e2 uk (eC (.int 0)) (cS (aa (ab 2) (aa (ab 4) ag))))) (cG (e2 cK (ab 2) (ab 4)))) (eB uo (aa (ab 2) (aa (ab 4) ag))) (e2 bB (ab 0) (eC (.int 1)))) ag))
abbrev MF:ay:=aC (bq 3 (du ag))
 (aC (dI (b6 (aa (e2 bB (ab 0) (eC (.int 2))) ag)) (aP 4) ME)
 (cI (hU 1 (aa (ab 3) ag))))
def MG:ay:=aC (bq 1 (du ag))
 (aC (dI (b6 (aa (e2 bB (ab 0) (eC (.int 2))) ag)) (aP 2) MF)
 (bp (ab 1)))
def lT:=bw 5 (MG)
theorem sv:af ["_law_many","_law_made","_law_one","_law_row","_law_other"] ["_law_many"] (aG (top 39)):=bP (by decide +kernel)
theorem MH(B:Bt mg)(a:At K mg "_law_side_by_side" (top 39) ["_law_many"]):au P w K mg base 1 "_law_side_by_side" 1 (lT):=
 au.bK a sv fun _ _ _ _ _ _ _ hr=>
  aL (bR (i:=1) sv.nd rfl (Or.inl rfl) (fq aj))
  (aL (gF QA rfl (dP B.ar (aq (cA (aE 0 rfl rfl) aT) aj et)) (cu (i:=2) (show 0<=2 by decide) sv.nd rfl (Or.inl rfl)) (aL (bR (i:=3) sv.nd rfl (Or.inl rfl) (fq aj))
  (aL (gF QA rfl (dP B.ar (aq (cA (aE 0 rfl rfl) aT) aj et)) (cu (i:=4) (show 0<=4 by decide) sv.nd rfl (Or.inl rfl)) (aM (fG (kD (ql 3 rfl rfl) (aq (IF (yk (ug (J8 hr aT (fT (az 2 rfl rfl (az 4 rfl rfl aj)))) (xh (lD hr (aE 2 rfl rfl) (aE 4 rfl rfl))))) (Be rfl B.nh JP (az 2 rfl rfl (az 4 rfl rfl aj))) (cA (aE 0 rfl rfl) aT)) aj KA)))))
  (aM (fG (kD (ql 1 rfl rfl) (az 3 rfl rfl aj)))))))
  (aM (bH (aE 1 rfl rfl))))
def CI:ay:=aC (bq 2 (aH cj 3 (aa (ab 0) (aa (ab 1) (aa (eC (.int 9)) ag)))))
 (aC (cH (cG (e2 mB (ab 2) (eC (.int 3)))) (bp (aH iB 1 (aa (e2 bB (eC (.int 1)) (aH cj 3 (aa (ab 0) (aa (e2 bB (ab 1) (eC (.int 1))) (aa (eC (.int 5)) ag))))) ag))) d_)
 (aC (cH (cG (e2 mB (ab 2) (eC (.int 5)))) (bp (aH kI 2 (aa (aH iB 1 (aa (eC (.int 2)) ag)) (aa (aH iB 1 (aa (cF (du (aa (eC (.int 2)) (aa (eC (.int 3)) (aa (eC (.int 4)) ag)))) (aH cj 3 (aa (ab 0) (aa (e2 bB (ab 1) (eC (.int 1))) (aa (eC (.int 3)) ag))))) ag)) ag)))) d_)
 (aC (cH (cG (e2 mB (ab 2) (eC (.int 7)))) (bp (aH lT 1 (aa (aH cj 3 (aa (ab 0) (aa (e2 bB (ab 1) (eC (.int 1))) (aa (eC (.int 5)) ag)))) ag))) d_)
 (aC (cH (cG (e2 cK (ab 2) (eC (.int 7)))) (bp (aH kI 2 (aa (aH iB 1 (aa (eC (.int 2)) ag)) (aa (aH kI 2 (aa (aH iB 1 (aa (eC (.int 2)) ag)) (aa (aH iB 1 (aa (eC (.int 2)) ag)) ag))) ag)))) d_)
 (aC (bq 3 (du (aa (du (aa (eC (.int 0)) (aa (eC (.int 1)) (aa (eC (.int 2)) (aa (eC (.int 3)) (aa (eC (.int 4)) ag)))))) (aa (du (aa (eC (.int 1)) (aa (eC (.int 1)) (aa (eC (.int 2)) (aa (eC (.int 4)) (aa (eC (.int 4)) ag)))))) (aa (du (aa (eC (.int 2)) (aa (eC (.int 2)) (aa (eC (.int 2)) (aa (eC (.int 4)) (aa (eC (.int 4)) ag)))))) (aa (du (aa (eC (.int 3)) (aa (eC (.int 4)) (aa (eC (.int 4)) (aa (eC (.int 3)) (aa (eC (.int 4)) ag)))))) (aa (du (aa (eC (.int 4)) (aa (eC (.int 4)) (aa (eC (.int 4)) (aa (eC (.int 4)) (aa (eC (.int 4)) ag)))))) ag)))))))
 (bp (ab 3)))))))
def sx:=bw 4 (CI)
theorem yC:af ["_law_script","_law_at","_law_kind","_law_rows"] ["_law_script","_law_at"] (aG (top 40)):=bP (by decide +kernel)
theorem MI(B:Bt mg)(eY:au P w K mg base 2 "_law_pick" 3 cj)(p9:au P w K mg base 1 "_law_chain" 1 iB)(yD:au P w K mg base 1 "_law_couples" 2 kI)(MJ:au P w K mg base 1 "_law_side_by_side" 1 lT)(a:At K mg "_law_base" (top 40) ["_law_script","_law_at"]):au P w K mg base 3 "_law_base" 2 (sx):=
 au.bK a yC fun _ _ _ _ _ _ _ hr=>
  aL (bR (i:=2) yC.nd rfl (Or.inl rfl) (a_ eY hr (by decide) (az 0 rfl rfl (az 1 rfl rfl (bU aj)))))
  (aL (ft (uf (aE 2 rfl rfl) aT) (aM (bH (a_ p9 hr (by decide) (aq (cA aT (a_ eY hr (by decide) (az 0 rfl rfl (aq (cA (aE 1 rfl rfl) aT) (bU aj) et)))) aj et)))) fF)
  (aL (ft (uf (aE 2 rfl rfl) aT) (aM (bH (a_ yD hr (by decide) (aq (a_ p9 hr (by decide) (bU aj)) (aq (a_ p9 hr (by decide) (aq (fm (fq (bU (bU (bU aj)))) (a_ eY hr (by decide) (az 0 rfl rfl (aq (cA (aE 1 rfl rfl) aT) (bU aj) et)))) aj gp)) aj bD) bD)))) fF)
  (aL (ft (uf (aE 2 rfl rfl) aT) (aM (bH (a_ MJ hr (by decide) (aq (a_ eY hr (by decide) (az 0 rfl rfl (aq (cA (aE 1 rfl rfl) aT) (bU aj) et))) aj bD)))) fF)
  (aL (ft (lD hr (aE 2 rfl rfl) aT) (aM (bH (a_ yD hr (by decide) (aq (a_ p9 hr (by decide) (bU aj)) (aq (a_ yD hr (by decide) (aq (a_ p9 hr (by decide) (bU aj)) (aq (a_ p9 hr (by decide) (bU aj)) aj bD) bD)) aj bD) bD)))) fF)
  (aL (bR (i:=3) yC.nd rfl (Or.inl rfl) (fq (aq (fq (bU (bU (bU (bU (bU aj)))))) (aq (fq (bU (bU (bU (bU (bU aj)))))) (aq (fq (bU (bU (bU (bU (bU aj)))))) (aq (fq (bU (bU (bU (bU (bU aj)))))) (aq (fq (bU (bU (bU (bU (bU aj)))))) aj rK) rK) rK) rK) rK)))
  (aM (bH (aE 3 rfl rfl))))))))
abbrev ML:ay:=rH 5 (ow 4 (ou 6)) (ow 4 (ou 7)) (aU 4 (cF (aU 2 (ab 6)) (ab 7)))
abbrev MM:ay:=dI (b6 (aa (bE 2) ag)) (aP 7) (ML)
def CJ:ay:=aC (bq 2 (aH sx 2 (aa (ab 0) (aa (ab 1) ag))))
 (aC (bq 3 (mM (aa (bE 2) ag)))
 (aC (bq 4 (dF 1 (b6 (aa (bE 2) ag)) (aP 8) cJ (lG 3 (aa (aH cj 3 (aa (ab 0) (aa (e2 bB (e2 bB (ab 1) (eC (.int 2))) (ab 8)) (aa (bE 3) ag)))) ag)) false))
 (aC (bq 5 (dF 1 (fH (ab 2)) (aP 8) cJ (pU (du (aa (eC (.int 0)) ag)) (bE 2)) true))
 (aC (dI (b6 (aa (bE 2) ag)) (aP 6) MM)
 (bp (ix (aa (dF 1 (fH (ab 5)) (aP 8) cJ (ix (aa (ab 8) ag)) false) ag)))))))
def p_:=bw 8 (CJ)
theorem oR:af ["_law_script","_law_at","_law_base_here","_law_left","_law_name","_law_made","_law_one","_law_other"] ["_law_script","_law_at"] (aG (top 41)):=bP (by decide +kernel)
abbrev CK:List Str:=["_law_script","_law_at","_law_base_here","_law_left","_law_name","_law_made","_law_one","_law_other","_law_k"]
theorem MN:(CK).Nodup:=by decide +kernel
abbrev yE:List Str:=["_law_script","_law_at","_law_base_here","_law_left","_law_name","_law_made","_law_one","_law_other","_law_row"]
theorem CL:(yE).Nodup:=by decide +kernel
theorem MO(B:Bt mg)(MP:au P w K mg base 3 "_law_base" 2 sx)(eY:au P w K mg base 2 "_law_pick" 3 cj)(a:At K mg "_law_ladder" (top 41) ["_law_script","_law_at"]):au P w K mg base 4 "_law_ladder" 2 (p_):=
 au.bK a oR fun _ _ _ _ _ _ _ hr=>
  aL (bR (i:=2) oR.nd rfl (Or.inr rfl) (a_ MP hr (by decide) (aq (cn (qv 0)) (aq (cn (qv 1)) aj eI) eI)))
  (aL (bR (i:=3) oR.nd rfl (Or.inr rfl) (xu rfl B.gw ZF B.ar (aq (cT B.ax (qv 2)) aj bD)))
  (aL (xq (i:=4) (k:=1) (N':=CK) false oR.nd rfl (Or.inl rfl) rfl rfl ⟨rfl,by decide +kernel,rfl,rfl,rfl⟩ (dP B.ar (aq (cT B.ax (qv 2)) aj bD)) (fun _ _ _ _=>cu (i:=8) (show 8<=8 by decide) MN rfl (Or.inl rfl) (Or.inr rfl)) (fun _ _ _ _=>iV) (fun _ _ _ _=>Bp (qv 3) (aq (a_ eY hr (by decide) (aq (cn (qv 0)) (aq (cA (cA (cn (qv 1)) aT) (cn (qv 8))) (aq (cT B.ax (qv 3)) aj bD) et) eI)) aj bD)))
  (aL (xq (i:=5) (k:=1) (N':=yE) true oR.nd rfl (Or.inl rfl) rfl rfl ⟨rfl,by decide +kernel,rfl,rfl,rfl⟩ (lz (cn (qv 2))) (fun _ _ _ _=>cu (i:=8) (show 8<=8 by decide) CL rfl (Or.inl rfl) (Or.inr rfl)) (fun _ _ _ _=>iV) (fun _ _ _ _=>Br (fq (bU aj)) (cT B.ax (qv 2))))
  (aL (gF QA rfl (dP B.ar (aq (cT B.ax (qv 2)) aj bD)) (cu (i:=6) (show 0<=6 by decide) oR.nd rfl (Or.inl rfl)) (aM (gF QA rfl (dP B.ar (aq (cT B.ax (qv 2)) aj bD)) (cu (i:=7) (show 0<=7 by decide) oR.nd rfl (Or.inl rfl)) (aM (Ky (ql 5 rfl rfl) (Bv (ql 4 rfl rfl) (Bu (ql 6 rfl rfl))) (Bv (ql 4 rfl rfl) (Bu (ql 7 rfl rfl))) (bF (ql 4 rfl rfl) (fm (bF (qv 2) (aE 6 rfl rfl)) (aE 7 rfl rfl))))))))
  (aM (bH (mL B.bu QH (aq (iW (k:=1) (N':=yE) false rfl ⟨rfl,by decide +kernel,rfl,rfl,rfl⟩ (lz (aE 5 rfl rfl)) (fun _ _ _ _=>cu (i:=8) (show 8<=8 by decide) CL rfl (Or.inl rfl) (Or.inr rfl)) (fun _ _ _ _=>iV) (fun _ _ _ _=>mL B.bu QH (aq (cn (qv 8)) aj eI))) aj pV))))))))
def CM:ay:=bp (cF (dF 1 (b6 (aa (bE 0) ag)) (aP 1) (cG (e2 cK (rC (aa (aU 0 (ab 1)) ag)) (mM (aa (bE 0) ag)))) (ab 1) false) (eC (.int 0)))
def oS:=bw 1 (CM)
theorem MQ:af ["_law_ladder_here"] ["_law_ladder_here"] (aG (top 42)):=bP (by decide +kernel)
abbrev CN:List Str:=["_law_ladder_here","_law_worth"]
theorem MR:(CN).Nodup:=by decide +kernel
theorem MS(B:Bt mg)(a:At K mg "_law_low" (top 42) ["_law_ladder_here"]):au P w K mg base 1 "_law_low" 1 (oS):=
 au.bK a MQ fun _ _ _ _ _ _ _ hr=>
  aM (bH (fm (iW (k:=1) (N':=CN) false rfl ⟨rfl,by decide +kernel,rfl,rfl,rfl⟩ (dP B.ar (aq (cT B.ax (qv 0)) aj bD)) (fun _ _ _ _=>cu (i:=1) (show 1<=1 by decide) MR rfl (Or.inl rfl) (Or.inr rfl)) (fun _ _ _ _=>xp (lD hr (J9 B.gw ZF (aq (bF (qv 0) (cn (qv 1))) aj gp)) (xu rfl B.gw ZF B.ar (aq (cT B.ax (qv 0)) aj bD)))) (fun _ _ _ _=>cn (qv 1))) aT))
abbrev MT:ay:=bq 2 (cF (aU 0 (ab 2)) (ab 3))
def CO:ay:=aC (bq 2 (aH oS 1 (aa (ab 0) ag)))
 (aC (dI (fH (ab 1)) (aP 3) MT)
 (bp (ab 2)))
def oT:=bw 4 (CO)
theorem uZ:af ["_law_ladder_here","_law_worths","_law_here","_law_worth"] ["_law_ladder_here","_law_worths"] (aG (top 43)):=bP (by decide +kernel)
theorem MU(B:Bt mg)(yF:au P w K mg base 1 "_law_low" 1 oS)(a:At K mg "_law_join" (top 43) ["_law_ladder_here","_law_worths"]):au P w K mg base 2 "_law_join" 2 (oT):=
 au.bK a uZ fun _ _ _ _ _ _ _ hr=>
  aL (bR (i:=2) uZ.nd rfl (Or.inl rfl) (a_ yF hr (by decide) (az 0 rfl rfl aj)))
  (aL (gF QA rfl (lz (aE 1 rfl rfl)) (cu (i:=3) (show 0<=3 by decide) uZ.nd rfl (Or.inl rfl)) (aM (bR (i:=2) uZ.nd rfl (Or.inl rfl) (fm (bF (ql 0 rfl rfl) (aE 2 rfl rfl)) (aE 3 rfl rfl)))))
  (aM (bH (aE 2 rfl rfl))))
def CP:ay:=bp (dF 1 (b6 (aa (bE 0) ag)) (aP 2) (cG (e2 cK (cF (aU 0 (ab 2)) (ab 1)) (ab 1))) (ab 2) false)
def ni:=bw 2 (CP)
theorem MV:af ["_law_ladder_here","_law_worth"] ["_law_ladder_here","_law_worth"] (aG (top 44)):=bP (by decide +kernel)
abbrev CQ:List Str:=["_law_ladder_here","_law_worth","_law_one"]
theorem MW:(CQ).Nodup:=by decide +kernel
theorem MX(B:Bt mg)(a:At K mg "_law_under" (top 44) ["_law_ladder_here","_law_worth"]):au P w K mg base 1 "_law_under" 2 (ni):=
 au.bK a MV fun _ _ _ _ _ _ _ hr=>
  aM (bH (iW (k:=1) (N':=CQ) false rfl ⟨rfl,by decide +kernel,rfl,rfl,rfl⟩ (dP B.ar (aq (cT B.ax (qv 0)) aj bD)) (fun _ _ _ _=>cu (i:=2) (show 2<=2 by decide) MW rfl (Or.inl rfl) (Or.inr rfl)) (fun _ _ _ _=>xp (lD hr (fm (bF (qv 0) (cn (qv 2))) (cn (qv 1))) (cn (qv 1)))) (fun _ _ _ _=>cn (qv 2))))
abbrev MY:ay:=cI (hU 6 (aa (aH oT 2 (aa (ab 2) (aa (dF 1 (fH (aH ni 2 (aa (ab 2) (aa (ab 5) ag)))) (aP 7) cJ (aU 4 (ab 7)) false) ag))) ag))
abbrev MZ:ay:=cI (hU 4 (aa (cF (du (aa (ab 3) (aa (ab 5) (aa (aH cj 3 (aa (ab 0) (aa (e2 bB (ab 1) (ab 5)) (aa (bE 2) ag)))) ag)))) (aH cj 3 (aa (ab 0) (aa (e2 bB (e2 bB (ab 1) (eC (.int 8))) (ab 5)) (aa (eC (.int 3)) ag))))) ag))
def CS:ay:=aC (bq 3 (aH oS 1 (aa (ab 2) ag)))
 (aC (bq 4 (du ag))
 (aC (dI (b6 (aa (bE 2) ag)) (aP 5) MZ)
 (aC (bq 6 (du ag))
 (aC (dI (b6 (aa (bE 2) ag)) (aP 5) MY)
 (bp (ix (aa (ab 6) ag)))))))
def oU:=bw 7 (CS)
theorem qc:af ["_law_script","_law_at","_law_ladder_here","_law_low_here","_law_drawn","_law_worth","_law_made"] ["_law_script","_law_at","_law_ladder_here"] (aG (top 45)):=bP (by decide +kernel)
abbrev CT:List Str:=["_law_script","_law_at","_law_ladder_here","_law_low_here","_law_drawn","_law_worth","_law_made","_law_one"]
theorem M0:(CT).Nodup:=by decide +kernel
theorem M1(B:Bt mg)(yF:au P w K mg base 1 "_law_low" 1 oS)(eY:au P w K mg base 2 "_law_pick" 3 cj)(M3:au P w K mg base 2 "_law_join" 2 oT)(M4:au P w K mg base 1 "_law_under" 2 ni)(a:At K mg "_law_rule" (top 45) ["_law_script","_law_at","_law_ladder_here"]):au P w K mg base 3 "_law_rule" 3 (oU):=
 au.bK a qc fun _ _ _ _ _ _ _ hr=>
  aL (bR (i:=3) qc.nd rfl (Or.inl rfl) (a_ yF hr (by decide) (az 2 rfl rfl aj)))
  (aL (bR (i:=4) qc.nd rfl (Or.inr rfl) (fq aj))
  (aL (gF QA rfl (dP B.ar (aq (cT B.ax (ql 2 rfl rfl)) aj bD)) (cu (i:=5) (show 0<=5 by decide) qc.nd rfl (Or.inl rfl)) (aM (fG (kD (qv 4) (aq (fm (fq (az 3 rfl rfl (az 5 rfl rfl (aq (a_ eY hr (by decide) (az 0 rfl rfl (aq (cA (aE 1 rfl rfl) (aE 5 rfl rfl)) (aq (cT B.ax (ql 2 rfl rfl)) aj bD) et))) aj bD)))) (a_ eY hr (by decide) (az 0 rfl rfl (aq (cA (cA (aE 1 rfl rfl) aT) (aE 5 rfl rfl)) (bU aj) et)))) aj gp)))))
  (aL (bR (i:=6) qc.nd rfl (Or.inl rfl) (fq aj))
  (aL (gF QA rfl (dP B.ar (aq (cT B.ax (ql 2 rfl rfl)) aj bD)) (cu (i:=5) (show 0<=5 by decide) qc.nd rfl (Or.inl rfl)) (aM (fG (kD (ql 6 rfl rfl) (aq (a_ M3 hr (by decide) (az 2 rfl rfl (aq (iW (k:=1) (N':=CT) false rfl ⟨rfl,by decide +kernel,rfl,rfl,rfl⟩ (lz (a_ M4 hr (by decide) (az 2 rfl rfl (az 5 rfl rfl aj)))) (fun _ _ _ _=>cu (i:=7) (show 7<=7 by decide) M0 rfl (Or.inl rfl) (Or.inr rfl)) (fun _ _ _ _=>iV) (fun _ _ _ _=>bF (qv 4) (cn (qv 7)))) aj pV))) aj bD)))))
  (aM (bH (mL B.bu QH (az 6 rfl rfl aj))))))))
abbrev M5:ay:=aC (bq 4 (cF (aU 0 (aU 1 (ab 2))) (aU 1 (ab 3))))
 (cH (cG (e2 fJ (aU 1 (cF (aU 0 (ab 2)) (ab 3))) (ab 4))) (bp (eC (.bl false))) d_)
abbrev M6:ay:=dI (b6 (aa (ab 2) ag)) (aP 3) (M5)
def M7:ay:=aC (dI (b6 (aa (bE 0) ag)) (aP 2) M6)
 (bp (eC (.bl true)))
def yG:=bw 5 (M7)
theorem u0:af ["_law_ladder_here","_law_rule_here","_law_one","_law_other","_law_due"] ["_law_ladder_here","_law_rule_here"] (aG (top 46)):=bP (by decide +kernel)
theorem M8(B:Bt mg)(a:At K mg "_law_spreads" (top 46) ["_law_ladder_here","_law_rule_here"]):au P w K mg base 1 "_law_spreads" 2 (yG):=
 au.bK a u0 fun _ _ _ _ _ _ _ hr=>
  aL (gF QA rfl (dP B.ar (aq (cT B.ax (ql 0 rfl rfl)) aj bD)) (cu (i:=2) (show 0<=2 by decide) u0.nd rfl (Or.inl rfl)) (aM (gF QA rfl (dP B.ar (az 2 rfl rfl aj)) (cu (i:=3) (show 0<=3 by decide) u0.nd rfl (Or.inl rfl)) (aL (bR (i:=4) u0.nd rfl (Or.inl rfl) (fm (bF (ql 0 rfl rfl) (bF (ql 1 rfl rfl) (aE 2 rfl rfl))) (bF (ql 1 rfl rfl) (aE 3 rfl rfl))))
  (aM (ft (pQ hr (bF (ql 1 rfl rfl) (fm (bF (ql 0 rfl rfl) (aE 2 rfl rfl)) (aE 3 rfl rfl))) (aE 4 rfl rfl)) (aM (bH kA)) fF))))))
  (aM (bH kA))
def M9:ay:=aC (bq 3 (aH oU 3 (aa (ab 0) (aa (ab 1) (aa (ab 2) ag)))))
 (aC (cH (fU (aH yG 2 (aa (ab 2) (aa (ab 3) ag)))) (bp (ab 3)) d_)
 (aC (bq 4 (aH cj 3 (aa (ab 0) (aa (e2 bB (ab 1) (eC (.int 17))) (aa (bE 2) ag)))))
 (aC (bq 5 (du (aa (ix (aa (mM (aa (bE 2) ag)) ag)) (aa (xM (cS (aa (ab 4) ag)) (bE 2)) ag))))
 (aC (cI (hU 5 (aa (ix (aa (dF 1 (b6 (aa (bE 2) ag)) (aP 6) cJ (cF (aU 2 (ab 6)) (ab 4)) false) ag)) ag)))
 (bp (aU 5 (aH cj 3 (aa (ab 0) (aa (e2 bB (ab 1) (eC (.int 16))) (aa (eC (.int 3)) ag))))))))))
def yH:=bw 6 (M9)
theorem u3:af ["_law_script","_law_at","_law_ladder_here","_law_rule_here","_law_worth","_law_some"] ["_law_script","_law_at","_law_ladder_here"] (aG (top 47)):=bP (by decide +kernel)
abbrev CU:List Str:=["_law_script","_law_at","_law_ladder_here","_law_rule_here","_law_worth","_law_some","_law_one"]
theorem M_:(CU).Nodup:=by decide +kernel
theorem Na(B:Bt mg)(yI:au P w K mg base 3 "_law_rule" 3 oU)(Nb:au P w K mg base 1 "_law_spreads" 2 yG)(eY:au P w K mg base 2 "_law_pick" 3 cj)(a:At K mg "_law_spread_rule" (top 47) ["_law_script","_law_at","_law_ladder_here"]):au P w K mg base 4 "_law_spread_rule" 3 (yH):=
 au.bK a u3 fun _ _ _ _ _ _ _ hr=>
  aL (bR (i:=3) u3.nd rfl (Or.inl rfl) (a_ yI hr (by decide) (az 0 rfl rfl (az 1 rfl rfl (aq (cn (qv 2)) aj eI)))))
  (aL (ft (jV (a_ Nb hr (by decide) (aq (cn (qv 2)) (az 3 rfl rfl aj) eI))) (aM (bH (aE 3 rfl rfl))) fF)
  (aL (bR (i:=4) u3.nd rfl (Or.inr rfl) (a_ eY hr (by decide) (az 0 rfl rfl (aq (cA (aE 1 rfl rfl) aT) (aq (cT B.ax (qv 2)) aj bD) et))))
  (aL (bR (i:=5) u3.nd rfl (Or.inl rfl) (fq (aq (mL B.bu QH (aq (xu rfl B.gw ZF B.ar (aq (cT B.ax (qv 2)) aj bD)) aj bD)) (aq (Lg (fT (aq (cn (qv 4)) aj eI)) (cT B.ax (qv 2))) aj et) bD)))
  (aL (fG (kD (ql 5 rfl rfl) (aq (mL B.bu QH (aq (iW (k:=1) (N':=CU) false rfl ⟨rfl,by decide +kernel,rfl,rfl,rfl⟩ (dP B.ar (aq (cT B.ax (qv 2)) aj bD)) (fun _ _ _ _=>cu (i:=6) (show 6<=6 by decide) M_ rfl (Or.inl rfl) (Or.inr rfl)) (fun _ _ _ _=>iV) (fun _ _ _ _=>fm (bF (qv 2) (cn (qv 6))) (cn (qv 4)))) aj pV)) aj bD)))
  (aM (bH (bF (ql 5 rfl rfl) (a_ eY hr (by decide) (az 0 rfl rfl (aq (cA (aE 1 rfl rfl) aT) (bU aj) et))))))))))
abbrev u4:ay:=aC (bq 10 (aH cj 3 (aa (ab 0) (aa (e2 bB (e2 bB (ab 1) (eC (.int 3))) (e2 iQ (eC (.int 2)) (ab 6))) (aa (bE 2) ag)))))
 (cI (hU 9 (aa (cS (aa (aH cj 3 (aa (ab 0) (aa (e2 bB (e2 bB (ab 1) (eC (.int 4))) (e2 iQ (eC (.int 2)) (ab 6))) (aa (ab 4) ag)))) (aa (ab 10) ag))) ag)))
abbrev u5:ay:=aC (bq 7 (e2 bB (e2 bB (ab 1) (eC (.int 10))) (e2 iQ (eC (.int 22)) (ab 6))))
 (aC (bq 8 (aH oU 3 (aa (ab 0) (aa (e2 bB (ab 7) (eC (.int 2))) (aa (ab 2) ag)))))
 (aC (cH (fU (ab 3)) (bq 8 (aH yH 3 (aa (ab 0) (aa (e2 bB (ab 7) (eC (.int 2))) (aa (ab 2) ag))))) d_)
 (cI (hU 5 (aa (cS (aa (aH cj 3 (aa (ab 0) (aa (ab 7) (aa (ab 4) ag)))) (aa (aH cj 3 (aa (ab 0) (aa (e2 bB (ab 7) (eC (.int 1))) (aa (ab 4) ag)))) (aa (ab 8) ag)))) ag)))))
def CV:ay:=aC (bq 4 (e2 bB (eC (.int 1)) (aH cj 3 (aa (ab 0) (aa (ab 1) (aa (eC (.int 5)) ag))))))
 (aC (bq 5 (du ag))
 (aC (dI (b6 (aa (aH cj 3 (aa (ab 0) (aa (e2 bB (ab 1) (eC (.int 1))) (aa (eC (.int 8)) ag)))) ag)) (aP 6) u5)
 (aC (bq 9 (du ag))
 (aC (dI (b6 (aa (aH cj 3 (aa (ab 0) (aa (e2 bB (ab 1) (eC (.int 2))) (aa (eC (.int 4)) ag)))) ag)) (aP 6) u4)
 (bp (cS (aa (ab 4) (aa (ix (aa (ab 5) ag)) (aa (ix (aa (ab 9) ag)) ag)))))))))
def sy:=bw 11 (CV)
theorem kJ:af ["_law_script","_law_at","_law_ladder_here","_law_spread","_law_places","_law_ways","_law_k","_law_base_here","_law_rule_here","_law_begins","_law_worth"] ["_law_script","_law_at","_law_ladder_here","_law_spread"] (aG (top 48)):=bP (by decide +kernel)
theorem Nc(B:Bt mg)(eY:au P w K mg base 2 "_law_pick" 3 cj)(yI:au P w K mg base 3 "_law_rule" 3 oU)(Nd:au P w K mg base 4 "_law_spread_rule" 3 yH)(a:At K mg "_law_chart" (top 48) ["_law_script","_law_at","_law_ladder_here","_law_spread"]):au P w K mg base 5 "_law_chart" 4 (sy):=
 au.bK a kJ fun _ _ _ _ _ _ _ hr=>
  aL (bR (i:=4) kJ.nd rfl (Or.inl rfl) (cA aT (a_ eY hr (by decide) (az 0 rfl rfl (az 1 rfl rfl (bU aj))))))
  (aL (bR (i:=5) kJ.nd rfl (Or.inl rfl) (fq aj))
  (aL (gF QA rfl (dP B.ar (aq (a_ eY hr (by decide) (az 0 rfl rfl (aq (cA (aE 1 rfl rfl) aT) (bU aj) et))) aj bD)) (cu (i:=6) (show 0<=6 by decide) kJ.nd rfl (Or.inl rfl)) (aL (bR (i:=7) kJ.nd rfl (Or.inl rfl) (cA (cA (aE 1 rfl rfl) aT) (jU aT (aE 6 rfl rfl))))
  (aL (bR (i:=8) kJ.nd rfl (Or.inl rfl) (a_ yI hr (by decide) (az 0 rfl rfl (aq (cA (aE 7 rfl rfl) aT) (az 2 rfl rfl aj) et))))
  (aL (ft (jV (aE 3 rfl rfl)) (aM (bR (i:=8) kJ.nd rfl (Or.inl rfl) (a_ Nd hr (by decide) (az 0 rfl rfl (aq (cA (aE 7 rfl rfl) aT) (az 2 rfl rfl aj) et))))) fF)
  (aM (fG (kD (ql 5 rfl rfl) (aq (fT (aq (a_ eY hr (by decide) (az 0 rfl rfl (az 7 rfl rfl (az 4 rfl rfl aj)))) (aq (a_ eY hr (by decide) (az 0 rfl rfl (aq (cA (aE 7 rfl rfl) aT) (az 4 rfl rfl aj) et))) (az 8 rfl rfl aj) bD) bD)) aj uw))))))))
  (aL (bR (i:=9) kJ.nd rfl (Or.inl rfl) (fq aj))
  (aL (gF QA rfl (dP B.ar (aq (a_ eY hr (by decide) (az 0 rfl rfl (aq (cA (aE 1 rfl rfl) aT) (bU aj) et))) aj bD)) (cu (i:=6) (show 0<=6 by decide) kJ.nd rfl (Or.inl rfl)) (aL (bR (i:=10) kJ.nd rfl (Or.inl rfl) (a_ eY hr (by decide) (az 0 rfl rfl (aq (cA (cA (aE 1 rfl rfl) aT) (jU aT (aE 6 rfl rfl))) (aq (cT B.ax (ql 2 rfl rfl)) aj bD) et))))
  (aM (fG (kD (ql 9 rfl rfl) (aq (fT (aq (a_ eY hr (by decide) (az 0 rfl rfl (aq (cA (cA (aE 1 rfl rfl) aT) (jU aT (aE 6 rfl rfl))) (az 4 rfl rfl aj) et))) (az 10 rfl rfl aj) bD)) aj uw))))))
  (aM (bH (fT (az 4 rfl rfl (aq (mL B.bu QH (az 5 rfl rfl aj)) (aq (mL B.bu QH (az 9 rfl rfl aj)) aj bD) bD)))))))))
def CW:ay:=bp (Bl (aa (ab 0) ag))
def sA:=bw 1 (CW)
theorem Nf:af ["many"] ["many"] (aG (top 11)):=bP (by decide +kernel)
theorem Ng(B:Bt mg)(a:At K mg "row_of_least" (top 11) ["many"]):au P w K mg base 1 "row_of_least" 1 (sA):=
 au.bK a Nf fun _ _ _ _ _ _ _ hr=>
  aM (bH (Kg rfl B.bu QH B.ar (az 0 rfl rfl aj)))
def CY:ay:=bp (xC (ab 0) (aa (aH sA 1 (aa (bE 0) ag)) ag))
def sC:=bw 1 (CY)
theorem Nh:af ["ladder"] ["ladder"] (aG (top 12)):=bP (by decide +kernel)
theorem Ni(B:Bt mg)(Nj:au P w K mg base 1 "row_of_least" 1 sA)(a:At K mg "least_of" (top 12) ["ladder"]):au P w K mg base 2 "least_of" 1 (sC):=
 au.bK a Nh fun _ _ _ _ _ _ _ hr=>
  aM (bH (Kr hr (aE 0 rfl rfl) (aq (a_ Nj hr (by decide) (aq (cT B.ax (ql 0 rfl rfl)) aj bD)) aj bD)))
def CZ:ay:=bp (ix (aa (pU (du (aa (aH sC 1 (aa (ab 0) ag)) ag)) (aU 1 (eC (.int 0)))) ag))
def oV:=bw 2 (CZ)
theorem Nk:af ["ladder","chart"] ["ladder","chart"] (aG (top 23)):=bP (by decide +kernel)
theorem Nl(B:Bt mg)(Nm:au P w K mg base 2 "least_of" 1 sC)(a:At K mg "lowest" (top 23) ["ladder","chart"]):au P w K mg base 3 "lowest" 2 (oV):=
 au.bK a Nk fun _ _ _ _ _ _ _ hr=>
  aM (bH (mL B.bu QH (aq (Br (fq (aq (a_ Nm hr (by decide) (az 0 rfl rfl aj)) aj bD)) (bF (ql 1 rfl rfl) aT)) aj et)))
def C3:ay:=bp (cS (aa (fV 0 "places") (aa (fV 0 "ways") (aa (fV 0 "begins") ag))))
def kg:=bw 1 C3
theorem Nn:af ["self"] ["self"] (aG (fC (top 33) 4)):=bP (by decide +kernel)
theorem Np(B:Bt mg)(a:i7 K "Keeper" "chart" "Keeper.chart" (fC (top 33) 4) ["self"]):gR P w K mg base 1 "Keeper" "chart" 1 kg:=
 gR.bK (k:=0) a Nn fun _ _ _ _ _ _ _ hr=>
  aM (bH (fT (aq (i6 (ql 0 rfl rfl)) (aq (i6 (ql 0 rfl rfl)) (aq (i6 (ql 0 rfl rfl)) aj lI) lI) lI)))
def C4:ay:=aC (i5 "Keeper" 0 "ladder" (ab 1))
 (aC (i5 "Keeper" 0 "places" (ab 2))
 (aC (i5 "Keeper" 0 "ways" (cS ag))
 (aC (i5 "Keeper" 0 "begins" (cS ag))
 (aC (i5 "Keeper" 0 "worths" (aH oV 2 (aa (ab 1) (aa (js "Keeper" "chart" kg 0) ag))))
 (i5 "Keeper" 0 "many_raises" (eC (.int 0)))))))
def qd:D->List D->Option D:=hX 3 C4
theorem Nq:af ["self","ladder","places"] ["self","ladder","places"] (aG (fC (top 33) 0)):=bP (by decide +kernel)
theorem Nr(B:Bt mg)(N:Kt K)(yJ:au P w K mg base 3 "lowest" 2 oV)(c8:gR P w K mg base 1 "Keeper" "chart" 1 kg)(a:i7 K "Keeper" "__init__" "Keeper.__init__" (fC (top 33) 0) ["self","ladder","places"])(hc:∀ C,PySem.W.nsIn K mainGlobals "Keeper" = some (some (.ref C))->mg "Keeper" = some (.ref C)/\PySem.W.makesIn K C=true/\PySem.W.keepIn K (.ref C)=true/\fE K C):lP P w K mg base 4 "Keeper" 3 qd:=
 lP.bK (k:=3) a hc Nq fun _ _ _ _ _ _ _ hr=>
  aL (kF N.kb (ql 0 rfl rfl) (aE 1 rfl rfl))
  (aL (kF N.kc (ql 0 rfl rfl) (aE 2 rfl rfl))
  (aL (kF N.ke (ql 0 rfl rfl) (fT aj))
  (aL (kF N.gU (ql 0 rfl rfl) (fT aj))
  (aL (kF N.gV (ql 0 rfl rfl) (a_ yJ hr (by decide) (az 1 rfl rfl (aq (mZ c8 hr (by decide) (ql 0 rfl rfl)) aj bD))))
  (aM (kF N.cU (ql 0 rfl rfl) aT))))))
def C5:ay:=bp (oE (dF 1 (b6 (aa (eB iX (aa (aU 0 (eC (.int 2))) ag)) ag)) (aP 1) cJ (cS (aa (eC (.str "begin")) (aa (ab 1) ag))) false) (dF 1 (b6 (aa (eB iX (aa (aU 0 (eC (.int 1))) ag)) ag)) (aP 1) cJ (cS (aa (eC (.str "way")) (aa (ab 1) ag))) false))
def sD:=bw 1 (C5)
theorem Nt:af ["_law_chart_here"] ["_law_chart_here"] (aG (top 49)):=bP (by decide +kernel)
abbrev yK:List Str:=["_law_chart_here","_law_k"]
theorem C6:(yK).Nodup:=by decide +kernel
theorem Nu(B:Bt mg)(a:At K mg "_law_every_step" (top 49) ["_law_chart_here"]):au P w K mg base 1 "_law_every_step" 1 (sD):=
 au.bK a Nt fun _ _ _ _ _ _ _ hr=>
  aM (bH (BH (iW (k:=1) (N':=yK) false rfl ⟨rfl,by decide +kernel,rfl,rfl,rfl⟩ (dP B.ar (aq (pR B.ax (aq (bF (ql 0 rfl rfl) aT) aj gp)) aj bD)) (fun _ _ _ _=>cu (i:=1) (show 1<=1 by decide) C6 rfl (Or.inl rfl) (Or.inr rfl)) (fun _ _ _ _=>iV) (fun _ _ _ _=>fT (aq pM (aq (cn (qv 1)) aj eI) pW))) (iW (k:=1) (N':=yK) false rfl ⟨rfl,by decide +kernel,rfl,rfl,rfl⟩ (dP B.ar (aq (pR B.ax (aq (bF (ql 0 rfl rfl) aT) aj gp)) aj bD)) (fun _ _ _ _=>cu (i:=1) (show 1<=1 by decide) C6 rfl (Or.inl rfl) (Or.inr rfl)) (fun _ _ _ _=>iV) (fun _ _ _ _=>fT (aq pM (aq (cn (qv 1)) aj eI) pW)))))
def C7:ay:=bp (kE (oy .int (ab 0)) (xG (oy .bool (ab 0))))
def sE:=bw 1 (C7)
theorem Nv:af ["thing"] ["thing"] (aG (top 6)):=bP (by decide +kernel)
theorem Nw(B:Bt mg)(a:At K mg "is_whole" (top 6) ["thing"]):au P w K mg base 1 "is_whole" 1 (sE):=
 au.bK a Nv fun _ _ _ _ _ _ _ hr=>
  aM (bH (rJ (rL .int B.br B.sk PyProof.Rows.boot_int (aE 0 rfl rfl)) (uv (Kz (rL .bool B.br B.oP PyProof.Rows.boot_bool (aE 0 rfl rfl))))))
def C8:ay:=bp (kE (aH sE 1 (aa (ab 0) ag)) (uy AM mB (eC (.int 0)) (ab 0) (ab 1)))
def kK:=bw 2 (C8)
theorem Nx:af ["thing","many"] ["thing","many"] (aG (top 7)):=bP (by decide +kernel)
theorem Ny(B:Bt mg)(Nz:au P w K mg base 1 "is_whole" 1 sE)(a:At K mg "is_number_of" (top 7) ["thing","many"]):au P w K mg base 2 "is_number_of" 2 (kK):=
 au.bK a Nx fun _ _ _ _ _ _ _ hr=>
  aM (bH (rJ (a_ Nz hr (by decide) (az 0 rfl rfl aj)) (uv (K1 aT (aE 0 rfl rfl) (aE 1 rfl rfl)))))
def C9:ay:=cH (gN (fU (aH kK 2 (aa (ab 1) (aa (ab 0) ag))))) rN (d_)
def nj:=bw 2 (C9)
theorem NA:af ["places","place"] ["places","place"] (aG (top 21)):=bP (by decide +kernel)
theorem NB(B:Bt mg)(sF:au P w K mg base 2 "is_number_of" 2 kK)(a:At K mg "refuse_no_place" (top 21) ["places","place"]):au P w K mg base 3 "refuse_no_place" 2 (nj):=
 au.bK a NA fun _ _ _ _ _ _ _ hr=>
  aM (ft (mC (jV (a_ sF hr (by decide) (az 1 rfl rfl (az 0 rfl rfl aj))))) (aM xN) fF)
def C_:ay:=aC (cH (cG (e2 cK (aU 2 (eC (.int 0))) (eC (.str "begin")))) (bp (cF (aU 0 (eC (.int 2))) (aU 2 (eC (.int 1))))) d_)
 (aC (bq 3 (cF (aU 0 (eC (.int 1))) (aU 2 (eC (.int 1)))))
 (bp (cS (aa (aU 3 (eC (.int 1))) (aa (cF (aU 3 (eC (.int 2))) (aU 1 (aU 3 (eC (.int 0))))) ag)))))
def sG:=bw 4 (C_)
theorem Dc:af ["chart","worths","step","way"] ["chart","worths","step"] (aG (top 28)):=bP (by decide +kernel)
theorem NC(B:Bt mg)(a:At K mg "place_and_worth" (top 28) ["chart","worths","step"]):au P w K mg base 1 "place_and_worth" 3 (sG):=
 au.bK a Dc fun _ _ _ _ _ _ _ hr=>
  aL (ft (lD hr (bF (ql 2 rfl rfl) aT) pM) (aM (bH (fm (bF (ql 0 rfl rfl) aT) (bF (ql 2 rfl rfl) aT)))) fF)
  (aL (bR (i:=3) Dc.nd rfl (Or.inl rfl) (fm (bF (ql 0 rfl rfl) aT) (bF (ql 2 rfl rfl) aT)))
  (aM (bH (fT (aq (bF (ql 3 rfl rfl) aT) (aq (fm (bF (ql 3 rfl rfl) aT) (bF (ql 1 rfl rfl) (bF (ql 3 rfl rfl) aT))) aj gp) gp)))))
def Dd:ay:=aC (bq 4 (aH sG 3 (aa (ab 1) (aa (ab 2) (aa (ab 3) ag)))))
 (aC (bq 5 (aU 4 (eC (.int 0))))
 (aC (bq 6 (cF (aU 0 (aU 2 (ab 5))) (aU 4 (eC (.int 1)))))
 (bp (mR (mR (uE (ab 2) xK (uD (ab 5))) (cS (aa (ab 6) ag))) (uE (ab 2) (uD (e2 bB (ab 5) (eC (.int 1)))) xK)))))
def sH:=bw 7 (Dd)
theorem u6:af ["ladder","chart","worths","step","coming","place","joined"] ["ladder","chart","worths","step"] (aG (top 29)):=bP (by decide +kernel)
theorem ND(B:Bt mg)(NF:au P w K mg base 1 "place_and_worth" 3 sG)(a:At K mg "worths_behind" (top 29) ["ladder","chart","worths","step"]):au P w K mg base 2 "worths_behind" 4 (sH):=
 au.bK a u6 fun _ _ _ _ _ _ _ hr=>
  aL (bR (i:=4) u6.nd rfl (Or.inl rfl) (a_ NF hr (by decide) (az 1 rfl rfl (az 2 rfl rfl (az 3 rfl rfl aj)))))
  (aL (bR (i:=5) u6.nd rfl (Or.inl rfl) (bF (ql 4 rfl rfl) aT))
  (aL (bR (i:=6) u6.nd rfl (Or.inl rfl) (fm (bF (ql 0 rfl rfl) (bF (ql 2 rfl rfl) (aE 5 rfl rfl))) (bF (ql 4 rfl rfl) aT)))
  (aM (bH (uz (uz (BF (aE 2 rfl rfl) BD (BE (aE 5 rfl rfl))) (fT (az 6 rfl rfl aj))) (BF (aE 2 rfl rfl) (BE (cA (aE 5 rfl rfl) aT)) BD))))))
abbrev sI:ay:=aC (bq 7 (aH sH 4 (aa (ab 0) (aa (ab 1) (aa (ab 3) (aa (ab 6) ag))))))
 (aC (cH (cG (e2 fJ (ab 7) (ab 3))) (cI (hU 4 (aa (ab 6) ag))) d_)
 (bq 3 (ab 7)))
abbrev u7:ay:=aC (bq 5 (ab 3))
 (dI (fH (ab 2)) (aP 6) sI)
def De:ay:=aC (bq 4 (du ag))
 (aC (bq 5 (eC .aS))
 (aC (xO (cG (e2 fJ (ab 3) (ab 5))) u7)
 (bp (cS (aa (ab 3) (aa (ab 4) ag))))))
def nk:=bw 8 (De)
theorem oW:af ["ladder","chart","order","worths","raising","ahead","step","behind"] ["ladder","chart","order","worths"] (aG (top 30)):=bP (by decide +kernel)
theorem NH(B:Bt mg)(NI:au P w K mg base 2 "worths_behind" 4 sH)(a:At K mg "risen" (top 30) ["ladder","chart","order","worths"]):au P w K mg base 3 "risen" 4 (nk):=
 au.bK a oW fun _ _ _ _ _ _ _ hr=>
  aL (bR (i:=4) oW.nd rfl (Or.inl rfl) (fq aj))
  (aL (bR (i:=5) oW.nd rfl (Or.inl rfl) Iw)
  (aL (Lh QA (pQ hr (aE 3 rfl rfl) (aE 5 rfl rfl)) (aL (bR (i:=5) oW.nd rfl (Or.inl rfl) (aE 3 rfl rfl))
  (aM (gF QA rfl (lz (aE 2 rfl rfl)) (cu (i:=6) (show 0<=6 by decide) oW.nd rfl (Or.inl rfl)) (aL (bR (i:=7) oW.nd rfl (Or.inl rfl) (a_ NI hr (by decide) (az 0 rfl rfl (az 1 rfl rfl (az 3 rfl rfl (az 6 rfl rfl aj))))))
  (aL (ft (pQ hr (aE 7 rfl rfl) (aE 3 rfl rfl)) (aM (fG (kD (ql 4 rfl rfl) (az 6 rfl rfl aj)))) fF)
  (aM (bR (i:=3) oW.nd rfl (Or.inl rfl) (aE 7 rfl rfl)))))))))
  (aM (bH (fT (az 3 rfl rfl (az 4 rfl rfl aj)))))))
def Df:ay:=aC (bq 1 (dF 1 (b6 (aa (eB iX (aa (aU 0 (eC (.int 2))) ag)) ag)) (aP 2) cJ (cS (aa (eC (.str "begin")) (aa (ab 2) ag))) false))
 (bp (oE (ab 1) (dF 1 (b6 (aa (eB iX (aa (aU 0 (eC (.int 1))) ag)) ag)) (aP 2) cJ (cS (aa (eC (.str "way")) (aa (ab 2) ag))) false)))
def oX:=bw 2 (Df)
theorem Dg:af ["chart","begins"] ["chart"] (aG (top 25)):=bP (by decide +kernel)
abbrev yL:List Str:=["chart","begins","number"]
theorem Dh:(yL).Nodup:=by decide +kernel
theorem NJ(B:Bt mg)(a:At K mg "all_steps" (top 25) ["chart"]):au P w K mg base 1 "all_steps" 1 (oX):=
 au.bK a Dg fun _ _ _ _ _ _ _ hr=>
  aL (xq (i:=1) (k:=1) (N':=yL) false Dg.nd rfl (Or.inl rfl) rfl rfl ⟨rfl,by decide +kernel,rfl,rfl,rfl⟩ (dP B.ar (aq (pR B.ax (aq (bF (ql 0 rfl rfl) aT) aj gp)) aj bD)) (fun _ _ _ _=>cu (i:=2) (show 2<=2 by decide) Dh rfl (Or.inl rfl) (Or.inr rfl)) (fun _ _ _ _=>iV) (fun _ _ _ _=>fT (aq pM (aq (cn (qv 2)) aj eI) pW)))
  (aM (bH (BH (aE 1 rfl rfl) (iW (k:=1) (N':=yL) false rfl ⟨rfl,by decide +kernel,rfl,rfl,rfl⟩ (dP B.ar (aq (pR B.ax (aq (bF (ql 0 rfl rfl) aT) aj gp)) aj bD)) (fun _ _ _ _=>cu (i:=2) (show 2<=2 by decide) Dh rfl (Or.inl rfl) (Or.inr rfl)) (fun _ _ _ _=>iV) (fun _ _ _ _=>fT (aq pM (aq (cn (qv 2)) aj eI) pW))))))
def Di:ay:=aC (bq 1 (js "Keeper" "chart" kg 0))
 (aC (bq 2 (aH nk 4 (aa (fV 0 "ladder") (aa (ab 1) (aa (aH oX 1 (aa (ab 1) ag)) (aa (fV 0 "worths") ag))))))
 (aC (i5 "Keeper" 0 "worths" (aU 2 (eC (.int 0))))
 (i5 "Keeper" 0 "many_raises" (e2 bB (fV 0 "many_raises") (eB iX (aa (aU 2 (eC (.int 1))) ag))))))
def nq:D->List D->Option D:=hX 3 Di
theorem yM:af ["self","chart","ended"] ["self"] (aG (fC (top 33) 3)):=bP (by decide +kernel)
theorem NK(B:Bt mg)(N:Kt K)(c8:gR P w K mg base 1 "Keeper" "chart" 1 kg)(yN:au P w K mg base 3 "risen" 4 nk)(yO:au P w K mg base 1 "all_steps" 1 oX)(a:i7 K "Keeper" "rise" "Keeper.rise" (fC (top 33) 3) ["self"]):gQ P w K mg base 4 "Keeper" "rise" 1 nq:=
 gQ.bK (k:=3) a yM fun _ _ _ _ _ _ _ hr=>
  aL (bR (i:=1) yM.nd rfl (Or.inl rfl) (mZ c8 hr (by decide) (ql 0 rfl rfl)))
  (aL (bR (i:=2) yM.nd rfl (Or.inl rfl) (a_ yN hr (by decide) (aq (i6 (ql 0 rfl rfl)) (az 1 rfl rfl (aq (a_ yO hr (by decide) (az 1 rfl rfl aj)) (aq (i6 (ql 0 rfl rfl)) aj lI) bD)) lI)))
  (aL (kF N.gV (ql 0 rfl rfl) (bF (ql 2 rfl rfl) aT))
  (aM (kF N.cU (ql 0 rfl rfl) (cA (i6 (ql 0 rfl rfl)) (pR B.ax (aq (bF (ql 2 rfl rfl) aT) aj gp)))))))
def Dj:ay:=aC (cI (aH nj 2 (aa (fV 0 "places") (aa (ab 1) ag))))
 (aC (i5 "Keeper" 0 "begins" (mR (fV 0 "begins") (cS (aa (cS (aa (ab 1) (aa (ab 2) ag))) ag))))
 (cI (kG "Keeper" "rise" nq 1 0 ag)))
def sJ:D->List D->Option D:=hX 3 Dj
theorem NL:af ["self","place","worth"] ["self","place","worth"] (aG (fC (top 33) 1)):=bP (by decide +kernel)
theorem NM(B:Bt mg)(N:Kt K)(u9:au P w K mg base 3 "refuse_no_place" 2 nj)(yP:gQ P w K mg base 4 "Keeper" "rise" 1 nq)(a:i7 K "Keeper" "add_begin" "Keeper.add_begin" (fC (top 33) 1) ["self","place","worth"]):gQ P w K mg base 5 "Keeper" "add_begin" 3 sJ:=
 gQ.bK (k:=4) a NL fun _ _ _ _ _ _ _ hr=>
  aL (fG (a_ u9 hr (by decide) (aq (i6 (ql 0 rfl rfl)) (az 1 rfl rfl aj) lI)))
  (aL (kF N.gU (ql 0 rfl rfl) (uz (i6 (ql 0 rfl rfl)) (fT (aq (fT (az 1 rfl rfl (az 2 rfl rfl aj))) aj uw))))
  (aM (fG (B1 yP hr (by decide) (ql 0 rfl rfl)))))
def yQ:ay:=aC (cH (pP (gN (fU (oy .tuple (ab 0)))) (cG (e2 fJ (bE 0) (ab 1)))) (bp (eC (.bl false))) d_)
 (bp (eB mQ (aa (dF 1 (fH (ab 0)) (aP 3) cJ (aH kK 2 (aa (ab 3) (aa (ab 2) ag))) false) ag)))
def oY:=bw 3 (yQ)
theorem NN:af ["thing","length","many"] ["thing","length","many"] (aG (top 8)):=bP (by decide +kernel)
abbrev Dk:List Str:=["thing","length","many","part"]
theorem NO:(Dk).Nodup:=by decide +kernel
theorem NP(B:Bt mg)(sF:au P w K mg base 2 "is_number_of" 2 kK)(a:At K mg "is_row_of" (top 8) ["thing","length","many"]):au P w K mg base 3 "is_row_of" 3 (oY):=
 au.bK a NN fun _ _ _ _ _ _ _ hr=>
  aL (ft (yk (ug (mC (jV (rL .tuple B.br B.bu QH (aE 0 rfl rfl)))) (xh (pQ hr (cT B.ax (ql 0 rfl rfl)) (aE 1 rfl rfl))))) (aM (bH kA)) fF)
  (aM (bH (By rfl B.ng (aq (iW (k:=1) (N':=Dk) false rfl ⟨rfl,by decide +kernel,rfl,rfl,rfl⟩ (lz (aE 0 rfl rfl)) (fun _ _ _ _=>cu (i:=3) (show 3<=3 by decide) NO rfl (Or.inl rfl) (Or.inr rfl)) (fun _ _ _ _=>iV) (fun _ _ _ _=>a_ sF hr (by decide) (aq (cn (qv 3)) (aq (cn (qv 2)) aj eI) eI))) aj pV))))
def Dl:ay:=bp (aH oY 3 (aa (ab 1) (aa (bE 0) (aa (bE 0) ag))))
def sL:=bw 2 (Dl)
theorem NQ:af ["ladder","thing"] ["ladder","thing"] (aG (top 16)):=bP (by decide +kernel)
theorem NR(B:Bt mg)(NS:au P w K mg base 3 "is_row_of" 3 oY)(a:At K mg "is_rule" (top 16) ["ladder","thing"]):au P w K mg base 4 "is_rule" 2 (sL):=
 au.bK a NQ fun _ _ _ _ _ _ _ hr=>
  aM (bH (a_ NS hr (by decide) (az 1 rfl rfl (aq (cT B.ax (ql 0 rfl rfl)) (aq (cT B.ax (ql 0 rfl rfl)) aj bD) bD))))
def Dm:ay:=bp (e2 cK (cF (aU 0 (ab 1)) (ab 2)) (ab 2))
def lU:=bw 3 (Dm)
theorem NT:af ["ladder","one","other"] ["ladder","one","other"] (aG (top 13)):=bP (by decide +kernel)
theorem NU(B:Bt mg)(a:At K mg "is_below" (top 13) ["ladder","one","other"]):au P w K mg base 1 "is_below" 3 (lU):=
 au.bK a NT fun _ _ _ _ _ _ _ hr=>
  aM (bH (um hr (fm (bF (ql 0 rfl rfl) (aE 1 rfl rfl)) (aE 2 rfl rfl)) (aE 2 rfl rfl)))
def Dp:ay:=bp (dF 1 (b6 (aa (bE 0) ag)) (aP 2) (fU (aH lU 3 (aa (ab 0) (aa (ab 2) (aa (ab 1) ag))))) (ab 2) false)
def nr:=bw 2 (Dp)
theorem NV:af ["ladder","worth"] ["ladder","worth"] (aG (top 14)):=bP (by decide +kernel)
abbrev Dq:List Str:=["ladder","worth","x"]
theorem NW:(Dq).Nodup:=by decide +kernel
theorem NX(B:Bt mg)(yR:au P w K mg base 1 "is_below" 3 lU)(a:At K mg "below" (top 14) ["ladder","worth"]):au P w K mg base 2 "below" 2 (nr):=
 au.bK a NV fun _ _ _ _ _ _ _ hr=>
  aM (bH (iW (k:=1) (N':=Dq) false rfl ⟨rfl,by decide +kernel,rfl,rfl,rfl⟩ (dP B.ar (aq (cT B.ax (qv 0)) aj bD)) (fun _ _ _ _=>cu (i:=2) (show 2<=2 by decide) NW rfl (Or.inl rfl) (Or.inr rfl)) (fun _ _ _ _=>xp (jV (a_ yR hr (by decide) (aq (cn (qv 0)) (aq (cn (qv 2)) (aq (cn (qv 1)) aj eI) eI) eI)))) (fun _ _ _ _=>cn (qv 2))))
abbrev NY:ay:=cH (gN (fU (aH lU 3 (aa (ab 0) (aa (aU 1 (ab 3)) (aa (aU 1 (ab 2)) ag)))))) (bp (eC (.bl false))) (d_)
abbrev NZ:ay:=dI (fH (aH nr 2 (aa (ab 0) (aa (ab 2) ag)))) (aP 3) (NY)
def Dr:ay:=aC (dI (b6 (aa (bE 0) ag)) (aP 2) NZ)
 (bp (eC (.bl true)))
def sM:=bw 4 (Dr)
theorem yS:af ["ladder","rule","y","x"] ["ladder","rule"] (aG (top 17)):=bP (by decide +kernel)
theorem N0(B:Bt mg)(N1:au P w K mg base 2 "below" 2 nr)(yR:au P w K mg base 1 "is_below" 3 lU)(a:At K mg "rises" (top 17) ["ladder","rule"]):au P w K mg base 3 "rises" 2 (sM):=
 au.bK a yS fun _ _ _ _ _ _ _ hr=>
  aL (gF QA rfl (dP B.ar (aq (cT B.ax (ql 0 rfl rfl)) aj bD)) (cu (i:=2) (show 0<=2 by decide) yS.nd rfl (Or.inl rfl)) (aM (gF QA rfl (lz (a_ N1 hr (by decide) (az 0 rfl rfl (az 2 rfl rfl aj)))) (cu (i:=3) (show 0<=3 by decide) yS.nd rfl (Or.inl rfl)) (aM (ft (mC (jV (a_ yR hr (by decide) (az 0 rfl rfl (aq (bF (ql 1 rfl rfl) (aE 3 rfl rfl)) (aq (bF (ql 1 rfl rfl) (aE 2 rfl rfl)) aj gp) gp))))) (aM (bH kA)) fF)))))
  (aM (bH kA))
def Ds:ay:=bp (kE (aH sL 2 (aa (ab 0) (aa (ab 1) ag))) (aH sM 2 (aa (ab 0) (aa (ab 1) ag))))
def sN:=bw 2 (Ds)
theorem N2:af ["ladder","thing"] ["ladder","thing"] (aG (top 18)):=bP (by decide +kernel)
theorem N3(B:Bt mg)(N4:au P w K mg base 4 "is_rule" 2 sL)(N5:au P w K mg base 3 "rises" 2 sM)(a:At K mg "is_rising_rule" (top 18) ["ladder","thing"]):au P w K mg base 5 "is_rising_rule" 2 (sN):=
 au.bK a N2 fun _ _ _ _ _ _ _ hr=>
  aM (bH (rJ (a_ N4 hr (by decide) (az 0 rfl rfl (az 1 rfl rfl aj))) (uv (a_ N5 hr (by decide) (az 0 rfl rfl (az 1 rfl rfl aj))))))
def Dt:ay:=cH (gN (fU (aH sN 2 (aa (ab 0) (aa (ab 1) ag))))) rN (d_)
def sO:=bw 2 (Dt)
theorem N6:af ["ladder","thing"] ["ladder","thing"] (aG (top 19)):=bP (by decide +kernel)
theorem N7(B:Bt mg)(N8:au P w K mg base 5 "is_rising_rule" 2 sN)(a:At K mg "refuse_unrising" (top 19) ["ladder","thing"]):au P w K mg base 6 "refuse_unrising" 2 (sO):=
 au.bK a N6 fun _ _ _ _ _ _ _ hr=>
  aM (ft (mC (jV (a_ N8 hr (by decide) (az 0 rfl rfl (az 1 rfl rfl aj))))) (aM xN) fF)
def Du:ay:=aC (cI (aH nj 2 (aa (fV 0 "places") (aa (ab 1) ag))))
 (aC (cI (aH nj 2 (aa (fV 0 "places") (aa (ab 2) ag))))
 (aC (cI (aH sO 2 (aa (fV 0 "ladder") (aa (ab 3) ag))))
 (aC (i5 "Keeper" 0 "ways" (mR (fV 0 "ways") (cS (aa (cS (aa (ab 1) (aa (ab 2) (aa (ab 3) ag)))) ag))))
 (cI (kG "Keeper" "rise" nq 1 0 ag)))))
def sP:D->List D->Option D:=hX 4 Du
theorem N9:af ["self","start","goal","rule"] ["self","start","goal","rule"] (aG (fC (top 33) 2)):=bP (by decide +kernel)
theorem N_(B:Bt mg)(N:Kt K)(u9:au P w K mg base 3 "refuse_no_place" 2 nj)(Oa:au P w K mg base 6 "refuse_unrising" 2 sO)(yP:gQ P w K mg base 4 "Keeper" "rise" 1 nq)(a:i7 K "Keeper" "add_way" "Keeper.add_way" (fC (top 33) 2) ["self","start","goal","rule"]):gQ P w K mg base 7 "Keeper" "add_way" 4 sP:=
 gQ.bK (k:=6) a N9 fun _ _ _ _ _ _ _ hr=>
  aL (fG (a_ u9 hr (by decide) (aq (i6 (ql 0 rfl rfl)) (az 1 rfl rfl aj) lI)))
  (aL (fG (a_ u9 hr (by decide) (aq (i6 (ql 0 rfl rfl)) (az 2 rfl rfl aj) lI)))
  (aL (fG (a_ Oa hr (by decide) (aq (i6 (ql 0 rfl rfl)) (az 3 rfl rfl aj) lI)))
  (aL (kF N.ke (ql 0 rfl rfl) (uz (i6 (ql 0 rfl rfl)) (fT (aq (fT (az 1 rfl rfl (az 2 rfl rfl (az 3 rfl rfl aj)))) aj uw))))
  (aM (fG (B1 yP hr (by decide) (ql 0 rfl rfl)))))))
def yT:ay:=cH (cG (e2 cK (aU 2 (eC (.int 0))) (eC (.str "begin")))) (cI (kG "Keeper" "add_begin" sJ 3 0 (aa (cF (cF (aU 1 (eC (.int 2))) (aU 2 (eC (.int 1)))) (eC (.int 0))) (aa (cF (cF (aU 1 (eC (.int 2))) (aU 2 (eC (.int 1)))) (eC (.int 1))) ag)))) (aC (uF (cF (aU 1 (eC (.int 1))) (aU 2 (eC (.int 1)))) (xI (jY (aP 3) (jY (aP 4) (jY (aP 5) ux)))))
 (cI (kG "Keeper" "add_way" sP 4 0 (aa (ab 3) (aa (ab 4) (aa (ab 5) ag))))))
def jG:D->List D->Option D:=hX 6 yT
theorem u_:af ["_law_keeper","_law_chart_here","_law_step_here","_law_start","_law_goal","_law_rule_here"] ["_law_keeper","_law_chart_here","_law_step_here"] (aG (top 51)):=bP (by decide +kernel)
theorem Ob(B:Bt mg)(c5:gQ P w K mg base 5 "Keeper" "add_begin" 3 sJ)(c6:gQ P w K mg base 7 "Keeper" "add_way" 4 sP)(a:At K mg "_law_come" (top 51) ["_law_keeper","_law_chart_here","_law_step_here"]):lO P w K mg base 8 "_law_come" 3 jG:=
 lO.bK (k:=7) a u_ fun _ _ _ _ _ _ _ hr=>
  aM (ft (lD hr (bF (ql 2 rfl rfl) aT) pM) (aM (fG (B0 c5 hr (by decide) (ql 0 rfl rfl) (aq (fm (fm (bF (ql 1 rfl rfl) aT) (bF (ql 2 rfl rfl) aT)) aT) (aq (fm (fm (bF (ql 1 rfl rfl) aT) (bF (ql 2 rfl rfl) aT)) aT) aj gp) gp)))) (aL (K_ (fm (bF (ql 1 rfl rfl) aT) (bF (ql 2 rfl rfl) aT)) (KJ (n:=3) rfl (xJ (cu (i:=3) (show 0<=3 by decide) u_.nd rfl (Or.inl rfl)) (xJ (cu (i:=4) (show 0<=4 by decide) u_.nd rfl (Or.inl rfl)) (xJ (cu (i:=5) (show 0<=5 by decide) u_.nd rfl (Or.inl rfl)) KI))) K9))
  (aM (fG (B0 c6 hr (by decide) (ql 0 rfl rfl) (az 3 rfl rfl (az 4 rfl rfl (az 5 rfl rfl aj))))))))
def Dv:ay:=bp (fV 0 "many_raises")
def oZ:=bw 1 Dv
theorem Oc:af ["self"] ["self"] (aG (fC (top 33) 6)):=bP (by decide +kernel)
theorem Od(B:Bt mg)(a:i7 K "Keeper" "raises" "Keeper.raises" (fC (top 33) 6) ["self"]):gR P w K mg base 1 "Keeper" "raises" 1 oZ:=
 gR.bK (k:=0) a Oc fun _ _ _ _ _ _ _ hr=>
  aM (bH (i6 (ql 0 rfl rfl)))
def Dw:ay:=bp (fV 0 "worths")
def lV:=bw 1 Dw
theorem Oe:af ["self"] ["self"] (aG (fC (top 33) 5)):=bP (by decide +kernel)
theorem Of(B:Bt mg)(a:i7 K "Keeper" "answer" "Keeper.answer" (fC (top 33) 5) ["self"]):gR P w K mg base 1 "Keeper" "answer" 1 lV:=
 gR.bK (k:=0) a Oe fun _ _ _ _ _ _ _ hr=>
  aM (bH (i6 (ql 0 rfl rfl)))
def Dx:ay:=aC (cH (pP (gN (fU (oy .tuple (ab 0)))) (pP (cG (e2 fJ (bE 0) (eC (.int 2)))) (gN (fU (oy .str (aU 0 (eC (.int 0)))))))) (bp (eC (.bl false))) d_)
 (bp (aH kK 2 (aa (aU 0 (eC (.int 1))) (aa (xQ (ab 1) (aU 0 (eC (.int 0))) (eC (.int 0))) ag))))
def sQ:=bw 2 (Dx)
theorem Og:af ["thing","many_by_name"] ["thing","many_by_name"] (aG (top 9)):=bP (by decide +kernel)
theorem Oh(B:Bt mg)(sF:au P w K mg base 2 "is_number_of" 2 kK)(a:At K mg "is_named_number" (top 9) ["thing","many_by_name"]):au P w K mg base 3 "is_named_number" 2 (sQ):=
 au.bK a Og fun _ _ _ _ _ _ _ hr=>
  aL (ft (yk (ug (mC (jV (rL .tuple B.br B.bu QH (aE 0 rfl rfl)))) (ug (pQ hr (cT B.ax (ql 0 rfl rfl)) aT) (xh (mC (jV (rL .str B.br B.sr PyProof.Rows.boot_str (bF (ql 0 rfl rfl) aT)))))))) (aM (bH kA)) fF)
  (aM (bH (a_ sF hr (by decide) (aq (bF (ql 0 rfl rfl) aT) (aq (Lo hr (aE 1 rfl rfl) (bF (ql 0 rfl rfl) aT) aT) aj bD) gp))))
def Dy:ay:=bp (aH sQ 2 (aa (ab 1) (aa (rO "begin" "way" (mW 0 2) (mW 0 1)) ag)))
def nu:=bw 2 (Dy)
theorem Oi:af ["chart","thing"] ["chart","thing"] (aG (top 26)):=bP (by decide +kernel)
theorem Oj(B:Bt mg)(Ol:au P w K mg base 3 "is_named_number" 2 sQ)(a:At K mg "is_step" (top 26) ["chart","thing"]):au P w K mg base 4 "is_step" 2 (nu):=
 au.bK a Oi fun _ _ _ _ _ _ _ hr=>
  aM (bH (a_ Ol hr (by decide) (az 1 rfl rfl (aq (Lm (by decide) (BI B.ax (ql 0 rfl rfl)) (BI B.ax (ql 0 rfl rfl))) aj Ls))))
def Dz:ay:=cH (gN (fU (eB mQ (aa (dF 1 (fH (ab 1)) (aP 2) cJ (aH nu 2 (aa (ab 0) (aa (ab 2) ag))) false) ag)))) rN (d_)
def sR:=bw 2 (Dz)
theorem Om:af ["chart","steps"] ["chart","steps"] (aG (top 27)):=bP (by decide +kernel)
abbrev DA:List Str:=["chart","steps","step"]
theorem Oo:(DA).Nodup:=by decide +kernel
theorem Oq(B:Bt mg)(Ot:au P w K mg base 4 "is_step" 2 nu)(a:At K mg "refuse_no_step" (top 27) ["chart","steps"]):au P w K mg base 5 "refuse_no_step" 2 (sR):=
 au.bK a Om fun _ _ _ _ _ _ _ hr=>
  aM (ft (mC (jV (By rfl B.ng (aq (iW (k:=1) (N':=DA) false rfl ⟨rfl,by decide +kernel,rfl,rfl,rfl⟩ (lz (aE 1 rfl rfl)) (fun _ _ _ _=>cu (i:=2) (show 2<=2 by decide) Oo rfl (Or.inl rfl) (Or.inr rfl)) (fun _ _ _ _=>iV) (fun _ _ _ _=>a_ Ot hr (by decide) (aq (cn (qv 0)) (aq (cn (qv 2)) aj eI) eI))) aj pV)))) (aM xN) fF)
def DB:ay:=aC (cI (aH sR 2 (aa (ab 1) (aa (ab 2) ag))))
 (aC (bq 3 (aH nk 4 (aa (ab 0) (aa (ab 1) (aa (ab 2) (aa (aH oV 2 (aa (ab 0) (aa (ab 1) ag))) ag))))))
 (bp (cS (aa (aU 3 (eC (.int 0))) (aa (eB iX (aa (aU 3 (eC (.int 1))) ag)) ag)))))
def sS:=bw 4 (DB)
theorem DC:af ["ladder","chart","order","ended"] ["ladder","chart","order"] (aG (top 31)):=bP (by decide +kernel)
theorem Ou(B:Bt mg)(Ov:au P w K mg base 5 "refuse_no_step" 2 sR)(yN:au P w K mg base 3 "risen" 4 nk)(yJ:au P w K mg base 3 "lowest" 2 oV)(a:At K mg "least_by" (top 31) ["ladder","chart","order"]):au P w K mg base 6 "least_by" 3 (sS):=
 au.bK a DC fun _ _ _ _ _ _ _ hr=>
  aL (fG (a_ Ov hr (by decide) (az 1 rfl rfl (az 2 rfl rfl aj))))
  (aL (bR (i:=3) DC.nd rfl (Or.inl rfl) (a_ yN hr (by decide) (az 0 rfl rfl (az 1 rfl rfl (az 2 rfl rfl (aq (a_ yJ hr (by decide) (az 0 rfl rfl (az 1 rfl rfl aj))) aj bD))))))
  (aM (bH (fT (aq (bF (ql 3 rfl rfl) aT) (aq (pR B.ax (aq (bF (ql 3 rfl rfl) aT) aj gp)) aj bD) gp)))))
def DD:ay:=bp (cF (aH sS 3 (aa (ab 0) (aa (ab 1) (aa (aH oX 1 (aa (ab 1) ag)) ag)))) (eC (.int 0)))
def qe:=bw 2 (DD)
theorem Ox:af ["ladder","chart"] ["ladder","chart"] (aG (top 24)):=bP (by decide +kernel)
theorem Oy(B:Bt mg)(Oz:au P w K mg base 6 "least_by" 3 sS)(yO:au P w K mg base 1 "all_steps" 1 oX)(a:At K mg "least" (top 24) ["ladder","chart"]):au P w K mg base 7 "least" 2 (qe):=
 au.bK a Ox fun _ _ _ _ _ _ _ hr=>
  aM (bH (fm (a_ Oz hr (by decide) (az 0 rfl rfl (az 1 rfl rfl (aq (a_ yO hr (by decide) (az 1 rfl rfl aj)) aj bD)))) aT))
abbrev sT:ay:=aC (bq 6 (lG 5 (aa (aH cj 3 (aa (ab 0) (aa (e2 bB (eC (.int 200)) (ab 8)) (aa (bE 5) ag)))) ag)))
 (aC (cI (kH jG 3 4 (aa (ab 2) (aa (ab 6) ag))))
 (aC (bq 9 (js "Keeper" "raises" oZ 4))
 (cH (cG (e2 cK (aH cj 3 (aa (ab 0) (aa (e2 bB (eC (.int 220)) (ab 8)) (aa (eC (.int 3)) ag)))) (eC (.int 0)))) (aC (cI (kH jG 3 4 (aa (ab 2) (aa (ab 6) ag))))
 (cH (cG (e2 fJ (js "Keeper" "raises" oZ 4) (ab 9))) (bp (eC (.bl false))) d_)) d_)))
def DE:ay:=aC (bq 1 (aH p_ 2 (aa (ab 0) (aa (eC (.int 0)) ag))))
 (aC (bq 2 (aH sy 4 (aa (ab 0) (aa (eC (.int 20)) (aa (ab 1) (aa (eC (.bl false)) ag))))))
 (aC (bq 3 (pZ "Keeper" qd 3 (aa (ab 1) (aa (aU 2 (eC (.int 0))) ag))))
 (aC (bq 4 (pZ "Keeper" qd 3 (aa (ab 1) (aa (aU 2 (eC (.int 0))) ag))))
 (aC (bq 5 (aH sD 1 (aa (ab 2) ag)))
 (aC (rW 5 6 (kH jG 3 3 (aa (ab 2) (aa (ab 6) ag))))
 (aC (bq 7 (bE 5))
 (aC (dI (b6 (aa (ab 7) ag)) (aP 8) sT)
 (bp (kE (e2 cK (js "Keeper" "answer" lV 3) (aH qe 2 (aa (ab 1) (aa (ab 2) ag)))) (kE (e2 cK (js "Keeper" "answer" lV 4) (js "Keeper" "answer" lV 3)) (e2 cK (js "Keeper" "chart" kg 3) (ab 2))))))))))))
def o3:=bw 10 (DE)
theorem kh:af ["_law_script","_law_ladder_here","_law_chart_here","_law_one","_law_other","_law_left","_law_step_here","_law_many","_law_k","_law_rose"] ["_law_script"] (aG (top 52)):=bP (by decide +kernel)
theorem OA(B:Bt mg)(OB:au P w K mg base 4 "_law_ladder" 2 p_)(OC:au P w K mg base 5 "_law_chart" 4 sy)(c4:lP P w K mg base 4 "Keeper" 3 qd)(OE:au P w K mg base 1 "_law_every_step" 1 sD)(yU:lO P w K mg base 8 "_law_come" 3 jG)(eY:au P w K mg base 2 "_law_pick" 3 cj)(DF:gR P w K mg base 1 "Keeper" "raises" 1 oZ)(c7:gR P w K mg base 1 "Keeper" "answer" 1 lV)(OF:au P w K mg base 7 "least" 2 qe)(c8:gR P w K mg base 1 "Keeper" "chart" 1 kg)(a:At K mg "_law_once" (top 52) ["_law_script"]):au P w K mg base 9 "_law_once" 1 (o3):=
 au.bK a kh fun _ _ _ _ _ _ _ hr=>
  aL (bR (i:=1) kh.nd rfl (Or.inl rfl) (a_ OB hr (by decide) (az 0 rfl rfl (bU aj))))
  (aL (bR (i:=2) kh.nd rfl (Or.inl rfl) (a_ OC hr (by decide) (az 0 rfl rfl (bU (az 1 rfl rfl (aq kA aj pW))))))
  (aL (bR (i:=3) kh.nd rfl (Or.inl rfl) (B3 c4 hr (by decide) (az 1 rfl rfl (aq (bF (ql 2 rfl rfl) aT) aj gp))))
  (aL (bR (i:=4) kh.nd rfl (Or.inl rfl) (B3 c4 hr (by decide) (az 1 rfl rfl (aq (bF (ql 2 rfl rfl) aT) aj gp))))
  (aL (bR (i:=5) kh.nd rfl (Or.inl rfl) (a_ OE hr (by decide) (az 2 rfl rfl aj)))
  (aL (LU (i:=5) (j:=6) QA rfl kh.nd rfl (Or.inl rfl) (ql 5 rfl rfl) (yf yU hr (by decide) (ql 3 rfl rfl) (az 2 rfl rfl (az 6 rfl rfl aj))))
  (aL (bR (i:=7) kh.nd rfl (Or.inl rfl) (cT B.ax (ql 5 rfl rfl)))
  (aL (gF QA rfl (dP B.ar (az 7 rfl rfl aj)) (cu (i:=8) (show 0<=8 by decide) kh.nd rfl (Or.inl rfl)) (aL (bR (i:=6) kh.nd rfl (Or.inl rfl) (Bp (ql 5 rfl rfl) (aq (a_ eY hr (by decide) (az 0 rfl rfl (aq (cA aT (aE 8 rfl rfl)) (aq (cT B.ax (ql 5 rfl rfl)) aj bD) et))) aj bD)))
  (aL (fG (yf yU hr (by decide) (ql 4 rfl rfl) (az 2 rfl rfl (az 6 rfl rfl aj))))
  (aL (bR (i:=9) kh.nd rfl (Or.inl rfl) (mZ DF hr (by decide) (ql 4 rfl rfl)))
  (aM (ft (lD hr (a_ eY hr (by decide) (az 0 rfl rfl (aq (cA aT (aE 8 rfl rfl)) (bU aj) et))) aT) (aL (fG (yf yU hr (by decide) (ql 4 rfl rfl) (az 2 rfl rfl (az 6 rfl rfl aj))))
  (aM (ft (pQ hr (mZ DF hr (by decide) (ql 4 rfl rfl)) (aE 9 rfl rfl)) (aM (bH kA)) fF))) fF))))))
  (aM (bH (rJ (um hr (mZ c7 hr (by decide) (ql 3 rfl rfl)) (a_ OF hr (by decide) (az 1 rfl rfl (az 2 rfl rfl aj)))) (rJ (um hr (mZ c7 hr (by decide) (ql 4 rfl rfl)) (mZ c7 hr (by decide) (ql 3 rfl rfl))) (uv (um hr (mZ c8 hr (by decide) (ql 3 rfl rfl)) (aE 2 rfl rfl))))))))))))))
abbrev sU:ay:=aC (cH (gN (fU (aH o3 1 (aa (dF 1 (fH (ab 0)) (aP 2) cJ (e2 bB (ab 2) (e2 iQ (eC (.int 7919)) (ab 1))) false) ag)))) (bp (eC (.bl false))) d_)
 (cH (cG (e2 cK (ab 0) (du ag))) AN d_)
def DG:ay:=aC (dI (b6 (aa (eC (.int 6)) ag)) (aP 1) sU)
 (bp (eC (.bl true)))
def qf:=bw 2 (DG)
theorem DH:af ["_law_script","_law_turn"] ["_law_script"] (aG (top 53)):=bP (by decide +kernel)
abbrev DI:List Str:=["_law_script","_law_turn","_law_cell_here"]
theorem OG:(DI).Nodup:=by decide +kernel
theorem OH(B:Bt mg)(OI:au P w K mg base 9 "_law_once" 1 o3){f:Addr}{fd:FuncData}(F:iN K "law" "law" (top 53) f fd):bO P w K mg base c_ 10 f fd ["_law_script"] (iR K 1 qf):=
 LZ (k:=9) F DH fun _ _ _ _ _ _ _ hr=>
  aL (gF QA rfl (dP B.ar (bU aj)) (cu (i:=1) (show 0<=1 by decide) DH.nd rfl (Or.inr rfl)) (aL (ft (mC (jV (a_ OI hr (by decide) (aq (iW (k:=1) (N':=DI) false rfl ⟨rfl,by decide +kernel,rfl,rfl,rfl⟩ (lz (aE 0 rfl rfl)) (fun _ _ _ _=>cu (i:=2) (show 2<=2 by decide) OG rfl (Or.inl rfl) (Or.inr rfl)) (fun _ _ _ _=>iV) (fun _ _ _ _=>cA (cn (qv 2)) (jU aT (cn (qv 1))))) aj pV)))) (aM (bH kA)) fF)
  (aM (ft (lD hr (aE 0 rfl rfl) (fq aj)) (aM IH) fF))))
  (aM (bH kA))
end
abbrev ck (ns:List Int):D:=.lst (ns.map D.int)
abbrev n0 (l:List Int):OD:=some (ck l,0)
def va (ns:List Int)(k:Int):Int:=if k<ns.length then ns.getD k.toNat 0 else if ns=[]then 0 else ns.getD (k % ns.length).toNat 0*31+k
theorem DJ{k:Int}(h0:0<=k)(h:k<ns.length):L2.cO (ns.map D.int) k=some (.int (ns.getD k.toNat 0)):=by
 obtain⟨m,rfl⟩:∃ m:Nat,k=Int.ofNat m:=⟨k.toNat,by show k=(k.toNat:Int);omega⟩
 have hk:m<ns.length:=by have:(m:Int)<ns.length:=h;omega
 apply oJ
 rw[Qo,Qj hk]
 simp[hk]
theorem OJ(ns:List Int):Sh 1 (ck ns):=.lst fun d m=>by
 obtain⟨x,_,rfl⟩:=QF.mp m
 exact .int _
theorem yV(ns:List Int):cK (ck ns) (.lst [])=some (.bl (decide (ns=[]))):=by
 unfold cK
 rw[Qe ⟨(OJ ns).ok,(yp []).ok⟩]
 cases ns<;>rfl
theorem OK(ns:List Int)(k:Int)(h0:0<=k):su [ck ns,.int k]=some (.int (va ns k),9):=by
 unfold su CC va
 by_cases h:k<ns.length
 ·simp[h,DJ h0 h,cL,bJ]
 ·by_cases hn:ns=[]
  ·subst hn
   have h':¬ k<0:=by omega
   simp[h',cL,yV]
  ·have hp:(0:Int)<ns.length:=by have:=Jf.mpr hn;omega
   have h1:=JO k (Int.ne_of_gt hp)
   have h2:=Jp k hp
   have h3:=DJ h1 h2
   have n9:=Jf.mpr hn
   simp[h,cL,bJ,yV,hn,n9,h3]
def nv (ns:List Int)(k:Int):Int:=(va ns k+6151*(k+1))*40692 % 2147483399
def h_ (ns:List Int)(k m:Int):Int:=(nv ns k*nv ns k+nv ns k / 31) % 2147483629 % m
theorem ny(ns:List Int)(k m:Int)(h0:0<=k)(hm:0<m):cj [ck ns,.int k,.int m]=some (.int (h_ ns k m),9):=by
 have d0:0<=nv ns k:=JO _ (by decide)
 have d1:nv ns k<2147483399:=Jp _ (by decide)
 have g1:-18446744073709551616<nv ns k:=by omega
 have g2:nv ns k<18446744073709551616:=by omega
 have hd:(va ns k+6151*(k+1))*40692 % 2147483399=nv ns k:=rfl
 unfold cj CD h_
 simp[OK ns k h0,hm,hd,g1,g2]
theorem lX(ns:List Int)(k:Int){m:Int}(hm:0<m):0<=h_ ns k m:=JO _ (Int.ne_of_gt hm)
theorem nz(ns:List Int)(k:Int){m:Int}(hm:0<m):h_ ns k m<m:=Jp _ hm
def tf (rows:List (List Nat))(i j:Nat):Nat:=(rows.getD i []).getD j 0
def de (rows:List (List Nat)):D:=bA rows.length (tf rows)
def ch (n:Nat):List (List Nat):=(List.range n).map fun i=>(List.range n).map fun j=>max i j
def cp (a b:List (List Nat)):List (List Nat):=(List.range (a.length*b.length)).map fun i=>(List.range (a.length*b.length)).map fun j=>tf a (i / b.length) (j / b.length)*b.length+tf b (i % b.length) (j % b.length)
def sb (n:Nat):List (List Nat):=(List.range (n+2)).map fun i=>(List.range (n+2)).map fun j=>if i=0\/j=0\/i=j then max i j else n+1
def n5:List (List Nat):=[[0,1,2,3,4],[1,1,2,4,4],[2,2,2,4,4],[3,4,4,3,4],[4,4,4,4,4]]
def lY:List (List (List Nat)):=[ch 1,ch 2,ch 3,ch 4,ch 5,cp (ch 2) (ch 2),cp (ch 2) (ch 3),cp (ch 2) (ch 4),sb 0,sb 1,sb 2,sb 3,sb 4,cp (ch 2) (cp (ch 2) (ch 2)),n5]
theorem OL:iB [.int 1]=some (de (ch 1),1):=by rfl
theorem vb:iB [.int 2]=some (de (ch 2),1):=by rfl
theorem DK:iB [.int 3]=some (de (ch 3),1):=by rfl
theorem DL:iB [.int 4]=some (de (ch 4),1):=by rfl
theorem OM:iB [.int 5]=some (de (ch 5),1):=by rfl
theorem ON:lT [.int 0]=some (de (sb 0),0):=by rfl
theorem OO:lT [.int 1]=some (de (sb 1),0):=by rfl
theorem OP:lT [.int 2]=some (de (sb 2),0):=by rfl
theorem OQ:lT [.int 3]=some (de (sb 3),0):=by rfl
theorem OR:lT [.int 4]=some (de (sb 4),0):=by rfl
theorem DM:kI [de (ch 2),de (ch 2)]=some (de (cp (ch 2) (ch 2)),0):=by rfl
theorem OS:kI [de (ch 2),de (ch 3)]=some (de (cp (ch 2) (ch 3)),0):=by rfl
theorem OT:kI [de (ch 2),de (ch 4)]=some (de (cp (ch 2) (ch 4)),0):=by rfl
theorem OU:kI [de (ch 2),de (cp (ch 2) (ch 2))]=some (de (cp (ch 2) (cp (ch 2) (ch 2))),0):=by rfl
theorem OV(ns:List Int)(t:Int)(h0:0<=t):∃ rows∈lY,∃ q,sx [ck ns,.int t]=some (de rows,q):=by
 have k0:=lX ns t (m:=9) (by decide)
 have k1:=nz ns t (m:=9) (by decide)
 have p0:=lX ns (t+1) (m:=5) (by decide)
 have p1:=nz ns (t+1) (m:=5) (by decide)
 have r0:=lX ns (t+1) (m:=3) (by decide)
 have r1:=nz ns (t+1) (m:=3) (by decide)
 have e9:=ny ns t 9 h0 (by decide)
 have e5:=ny ns (t+1) 5 (by omega) (by decide)
 have e3:=ny ns (t+1) 3 (by omega) (by decide)
 have mem:∀ i:Nat,i<15->lY.getD i []∈lY:=fun i hi=>by
  rw[Qq,Qj (show i<lY.length from hi)]
  exact QW _
 have hc:∀ p:Int,0<=p->p<5->∃ rows∈lY,iB [.int (1+p)]=some (de rows,1):=fun p a b=>by
  have:p=0\/p=1\/p=2\/p=3\/p=4:=by omega
  rcases this with rfl|rfl|rfl|rfl|rfl
  ·exact⟨_,mem 0 (by decide),OL⟩
  ·exact⟨_,mem 1 (by decide),vb⟩
  ·exact⟨_,mem 2 (by decide),DK⟩
  ·exact⟨_,mem 3 (by decide),DL⟩
  ·exact⟨_,mem 4 (by decide),OM⟩
 have hs:∀ p:Int,0<=p->p<5->∃ rows∈lY,lT [.int p]=some (de rows,0):=fun p a b=>by
  have:p=0\/p=1\/p=2\/p=3\/p=4:=by omega
  rcases this with rfl|rfl|rfl|rfl|rfl
  ·exact⟨_,mem 8 (by decide),ON⟩
  ·exact⟨_,mem 9 (by decide),OO⟩
  ·exact⟨_,mem 10 (by decide),OP⟩
  ·exact⟨_,mem 11 (by decide),OQ⟩
  ·exact⟨_,mem 12 (by decide),OR⟩
 have hp:∀ r:Int,0<=r->r<3->∃ x ki rows,bJ (.lst [.int 2,.int 3,.int 4]) r=some (.int x)/\iB [.int x]=some (de ki,1)/\rows∈lY/\kI [de (ch 2),de ki]=some (de rows,0):=fun r a b=>by
  have:r=0\/r=1\/r=2:=by omega
  rcases this with rfl|rfl|rfl
  ·exact⟨2,_,_,rfl,vb,mem 5 (by decide),DM⟩
  ·exact⟨3,_,_,rfl,DK,mem 6 (by decide),OS⟩
  ·exact⟨4,_,_,rfl,DL,mem 7 (by decide),OT⟩
 unfold sx CI
 generalize h_ ns t 9=k at *
 generalize h_ ns (t+1) 5=p at *
 generalize h_ ns (t+1) 3=r at *
 by_cases h3:k<3
 ·obtain⟨rows,hm,e⟩:=hc p p0 p1
  exact⟨rows,hm,1,by simp[e9,e5,h3,e]⟩
 by_cases h5:k<5
 ·obtain⟨x,ki,rows,ea,e1,hm,jZ⟩:=hp r r0 r1
  exact⟨rows,hm,0,by simp[e9,e3,h3,h5,vb,ea,e1,jZ]⟩
 by_cases h7:k<7
 ·obtain⟨rows,hm,e⟩:=hs p p0 p1
  exact⟨rows,hm,0,by simp[e9,e5,h3,h5,h7,e]⟩
 have:k=7\/k=8:=by omega
 rcases this with rfl|rfl
 ·exact⟨_,mem 13 (by decide),0,by simp[e9,Ce,vb,DM];exact OU⟩
 ·refine⟨_,mem 14 (by decide),0,?_⟩
  simp[e9,Ce]
  rfl
theorem OW:∀ rows∈lY,yv rows.length (tf rows)=true:=by decide +kernel
def pk (ns:List Int)(t:Int)(k m:Nat):Nat:=(h_ ns (t+2+Int.ofNat k) (Int.ofNat m)).toNat
theorem yW(ns:List Int)(t:Int)(k m:Nat)(h:0<m):pk ns t k m<m:=by
 have h1:=lX ns (t+2+Int.ofNat k) (m:=Int.ofNat m) (by show(0:Int)<m;omega)
 have h2:=nz ns (t+2+Int.ofNat k) (m:=Int.ofNat m) (by show(0:Int)<m;omega)
 have h3:(Int.ofNat m)=(m:Int):=rfl
 unfold pk
 omega
theorem OY(ns:List Int)(t:Int)(k m:Nat)(h:0<m):h_ ns (t+2+Int.ofNat k) (Int.ofNat m)=Int.ofNat (pk ns t k m):=by
 have h1:=lX ns (t+2+Int.ofNat k) (m:=Int.ofNat m) (by show(0:Int)<m;omega)
 unfold pk
 show _=((h_ ns (t+2+Int.ofNat k) (Int.ofNat m)).toNat:Int)
 omega
section
variable (ns:List Int)(t:Int)(n:Nat)(B:Nat->Nat->Nat)(q:Nat)
theorem OZ(h0:0<=t)(hn:n<=16):iU 1 (aP 8) cJ (lG 3 (aa (aH cj 3 (aa (ab 0) (aa (e2 bB (e2 bB (ab 1) (eC (.int 2))) (ab 8)) (aa (bE 3) ag)))) ag)) false (bW n)
  [(n0 ns),some (.int t,9),some (bA n B,q),some (.lst (bW n),1),none,none,none,none] =
  some (ao ((List.range n).map (drawn (pk ns t) n)),[(n0 ns),some (.int t,9),some (bA n B,q),some (.lst [],1),none,none,none,none]):=by
 have hp:=yW ns t
 have h:=m7 (k:=1) (pt:=aP 8) (tt:=cJ) (te:=lG 3 (aa (aH cj 3 (aa (ab 0) (aa (e2 bB (e2 bB (ab 1) (eC (.int 2))) (ab 8)) (aa (bE 3) ag)))) ag)) (deep:=false) (bW n)
  (fun k=>[(n0 ns),some (.int t,9),some (bA n B,q),(uL (cw (pk ns t) n k)),none,none,none,none]) (fun _=>true) (fun k=>(iD (drawn (pk ns t) n k))) (fun k hk=>?_)
 ·rw[eh]at h
  have hl:cw (pk ns t) n n=[]:=Q0.mp (by rw[sf hp n (Qc n)];omega)
  rw[hl]at h
  have e1:(List.range n).filter (fun _=>true)=List.range n:=by simp
  rw[e1]at h
  simp only[ao,Zj,ZL]
  exact h
 ·rw[eh]at hk
  have hl:=sf hp k (ZO hk)
  have vc:0<(cw (pk ns t) n k).length:=by rw[hl];omega
  have e:=OY ns t k _ vc
  have hj:=yW ns t k _ vc
  have DN:=ny ns (t+2+Int.ofNat k) (Int.ofNat (cw (pk ns t) n k).length) (by show 0<=t+2+(k:Int);omega) (by show(0:Int)<((cw (pk ns t) n k).length:Int);omega)
  have hs:seqIndex? (Int.ofNat (pk ns t k (cw (pk ns t) n k).length)) (ao (cw (pk ns t) n k)).length=some (pk ns t k (cw (pk ns t) n k).length):=(tL (rZ (by rw[fM];exact hj))).1
  have hg:(ao (cw (pk ns t) n k))[pk ns t k (cw (pk ns t) n k).length]? = some (iD (drawn (pk ns t) n k)):=by
   rw[uQ]
   unfold drawn
   rw[Qq,Qj hj]
   rfl
  have hb:pk ns t k (cw (pk ns t) n k).length<=16:=by omega
  have he:(ao (cw (pk ns t) n k)).eraseIdx (pk ns t k (cw (pk ns t) n k).length)=ao (cw (pk ns t) n (k+1)):=by rw[cw,Cg]
  refine⟨[(n0 ns),some (.int t,9),some (bA n B,q),(uL (cw (pk ns t) n k)),none,none,none,none,(i9 k)],_,by simp[bW],rfl,?_⟩
  rw[Qe rfl]
  refine⟨9,[(n0 ns),some (.int t,9),some (bA n B,q),(uL (cw (pk ns t) n (k+1))),none,none,none,none,(i9 k)],?_,by simp,by simp⟩
  have b1:(-1000:Int)<=Int.ofNat (pk ns t k (cw (pk ns t) n k).length):=by show(-1000:Int)<=(pk ns t k (cw (pk ns t) n k).length:Int);omega
  have b2:Int.ofNat (pk ns t k (cw (pk ns t) n k).length)<=1000:=by show(pk ns t k (cw (pk ns t) n k).length:Int)<=1000;omega
  have fj:cL (.lst (ao (cw (pk ns t) n k)))=some (cw (pk ns t) n k).length:=by simp[cL,fM]
  rw[e]at DN
  simp[-Int.ofNat_eq_natCast,fj,DN,hs,hg,he,b1,b2]
theorem O0(hn:n<=16)(x:OD):iU 1 (aP 8) cJ (pU (du (aa (eC (.int 0)) ag)) (bE 2)) true ((List.range n).map fun i=>dw n B i)
  [(n0 ns),some (.int t,9),some (bA n B,0),some (.lst [],1),x,none,none,none] =
  some ((List.range n).map fun i=>dw n (fun _ _=>0) i,[(n0 ns),some (.int t,9),some (bA n B,0),some (.lst [],1),x,none,none,none]):=by
 have h:=m7 (k:=1) (pt:=aP 8) (tt:=cJ) (te:=pU (du (aa (eC (.int 0)) ag)) (bE 2)) (deep:=true) ((List.range n).map fun i=>dw n B i)
  (fun _=>[(n0 ns),some (.int t,9),some (bA n B,0),some (.lst [],1),x,none,none,none]) (fun _=>true) (fun i=>dw n (fun _ _=>0) i) (fun k hk=>?_)
 ·rw[Qm,QO,show(List.range n).filter (fun _=>true)=List.range n by simp]at h
  exact h
 ·refine⟨[(n0 ns),some (.int t,9),some (bA n B,0),some (.lst [],1),x,none,none,none,some (dw n B k,0)],_,by simp[dw],rfl,?_⟩
  rw[Qe rfl]
  refine⟨1,[(n0 ns),some (.int t,9),some (bA n B,0),some (.lst [],1),x,none,none,none,some (dw n B k,0)],?_,by simp,by simp⟩
  have z:dw n (fun _ _=>0) k=D.lst (List.replicate n [D.int 0]).flatten:=(L9 n).symm
  have b1:(-1000:Int)<=n:=by omega
  have b2:(n:Int)<=1000:=by omega
  have b3:n<=1000:=by omega
  rw[z]
  simp[se,b1,b2,b3]
def fy (π ι:Nat->Nat)(i j a b:Nat):Nat:=if ι a<i\/(ι a=i/\ι b<j)then π (B (ι a) (ι b))else 0
abbrev o5:ay:=rH 5 (ow 4 (ou 6)) (ow 4 (ou 7)) (aU 4 (cF (aU 2 (ab 6)) (ab 7)))
section
variable {n B}{π ι:Nat->Nat}(cl:∀ i j,i<n->j<n->B i j<n)(h1:∀ i,i<n->π i<n)(h2:∀ i,i<n->ι i<n)(h3:∀ i,i<n->ι (π i)=i)(h4:∀ i,i<n->π (ι i)=i)
include cl h1 h2 h3 h4
theorem O1(hi:i<n)(hj:j<n){y:OD} :
  o5 [(n0 ns),some (.int t,9),some (bA n B,0),some (.lst [],1),(uL ((List.range n).map π)),some (bA n f,2),(i9 i),(i9 j)] =
  some (.nx [(n0 ns),some (.int t,9),some (bA n B,0),some (.lst [],1),(uL ((List.range n).map π)),some (bA n (fun a b=>if a=π i/\b=π j then π (B i j)else f a b),2),(i9 i),(i9 j)]):=by
 have a1:=L6 (f:=B) hi
 have a2:=L7 (f:=B) (i:=i) hj
 have a3:bJ (.lst (ao ((List.range n).map π))) (Int.ofNat (B i j))=some (iD (π (B i j))):=oK (cl i j hi hj)
 have a4:bJ (.lst (ao ((List.range n).map π))) (Int.ofNat i)=some (iD (π i)):=oK hi
 have a5:bJ (.lst (ao ((List.range n).map π))) (Int.ofNat j)=some (iD (π j)):=oK hj
 have a6:gD ((List.range n).map fun a=>dw n f a).length (Int.ofNat (π i))=some (π i):=rZ (by simpa using h1 i hi)
 have a7:((List.range n).map fun a=>dw n f a)[π i]? = some (.lst (ao ((List.range n).map fun b=>f (π i) b))):=by rw[Qo,QZ (h1 i hi)];rfl
 have a8:gD (ao ((List.range n).map fun b=>f (π i) b)).length (Int.ofNat (π j))=some (π j):=rZ (by simpa [fM]using h1 j hj)
 have a9:=L8 (n:=n) (f:=f) (a:=π i) (b:=π j) (v:=π (B i j))
 rw[<- a9]
 show o5 [(n0 ns),some (.int t,9),some (bA n B,0),some (.lst [],1),(uL ((List.range n).map π)),some (.lst ((List.range n).map fun a=>dw n f a),2),(i9 i),(i9 j)]=_
 unfold o5
 simp only[rH,aU,cF,ab,ow,ou,ZB,List.getElem?_cons_zero,D.bY,ZX,a1,a2,a3,a4,a5,a6,a7,a8,ne_eq,not_true_eq_false,false_and,and_false,Jy,ZU,reduceCtorEq,Ja,QL,b_,List.set_cons_succ,List.set_cons_zero]
abbrev jf (f:Nat->Nat->Nat)(x y:OD):aN:=[(n0 ns),some (.int t,9),some (bA n B,0),some (.lst [],1),(uL ((List.range n).map π)),some (bA n f,2),x,y]
omit cl h1 h2 h3 h4
theorem qg(h:i<(bW n).length):(bW n)[i]=(iD i):=by simp[bW]
include cl h1 h2 h3 h4
theorem O2(hi:i<n)(hj:j<n):bA n (fun a b=>if a=π i/\b=π j then π (B i j)else fy B π ι i j a b)=bA n (fy B π ι i (j+1)):=by
 refine uS fun a b ha hb=>?_
 unfold fy
 by_cases h:a=π i/\b=π j
 ·obtain⟨rfl,rfl⟩:=h
  rw[Qe ⟨rfl,rfl⟩,h3 i hi,h3 j hj,Qe (.inr ⟨rfl,QU _⟩)]
 ·rw[Qh h]
  have:¬ (ι a=i/\ι b=j):=fun⟨e1,e2⟩=>h ⟨by rw[<- e1,h4 a ha],by rw[<- e2,h4 b hb]⟩
  by_cases c:ι a<i\/ι a=i/\ι b<j
  ·rw[Qe c,Qe (by omega)]
  ·rw[Qh c,Qh (by omega)]
theorem O3:bA n (fy B π ι i n)=bA n (fy B π ι (i+1) 0):=by
 refine uS fun a b ha hb=>?_
 have:=h2 b hb
 unfold fy
 by_cases c:ι a<i\/ι a=i/\ι b<n
 ·rw[Qe c,Qe (by omega)]
 ·rw[Qh c,Qh (by omega)]
theorem O4(hn:n<=16)(hi:i<n)(y:OD):∃ y',da (aP 7) o5 (bW n) (jf ns t (n:=n) (B:=B) (π:=π) (fy B π ι i 0) ((i9 i)) y) =
  some (.nx (jf ns t (n:=n) (B:=B) (π:=π) (fy B π ι (i+1) 0) ((i9 i)) y')):=by
 obtain⟨ρ',e,y',rfl⟩:=j6 (pt:=aP 7) (body:=o5) (bW n) (fun j ρ=>∃ y,ρ=jf ns t (n:=n) (B:=B) (π:=π) (fy B π ι i j) ((i9 i)) y) (jf ns t (n:=n) (B:=B) (π:=π) (fy B π ι i 0) ((i9 i)) y) (fun j hj ρ ai=>by
  obtain⟨y,hy⟩:=ai
  subst hy
  rw[eh]at hj
  refine⟨jf ns t (n:=n) (B:=B) (π:=π) (fy B π ι i j) ((i9 i)) ((i9 j)),_,by rw[qg];simp,.inl (O1 ns t cl h1 h2 h3 h4 hi hj (y:=none)),?_⟩
  rw[O2 cl h1 h2 h3 h4 hi hj]
  exact⟨_,rfl⟩) ⟨y,rfl⟩
 refine⟨y',?_⟩
 rw[e,eh]
 show some (Out.nx [_,_,_,_,_,some (bA n (fy B π ι i n),2),_,_])=_
 rw[O3 cl h1 h2 h3 h4]
theorem O5(hn:n<=16)(x y:OD):∃ x' y',da (aP 6) (dI (b6 (aa (bE 2) ag)) (aP 7) o5) (bW n) (jf ns t (n:=n) (B:=B) (π:=π) (fun _ _=>0) x y) =
  some (.nx (jf ns t (n:=n) (B:=B) (π:=π) (fun a b=>π (B (ι a) (ι b))) x' y')):=by
 have z:bA n (fun _ _=>0)=bA n (fy B π ι 0 0):=uS fun a b _ _=>by unfold fy;rw[Qh (by omega)]
 have z':bA n (fy B π ι n 0)=bA n (fun a b=>π (B (ι a) (ι b))):=uS fun a b ha _=>by unfold fy;rw[Qe (.inl (h2 a ha))]
 obtain⟨ρ',e,x',y',rfl⟩:=j6 (pt:=aP 6) (body:=dI (b6 (aa (bE 2) ag)) (aP 7) o5) (bW n) (fun i ρ=>∃ x y,ρ=jf ns t (n:=n) (B:=B) (π:=π) (fy B π ι i 0) x y) (jf ns t (n:=n) (B:=B) (π:=π) (fy B π ι 0 0) x y) (fun i hi ρ ai=>by
  obtain⟨x,y,hy⟩:=ai
  subst hy
  rw[eh]at hi
  obtain⟨y',o7⟩:=O4 ns t cl h1 h2 h3 h4 hn hi y
  refine⟨jf ns t (n:=n) (B:=B) (π:=π) (fy B π ι i 0) ((i9 i)) y,_,by rw[qg];simp,.inl (show _=some (Out.nx (jf ns t (n:=n) (B:=B) (π:=π) (fy B π ι (i+1) 0) ((i9 i)) y'))from ?_),⟨_,_,rfl⟩⟩
  have b1:(-1000:Int)<=Int.ofNat n:=by show(-1000:Int)<=n;omega
  have b2:Int.ofNat n<=1000:=by show(n:Int)<=1000;omega
  have e:b6 (aa (bE 2) ag) (jf ns t (n:=n) (B:=B) (π:=π) (fy B π ι i 0) ((i9 i)) y)=some (bW n,jf ns t (n:=n) (B:=B) (π:=π) (fy B π ι i 0) ((i9 i)) y):=by
   simp[-Int.ofNat_eq_natCast,se,b1,b2]
   rfl
  unfold dI
  rw[e]
  exact o7) ⟨x,y,rfl⟩
 refine⟨x',y',?_⟩
 show da _ _ _ [_,_,_,_,_,some (bA n (fun _ _=>0),2),_,_]=some (.nx [_,_,_,_,_,some (bA n (fun a b=>π (B (ι a) (ι b))),2),_,_])
 rw[z,<- z']
 rw[eh]at e
 exact e
end
end
theorem O6{a b c d e:OD}{x y:OD}:iU 1 (aP 8) cJ (ix (aa (ab 8) ag)) false ((List.range n).map fun i=>dw n f i) [a,b,c,d,e,some (bA n f,0),x,y] =
  some ((List.range n).map fun i=>jw n f i,[a,b,c,d,e,some (bA n f,0),x,y]):=by
 have h:=m7 (k:=1) (pt:=aP 8) (tt:=cJ) (te:=ix (aa (ab 8) ag)) (deep:=false) ((List.range n).map fun i=>dw n f i)
  (fun _=>[a,b,c,d,e,some (bA n f,0),x,y]) (fun _=>true) (fun i=>jw n f i) (fun k hk=>?_)
 ·rw[Qm,QO,show(List.range n).filter (fun _=>true)=List.range n by simp]at h
  exact h
 ·refine⟨[a,b,c,d,e,some (bA n f,0),x,y,some (dw n f k,0)],_,by simp[dw],rfl,?_⟩
  rw[Qe rfl]
  exact⟨9,[a,b,c,d,e,some (bA n f,0),x,y,some (dw n f k,0)],by simp[dw,jw],by simp,by simp⟩
theorem kj(hn:n<=1000)(h:ρ[i]? = some (some (d,q)))(hl:cL d=some n):b6 (aa (bE i) ag) ρ=some (bW n,ρ):=by
 have b1:(-1000:Int)<=Int.ofNat n:=by show(-1000:Int)<=n;omega
 have b2:Int.ofNat n<=1000:=by show(n:Int)<=1000;omega
 simp only[b6,aa,bE,ag,h,hl]
 rw[Qe ⟨b1,b2⟩]
 rfl
theorem O7:∀ rows∈lY,rows.length<=8:=by decide +kernel
theorem O8(ns:List Int)(t:Int)(h0:0<=t):∃ n f,aI n f/\n<=8/\p_ [ck ns,.int t]=(t9 n f):=by
 obtain⟨rows,hm,q,hb⟩:=OV ns t h0
 have L:=Md (OW rows hm)
 have h8:=O7 rows hm
 unfold de at hb
 revert hb L h8
 generalize rows.length=n
 generalize tf rows=B
 intro hb L h8
 have hp:=yW ns t
 have hn:n<=1000:=QK L.hi (by decide)
 refine⟨n,fun a b=>drawn (pk ns t) n (B (jb (pk ns t) n a) (jb (pk ns t) n b)),L.Me (fun i hi=>Ck hp hi) (fun i hi=>Cn hp hi) (fun i hi=>Cp hp hi) (fun i hi=>Co hp hi),h8,?_⟩
 unfold p_ CJ
 refine fw ?_
 have s0:jF 8 [ck ns,.int t]=[(n0 ns),some (.int t,9),none,none,none,none,none,none]:=rfl
 rw[s0]
 refine(bb (ρ1:=[(n0 ns),some (.int t,9),some (bA n B,q),none,none,none,none,none]) ?_).trans ?_
 ·simp[hb]
 refine(bb (ρ1:=[(n0 ns),some (.int t,9),some (bA n B,q),some (.lst (bW n),1),none,none,none,none]) ?_).trans ?_
 ·exact i_ (B6 (kj hn rfl se)) rfl
 refine(bb (ρ1:=[(n0 ns),some (.int t,9),some (bA n B,q),some (.lst [],1),(uL ((List.range n).map (drawn (pk ns t) n))),none,none,none]) ?_).trans ?_
 ·exact i_ (i8 (kj hn rfl se) (OZ ns t n B q h0 L.hi)) rfl
 refine(bb (ρ1:=[(n0 ns),some (.int t,9),some (bA n B,0),some (.lst [],1),(uL ((List.range n).map (drawn (pk ns t) n))),some (bA n (fun _ _=>0),2),none,none]) ?_).trans ?_
 ·have e:fH (ab 2) [(n0 ns),some (.int t,9),some (bA n B,q),some (.lst [],1),(uL ((List.range n).map (drawn (pk ns t) n))),none,none,none]=some ((List.range n).map fun i=>dw n B i,[(n0 ns),some (.int t,9),some (bA n B,0),some (.lst [],1),(uL ((List.range n).map (drawn (pk ns t) n))),none,none,none]):=by
   by_cases hq:q=0
   ·subst hq;simp[bA,hn]
   ·simp[bA,hn,hq]
  exact i_ (i8 e (O0 ns t n B L.hi _)) rfl
 obtain⟨x',y',hf⟩:=O5 ns t (n:=n) (B:=B) (π:=drawn (pk ns t) n) (ι:=jb (pk ns t) n) L.cl (fun i hi=>Ck hp hi) (fun i hi=>Cn hp hi) (fun i hi=>Cp hp hi) (fun i hi=>Co hp hi) L.hi none none
 refine(bb ((jv (kj hn rfl se)).trans hf)).trans ?_
 refine iz (ρ1:=[(n0 ns),some (.int t,9),some (bA n B,0),some (.lst [],1),(uL ((List.range n).map (drawn (pk ns t) n))),some (bA n (fun a b=>drawn (pk ns t) n (B (jb (pk ns t) n a) (jb (pk ns t) n b))),0),x',y']) ?_
 have e:fH (ab 5) (jf ns t (n:=n) (B:=B) (π:=drawn (pk ns t) n) (fun a b=>drawn (pk ns t) n (B (jb (pk ns t) n a) (jb (pk ns t) n b))) x' y')=some ((List.range n).map fun i=>dw n (fun a b=>drawn (pk ns t) n (B (jb (pk ns t) n a) (jb (pk ns t) n b))) i,[(n0 ns),some (.int t,9),some (bA n B,0),some (.lst [],1),(uL ((List.range n).map (drawn (pk ns t) n))),some (bA n (fun a b=>drawn (pk ns t) n (B (jb (pk ns t) n a) (jb (pk ns t) n b))),0),x',y']):=by
  simp[bA,hn]
 have e2:=i8 (k:=1) (pt:=aP 8) (tt:=cJ) (te:=ix (aa (ab 8) ag)) (deep:=false) e O6
 exact B5 (dH e2)
theorem O9(ns:List Int)(t:Int)(h0:0<=t):∃ n f,aI n f/\p_ [ck ns,.int t]=(t9 n f):=by
 obtain⟨n,f,L,_,e⟩:=O8 ns t h0
 exact⟨n,f,L,e⟩
section
variable {n:Nat}{f:Nat->Nat->Nat}
theorem yX{x w:Nat}(hx:x<n)(hw:w<n):lU [aY n f,(iD x),(iD w)]=(b9 (decide (f x w=w))):=by
 unfold lU Dm
 simp[-Int.ofNat_eq_natCast,r_ hx,uR hw,yu]
theorem BL(hn:n<=1000){w:Nat}(hw:w<n):nr [aY n f,(iD w)]=(uL ((List.range n).filter fun x=>decide (f x w=w))):=by
 unfold nr Dp
 refine fw (iz (i8 (deep:=false) (ρ2:=[(t9 n f),(i9 w)]) (kj hn rfl ja) ?_))
 refine oM (i:=2) (ρ:=[(t9 n f),(i9 w)]) (deep:=false) rfl (fun x=>decide (f x w=w)) (fun x=>(iD x)) (fun _=>9) (fun j hj=>?_) (fun j hj _=>?_)
 ·simp[-Int.ofNat_eq_natCast,yX hj hw]
 ·simp[-Int.ofNat_eq_natCast]
theorem O_(hn:n<=1000){w:Nat}(hw:w<n):ni [aY n f,(iD w)]=(uL ((List.range n).filter fun x=>decide (f x w=w))):=by
 unfold ni CP
 refine fw (iz (i8 (deep:=false) (ρ2:=[(t9 n f),(i9 w)]) (kj hn rfl ja) ?_))
 refine oM (i:=2) (ρ:=[(t9 n f),(i9 w)]) (deep:=false) rfl (fun x=>decide (f x w=w)) (fun x=>(iD x)) (fun _=>9) (fun j hj=>?_) (fun j hj _=>?_)
 ·simp[-Int.ofNat_eq_natCast,r_ hj,uR hw,yu]
 ·simp[-Int.ofNat_eq_natCast]
variable (L:aI n f){z:Nat}(hz:z<n)(bz:∀ j,j<n->f z j=j)
include L hz bz
theorem DO{w:Nat}(hw:w<n):decide ((List.range n).map (fun j=>f w j)=List.range n)=decide (w=z):=by
 rw[decide_eq_decide,Mf]
 exact⟨fun h=>L.j7 hz bz hw h,fun h=>by subst h;exact bz⟩
theorem DP(hn:n<=1000):oS [aY n f]=(i9 z):=by
 unfold oS CM
 refine fw (iz (ρ1:=[(t9 n f)]) ?_)
 have hc:dF 1 (b6 (aa (bE 0) ag)) (aP 1) (cG (e2 cK (rC (aa (aU 0 (ab 1)) ag)) (mM (aa (bE 0) ag)))) (ab 1) false (jF 1 [aY n f])=some (.lst (ao [z]),1,[(t9 n f)]):=by
  refine(i8 (deep:=false) (ρ2:=[(t9 n f)]) (kj hn rfl ja) (oM rfl (fun x=>decide (x=z)) (fun x=>(iD x)) (fun _=>9) (fun j hj=>?_) (fun j hj _=>?_))).trans ?_
  ·have e1:rC (aa (aU 0 (ab 1)) ag) ([(t9 n f)]++[(i9 j)])=some (.lst (ao ((List.range n).map fun k=>f j k)),1,[(t9 n f),(i9 j)]):=by
    simp[-Int.ofNat_eq_natCast,r_ hj,jw]
   have jZ:mM (aa (bE 0) ag) [(t9 n f),(i9 j)]=some (.lst (ao (List.range n)),1,[(t9 n f),(i9 j)]):=B6 (kj hn rfl ja)
   unfold cG e2
   rw[e1]
   simp only[jZ,Mb,DO L hz bz hj]
   rfl
  ·simp[-Int.ofNat_eq_natCast]
  ·rw[Cq,Qe hz]
   rfl
 unfold cF
 rw[hc]
 simp[-Int.ofNat_eq_natCast,bJ,ao,L2.cO,gD]
theorem Pa(hn:n<=1000){l:List Nat}(hl:l.length<=1000)(hm:∀ x∈l,x<n):oT [aY n f,.lst (ao l)]=(i9 (l.foldl f z)):=by
 unfold oT CO
 refine fw ?_
 refine(bb (ρ1:=[(t9 n f),some (.lst (ao l),0),(i9 z),none]) ?_).trans ?_
 ·simp[-Int.ofNat_eq_natCast,DP L hz bz hn]
 obtain⟨ρ',e,y,rfl⟩:=j6 (pt:=aP 3) (body:=bq 2 (cF (aU 0 (ab 2)) (ab 3))) (ao l) (fun i ρ=>∃ y,ρ=[(t9 n f),some (.lst (ao l),0),(i9 ((l.take i).foldl f z)),y]) [(t9 n f),some (.lst (ao l),0),(i9 z),none] (fun i hi ρ ai=>by
  obtain⟨y,hy⟩:=ai
  subst hy
  have cR:i<l.length:=by rw[fM]at hi;exact hi
  have hg:(ao l)[i]=.int (Int.ofNat l[i]):=by simp[ao]
  have hx:l[i]<n:=hm _ (QW cR)
  have ha:(l.take i).foldl f z<n:=L.fold_lt hz fun x m=>hm x (List.mem_of_mem_take m)
  refine⟨[(t9 n f),some (.lst (ao l),0),(i9 ((l.take i).foldl f z)),some (.int (Int.ofNat l[i]),9)],[(t9 n f),some (.lst (ao l),0),(i9 ((l.take (i+1)).foldl f z)),some (.int (Int.ofNat l[i]),9)],?_,.inl ?_,⟨_,rfl⟩⟩
  ·rw[hg];simp
  ·rw[List.take_succ_eq_append_getElem cR,Jv]
   simp[-Int.ofNat_eq_natCast,r_ ha,uR hx]) ⟨none,rfl⟩
 rw[fM,List.take_length]at e
 refine(bb ((jv (ds:=ao l) (ρ1:=[(t9 n f),some (.lst (ao l),0),(i9 z),none]) ?_).trans e)).trans ?_
 ·simp[fM,hl]
 ·simp[-Int.ofNat_eq_natCast]
end
section
variable {n:Nat}{f:Nat->Nat->Nat}
variable (L:aI n f){z:Nat}(hz:z<n)(bz:∀ j,j<n->f z j=j)
include L hz bz
theorem Pb(hn:n<=1000):sC [aY n f]=(i9 z):=by
 have b1:(-1000:Int)<=Int.ofNat n:=by show(-1000:Int)<=n;omega
 have b2:Int.ofNat n<=1000:=by show(n:Int)<=1000;omega
 have hr:sA [(iD n)]=(v9 (List.range n)):=by
  unfold sA CW
  simp[-Int.ofNat_eq_natCast,b1,b2]
  rfl
 have hi:uq (.tup (ao (List.range n))) ((List.range n).map fun i=>jw n f i)=some z:=by
  unfold uq
  rw[Ca,Zj]
  have ev:∀ i,i<n->PyData.eqv (bN (jw n f i)) (bN (.tup (ao (List.range n))))=decide (i=z):=fun i hi=>(yr _ _).trans (DO L hz bz hi)
  refine Cf (x:=bN (jw n f z)) ?_ ?_ ?_
  ·rw[Qo,QZ hz];rfl
  ·rw[ev z hz];simp
  ·intro i y hi hy
   have cR:i<n:=Ji hi hz
   rw[Qo,QZ cR]at hy
   cases hy
   refine(ev i cR).trans ?_
   simp;omega
 have h1:eH (.tup ((List.range n).map fun i=>jw n f i))=true:=(L_ n f).ok
 have h2:eH (.tup (ao (List.range n)))=true:=(lS _).ok
 have hl:cL (.tup ((List.range n).map fun i=>jw n f i))=some n:=ja (f:=f)
 unfold sC CY aY
 simp[-Int.ofNat_eq_natCast,hr,hl,h1,h2,hi]
end
section
variable {n:Nat}{f:Nat->Nat->Nat}
def lZ (n:Nat)(f:Nat->Nat->Nat)(r:Nat->Nat):Bool:=(List.range n).all fun y=>(aI.low n f y).all fun x=>decide (f (r x) (r y)=r y)
theorem yY:lZ n f r=true ↔ ∀ y x,y<n->x<n->f x y=y->f (r x) (r y)=r y:=by
 unfold lZ
 rw[L3.range_all]
 simp only[Zk,aI.cf,Zq]
 exact⟨fun h y x hy hx e=>h y hy x ⟨hx,e⟩,fun h y hy x e=>h y x hy e.1 e.2⟩
theorem Pc(hn:n<=1000)(hr:∀ i,i<n->r i<n):sM [aY n f,eT n r]=(b9 (lZ n f r)):=by
 unfold sM Dr
 refine fw ?_
 have hs:jF 4 [aY n f,eT n r]=[(t9 n f),(r9 n r),none,none]:=rfl
 rw[hs]
 obtain⟨h1,h2⟩:=yw (pt:=aP 2) (body:=dI (fH (aH nr 2 (aa (ab 0) (aa (ab 2) ag)))) (aP 3) (cH (gN (fU (aH lU 3 (aa (ab 0) (aa (aU 1 (ab 3)) (aa (aU 1 (ab 2)) ag)))))) (bp (eC (.bl false))) d_)) (d:=.bl false) (q:=9) (bW n) (fun ρ=>∃ x y,ρ=[(t9 n f),(r9 n r),x,y]) (fun y=>(aI.low n f y).all fun x=>decide (f (r x) (r y)=r y)) [(t9 n f),(r9 n r),none,none] (fun y hy ρ ⟨a,b,e⟩=>by
  subst e
  have o7:y<n:=by rw[eh]at hy;exact hy
  refine⟨[(t9 n f),(r9 n r),(i9 y),b],by rw[show(bW n)[y]=(iD y)by simp[bW]];simp,?_⟩
  have hl:(ao (aI.low n f y)).length<=1000:=by
   rw[fM]
   have:=Z3 (fun x=>decide (f x y=y)) (List.range n)
   rw[QO]at this
   exact QK this hn
  have hi:fH (aH nr 2 (aa (ab 0) (aa (ab 2) ag))) [(t9 n f),(r9 n r),(i9 y),b]=some (ao (aI.low n f y),[(t9 n f),(r9 n r),(i9 y),b]):=by
   have hb:nr [aY n f,(iD y)]=(uL (aI.low n f y)):=BL hn o7
   simp[-Int.ofNat_eq_natCast,hb,hl]
  obtain⟨i1,i2⟩:=yw (pt:=aP 3) (body:=cH (gN (fU (aH lU 3 (aa (ab 0) (aa (aU 1 (ab 3)) (aa (aU 1 (ab 2)) ag)))))) (bp (eC (.bl false))) d_) (d:=.bl false) (q:=9) (ao (aI.low n f y)) (fun ρ=>∃ b,ρ=[(t9 n f),(r9 n r),(i9 y),b]) (fun i=>decide (f (r ((aI.low n f y).getD i 0)) (r y)=r y)) [(t9 n f),(r9 n r),(i9 y),b] (fun i cR ρ ⟨b,e⟩=>by
   subst e
   have hm:=yx (l:=aI.low n f y) (i:=i) (by rw[fM]at cR;exact cR)
   have hx:=(aI.cf.mp hm).1
   rw[Ct cR]
   refine⟨[(t9 n f),(r9 n r),(i9 y),(i9 ((aI.low n f y).getD i 0))],by simp,fun ok=>⟨[(t9 n f),(r9 n r),(i9 y),(i9 ((aI.low n f y).getD i 0))],?_,⟨_,rfl⟩⟩,fun no=>?_⟩
   ·have Pd:=Ju ok
    simp[-Int.ofNat_eq_natCast,-List.getD_eq_getElem?_getD,sg hx,sg o7,yX (f:=f) (hr _ hx) (hr _ o7),Pd]
   ·have Pe:=of_decide_eq_false no
    simp[-Int.ofNat_eq_natCast,-List.getD_eq_getElem?_getD,sg hx,sg o7,yX (f:=f) (hr _ hx) (hr _ o7),Pe]) ⟨b,rfl⟩
  rw[fM,Cs (fun x=>decide (f (r x) (r y)=r y))]at i1 i2
  refine⟨fun ok=>?_,fun no=>(jv hi).trans (i2 no)⟩
  obtain⟨ρ2,e,b',rfl⟩:=i1 ok
  exact⟨_,(jv hi).trans e,_,_,rfl⟩) ⟨none,none,rfl⟩
 rw[eh]at h1 h2
 cases h:lZ n f r with
 | true=>
  obtain⟨ρ',e,x,y,rfl⟩:=h1 h
  exact(bb ((jv (kj hn rfl ja)).trans e)).trans rfl
 | false=>exact yl ((jv (kj hn rfl ja)).trans (h2 h))
end
section
variable {n:Nat}{f:Nat->Nat->Nat}
variable (L:aI n f){z:Nat}(hz:z<n)(bz:∀ j,j<n->f z j=j)
include L hz bz
theorem Pf(ns:List Int)(t:Int)(h0:0<=t):∃ d:Nat->Nat,(∀ i,i<n->d i<n)/\oU [ck ns,.int t,aY n f]=some (eT n (aI.lr n f z d),9):=by
 have hn:n<=1000:=QK L.hi (by decide)
 have l3:(0:Int)<Int.ofNat n:=by show(0:Int)<(n:Int);omega
 have dr:∀ i,∃ v,v<n/\(i<n->∀ ρ:aN,ρ[0]? = some (some (ck ns,0))->ρ[1]? = some (some (.int t,9))->ρ[2]? = some (some (aY n f,9))->ρ[3]? = some (some (.int (Int.ofNat z),9))->ρ[5]? = some (some (.int (Int.ofNat i),9))->
   cF (du (aa (ab 3) (aa (ab 5) (aa (aH cj 3 (aa (ab 0) (aa (e2 bB (ab 1) (ab 5)) (aa (bE 2) ag)))) ag)))) (aH cj 3 (aa (ab 0) (aa (e2 bB (e2 bB (ab 1) (eC (.int 8))) (ab 5)) (aa (eC (.int 3)) ag)))) ρ=some (.int (Int.ofNat v),9,ρ)):=fun i=>by
  have e1:=ny ns (t+Int.ofNat i) (Int.ofNat n) (by show 0<=t+(i:Int);omega) l3
  have jZ:=ny ns (t+8+Int.ofNat i) 3 (by show 0<=t+8+(i:Int);omega) (by decide)
  have l1:=lX ns (t+Int.ofNat i) l3
  have l2:=nz ns (t+Int.ofNat i) l3
  have k1:=lX ns (t+8+Int.ofNat i) (m:=3) (by decide)
  have k2:=nz ns (t+8+Int.ofNat i) (m:=3) (by decide)
  generalize h_ ns (t+Int.ofNat i) (Int.ofNat n)=a at *
  generalize h_ ns (t+8+Int.ofNat i) 3=b at *
  obtain⟨a',rfl⟩:∃ a':Nat,a=Int.ofNat a':=⟨a.toNat,by show a=(a.toNat:Int);omega⟩
  have yB:a'<n:=by have:(a':Int)<(n:Int):=l2;omega
  by_cases hi:i<n
  ·have hb:b=0\/b=1\/b=2:=by omega
   rcases hb with rfl|rfl|rfl
   ·refine⟨z,hz,fun _ ρ h0 h1 h2 h3 h5=>?_⟩
    simp[-Int.ofNat_eq_natCast,h0,h1,h2,h3,h5,ja,e1,jZ,bJ,L2.cO,gD]
   ·refine⟨i,hi,fun _ ρ h0 h1 h2 h3 h5=>?_⟩
    simp[-Int.ofNat_eq_natCast,h0,h1,h2,h3,h5,ja,e1,jZ,bJ,L2.cO,gD]
   ·refine⟨a',yB,fun _ ρ h0 h1 h2 h3 h5=>?_⟩
    simp[-Int.ofNat_eq_natCast,h0,h1,h2,h3,h5,ja,e1,jZ,bJ,L2.cO,gD]
  ·exact⟨z,hz,fun h=>absurd h hi⟩
 obtain⟨d,hd⟩:∃ d:Nat->Nat,∀ i,d i<n/\(i<n->∀ ρ:aN,ρ[0]? = some (some (ck ns,0))->ρ[1]? = some (some (.int t,9))->ρ[2]? = some (some (aY n f,9))->ρ[3]? = some (some (.int (Int.ofNat z),9))->ρ[5]? = some (some (.int (Int.ofNat i),9))->
   cF (du (aa (ab 3) (aa (ab 5) (aa (aH cj 3 (aa (ab 0) (aa (e2 bB (ab 1) (ab 5)) (aa (bE 2) ag)))) ag)))) (aH cj 3 (aa (ab 0) (aa (e2 bB (e2 bB (ab 1) (eC (.int 8))) (ab 5)) (aa (eC (.int 3)) ag)))) ρ=some (.int (Int.ofNat (d i)),9,ρ)):=
  ⟨fun i=>(dr i).choose,fun i=>(dr i).choose_spec⟩
 refine⟨d,fun i _=>(hd i).1,?_⟩
 unfold oU CS
 refine fw ?_
 have hs:jF 7 [ck ns,.int t,aY n f]=[some (ck ns,0),some (.int t,9),some (aY n f,9),none,none,none,none]:=rfl
 rw[hs]
 refine(bb (ρ1:=[some (ck ns,0),some (.int t,9),some (aY n f,9),some (.int (Int.ofNat z),9),none,none,none]) ?_).trans ?_
 ·simp[-Int.ofNat_eq_natCast,DP L hz bz hn]
 refine(bb (ρ1:=[some (ck ns,0),some (.int t,9),some (aY n f,9),some (.int (Int.ofNat z),9),some (.lst [],1),none,none]) ?_).trans ?_
 ·simp
 obtain⟨ρ',e,y,rfl⟩:=j6 (pt:=aP 5) (body:=cI (hU 4 (aa (cF (du (aa (ab 3) (aa (ab 5) (aa (aH cj 3 (aa (ab 0) (aa (e2 bB (ab 1) (ab 5)) (aa (bE 2) ag)))) ag)))) (aH cj 3 (aa (ab 0) (aa (e2 bB (e2 bB (ab 1) (eC (.int 8))) (ab 5)) (aa (eC (.int 3)) ag))))) ag))) (bW n)
  (fun i ρ=>∃ y,ρ=[some (ck ns,0),some (.int t,9),some (aY n f,9),some (.int (Int.ofNat z),9),some (.lst (ao ((List.range i).map d)),1),y,none])
  [some (ck ns,0),some (.int t,9),some (aY n f,9),some (.int (Int.ofNat z),9),some (.lst [],1),none,none] (fun i hi ρ ai=>by
   obtain⟨y,hy⟩:=ai
   subst hy
   have cR:i<n:=by rw[eh]at hi;exact hi
   have Pg:=(hd i).2 cR [some (ck ns,0),some (.int t,9),some (aY n f,9),some (.int (Int.ofNat z),9),some (.lst (ao ((List.range i).map d)),1),some (.int (Int.ofNat i),9),none] rfl rfl rfl rfl rfl
   refine⟨[some (ck ns,0),some (.int t,9),some (aY n f,9),some (.int (Int.ofNat z),9),some (.lst (ao ((List.range i).map d)),1),some (.int (Int.ofNat i),9),none],[some (ck ns,0),some (.int t,9),some (aY n f,9),some (.int (Int.ofNat z),9),some (.lst (ao ((List.range (i+1)).map d)),1),some (.int (Int.ofNat i),9),none],?_,.inl ?_,⟨_,rfl⟩⟩
   ·rw[show(bW n)[i]=.int (Int.ofNat i)by simp[bW]];simp
   ·have ex:ao ((List.range (i+1)).map d)=ao ((List.range i).map d)++[.int (Int.ofNat (d i))]:=by rw[Jb];simp[ao]
    have hl:(ao ((List.range i).map d)).length<=1000:=by rw[fM,Qm,QO];omega
    exact Cu rfl (dH Pg) rfl hl (by rw[ex];rfl)) ⟨none,rfl⟩
 rw[eh]at e
 refine(bb ((jv (kj hn rfl ja)).trans e)).trans ?_
 refine(bb (ρ1:=[some (ck ns,0),some (.int t,9),some (aY n f,9),some (.int (Int.ofNat z),9),some (.lst (ao ((List.range n).map d)),1),y,some (.lst [],1)]) ?_).trans ?_
 ·simp
 have Ph:∀ i,i<n->d i<n:=fun i _=>(hd i).1
 obtain⟨ρ',e,y',rfl⟩:=j6 (pt:=aP 5) (body:=cI (hU 6 (aa (aH oT 2 (aa (ab 2) (aa (dF 1 (fH (aH ni 2 (aa (ab 2) (aa (ab 5) ag)))) (aP 7) cJ (aU 4 (ab 7)) false) ag))) ag))) (bW n)
  (fun i ρ=>∃ y,ρ=[some (ck ns,0),some (.int t,9),some (aY n f,9),some (.int (Int.ofNat z),9),some (.lst (ao ((List.range n).map d)),1),y,some (.lst (ao ((List.range i).map (aI.lr n f z d))),1)])
  [some (ck ns,0),some (.int t,9),some (aY n f,9),some (.int (Int.ofNat z),9),some (.lst (ao ((List.range n).map d)),1),y,some (.lst [],1)] (fun i hi ρ ai=>by
   obtain⟨y,hy⟩:=ai
   subst hy
   have cR:i<n:=by rw[eh]at hi;exact hi
   refine⟨[some (ck ns,0),some (.int t,9),some (aY n f,9),some (.int (Int.ofNat z),9),some (.lst (ao ((List.range n).map d)),1),some (.int (Int.ofNat i),9),some (.lst (ao ((List.range i).map (aI.lr n f z d))),1)],[some (ck ns,0),some (.int t,9),some (aY n f,9),some (.int (Int.ofNat z),9),some (.lst (ao ((List.range n).map d)),1),some (.int (Int.ofNat i),9),some (.lst (ao ((List.range (i+1)).map (aI.lr n f z d))),1)],?_,.inl ?_,⟨_,rfl⟩⟩
   ·rw[show(bW n)[i]=.int (Int.ofNat i)by simp[bW]];simp
   ·have ex:ao ((List.range (i+1)).map (aI.lr n f z d))=ao ((List.range i).map (aI.lr n f z d))++[.int (Int.ofNat (aI.lr n f z d i))]:=by rw[Jb];simp[ao]
    have hl:(ao ((List.range i).map (aI.lr n f z d))).length<=1000:=by rw[fM,Qm,QO];omega
    have o8:(aI.low n f i).length<=1000:=by
     have:=Z3 (fun y=>decide (f y i=i)) (List.range n)
     rw[QO]at this
     exact QK this hn
    have hit:fH (aH ni 2 (aa (ab 2) (aa (ab 5) ag))) [some (ck ns,0),some (.int t,9),some (aY n f,9),some (.int (Int.ofNat z),9),some (.lst (ao ((List.range n).map d)),1),some (.int (Int.ofNat i),9),some (.lst (ao ((List.range i).map (aI.lr n f z d))),1)]=some (ao (aI.low n f i),[some (ck ns,0),some (.int t,9),some (aY n f,9),some (.int (Int.ofNat z),9),some (.lst (ao ((List.range n).map d)),1),some (.int (Int.ofNat i),9),some (.lst (ao ((List.range i).map (aI.lr n f z d))),1)]):=by
     have hb:ni [aY n f,.int (Int.ofNat i)]=some (.lst (ao (aI.low n f i)),1):=O_ hn cR
     simp[-Int.ofNat_eq_natCast,hb,fM,o8]
    have hc:=i8 (k:=1) (te:=aU 4 (ab 7)) (deep:=false) hit (Mg (i:=7) (aI.low n f i) rfl (fun y=>.int (Int.ofNat (d y))) (fun _=>9) (fun y hy=>by
     have Pj:=(aI.cf.mp hy).1
     have ur:bJ (.lst (ao ((List.range n).map d))) (Int.ofNat y)=some (.int (Int.ofNat (d y))):=oK Pj
     simp[-Int.ofNat_eq_natCast,ur]))
    have hm:∀ y∈(aI.low n f i).map d,y<n:=aI.gq L hz bz Ph
    have e':((aI.low n f i).map fun y=>D.int (Int.ofNat (d y)))=ao ((aI.low n f i).map d):=by simp[ao]
    rw[e']at hc
    have hj:oT [aY n f,.lst (ao ((aI.low n f i).map d))]=some (.int (Int.ofNat (aI.lr n f z d i)),9):=Pa L hz bz hn (by rw[Qm];exact o8) hm
    have ha:=dH (fx (n:=2) (eR (f:=ab 2) (q:=9) (d:=aY n f) (ρ:=[some (ck ns,0),some (.int t,9),some (aY n f,9),some (.int (Int.ofNat z),9),some (.lst (ao ((List.range n).map d)),1),some (.int (Int.ofNat i),9),some (.lst (ao ((List.range i).map (aI.lr n f z d))),1)]) (ρ1:=[some (ck ns,0),some (.int t,9),some (aY n f,9),some (.int (Int.ofNat z),9),some (.lst (ao ((List.range n).map d)),1),some (.int (Int.ofNat i),9),some (.lst (ao ((List.range i).map (aI.lr n f z d))),1)]) rfl (dH hc)) rfl hj)
    exact Cu rfl ha rfl hl (by rw[ex];rfl)) ⟨y,rfl⟩
 rw[eh]at e
 refine(bb ((jv (kj hn rfl ja)).trans e)).trans ?_
 exact iz (B5 (dH (q:=0) (ρ1:=[some (ck ns,0),some (.int t,9),some (aY n f,9),some (.int (Int.ofNat z),9),some (.lst (ao ((List.range n).map d)),1),y',some (.lst (ao ((List.range n).map (aI.lr n f z d))),0)]) rfl))
end
def fZ (n:Nat):D->Bool
 | .int i=>decide (0<=i)&&decide (i<(n:Int))
 | _=>false
def dS (m n:Nat):D->Bool
 | .tup ds=>decide (ds.length=m)&&ds.all (fZ n)
 | _=>false
theorem kL(d:D):sE [d]=(b9 (match d with|.int _=>true|_=>false)):=by
 unfold sE C7
 cases d<;>simp[fL]
theorem yZ(n:Nat)(d:D):kK [d,(iD n)]=(b9 (fZ n d)):=by
 unfold kK C8
 cases d with
 | int i=>
  have h:=kL (.int i)
  by_cases h0:0<=i
  ·by_cases h1:i<(n:Int)
   ·simp[h,fZ,h0,h1]
   ·simp[h,fZ,h0,h1]
  ·simp[h,fZ,h0]
 | aS=>simp[kL,fZ]
 | bl b=>simp[kL,fZ]
 | str x=>simp[kL,fZ]
 | tup ds=>simp[kL,fZ]
 | lst ds=>simp[kL,fZ]
 | eM ks ds=>simp[kL,fZ]
 | exc nm=>simp[kL,fZ]
 | ob f fo vs ds=>simp[kL,fZ]
 | mp k ds=>simp[kL,fZ]
theorem Pk(m n:Nat)(d:D)(hl:∀ ds,d=.tup ds->ds.length<=1000):oY [d,(iD m),(iD n)]=(b9 (dS m n d)):=by
 unfold oY yQ
 cases d with
 | tup ds=>
  have hl:=hl ds rfl
  refine fw ?_
  have hs:jF 3 [.tup ds,(iD m),(iD n)]=[some (.tup ds,9),(i9 m),(i9 n)]:=rfl
  rw[hs]
  by_cases hm:ds.length=m
  ·refine(bb (ρ1:=[some (.tup ds,9),(i9 m),(i9 n)]) ?_).trans ?_
   ·simp[-Int.ofNat_eq_natCast,fL,cL,hm,uU]
   ·have hi:fH (ab 0) [some (.tup ds,9),(i9 m),(i9 n)]=some (ds,[some (.tup ds,9),(i9 m),(i9 n)]):=by simp[hl]
    have hc:=m7 (k:=1) (pt:=aP 3) (tt:=cJ) (te:=aH kK 2 (aa (ab 3) (aa (ab 2) ag))) (deep:=false) ds (fun _=>[some (.tup ds,9),(i9 m),(i9 n)]) (fun _=>true) (fun i=>.bl (fZ n (ds.getD i .aS))) (fun i hi=>by
     have hg:ds.getD i .aS=ds[i]:=by simp[hi]
     refine⟨[some (.tup ds,9),(i9 m),(i9 n),some (ds[i],b_ ds[i])],[some (.tup ds,9),(i9 m),(i9 n),some (ds[i],b_ ds[i])],by simp[-b_],rfl,?_⟩
     rw[Qe rfl]
     refine⟨9,[some (.tup ds,9),(i9 m),(i9 n),some (ds[i],b_ ds[i])],?_,by simp,by simp⟩
     have hv:∃ q,ab 3 [some (.tup ds,9),(i9 m),(i9 n),some (ds[i],b_ ds[i])]=some (ds[i],q,[some (.tup ds,9),(i9 m),(i9 n),some (ds[i],b_ ds[i])]):=by
      cases hL:(ds[i]).bY with
      | false=>exact⟨9,by simp[-b_,hL]⟩
      | true=>exact⟨0,by simp[hL]⟩
     obtain⟨q,hv⟩:=hv
     rw[hg]
     exact fx (eR hv (dH (q:=9) rfl)) rfl (yZ n _))
    rw[show(List.range ds.length).filter (fun _=>true)=List.range ds.length by simp]at hc
    have e:(List.range ds.length).map (fun i=>D.bl (fZ n (ds.getD i .aS)))=ds.map fun d=>.bl (fZ n d):=by
     apply Q8
     intro k
     by_cases hk:k<ds.length
     ·simp[hk]
     ·rw[Qu (by simp;omega),Qu (by simp;omega)]
    rw[e]at hc
    refine iz (yy (dH (i8 (deep:=false) hi hc)) ?_)
    simp only[mQ,Bz,Zh,dS,hm]
    simp[JJ,ZL]
  ·have e:dS m n (.tup ds)=false:=by simp[dS,hm]
   rw[e]
   refine yl ?_
   simp[-Int.ofNat_eq_natCast,fL,cL,uU,hm]
 | aS=>simp[fL,dS]
 | bl b=>simp[fL,dS]
 | int i=>simp[fL,dS]
 | str x=>simp[fL,dS]
 | lst ds=>simp[fL,dS]
 | eM ks ds=>simp[fL,dS]
 | exc nm=>simp[fL,dS]
 | ob f fo vs ds=>simp[fL,dS]
 | mp k ds=>simp[fL,dS]
theorem Pl(m n:Nat)(hm:m<=1000)(d:D):oY [d,(iD m),(iD n)]=(b9 (dS m n d)):=by
 by_cases h:∀ ds,d=.tup ds->ds.length<=1000
 ·exact Pk m n d h
 ·cases d with
  | tup ds=>
   have iP:ds.length≠m:=fun e=>h fun bg e'=>by cases e';omega
   have e:dS m n (.tup ds)=false:=by simp[dS,iP]
   unfold oY yQ
   refine fw ?_
   rw[e]
   refine yl ?_
   simp[-Int.ofNat_eq_natCast,fL,cL,uU,iP]
  | _=>exact absurd (fun ds e=>nomatch e) h
theorem Pm(hr:∀ i,i<n->r i<n):dS n n (eT n r)=true:=by
 unfold dS eT
 simp only[fM,Qm,QO,decide_true,Z6]
 rw[Zk]
 intro d m
 obtain⟨x,hx,rfl⟩:=QF.mp m
 obtain⟨i,hi,rfl⟩:=QF.mp hx
 have:=hr i (QP.mp hi)
 show(decide ((0:Int)<=(r i:Int))&&decide ((r i:Int)<(n:Int)))=true
 simp;omega
theorem Pn(hn:n<=1000)(d:D):sL [aY n f,d]=(b9 (dS n n d)):=by
 unfold sL Dl
 have hv:∃ q ρ',ab 1 [(t9 n f),some (d,b_ d)]=some (d,q,ρ')/\ρ'[0]? = some ((t9 n f)):=by
  cases hL:d.bY with
  | false=>exact⟨9,[(t9 n f),some (d,b_ d)],by simp[-b_,hL],rfl⟩
  | true=>exact⟨0,[(t9 n f),some (d,0)],by simp[hL],rfl⟩
 obtain⟨q,ρ',hv,h0⟩:=hv
 have DQ:bE 0 ρ'=some ((iD n),9,ρ'):=by unfold bE;simp only[h0,ja]
 exact fw (iz (fx (eR (ρ:=[(t9 n f),some (d,b_ d)]) hv (eR DQ (dH DQ))) rfl (Pl n n hn d)))
theorem Po(h:ρ[i]? = some (some (d,b_ d))):ab i ρ=some (d,b_ d,ρ):=by
 unfold ab
 rw[h]
 cases hL:d.bY with
 | false=>simp[hL]
 | true=>simp[hL]
theorem DR(ds:List D)(hi:ρ.length=i)(v:D->D)(q:D->Nat)
  (he:∀ d,d∈ds->te (ρ++[some (d,b_ d)])=some (v d,q d,ρ++[some (d,b_ d)])) :
  iU 1 (aP i) cJ te false ds ρ=some (ds.map v,ρ):=by
 have h:=m7 (k:=1) (pt:=aP i) (tt:=cJ) (te:=te) (deep:=false) ds (fun _=>ρ) (fun _=>true) (fun j=>v (ds.getD j .aS)) (fun j hj=>?_)
 ·rw[show(List.range ds.length).filter (fun _=>true)=List.range ds.length by simp]at h
  rw[h]
  have e:(List.range ds.length).map (fun j=>v (ds.getD j .aS))=ds.map v:=by
   apply Q8
   intro k
   by_cases hk:k<ds.length
   ·simp[hk]
   ·rw[Qu (by simp;omega),Qu (by simp;omega)]
  rw[e]
 ·have hg:ds.getD j .aS=ds[j]:=by simp[hj]
  refine⟨ρ++[some (ds[j],b_ ds[j])],_,?_,rfl,?_⟩
  ·unfold aP
   rw[Qe (by simp[hi])]
   subst hi
   simp[-b_,JN]
  ·rw[Qe rfl,hg]
   exact⟨q _,_,he _ (QW hj),by simp,by simp⟩
theorem Pp{it:iT}(hi:ρ.length=i)(hit:it ρ=some (ds,ρ))(b:D->Bool)(q:D->Nat)
  (he:∀ d,d∈ds->te (ρ++[some (d,b_ d)])=some (.bl (b d),q d,ρ++[some (d,b_ d)])) :
  eB mQ (aa (dF 1 it (aP i) cJ te false) ag) ρ=some (.bl (ds.all b),9,ρ):=by
 refine yy (dH (i8 (deep:=false) hit (DR ds hi (fun d=>.bl (b d)) q he))) ?_
 simp only[mQ,Bz,Zh]
 simp[JJ,ZL]
def kO (ds:List D)(i:Nat):Nat:=match ds[i]? with
 | some (.int k)=>k.toNat
 | _=>0
theorem DS(h:dS m n (.tup ds)=true):ds.length=m/\∀ i,i<m->ds[i]? = some (iD (kO ds i))/\kO ds i<n:=by
 unfold dS at h
 simp only[Zz,Zq,Zk]at h
 obtain⟨hl,ha⟩:=h
 refine⟨hl,fun i hi=>?_⟩
 have cR:i<ds.length:=by omega
 have hm:=ha ds[i] (QW cR)
 have hg:ds[i]? = some ds[i]:=Qj cR
 unfold kO
 rw[hg]
 cases e:ds[i]with
 | int k=>
  rw[e]at hm
  unfold fZ at hm
  simp only[Zz,Zq]at hm
  refine⟨?_,?_⟩
  ·show some (D.int k)=some (D.int ((k.toNat:Nat):Int))
   rw[JU hm.1]
  ·show k.toNat<n
   omega
 | _=>rw[e]at hm;cases hm
theorem Pq(h:dS m n (.tup ds)=true):D.tup ds=eT m (kO ds):=by
 obtain⟨hl,key⟩:=DS h
 unfold eT
 congr 1
 apply Q8
 intro i
 by_cases hi:i<m
 ·rw[(key i hi).1,uQ,Qo,QZ hi]
  rfl
 ·rw[Qu (by omega),Qu (by simp[fM];omega)]
theorem Pr(h:dS n n (.tup ds)=true):D.tup ds=eT n (kO ds)/\∀ i,i<n->kO ds i<n:=⟨Pq h,fun i hi=>((DS h).2 i hi).2⟩
theorem Pt(hi:i<n):kO (ao ((List.range n).map r)) i=r i:=by
 unfold kO
 rw[uQ,Qo,QZ hi]
 rfl
def rr (n:Nat)(f:Nat->Nat->Nat)(d:D):Bool:=match d with
 | .tup ds=>dS n n (.tup ds)&&lZ n f (kO ds)
 | _=>false
theorem Pu{s:Nat->Nat}(h:∀ i,i<n->r i=s i):lZ n f r=lZ n f s:=by
 rw[Bool.eq_iff_iff,yY,yY]
 constructor
 ·intro k y x hy hx e
  rw[<- h x hx,<- h y hy];exact k y x hy hx e
 ·intro k y x hy hx e
  rw[h x hx,h y hy];exact k y x hy hx e
theorem Pw(hr:∀ i,i<n->r i<n):rr n f (eT n r)=lZ n f r:=by
 have h:=Pm hr
 show(dS n n (eT n r)&&lZ n f (kO (ao ((List.range n).map r))))=_
 rw[h,Z6]
 exact Pu fun i hi=>Pt hi
theorem Px(hn:n<=1000)(d:D):sN [aY n f,d]=(b9 (rr n f d)):=by
 have h1:=Pn (n:=n) (f:=f) hn d
 have v1:ab 1 [(t9 n f),some (d,b_ d)]=some (d,b_ d,[(t9 n f),some (d,b_ d)]):=Po rfl
 have v0:ab 0 [(t9 n f),some (d,b_ d)]=some (aY n f,9,[(t9 n f),some (d,b_ d)]):=rfl
 have c1:=fx (n:=2) (eR v0 (dH v1)) rfl h1
 unfold sN Ds
 refine fw (iz (ρ1:=[(t9 n f),some (d,b_ d)]) ?_)
 show kE _ _ [(t9 n f),some (d,b_ d)]=_
 unfold kE
 rw[c1]
 cases hR:dS n n d with
 | false=>
  have:rr n f d=false:=by cases d<;>simp_all [rr]
  simp[this]
 | true=>
  cases d with
  | tup ds=>
   obtain⟨e,hb⟩:=Pr hR
   have r:=Pc (f:=f) hn hb
   rw[<- e]at r
   have c2:=fx (n:=2) (eR v0 (dH v1)) rfl r
   simp only[ZX,c2]
   simp[rr,hR]
  | _=>cases hR
structure aW where
 p:Nat
 W:List (Nat×Nat×(Nat->Nat))
 B:List (Nat×Nat)
def cy (n:Nat)(w:Nat×Nat×(Nat->Nat)):D:=.tup [(iD w.1),(iD w.2.1),eT n w.2.2]
def df (b:Nat×Nat):D:=.tup [(iD b.1),(iD b.2)]
def cm (n:Nat)(C:aW):D:=.tup [(iD C.p),.tup (C.W.map (cy n)),.tup (C.B.map df)]
abbrev c9 (n:Nat)(C:aW):OD:=some (cm n C,9)
def sV (n:Nat)(f:Nat->Nat->Nat)(p:Nat)(w:Nat×Nat×(Nat->Nat)):Prop:=w.1<p/\w.2.1<p/\(∀ i,i<n->w.2.2 i<n)/\∀ x y,x<n->y<n->f x y=y->f (w.2.2 x) (w.2.2 y)=w.2.2 y
def vd (n:Nat)(p:Nat)(b:Nat×Nat):Prop:=b.1<p/\b.2<n
structure aW.Ok (n:Nat) (f:Nat->Nat->Nat) (C:aW):Prop where
 p1:1<=C.p
 p8:C.p<=8
 vf:C.W.length<=60
 vg:C.B.length<=60
 ws:∀ w∈C.W,sV n f C.p w
 bs:∀ b∈C.B,vd n C.p b
@[simp] theorem Sf{C:aW}:(cm n C).bY=false:=rfl
@[simp] theorem Sg{w:Nat×Nat×(Nat->Nat)}:(cy n w).bY=false:=rfl
@[simp] theorem Si:(df b).bY=false:=rfl
theorem o9(ns:List Int){k:Int}(hk:0<=k){m:Int}(hm:0<m):∃ v:Nat,(v:Int)<m/\cj [ck ns,.int k,.int m]=some (.int (Int.ofNat v),9):=by
 have h1:=lX ns k hm
 have h2:=nz ns k hm
 refine⟨(h_ ns k m).toNat,by omega,?_⟩
 rw[ny ns k m hk hm]
 have:h_ ns k m=Int.ofNat (h_ ns k m).toNat:=by show _=(((h_ ns k m).toNat:Nat):Int);omega
 rw[<- this]
theorem o_(hm:m<=1000){ρ':aN}(h:fe ρ=some ((iD m),q,ρ')):b6 (aa fe ag) ρ=some (bW m,ρ'):=by
 have b1:(-1000:Int)<=Int.ofNat m:=by show(-1000:Int)<=m;omega
 have b2:Int.ofNat m<=1000:=by show(m:Int)<=1000;omega
 simp only[b6,aa,ag,h]
 rw[Qe ⟨b1,b2⟩]
 rfl
section
variable {n:Nat}{f:Nat->Nat->Nat}(L:aI n f){z:Nat}(hz:z<n)(bz:∀ j,j<n->f z j=j)
include L hz bz
theorem Py(ns:List Int)(t:Int)(h0:0<=t)(hp:1<=p)(m:Nat)(hm:m<=7) :
  ∃ W:List (Nat×Nat×(Nat->Nat)),W.length=m/\(∀ w∈W,sV n f p w)/\∃ a b c,da (aP 6) u5 (bW m) [(n0 ns),some (.int t,9),(t9 n f),(b9 false),(i9 p),some (.lst [],1),none,none,none,none,none]=some (.nx [(n0 ns),some (.int t,9),(t9 n f),(b9 false),(i9 p),some (.lst (W.map (cy n)),1),a,b,c,none,none]):=by
 have vh:(0:Int)<Int.ofNat p:=by show(0:Int)<(p:Int);omega
 obtain⟨ρ',e,W,hl,aF,a,b,c,rfl⟩:=j6 (pt:=aP 6) (body:=u5) (bW m) (fun i ρ=>∃ W:List (Nat×Nat×(Nat->Nat)),W.length=i/\(∀ w∈W,sV n f p w)/\∃ a b c,ρ=[(n0 ns),some (.int t,9),(t9 n f),(b9 false),(i9 p),some (.lst (W.map (cy n)),1),a,b,c,none,none]) [(n0 ns),some (.int t,9),(t9 n f),(b9 false),(i9 p),some (.lst [],1),none,none,none,none,none] (fun i hi ρ ai=>by
  obtain⟨W,hl,aF,a,b,c,hr⟩:=ai
  subst hr
  have cR:i<m:=by rw[eh]at hi;exact hi
  obtain⟨x,hx⟩:∃ x:Int,x=t+10+22*Int.ofNat i:=⟨_,rfl⟩
  have uP:0<=x:=by have:Int.ofNat i=(i:Int):=rfl;omega
  obtain⟨d,hd,hR⟩:=Pf L hz bz ns (x+2) (by omega)
  obtain⟨s,hs,es⟩:=o9 ns uP vh
  obtain⟨g,hg,eg⟩:=o9 ns (show 0<=x+1 by omega) vh
  have k_:s<p:=by have:(s:Int)<(p:Int):=hs;omega
  have oz:g<p:=by have:(g:Int)<(p:Int):=hg;omega
  have nY:sV n f p (s,g,aI.lr n f z d):=⟨k_,oz,fun i _=>L.m9 hz bz hd i,fun x y hx hy e=>L.j9 hz bz hd hx hy e⟩
  generalize aI.lr n f z d=r at *
  have hW:W.length<=1000:=by omega
  refine⟨[(n0 ns),some (.int t,9),(t9 n f),(b9 false),(i9 p),some (.lst (W.map (cy n)),1),(i9 i),b,c,none,none],[(n0 ns),some (.int t,9),(t9 n f),(b9 false),(i9 p),some (.lst ((W++[(s,g,r)]).map (cy n)),1),(i9 i),some (.int x,9),(r9 n r),none,none],by rw[qg];simp,.inl ?_,W++[(s,g,r)],by simp[hl],fun w hw=>?_,_,_,_,rfl⟩
  ·unfold u5
   refine(bb (ρ1:=[(n0 ns),some (.int t,9),(t9 n f),(b9 false),(i9 p),some (.lst (W.map (cy n)),1),(i9 i),some (.int x,9),c,none,none]) (by rw[hx];simp[-Int.ofNat_eq_natCast])).trans ?_
   refine(bb (ρ1:=[(n0 ns),some (.int t,9),(t9 n f),(b9 false),(i9 p),some (.lst (W.map (cy n)),1),(i9 i),some (.int x,9),(r9 n r),none,none]) (by simp[-Int.ofNat_eq_natCast,hR])).trans ?_
   refine(bb (ρ1:=[(n0 ns),some (.int t,9),(t9 n f),(b9 false),(i9 p),some (.lst (W.map (cy n)),1),(i9 i),some (.int x,9),(r9 n r),none,none]) (by simp[-Int.ofNat_eq_natCast])).trans ?_
   simp[-Int.ofNat_eq_natCast,es,eg,hW,cy]
  ·rcases QN.mp hw with h|h
   ·exact aF w h
   ·rw[QB.mp h];exact nY) ⟨[],rfl,(fun _ z=>nomatch z),none,none,none,rfl⟩
 rw[eh]at hl
 exact⟨W,hl,aF,a,b,c,e⟩
theorem Pz(ns:List Int)(t:Int)(h0:0<=t)(hp:1<=p)(m:Nat)(hm:m<=3)(W:OD)(a b c:OD) :
  ∃ B:List (Nat×Nat),B.length=m/\(∀ w∈B,vd n p w)/\∃ a' h,da (aP 6) u4 (bW m) [(n0 ns),some (.int t,9),(t9 n f),(b9 false),(i9 p),W,a,b,c,some (.lst [],1),none]=some (.nx [(n0 ns),some (.int t,9),(t9 n f),(b9 false),(i9 p),W,a',b,c,some (.lst (B.map df),1),h]):=by
 have vh:(0:Int)<Int.ofNat p:=by show(0:Int)<(p:Int);omega
 have l3:(0:Int)<Int.ofNat n:=by have:=L.lo;show(0:Int)<(n:Int);omega
 obtain⟨ρ',e,B,hl,aF,a',h,rfl⟩:=j6 (pt:=aP 6) (body:=u4) (bW m) (fun i ρ=>∃ B:List (Nat×Nat),B.length=i/\(∀ w∈B,vd n p w)/\∃ a h,ρ=[(n0 ns),some (.int t,9),(t9 n f),(b9 false),(i9 p),W,a,b,c,some (.lst (B.map df),1),h]) [(n0 ns),some (.int t,9),(t9 n f),(b9 false),(i9 p),W,a,b,c,some (.lst [],1),none] (fun i hi ρ ai=>by
  obtain⟨B,hl,aF,a,h,hr⟩:=ai
  subst hr
  have cR:i<m:=by rw[eh]at hi;exact hi
  have PB:Int.ofNat i=(i:Int):=rfl
  obtain⟨v,hv,ev⟩:=o9 ns (show 0<=t+3+2*Int.ofNat i by omega) l3
  obtain⟨g,hg,eg⟩:=o9 ns (show 0<=t+4+2*Int.ofNat i by omega) vh
  have vS:v<n:=by have:(v:Int)<(n:Int):=hv;omega
  have oz:g<p:=by have:(g:Int)<(p:Int):=hg;omega
  have hB:B.length<=1000:=by omega
  refine⟨[(n0 ns),some (.int t,9),(t9 n f),(b9 false),(i9 p),W,(i9 i),b,c,some (.lst (B.map df),1),h],[(n0 ns),some (.int t,9),(t9 n f),(b9 false),(i9 p),W,(i9 i),b,c,some (.lst ((B++[(g,v)]).map df),1),(i9 v)],by rw[qg];simp,.inl ?_,B++[(g,v)],by simp[hl],fun w hw=>?_,_,_,rfl⟩
  ·unfold u4
   refine(bb (ρ1:=[(n0 ns),some (.int t,9),(t9 n f),(b9 false),(i9 p),W,(i9 i),b,c,some (.lst (B.map df),1),(i9 v)]) (by simp[-Int.ofNat_eq_natCast,ja,ev])).trans ?_
   simp[-Int.ofNat_eq_natCast,eg,hB,df]
  ·rcases QN.mp hw with h|h
   ·exact aF w h
   ·rw[QB.mp h];exact⟨oz,vS⟩) ⟨[],rfl,(fun _ z=>nomatch z),a,none,rfl⟩
 rw[eh]at hl
 exact⟨B,hl,aF,a',h,e⟩
theorem PC(ns:List Int)(t:Int)(h0:0<=t):∃ C:aW,C.Ok n f/\C.p<=5/\C.W.length<=7/\C.B.length<=3/\sy [ck ns,.int t,aY n f,.bl false]=(c9 n C):=by
 obtain⟨p0,Sj,ep⟩:=o9 ns h0 (m:=5) (by decide)
 obtain⟨mw,Sk,ew⟩:=o9 ns (show 0<=t+1 by omega) (m:=8) (by decide)
 obtain⟨mb,Sl,eb⟩:=o9 ns (show 0<=t+2 by omega) (m:=4) (by decide)
 obtain⟨p,hp⟩:∃ p:Nat,p=p0+1:=⟨_,rfl⟩
 have n9:(1:Int)+Int.ofNat p0=Int.ofNat p:=by show(1:Int)+(p0:Int)=(p:Int);omega
 obtain⟨W,So,y0,a,b,c,eW⟩:=Py L hz bz ns t h0 (p:=p) (by omega) mw (by omega)
 obtain⟨B,Sq,y1,a',h,eB⟩:=Pz L hz bz ns t h0 (p:=p) (by omega) mb (by omega) (some (.lst (W.map (cy n)),1)) a b c
 refine⟨⟨p,W,B⟩,⟨by show 1<=p;omega,by show p<=8;omega,by show W.length<=60;omega,by show B.length<=60;omega,y0,y1⟩,by show p<=5;omega,by show W.length<=7;omega,by show B.length<=3;omega,?_⟩
 unfold sy CV
 refine fw ?_
 show aC _ _ [(n0 ns),some (.int t,9),(t9 n f),(b9 false),none,none,none,none,none,none,none]=_
 refine(bb (ρ1:=[(n0 ns),some (.int t,9),(t9 n f),(b9 false),(i9 p),none,none,none,none,none,none]) (by simp[-Int.ofNat_eq_natCast,ep,n9])).trans ?_
 refine(bb (ρ1:=[(n0 ns),some (.int t,9),(t9 n f),(b9 false),(i9 p),some (.lst [],1),none,none,none,none,none]) (by simp)).trans ?_
 refine(bb ((jv (ρ1:=[(n0 ns),some (.int t,9),(t9 n f),(b9 false),(i9 p),some (.lst [],1),none,none,none,none,none]) (o_ (m:=mw) (by omega) (q:=9) (by simp[-Int.ofNat_eq_natCast,ew]))).trans eW)).trans ?_
 refine(bb (ρ1:=[(n0 ns),some (.int t,9),(t9 n f),(b9 false),(i9 p),some (.lst (W.map (cy n)),1),a,b,c,some (.lst [],1),none]) (by simp)).trans ?_
 refine(bb ((jv (ρ1:=[(n0 ns),some (.int t,9),(t9 n f),(b9 false),(i9 p),some (.lst (W.map (cy n)),1),a,b,c,some (.lst [],1),none]) (o_ (m:=mb) (by omega) (q:=9) (by simp[-Int.ofNat_eq_natCast,eb]))).trans eB)).trans ?_
 simp[-Int.ofNat_eq_natCast,cm]
end
def pb (b:Nat×Nat):hZ:=(b.1,fun _=>b.2)
def sW (w:Nat×Nat×(Nat->Nat)):hZ:=(w.2.1,fun v=>w.2.2 (gv v w.1))
def dU (C:aW):List hZ:=C.B.map pb++C.W.map sW
section
variable {n:Nat}{f:Nat->Nat->Nat}(L:aI n f){C:aW}(hC:C.Ok n f)
include L hC
theorem y2:∀ s∈dU C,je n C.p f s:=fun s hs=>by
 unfold dU at hs
 rcases QN.mp hs with h|h
 ·obtain⟨b,hb,rfl⟩:=QF.mp h
  have k:=hC.bs b hb
  exact⟨k.1,fun _ _=>k.2,fun _ _ _ _ _=>L.idem _ k.2⟩
 ·obtain⟨w,hw,rfl⟩:=QF.mp h
  have k:=hC.ws w hw
  exact⟨k.2.1,fun v hv=>k.2.2.1 _ (hv.gv k.1),fun u v hu hv e=>k.2.2.2 _ _ (hu.gv k.1) (hv.gv k.1) (e _ k.1)⟩
end
abbrev Sn:=Bool×Nat
def ah (s:Sn):D:=.tup [.str (if s.1 then "begin" else "way"),(iD s.2)]
@[simp] theorem Sr{s:Sn}:(ah s).bY=false:=rfl
def okN (C:aW)(s:Sn):Prop:=s.2<(if s.1 then C.B.length else C.W.length)
def bc (C:aW)(s:Sn):hZ:=if s.1 then pb (C.B.getD s.2 (0,0))else sW (C.W.getD s.2 (0,0,id))
def bG (C:aW):List Sn:=(List.range C.B.length).map (fun k=>(true,k))++(List.range C.W.length).map (fun k=>(false,k))
theorem qh(C:aW):∀ s∈bG C,okN C s:=fun s hs=>by
 unfold bG at hs
 rcases QN.mp hs with h|h
 ·obtain⟨k,hk,rfl⟩:=QF.mp h
  exact QP.mp hk
 ·obtain⟨k,hk,rfl⟩:=QF.mp h
  exact QP.mp hk
theorem vi{α β:Type}(l:List α)(d:α)(g:α->β):(List.range l.length).map (fun k=>g (l.getD k d))=l.map g:=by
 apply Q8
 intro k
 by_cases hk:k<l.length
 ·simp[hk]
 ·rw[Qu (by simp;omega),Qu (by simp;omega)]
theorem y3(C:aW):(bG C).map (bc C)=dU C:=by
 unfold bG dU
 rw[Zi,Zj,Zj,<- vi C.B (0,0) pb,<- vi C.W (0,0,id) sW]
 rfl
theorem vj{C:aW}{s:Sn}(h:okN C s):bc C s∈dU C:=by
 unfold okN at h
 unfold bc dU
 cases hb:s.1 with
 | true=>
  rw[hb]at h
  have h':s.2<C.B.length:=h
  refine QM _ (QF.mpr ⟨C.B.getD s.2 (0,0),?_,rfl⟩)
  rw[Qq,Qj h']
  exact QW h'
 | false=>
  rw[hb]at h
  have h':s.2<C.W.length:=h
  refine Qi _ (QF.mpr ⟨C.W.getD s.2 (0,0,id),?_,rfl⟩)
  rw[Qq,Qj h']
  exact QW h'
theorem DT:cK (.str "begin") (.str "begin")=some (.bl true):=by
 have h:eH (.str "begin")=true:=by decide +kernel
 unfold cK
 rw[Qe ⟨h,h⟩]
 rfl
theorem DU:cK (.str "way") (.str "begin")=some (.bl false):=by
 have h:eH (.str "begin")=true:=by decide +kernel
 have h':eH (.str "way")=true:=by decide +kernel
 have e:lC (.str "way") (.str "begin")=false:=by decide +kernel
 unfold cK
 rw[Qe ⟨h',h⟩,e]
theorem PF(hp:p<v.length):L3.lM (ao v) none (some (Int.ofNat p))=ao (v.take p):=by
 unfold L3.lM
 have e1:HT.aZ (ao v).length 0 none=0:=rfl
 have e2:HT.aZ (ao v).length (ao v).length (some (Int.ofNat p))=p:=by
  rw[fM]
  have:¬ ((p:Int)<0):=by omega
  simp[HT.aZ,this]
  omega
 rw[e1,e2,JT,Nat.sub_zero]
 simp only[ao,List.map_take]
theorem PH(hp:p<v.length):L3.lM (ao v) (some (Int.ofNat p+1)) none=ao (v.drop (p+1)):=by
 unfold L3.lM
 have e1:HT.aZ (ao v).length 0 (some (Int.ofNat p+1))=p+1:=by
  rw[fM]
  have:¬ ((p:Int)+1<0):=by omega
  simp[HT.aZ,this]
  omega
 have e2:HT.aZ (ao v).length (ao v).length none=(ao v).length:=rfl
 rw[e1,e2,JH (by rw[Zy];exact Qc _)]
 simp only[ao,List.map_drop]
theorem PJ{x:Nat}(hp:p<v.length):ao (v.take p)++[(iD x)]++ao (v.drop (p+1))=ao (v.set p x):=by
 rw[List.set_eq_take_append_cons_drop,Qe hp]
 simp[ao]
def Rz (f:Nat->Nat->Nat)(C:aW):List Nat->List Sn->Prop
 | _,[]=>True
 | v,s::R=>bh f v (bc C s)≠v/\Rz f C (bh f v (bc C s)) R
theorem Rz.snoc{C:aW}{s:Sn}:∀ {R:List Sn} {v:List Nat},Rz f C v R->bh f ((R.map (bc C)).foldl (bh f) v) (bc C s)≠(R.map (bc C)).foldl (bh f) v->Rz f C v (R++[s])
 | [],_,_,h=>⟨h,trivial⟩
 | _::_,_,r,h=>⟨r.1,Rz.snoc r.2 h⟩
section
variable {n:Nat}{f:Nat->Nat->Nat}(L:aI n f){C:aW}(hC:C.Ok n f)
include L hC
theorem uG(hv:Vn n C.p v){s:Sn}(hs:okN C s):sG [cm n C,.tup (ao v),ah s]=some (.tup [.int (Int.ofNat (bc C s).1),(iD ((bc C s).2 v))],9):=by
 obtain⟨b,k⟩:=s
 unfold okN at hs
 unfold sG C_
 have c1:bJ (cm n C) 1=some (.tup (C.W.map (cy n))):=rfl
 have c2:bJ (cm n C) 2=some (.tup (C.B.map df)):=rfl
 cases b with
 | true=>
  have hk:k<C.B.length:=hs
  have s0:bJ (ah (true,k)) 0=some (.str "begin"):=rfl
  have s1:bJ (ah (true,k)) 1=some (iD k):=rfl
  have e:bJ (.tup (C.B.map df)) (Int.ofNat k)=some (df (C.B.getD k (0,0))):=oJ (by rw[Qo,Qj hk];simp[hk])
  have jM:bc C (true,k)=pb (C.B.getD k (0,0)):=rfl
  rw[jM]
  generalize C.B.getD k (0,0)=b at *
  generalize ah (true,k)=sd at *
  have hb:df b=.tup [.int (Int.ofNat (pb b).1),(iD ((pb b).2 v))]:=rfl
  rw[<- hb]
  simp[-Int.ofNat_eq_natCast,s0,s1,c2,e,DT]
 | false=>
  have hk:k<C.W.length:=hs
  have s0:bJ (ah (false,k)) 0=some (.str "way"):=rfl
  have s1:bJ (ah (false,k)) 1=some (iD k):=rfl
  have e:bJ (.tup (C.W.map (cy n))) (Int.ofNat k)=some (cy n (C.W.getD k (0,0,id))):=oJ (by rw[Qo,Qj hk];simp[hk])
  have jM:bc C (false,k)=sW (C.W.getD k (0,0,id)):=rfl
  have hw:C.W.getD k (0,0,id)∈C.W:=by
   rw[Qq,Qj hk]
   exact QW hk
  have ok:=hC.ws _ hw
  rw[jM]
  generalize C.W.getD k (0,0,id)=w at *
  have w0:bJ (cy n w) 0=some (iD w.1):=rfl
  have w1:bJ (cy n w) 1=some (iD w.2.1):=rfl
  have w2:bJ (cy n w) 2=some (eT n w.2.2):=rfl
  have a0:=Cz (v:=v) (i:=w.1) (by rw[hv.len];exact ok.1)
  have a1:=sg (r:=w.2.2) (hv.gv ok.1)
  have PK:ah (false,k)=ah (false,k):=rfl
  generalize PL:ah (false,k)=sd at *
  have hL:sd.bY=false:=by rw[<- PL];rfl
  show _=some (D.tup [(iD w.2.1),(iD (w.2.2 (gv v w.1)))],9)
  generalize PM:cy n w=wt at *
  have PN:wt.bY=false:=by rw[<- PM];rfl
  simp[-Int.ofNat_eq_natCast,s0,s1,c1,e,DU,w0,w1,w2,a0,a1,hL,PN]
theorem PR(hv:Vn n C.p v){s:Sn}(hs:okN C s):sH [aY n f,cm n C,.tup (ao v),ah s]=(v9 (bh f v (bc C s))):=by
 have ok:=y2 L hC _ (vj hs)
 have hp:=uG L hC hv hs
 have hx:=ok.lt v hv
 have hg:=hv.gv ok.pl
 have bV:(bc C s).1<v.length:=by rw[hv.len];exact ok.pl
 have qk:=hC.p8
 have hl:=hv.len
 unfold bh
 generalize (bc C s).1=g at *
 generalize (bc C s).2 v=x at *
 have a0:=Cz bV
 have a1:=r_ (f:=f) hg
 have a2:=uR (f:=f) (i:=gv v g) hx
 have s1:=PF bV
 have s2:=PH bV
 have s3:=PJ (x:=f (gv v g) x) bV
 have l1:(ao (v.take g)).length=g:=by rw[fM,Zc];omega
 have l2:(ao (v.drop (g+1))).length=v.length-(g+1):=by rw[fM,Zy]
 unfold sH Dd
 refine fw ?_
 show aC _ _ [(t9 n f),(c9 n C),(v9 v),some (ah s,9),none,none,none]=_
 refine(bb (ρ1:=[(t9 n f),(c9 n C),(v9 v),some (ah s,9),some (.tup [(iD g),(iD x)],9),none,none]) (by simp[-Int.ofNat_eq_natCast,hp])).trans ?_
 have t0:bJ (.tup [(iD g),(iD x)]) 0=some (iD g):=rfl
 have t1:bJ (.tup [(iD g),(iD x)]) 1=some (iD x):=rfl
 refine(bb (ρ1:=[(t9 n f),(c9 n C),(v9 v),some (ah s,9),some (.tup [(iD g),(iD x)],9),(i9 g),none]) (by simp[-Int.ofNat_eq_natCast,t0])).trans ?_
 refine(bb (ρ1:=[(t9 n f),(c9 n C),(v9 v),some (ah s,9),some (.tup [(iD g),(iD x)],9),(i9 g),(i9 (f (gv v g) x))]) (by simp[-Int.ofNat_eq_natCast,a0,a1,a2,t1])).trans ?_
 rw[<- s3]
 have m1:(ao (v.take g)).length+1<=1000:=by omega
 have m2:(ao (v.take g)).length+1+(ao (v.drop (g+1))).length<=1000:=by omega
 generalize ao (v.take g)=u1 at *
 generalize ao (v.drop (g+1))=u2 at *
 have PU:u1.length<=999:=by omega
 simp[-Int.ofNat_eq_natCast,s1,s2,m1,PU,m2]
structure gy (n:Nat) (f:Nat->Nat->Nat) (p:Nat) (l:List hZ) (v u:List Nat):Prop where
 V:Vn n p u
 cl:m_ f l u
 up:dQ f p v u
 le:∀ a,Vn n p a->m_ f l a->dQ f p v a->dQ f p u a
theorem PV(hv:Vn n C.p v){l:List Sn}(hl:∀ s∈l,okN C s)(hlen:l.length<=1000) :
  ∃ (u:List Nat) (R:List Sn),gy n f C.p (l.map (bc C)) v u/\(∀ s∈R,s∈l)/\(R.map (bc C)).foldl (bh f) v=u/\(aI.mu n f u+R.length<=aI.mu n f v/\Rz f C v R)/\nk [aY n f,cm n C,.lst (l.map ah),.tup (ao v)]=some (.tup [.tup (ao u),.lst (R.map ah)],9):=by
 have qk:=hC.p8
 have PX:=L.hi
 have Ss:=aI.si (f:=f) hv
 have PY:C.p*n<=8*16:=Nat.mul_le_mul qk PX
 have hS:∀ t∈l.map (bc C),je n C.p f t:=fun t ht=>by
  obtain⟨s,hs,rfl⟩:=QF.mp ht
  exact y2 L hC _ (vj (hl s hs))
 have round:∀ (w:List Nat) (R:List Sn) (a:OD) (j:(OD×OD)),Vn n C.p w->(∀ s∈R,s∈l)->(R.map (bc C)).foldl (bh f) v=w->(aI.mu n f w+R.length<=aI.mu n f v/\Rz f C v R)->
   ∃ (R':List Sn) (j':(OD×OD)),(∀ s∈R',s∈l)/\(R'.map (bc C)).foldl (bh f) v=(l.map (bc C)).foldl (bh f) w/\(aI.mu n f ((l.map (bc C)).foldl (bh f) w)+R'.length<=aI.mu n f v/\Rz f C v R') /\
    da (aP 6) sI (l.map ah) [(t9 n f),(c9 n C),some (.lst (l.map ah),0),(v9 w),some (.lst ((R).map ah),1),a,(j).1,(j).2]=some (.nx [(t9 n f),(c9 n C),some (.lst (l.map ah),0),(v9 ((l.map (bc C)).foldl (bh f) w)),some (.lst ((R').map ah),1),a,(j').1,(j').2]):=fun w R a j hw h1 h2 h3=>by
  obtain⟨j',e,i1,i2,i3,i4⟩:=Cw (J:=(OD×OD)) (pt:=aP 6) (body:=sI) ah (fun(σ:List Nat×List Sn) j=>[(t9 n f),(c9 n C),some (.lst (l.map ah),0),(v9 σ.1),some (.lst ((σ.2).map ah),1),a,(j).1,(j).2]) (fun σ s=>(bh f σ.1 (bc C s),if bh f σ.1 (bc C s)=σ.1 then σ.2 else σ.2++[s]))
   (fun σ=>Vn n C.p σ.1/\(∀ s∈σ.2,s∈l)/\(σ.2.map (bc C)).foldl (bh f) v=σ.1/\(aI.mu n f σ.1+σ.2.length<=aI.mu n f v/\Rz f C v σ.2)) l (w,R) j ⟨hw,h1,h2,h3⟩ (fun s hs σ j ai=>by
    obtain⟨k1,k2,k3,k4⟩:=ai
    obtain⟨x,Q⟩:=σ
    dsimp only at k1 k2 k3 k4 ⊢
    have ok:=y2 L hC _ (vj (hl s hs))
    have hb:=PR L hC k1 (hl s hs)
    have k9:=L.gT ok k1
    by_cases he:bh f x (bc C s)=x
    ·rw[Qe he]
     refine⟨⟨k9,k2,by rw[he];exact k3,by rw[he];exact k4⟩,[(t9 n f),(c9 n C),some (.lst (l.map ah),0),(v9 x),some (.lst ((Q).map ah),1),a,(((some (ah s,9),j.2):(OD×OD))).1,(((some (ah s,9),j.2):(OD×OD))).2],(some (ah s,9),(v9 (bh f x (bc C s)))),by simp,?_⟩
     unfold sI
     refine(bb (ρ1:=[(t9 n f),(c9 n C),some (.lst (l.map ah),0),(v9 x),some (.lst ((Q).map ah),1),a,(((some (ah s,9),(v9 (bh f x (bc C s)))):(OD×OD))).1,(((some (ah s,9),(v9 (bh f x (bc C s)))):(OD×OD))).2]) (by simp[hb])).trans ?_
     refine(bb (ρ1:=[(t9 n f),(c9 n C),some (.lst (l.map ah),0),(v9 x),some (.lst ((Q).map ah),1),a,(((some (ah s,9),(v9 (bh f x (bc C s)))):(OD×OD))).1,(((some (ah s,9),(v9 (bh f x (bc C s)))):(OD×OD))).2]) (by rw[he];simp[uX])).trans ?_
     simp
    ·rw[Qh he]
     have dt:=L.nc k1 k9 (L.iA ok k1) (fun z=>he z.symm)
     refine⟨⟨k9,fun t ht=>?_,?_,⟨by rw[Qt];show _+(Q.length+1)<=_;have:=k4.1;omega,k4.2.snoc (by rw[k3];exact he)⟩⟩,[(t9 n f),(c9 n C),some (.lst (l.map ah),0),(v9 x),some (.lst ((Q).map ah),1),a,(((some (ah s,9),j.2):(OD×OD))).1,(((some (ah s,9),j.2):(OD×OD))).2],(some (ah s,9),(v9 (bh f x (bc C s)))),by simp,?_⟩
     ·rcases QN.mp ht with h|h
      ·exact k2 t h
      ·rw[QB.mp h];exact hs
     ·rw[Zi,Jv,k3];rfl
     ·unfold sI
      have hQ:Q.length<=1000:=by have:=k4.1;omega
      refine(bb (ρ1:=[(t9 n f),(c9 n C),some (.lst (l.map ah),0),(v9 x),some (.lst ((Q).map ah),1),a,(((some (ah s,9),(v9 (bh f x (bc C s)))):(OD×OD))).1,(((some (ah s,9),(v9 (bh f x (bc C s)))):(OD×OD))).2]) (by simp[hb])).trans ?_
      refine(bb (ρ1:=[(t9 n f),(c9 n C),some (.lst (l.map ah),0),(v9 x),some (.lst (((Q++[s])).map ah),1),a,(((some (ah s,9),(v9 (bh f x (bc C s)))):(OD×OD))).1,(((some (ah s,9),(v9 (bh f x (bc C s)))):(OD×OD))).2]) (by
       generalize bh f x (bc C s)=y at *
       simp[uX,he,hQ])).trans ?_
      simp)
  have ef:∀ (l:List Sn) (σ:List Nat×List Sn),(l.foldl (fun(σ:List Nat×List Sn) s=>(bh f σ.1 (bc C s),if bh f σ.1 (bc C s)=σ.1 then σ.2 else σ.2++[s])) σ).1=(l.map (bc C)).foldl (bh f) σ.1:=by
   intro l
   induction l with
   | nil=>intro σ;rfl
   | cons s l ih=>intro σ;exact ih _
  have DV:=ef l (w,R)
  generalize l.foldl (fun(σ:List Nat×List Sn) s=>(bh f σ.1 (bc C s),if bh f σ.1 (bc C s)=σ.1 then σ.2 else σ.2++[s])) (w,R)=σ at *
  obtain⟨x,Q⟩:=σ
  dsimp only at DV i1 i2 i3 i4 e
  have PZ:x=(l.map (bc C)).foldl (bh f) w:=DV
  subst PZ
  exact⟨Q,j',i2,i3,i4,e⟩
 obtain⟨ρ',e,u,R,j,hu,P0,P1,P2,rfl⟩:=Ml (c:=cG (e2 fJ (ab 3) (ab 5))) (b:=u7)
  (Q:=fun ρ=>∃ (u:List Nat) (R:List Sn),∃ j:(OD×OD),gy n f C.p (l.map (bc C)) v u/\(∀ s∈R,s∈l)/\(R.map (bc C)).foldl (bh f) v=u/\(aI.mu n f u+R.length<=aI.mu n f v/\Rz f C v R)/\ρ=[(t9 n f),(c9 n C),some (.lst (l.map ah),0),(v9 u),some (.lst ((R).map ah),1),(v9 u),(j).1,(j).2])
  (fun k ρ=>∃ (w:List Nat) (R:List Sn),∃ j:(OD×OD),∃ a:D,Vn n C.p w/\dQ f C.p v w/\(∀ x,Vn n C.p x->m_ f (l.map (bc C)) x->dQ f C.p v x->dQ f C.p w x)/\(∀ s∈R,s∈l)/\(R.map (bc C)).foldl (bh f) v=w/\(aI.mu n f w+R.length<=aI.mu n f v/\Rz f C v R) /\
    ((a=.aS/\k=aI.mu n f w+1)\/∃ y,a=.tup (ao y)/\Vn n C.p y/\w=(l.map (bc C)).foldl (bh f) y/\k=aI.mu n f w+(if y=w then 0 else 1))/\ρ=[(t9 n f),(c9 n C),some (.lst (l.map ah),0),(v9 w),some (.lst ((R).map ah),1),some (a,9),(j).1,(j).2])
  (k:=aI.mu n f v+1) (ρ:=[(t9 n f),(c9 n C),some (.lst (l.map ah),0),(v9 v),some (.lst ((([]:List Sn)).map ah),1),some (.aS,9),(((none,none):(OD×OD))).1,(((none,none):(OD×OD))).2]) (by omega) ⟨v,[],(none,none),.aS,hv,L.dy hv,fun x _ _ h=>h,(fun _ z=>nomatch z),rfl,⟨Qc _,trivial⟩,.inl ⟨rfl,rfl⟩,rfl⟩ (fun k ρ ai=>by
   obtain⟨w,R,j,a,hw,h1,h2,h3,h4,h5,h6,hr⟩:=ai
   subst hr
   have next:(cG (e2 fJ (ab 3) (ab 5)) [(t9 n f),(c9 n C),some (.lst (l.map ah),0),(v9 w),some (.lst ((R).map ah),1),some (a,9),(j).1,(j).2]=some (true,[(t9 n f),(c9 n C),some (.lst (l.map ah),0),(v9 w),some (.lst ((R).map ah),1),some (a,9),(j).1,(j).2]))->aI.mu n f w+1<=k->∃ ρ1 ρ2 k',cG (e2 fJ (ab 3) (ab 5)) [(t9 n f),(c9 n C),some (.lst (l.map ah),0),(v9 w),some (.lst ((R).map ah),1),some (a,9),(j).1,(j).2]=some (true,ρ1)/\u7 ρ1=some (.nx ρ2)/\k'<k/\∃ (w:List Nat) (R:List Sn),∃ j:(OD×OD),∃ a:D,Vn n C.p w/\dQ f C.p v w/\(∀ x,Vn n C.p x->m_ f (l.map (bc C)) x->dQ f C.p v x->dQ f C.p w x)/\(∀ s∈R,s∈l)/\(R.map (bc C)).foldl (bh f) v=w/\(aI.mu n f w+R.length<=aI.mu n f v/\Rz f C v R) /\
   ((a=.aS/\k'=aI.mu n f w+1)\/∃ y,a=.tup (ao y)/\Vn n C.p y/\w=(l.map (bc C)).foldl (bh f) y/\k'=aI.mu n f w+(if y=w then 0 else 1))/\ρ2=[(t9 n f),(c9 n C),some (.lst (l.map ah),0),(v9 w),some (.lst ((R).map ah),1),some (a,9),(j).1,(j).2]:=fun ht hk=>by
    obtain⟨R',j',r1,r2,r3,r4⟩:=round w R ((v9 w)) j hw h3 h4 h5
    have oH:=L.gu hS hw
    have up:=L.eX hS hw
    refine⟨_,[(t9 n f),(c9 n C),some (.lst (l.map ah),0),(v9 ((l.map (bc C)).foldl (bh f) w)),some (.lst ((R').map ah),1),(v9 w),(j').1,(j').2],aI.mu n f ((l.map (bc C)).foldl (bh f) w)+(if w=(l.map (bc C)).foldl (bh f) w then 0 else 1),ht,?_,?_,_,R',j',.tup (ao w),oH,L.fY hv hw oH h1 up,fun x hx cx P4=>L.dR hx hS hw cx (h2 x hx cx P4),r1,r2,r3,.inr ⟨w,rfl,hw,rfl,rfl⟩,rfl⟩
    ·unfold u7
     refine(bb (ρ1:=[(t9 n f),(c9 n C),some (.lst (l.map ah),0),(v9 w),some (.lst ((R).map ah),1),(v9 w),(j).1,(j).2]) (by simp)).trans ?_
     exact(jv (ds:=l.map ah) (ρ1:=[(t9 n f),(c9 n C),some (.lst (l.map ah),0),(v9 w),some (.lst ((R).map ah),1),(v9 w),(j).1,(j).2]) (by simp[hlen])).trans r4
    ·by_cases he:w=(l.map (bc C)).foldl (bh f) w
     ·rw[Qe he,<- he];omega
     ·rw[Qh he]
      have:=L.nc hw oH up he
      omega
   rcases h6 with⟨rfl,hk⟩|⟨y,rfl,hy,P5,hk⟩
   ·refine .inr (next ?_ (by omega))
    have iP:fJ (.tup (ao w)) .aS=some (.bl true):=by
     unfold fJ
     rw[Qe ⟨(lS w).ok,(Sh.aS (k:=0)).ok⟩]
     rfl
    simp[iP]
   ·by_cases y4:y=w
    ·subst y4
     refine .inl ⟨[(t9 n f),(c9 n C),some (.lst (l.map ah),0),(v9 y),some (.lst ((R).map ah),1),(v9 y),(j).1,(j).2],by simp[uX],y,R,j,⟨hw,(L.dJ hS hw).mp P5.symm,h1,h2⟩,h3,h4,h5,rfl⟩
    ·rw[Qh y4]at hk
     refine .inr (next ?_ (by omega))
     have:¬ (w=y):=fun z=>y4 z.symm
     simp[uX,this])
 refine⟨u,R,hu,P0,P1,P2,?_⟩
 unfold nk De
 refine fw ?_
 show aC _ _ [(t9 n f),(c9 n C),some (.lst (l.map ah),0),(v9 v),none,none,none,none]=_
 refine(bb (ρ1:=[(t9 n f),(c9 n C),some (.lst (l.map ah),0),(v9 v),some (.lst [],1),none,none,none]) (by simp)).trans ?_
 refine(bb (ρ1:=[(t9 n f),(c9 n C),some (.lst (l.map ah),0),(v9 v),some (.lst ((([]:List Sn)).map ah),1),some (.aS,9),(((none,none):(OD×OD))).1,(((none,none):(OD×OD))).2]) (by simp)).trans ?_
 refine(bb e).trans ?_
 simp
theorem DW(hv:Vn n C.p v){l:List Sn}(hl:∀ s∈l,okN C s)(hlen:l.length<=1000) :
  ∃ (u:List Nat) (R:List Sn),gy n f C.p (l.map (bc C)) v u/\(∀ s∈R,s∈l)/\(R.map (bc C)).foldl (bh f) v=u/\aI.mu n f u+R.length<=aI.mu n f v/\nk [aY n f,cm n C,.lst (l.map ah),.tup (ao v)]=some (.tup [.tup (ao u),.lst (R.map ah)],9):=by
 obtain⟨u,R,h1,h2,h3,h4,e⟩:=PV L hC hv hl hlen
 exact⟨u,R,h1,h2,h3,h4.1,e⟩
end
theorem P6(a b:D):hV ["begin","way"] [a,b] "begin" = some a:=by unfold hV;rw[Qe rfl]
theorem P7(a b:D):hV ["begin","way"] [a,b] "way" = some b:=by
 unfold hV
 rw[Qh (by decide)]
 unfold hV
 rw[Qe rfl]
section
variable {n:Nat}{f:Nat->Nat->Nat}{C:aW}
def y6 (C:aW)(s:Sn):Bool:=decide (s.2<(if s.1 then C.B.length else C.W.length))
theorem P8{s:Sn}:y6 C s=true ↔ okN C s:=decide_eq_true_iff
theorem DX(m k:Nat):fZ m (iD k)=decide (k<m):=by
 show(decide ((0:Int)<=(k:Int))&&decide ((k:Int)<(m:Int)))=_
 simp
theorem P9(s:Sn):sQ [ah s,.eM ["begin","way"] [(iD C.B.length),(iD C.W.length)]]=(b9 (y6 C s)):=by
 obtain⟨b,k⟩:=s
 have l2:fJ (.int 2) (.int 2)=some (.bl false):=(Mc _ _).trans (by simp)
 have n1:=fun m=>yZ m (iD k)
 have g1:=P6 (iD C.B.length) (iD C.W.length)
 have g2:=P7 (iD C.B.length) (iD C.W.length)
 have s0:∀ x:Str,bJ (.tup [.str x,(iD k)]) 0=some (.str x):=fun _=>rfl
 have s1:∀ x:Str,bJ (.tup [.str x,(iD k)]) 1=some (iD k):=fun _=>rfl
 have ll:∀ x:Str,cL (.tup [.str x,(iD k)])=some 2:=fun _=>rfl
 unfold sQ Dx
 cases b with
 | true=>
  show bw _ _ [.tup [.str "begin",(iD k)],_]=(b9 (decide (k<C.B.length)))
  simp[-Int.ofNat_eq_natCast,fL,ll,l2,s0,s1,g1,n1,DX]
 | false=>
  show bw _ _ [.tup [.str "way",(iD k)],_]=(b9 (decide (k<C.W.length)))
  simp[-Int.ofNat_eq_natCast,fL,ll,l2,s0,s1,g2,n1,DX]
theorem P_(s:Sn):nu [cm n C,ah s]=(b9 (y6 C s)):=by
 have h:=P9 (C:=C) s
 unfold nu Dy
 have e1:mW 0 2 [(c9 n C),some (ah s,9)]=some (Int.ofNat C.B.length):=by
  show some (Int.ofNat (C.B.map df).length)=_
  rw[Qm]
 have jZ:mW 0 1 [(c9 n C),some (ah s,9)]=some (Int.ofNat C.W.length):=by
  show some (Int.ofNat (C.W.map (cy n)).length)=_
  rw[Qm]
 have ed:rO "begin" "way" (mW 0 2) (mW 0 1) [(c9 n C),some (ah s,9)]=some (.eM ["begin","way"] [(iD C.B.length),(iD C.W.length)],9,[(c9 n C),some (ah s,9)]):=by
  unfold rO
  rw[e1,jZ]
 exact fw (iz (fx (eR (f:=ab 1) (d:=ah s) (q:=9) (ρ:=[(c9 n C),some (ah s,9)]) (ρ1:=[(c9 n C),some (ah s,9)]) rfl (dH ed)) rfl h))
theorem Q_{s:Sn}(hs:okN C s):nu [cm n C,ah s]=(b9 true):=by rw[P_,P8.mpr hs]
theorem Ra{l:List Sn}(hl:∀ s∈l,okN C s)(hlen:l.length<=1000):sR [cm n C,.lst (l.map ah)]=some (.aS,9):=by
 have hit:fH (ab 1) [(c9 n C),some (.lst (l.map ah),0)]=some (l.map ah,[(c9 n C),some (.lst (l.map ah),0)]):=by simp[hlen]
 have e:=Pp (i:=2) (te:=aH nu 2 (aa (ab 0) (aa (ab 2) ag))) (ρ:=[(c9 n C),some (.lst (l.map ah),0)]) rfl hit (fun _=>true) (fun _=>9) (fun d hd=>by
  obtain⟨s,hs,rfl⟩:=QF.mp hd
  simp[Q_ (n:=n) (hl s hs)])
 have ea:(l.map ah).all (fun _=>true)=true:=by simp
 rw[ea]at e
 unfold sR Dz
 show(match cH _ _ _ [(c9 n C),some (.lst (l.map ah),0)]with|some (.rt d q)=>some (d,q)|some (.nx _)=>some (D.aS,9)|_=>none)=_
 have ei:cH (gN (fU (eB mQ (aa (dF 1 (fH (ab 1)) (aP 2) cJ (aH nu 2 (aa (ab 0) (aa (ab 2) ag))) false) ag)))) rN d_ [(c9 n C),some (.lst (l.map ah),0)]=some (.nx [(c9 n C),some (.lst (l.map ah),0)]):=by
  refine(p7 ?_).trans rfl
  unfold gN fU
  rw[e]
  rfl
 rw[ei]
theorem sX:(bG C).length=C.B.length+C.W.length:=by simp[bG]
theorem DY(hB:C.B.length<=60)(hW:C.W.length<=60):oX [cm n C]=some (.lst ((bG C).map ah),1):=by
 unfold oX Df
 refine fw ?_
 show aC _ _ [(c9 n C),none]=_
 have c1:bJ (cm n C) 1=some (.tup (C.W.map (cy n))):=rfl
 have c2:bJ (cm n C) 2=some (.tup (C.B.map df)):=rfl
 have lB:cL (.tup (C.B.map df))=some C.B.length:=by simp[cL]
 have lW:cL (.tup (C.W.map (cy n)))=some C.W.length:=by simp[cL]
 have h1:=i8 (k:=1) (tt:=cJ) (te:=cS (aa (eC (.str "begin")) (aa (ab 2) ag))) (deep:=false) (o_ (m:=C.B.length) (by omega) (fe:=eB iX (aa (aU 0 (eC (.int 2))) ag)) (ρ:=[(c9 n C),none]) (ρ':=[(c9 n C),none]) (q:=9) (by simp[-Int.ofNat_eq_natCast,c2,lB])) (oM (i:=2) rfl (fun _=>true) (fun k=>ah (true,k)) (fun _=>9) (fun k hk=>rfl) (fun k hk _=>by simp[-Int.ofNat_eq_natCast,ah]))
 rw[show(List.range C.B.length).filter (fun _=>true)=List.range C.B.length by simp]at h1
 refine(bb (ρ1:=[(c9 n C),some (.lst ((List.range C.B.length).map fun k=>ah (true,k)),1)]) (i_ h1 rfl)).trans ?_
 have h2:=i8 (k:=1) (tt:=cJ) (te:=cS (aa (eC (.str "way")) (aa (ab 2) ag))) (deep:=false) (o_ (m:=C.W.length) (by omega) (fe:=eB iX (aa (aU 0 (eC (.int 1))) ag)) (ρ:=[(c9 n C),some (.lst ((List.range C.B.length).map fun k=>ah (true,k)),0)]) (ρ':=[(c9 n C),some (.lst ((List.range C.B.length).map fun k=>ah (true,k)),0)]) (q:=9) (by simp[-Int.ofNat_eq_natCast,c1,lW])) (oM (i:=2) rfl (fun _=>true) (fun k=>ah (false,k)) (fun _=>9) (fun k hk=>rfl) (fun k hk _=>by simp[-Int.ofNat_eq_natCast,ah]))
 rw[show(List.range C.W.length).filter (fun _=>true)=List.range C.W.length by simp]at h2
 have ea:(bG C).map ah=((List.range C.B.length).map fun k=>ah (true,k))++((List.range C.W.length).map fun k=>ah (false,k)):=by
  unfold bG
  rw[Zi,Zj,Zj]
  rfl
 rw[ea]
 refine iz (ρ1:=[(c9 n C),some (.lst ((List.range C.B.length).map fun k=>ah (true,k)),0)]) ?_
 have v1:ab 1 [(c9 n C),some (.lst ((List.range C.B.length).map fun k=>ah (true,k)),1)]=some (.lst ((List.range C.B.length).map fun k=>ah (true,k)),0,[(c9 n C),some (.lst ((List.range C.B.length).map fun k=>ah (true,k)),0)]):=rfl
 unfold oE
 rw[v1]
 have hl:((List.range C.B.length).map fun k=>ah (true,k)).length+((List.range C.W.length).map fun k=>ah (false,k)).length<=1000:=by
  rw[Qm,Qm,QO,QO];omega
 generalize ((List.range C.B.length).map fun k=>ah (true,k))=x at *
 generalize ((List.range C.W.length).map fun k=>ah (false,k))=y at *
 rw[Qh (by decide)]at h2
 simp only[h2,Qe hl]
end
section
variable {n:Nat}{f:Nat->Nat->Nat}(L:aI n f){z:Nat}(hz:z<n)(bz:∀ j,j<n->f z j=j){C:aW}(hC:C.Ok n f)
def dg (p z:Nat):List Nat:=List.replicate p z
theorem vk(hz:z<n):Vn n p (dg p z):=⟨by simp[dg],fun x hx=>by rw[(List.mem_replicate.mp hx).2];exact hz⟩
theorem Rb(hi:i<p):gv (dg p z) i=z:=by unfold gv dg;simp[hi]
theorem y7(bz:∀ j,j<n->f z j=j)(hv:Vn n p v):dQ f p (dg p z) v:=fun i hi=>by rw[Rb hi];exact bz _ (hv.gv hi)
include L hz bz hC
theorem DZ:oV [aY n f,cm n C]=(v9 (dg C.p z)):=by
 have hn:n<=1000:=QK L.hi (by decide)
 have qk:=hC.p8
 have c0:bJ (cm n C) 0=some (iD C.p):=rfl
 have hl:=Pb L hz bz hn
 unfold oV CZ
 have e:(List.replicate C.p [(iD z)]).flatten=ao (dg C.p z):=by
  simp[ao,dg,ZZ]
 have b1:(-1000:Int)<=Int.ofNat C.p:=by show(-1000:Int)<=(C.p:Int);omega
 have b2:Int.ofNat C.p<=1000:=by show(C.p:Int)<=1000;omega
 have b3:(Int.ofNat C.p).toNat=C.p:=rfl
 have b4:C.p<=1000:=by omega
 simp[-Int.ofNat_eq_natCast,-List.flatten_replicate_singleton,hl,c0,b1,b2,b3,b4,e]
theorem Rc{l:List Sn}(hl:∀ s∈l,okN C s)(hlen:l.length<=1000) :
  ∃ (u:List Nat) (R:List Sn),gy n f C.p (l.map (bc C)) (dg C.p z) u/\(∀ s∈R,s∈l)/\(R.map (bc C)).foldl (bh f) (dg C.p z)=u/\aI.mu n f u+R.length<=aI.mu n f (dg C.p z)/\sS [aY n f,cm n C,.lst (l.map ah)]=some (.tup [.tup (ao u),(iD R.length)],9):=by
 obtain⟨u,R,h1,h2,h3,h4,e⟩:=DW L hC (vk (p:=C.p) hz) hl hlen
 refine⟨u,R,h1,h2,h3,h4,?_⟩
 have r0:=Ra (n:=n) hl hlen
 have r1:=DZ L hz bz hC
 have a0:bJ (.tup [.tup (ao u),.lst (R.map ah)]) 0=some (.tup (ao u)):=rfl
 have a1:bJ (.tup [.tup (ao u),.lst (R.map ah)]) 1=some (.lst (R.map ah)):=rfl
 have a2:cL (.lst (R.map ah))=some R.length:=by simp[cL]
 unfold sS DB
 simp[-Int.ofNat_eq_natCast,r0,r1,e,a0,a1,a2]
theorem Rf:∃ u,gy n f C.p (dU C) (dg C.p z) u/\qe [aY n f,cm n C]=(v9 u):=by
 have hB:=hC.vg
 have hW:=hC.vf
 obtain⟨u,R,h1,h2,h3,h4,e⟩:=Rc L hz bz hC (qh C) (by rw[sX];omega)
 rw[y3]at h1
 refine⟨u,h1,?_⟩
 have r0:=DY (n:=n) hB hW
 have a0:bJ (.tup [.tup (ao u),(iD R.length)]) 0=some (.tup (ao u)):=rfl
 unfold qe DD
 simp[-Int.ofNat_eq_natCast,r0,e,a0]
end
section
variable {n:Nat}{f:Nat->Nat->Nat}(L:aI n f){C:aW}(hC:C.Ok n f)
include L hC
theorem Rg:sD [cm n C]=some (.lst ((bG C).map ah),1):=by
 have hB:=hC.vg
 have hW:=hC.vf
 have c1:bJ (cm n C) 1=some (.tup (C.W.map (cy n))):=rfl
 have c2:bJ (cm n C) 2=some (.tup (C.B.map df)):=rfl
 have lB:cL (.tup (C.B.map df))=some C.B.length:=by simp[cL]
 have lW:cL (.tup (C.W.map (cy n)))=some C.W.length:=by simp[cL]
 have h1:=i8 (k:=1) (tt:=cJ) (te:=cS (aa (eC (.str "begin")) (aa (ab 1) ag))) (deep:=false) (o_ (m:=C.B.length) (by omega) (fe:=eB iX (aa (aU 0 (eC (.int 2))) ag)) (ρ:=[(c9 n C)]) (ρ':=[(c9 n C)]) (q:=9) (by simp[-Int.ofNat_eq_natCast,c2,lB])) (oM (i:=1) rfl (fun _=>true) (fun k=>ah (true,k)) (fun _=>9) (fun k hk=>rfl) (fun k hk _=>by simp[-Int.ofNat_eq_natCast,ah]))
 rw[show(List.range C.B.length).filter (fun _=>true)=List.range C.B.length by simp,Qh (by decide)]at h1
 have h2:=i8 (k:=1) (tt:=cJ) (te:=cS (aa (eC (.str "way")) (aa (ab 1) ag))) (deep:=false) (o_ (m:=C.W.length) (by omega) (fe:=eB iX (aa (aU 0 (eC (.int 1))) ag)) (ρ:=[(c9 n C)]) (ρ':=[(c9 n C)]) (q:=9) (by simp[-Int.ofNat_eq_natCast,c1,lW])) (oM (i:=1) rfl (fun _=>true) (fun k=>ah (false,k)) (fun _=>9) (fun k hk=>rfl) (fun k hk _=>by simp[-Int.ofNat_eq_natCast,ah]))
 rw[show(List.range C.W.length).filter (fun _=>true)=List.range C.W.length by simp,Qh (by decide)]at h2
 have ea:(bG C).map ah=((List.range C.B.length).map fun k=>ah (true,k))++((List.range C.W.length).map fun k=>ah (false,k)):=by
  unfold bG
  rw[Zi,Zj,Zj]
  rfl
 rw[ea]
 have hl:((List.range C.B.length).map fun k=>ah (true,k)).length+((List.range C.W.length).map fun k=>ah (false,k)).length<=1000:=by
  rw[Qm,Qm,QO,QO];omega
 unfold sD C5
 refine fw (iz (ρ1:=[(c9 n C)]) ?_)
 show oE _ _ [(c9 n C)]=_
 unfold oE
 rw[h1]
 simp only[h2,Qe hl]
end
theorem D0{g:cq}{b:Bool}(e:g ρ=some (b,ρ1)):gN g ρ=some (!b,ρ1):=by unfold gN;rw[e]
theorem D1{f:aB}{b:Bool}(h:f ρ=some (.bl b,q,ρ1)):fU f ρ=some (b,ρ1):=by unfold fU;rw[h];cases b<;>rfl
theorem D2(h:ρ[i]? = some (some (d,q)))(hl:cL d=some n):bE i ρ=some ((iD n),9,ρ):=by unfold bE;rw[h];simp only[hl]
theorem vm{b:aB}{k:Int}(hb:b ρ=some (.int k,q',ρ))(h:ρ[i]? = some (some (x,q)))(ha:bJ x k=some d)(hd:d.bY=false):aU i b ρ=some (d,9,ρ):=by
 unfold aU
 rw[h]
 simp only[hb,h,ha,hd,b_]
 simp
theorem vn{a b:aB}{k:Int}(h:a ρ=some (x,q,ρ1))(hb:b ρ1=some (.int k,q',ρ2))(ha:bJ x k=some d)(hx:x.bY=false)(hd:d.bY=false):cF a b ρ=some (d,9,ρ2):=by
 unfold cF
 rw[h]
 simp only[hb,ha,hd,hx,b_]
 simp
theorem D3(ns:List Int){c:Int}(hc:0<=c)(hn:0<n):∃ v,v<n/\cj [ck ns,.int c,(iD n)]=(i9 v):=by
 have l3:(0:Int)<Int.ofNat n:=by show(0:Int)<(n:Int);omega
 have h1:=lX ns c l3
 have h2:=nz ns c l3
 have h3:Int.ofNat n=(n:Int):=rfl
 obtain⟨v,hv⟩:=Int.eq_ofNat_of_zero_le h1
 refine⟨v,by rw[hv,h3]at h2;omega,?_⟩
 rw[ny ns c _ hc l3,hv]
 rfl
theorem qo(i:Int):PyData.eqv (bN (.int i)) (bN (.int i))=true:=by show(i==i)=true;simp
theorem qp(h:∀ d∈ds,PyData.eqv (bN d) (bN d)=true):PyData.eqv (bN (.tup ds)) (bN (.tup ds))=true:=by
 have go:∀ ds:List D,(∀ d∈ds,PyData.eqv (bN d) (bN d)=true)->PyData.eqvAll (dG ds) (dG ds)=true:=by
  intro ds
  induction ds with
  | nil=>intro _;rfl
  | cons d ds ih=>
   intro h
   show(PyData.eqv (bN d) (bN d)&&PyData.eqvAll (dG ds) (dG ds))=true
   rw[h d Qd,ih fun x m=>h x (Qa _ m)]
   rfl
 exact go ds h
theorem Rh(n:Nat)(r:Nat->Nat):PyData.eqv (bN (eT n r)) (bN (eT n r))=true:=qp fun d hd=>by
 obtain⟨x,_,rfl⟩:=QF.mp hd
 exact qo _
theorem vo{P:D->Prop}{b c:D}(h1:P a)(h2:P b)(h3:P c):∀ d ∈ [a,b,c],P d:=fun d hd=>by
 rcases Qr.mp hd with rfl|hd
 ·exact h1
 ·rcases Qr.mp hd with rfl|hd
  ·exact h2
  ·rcases Qr.mp hd with rfl|hd
   ·exact h3
   ·cases hd
theorem D4{P:D->Prop}{b:D}(h1:P a)(h2:P b):∀ d ∈ [a,b],P d:=fun d hd=>by
 rcases Qr.mp hd with rfl|hd
 ·exact h1
 ·rcases Qr.mp hd with rfl|hd
  ·exact h2
  ·cases hd
theorem Ri(n:Nat)(C:aW):PyData.eqv (bN (cm n C)) (bN (cm n C))=true:=qp (vo (qo _)
 (qp fun d hd=>by obtain⟨w,_,rfl⟩:=QF.mp hd;exact qp (vo (qo _) (qo _) (Rh _ _)))
 (qp fun d hd=>by obtain⟨b,_,rfl⟩:=QF.mp hd;exact qp (D4 (qo _) (qo _))))
theorem y8(n:Nat)(C:aW):Sh 4 (cm n C):=.tup (vo (.int _)
 (.tup fun d hd=>by obtain⟨w,_,rfl⟩:=QF.mp hd;exact .tup (vo (.int _) (.int _) ⟨(Cv _ _).1,(Cv _ _).2⟩))
 (.tup fun d hd=>by obtain⟨b,_,rfl⟩:=QF.mp hd;exact .tup (D4 (.int _) (.int _))))
theorem Rj(n:Nat)(C:aW):cK (cm n C) (cm n C)=some (.bl true):=by
 unfold cK
 rw[Qe ⟨(y8 n C).ok,(y8 n C).ok⟩]
 show some (D.bl (PyData.eqv (bN (cm n C)) (bN (cm n C))))=_
 rw[Ri]
theorem Rk{pt:ek}(h1:pt d ρ=some ρ1)(h2:body ρ1=some (.bk ρ2)):da pt body (d::ds) ρ=some (.nx ρ2):=by
 unfold da
 rw[h1]
 simp only[h2]
theorem Rl(D5:ns.length<=63)(hm:m+1<=1000)(once:∀ Rm:List Int,o3 [ck Rm]=(b9 true)):∃ x,dI (b6 (aa (eC (iD (m+1))) ag)) (aP 1) sU [(n0 ns),none]=some (.nx [(n0 ns),x]):=by
 have hl:(ns.map D.int).length<=1000:=by rw[Qm];omega
 have hc:∀ (t:Nat),dF 1 (fH (ab 0)) (aP 2) cJ (e2 bB (ab 2) (e2 iQ (eC (.int 7919)) (ab 1))) false [(n0 ns),(i9 t)]=some (ck (ns.map fun x=>x+7919*Int.ofNat t),1,[(n0 ns),(i9 t)]):=fun t=>by
  have h:=DR (i:=2) (te:=e2 bB (ab 2) (e2 iQ (eC (.int 7919)) (ab 1))) (ρ:=[(n0 ns),(i9 t)]) (ns.map D.int) rfl (fun d=>match d with|.int x=>.int (x+7919*Int.ofNat t)|d=>d) (fun _=>9) (fun d hd=>by
   obtain⟨x,_,rfl⟩:=QF.mp hd
   simp[-Int.ofNat_eq_natCast])
  have fj:ns.length<=1000:=by omega
  refine(i8 (deep:=false) (by simp[fj]) h).trans ?_
  simp[-Int.ofNat_eq_natCast,ZL]
 have step:∀ (t:Nat),sU [(n0 ns),(i9 t)]=some (if ns=[]then .bk [(n0 ns),(i9 t)]else .nx [(n0 ns),(i9 t)]):=fun t=>by
  have h1:=once (ns.map fun x=>x+7919*Int.ofNat t)
  unfold sU
  refine(bb (ρ1:=[(n0 ns),(i9 t)]) ?_).trans ?_
  ·have e:=fx (F:=o3) (n:=1) (dH (hc t)) rfl h1
   simp only[cH,gN,fU,e]
   rfl
  ·have e:=yV ns
   by_cases fk:ns=[]
   ·rw[Qe fk]
    rw[Q6 fk]at e
    simp[-Int.ofNat_eq_natCast,e]
   ·rw[Qh fk]
    rw[Q2 fk]at e
    simp[-Int.ofNat_eq_natCast,e]
 have hr:b6 (aa (eC (iD (m+1))) ag) [(n0 ns),none]=some (bW (m+1),[(n0 ns),none]):=by
  simp only[b6,dH (f:=eC (iD (m+1))) (q:=9) (ρ:=[(n0 ns),none]) rfl]
  rw[Qe ⟨by show(-1000:Int)<=((m+1:Nat):Int);omega,by show((m+1:Nat):Int)<=1000;omega⟩]
  rfl
 rw[jv hr]
 by_cases fk:ns=[]
 ·refine⟨(i9 0),?_⟩
  have h:=step 0
  rw[Qe fk]at h
  have e:bW (m+1)=(iD 0)::(bW (m+1)).tail:=by
   unfold bW
   rw[ZE]
   rfl
  rw[e]
  exact Rk (ρ1:=[(n0 ns),(i9 0)]) (by simp) h
 ·obtain⟨ρ',e,x,rfl⟩:=j6 (pt:=aP 1) (body:=sU) (bW (m+1)) (fun _ ρ=>∃ x,ρ=[(n0 ns),x]) [(n0 ns),none] (fun i hi ρ ⟨x,hx⟩=>by
   subst hx
   have h:=step i
   rw[Qh fk]at h
   refine⟨[(n0 ns),(i9 i)],_,by rw[qg];simp,.inl h,_,rfl⟩) ⟨none,rfl⟩
  exact⟨x,e⟩
theorem jg{f nm:Str}{fs:List Str}{p:Option Addr}(h:ρ[i]? = some (some (.mp (.i nm fs p) ds,q)))(hv:vL fs ds f=some d):fV i f ρ=some (d,b_ d,ρ):=by
 unfold fV
 rw[h]
 simp only[hv]
theorem kQ{f nm:Str}{fs:List Str}{p:Option Addr}(he:fe ρ=some (d,q,ρ1))(h:ρ1[i]? = some (some (.mp (.i nm fs p) ds,1)))(nd:fs.Nodup)(k7:ds.length<999)(e:ρ1.set i (some (.mp (.i nm (j3 fs f) p) (iZ fs ds f d),1))=ρ2):i5 nm i f fe ρ=some (.nx ρ2):=by
 unfold i5
 rw[he]
 simp only[h]
 rw[Qe ⟨trivial,nd,k7⟩,e]
theorem qq{nm m:Str}{F:List D->OD}{fs:List Str}{p:Option Addr}{r:D}(h:ρ[i]? = some (some (.mp (.i nm fs p) ds,1)))(hc:fs.contains m=false)(hF:F [.mp (.i nm fs p) ds]=some (r,q))(hl:pY q r=true):js nm m F i ρ=some (r,q,ρ):=by
 unfold js
 rw[h]
 simp only[hF]
 rw[Qe ⟨trivial,hc⟩,Qe hl]
theorem vp{nm m:Str}{fs:List Str}{p:Option Addr}(h0:ρ[i]? = some (some (.mp (.i nm p6 p0) lQ,1)))(hc:p6.contains m=false)(hg:g ρ=some (ds,ρ1))(h:ρ1[i]? = some (some (.mp (.i nm fs p) cX,1)))(hn:ds.length+1=n)
  (hF:∀ a,F (.mp (.i nm fs (some a)) cX) ds=some (.mp (.i nm b8 (some a)) bg)) (e:ρ1.set i (some (.mp (.i nm b8 p) bg,1))=ρ2):kG nm m F n i g ρ=some (.aS,9,ρ2):=by
 unfold kG
 have hi:uK nm m (some (some (.mp (.i nm p6 p0) lQ,1)))=true:=by
  show(decide (nm=nm) && !p6.contains m)=true
  rw[hc]
  simp
 rw[h0,Qe hi]
 simp only[hg,h]
 rw[Qe ⟨trivial,hn⟩,x9 hF]
 simp only[e]
theorem D6{nm B2:Str}{fs:List Str}{p:Option Addr}(h0:ρ[i]? = some (some (.mp (.i B2 p6 p0) lQ,1)))(hg:g ρ=some (ds,ρ1))(h:ρ1[i]? = some (some (.mp (.i nm fs p) cX,1)))(hn:ds.length+1=n)
  (hF:∀ a,F (.mp (.i nm fs (some a)) cX) ds=some (.mp (.i nm b8 (some a)) bg)) (e:ρ1.set i (some (.mp (.i nm b8 p) bg,1))=ρ2):kH F n i g ρ=some (.aS,9,ρ2):=by
 unfold kH
 rw[h0]
 simp only[hg,h]
 rw[Qe hn,x9 hF]
 simp only[e]
theorem D7{nm:Str}(hg:g ρ=some (ds,ρ1))(hn:ds.length+1=n)(hF:∀ a,F (.mp (.i nm [] (some a)) []) ds=some (.mp (.i nm b8 (some a)) bg)):pZ nm F n g ρ=some (.mp (.i nm b8 none) bg,1,ρ1):=by
 unfold pZ
 rw[hg]
 simp only
 rw[Qe hn,x9 hF]
theorem qr{k:MK}(h:body (rR n d ds)=some (.nx ρ))(e:ρ[0]? = some (some (.mp k bg,1))):hX n body d ds=some (.mp k bg):=by
 unfold hX
 rw[h]
 simp only[e]
theorem kR{f:aB}(h:f ρ=some (d,q,ρ1)):cI f ρ=some (.nx ρ1):=by unfold cI;rw[h]
theorem Rn(h:g ρ=some (ds,ρ1))(hl:ds.length<=1000):cS g ρ=some (.tup ds,9,ρ1):=by unfold cS;rw[h];exact Qe hl
abbrev nA:List Str:=["ladder","places","ways","begins","worths","many_raises"]
def nB (n:Nat)(f:Nat->Nat->Nat)(C:aW)(v:List Nat)(m:Nat):List D:=[aY n f,(iD C.p),.tup (C.W.map (cy n)),.tup (C.B.map df),.tup (ao v),(iD m)]
abbrev kpr (p:Option Addr)(n:Nat)(f:Nat->Nat->Nat)(C:aW)(v:List Nat)(m:Nat):D:=.mp (.i "Keeper" nA p) (nB n f C v m)
theorem D8{C:aW}:vL nA (nB n f C v m) "ladder" = some (aY n f):=rfl
theorem vq{C:aW}:vL nA (nB n f C v m) "places" = some (iD C.p):=rfl
theorem D9{C:aW}:vL nA (nB n f C v m) "ways" = some (.tup (C.W.map (cy n))):=rfl
theorem D_{C:aW}:vL nA (nB n f C v m) "begins" = some (.tup (C.B.map df)):=rfl
theorem Ea{C:aW}:vL nA (nB n f C v m) "worths" = some (.tup (ao v)):=rfl
theorem Eb{C:aW}:vL nA (nB n f C v m) "many_raises" = some (iD m):=rfl
theorem Ec{p:Option Addr}{C:aW}:kg [kpr p n f C v m]=(c9 n C):=by
 unfold kg C3
 refine fw (iz (ρ1:=[some (kpr p n f C v m,0)]) ?_)
 have h0:jF 1 [kpr p n f C v m]=[some (kpr p n f C v m,0)]:=rfl
 rw[h0]
 exact Rn (eR (jg rfl vq) (eR (jg rfl D9) (dH (jg rfl D_)))) (show 3<=1000 by decide)
theorem Ed(n:Nat)(C:aW):pY 9 (cm n C)=true:=uT (y8 n C).1
theorem Ee(v:List Nat):pY 9 (.tup (ao v))=true:=uT (lS v).1
theorem Ef{p:Option Addr}{C:aW}:lV [kpr p n f C v m]=(v9 v):=by
 unfold lV Dw
 exact fw (iz (ρ1:=[some (kpr p n f C v m,0)]) (jg rfl Ea))
theorem Ro{p:Option Addr}{C:aW}:oZ [kpr p n f C v m]=(i9 m):=by
 unfold oZ Dv
 exact fw (iz (ρ1:=[some (kpr p n f C v m,0)]) (jg rfl Eb))
section
variable {n:Nat}{f:Nat->Nat->Nat}(L:aI n f){z:Nat}(hz:z<n)(bz:∀ j,j<n->f z j=j)
include L hz bz
theorem Rp(a:Addr)(h1:1<=p)(h8:p<=8):qd (.mp (.i "Keeper" [] (some a)) []) [aY n f,(iD p)]=some (kpr (some a) n f ⟨p,[],[]⟩ (dg p z) 0):=by
 have hC:aW.Ok n f ⟨p,[],[]⟩:=⟨h1,h8,by show 0<=60;decide,by show 0<=60;decide,(fun _ z=>nomatch z),(fun _ z=>nomatch z)⟩
 have hl:=DZ L hz bz hC
 unfold qd C4
 refine qr (ρ:=[some (.mp (.i "Keeper" nA (some a)) (nB n f ⟨p,[],[]⟩ (dg p z) 0),1),(t9 n f),(i9 p)]) ?_ rfl
 show aC _ _ [some (.mp (.i "Keeper" [] (some a)) [],1),(t9 n f),(i9 p)]=_
 refine(bb (ρ1:=[some (.mp (.i "Keeper" ["ladder"] (some a)) [aY n f],1),(t9 n f),(i9 p)]) (kQ (d:=aY n f) (q:=9) (ρ1:=[some (.mp (.i "Keeper" [] (some a)) [],1),(t9 n f),(i9 p)]) rfl rfl (by decide) (by show 0<999;decide) rfl)).trans ?_
 refine(bb (ρ1:=[some (.mp (.i "Keeper" (["ladder","places"]) (some a)) [aY n f,(iD p)],1),(t9 n f),(i9 p)]) (kQ (d:=(iD p)) (q:=9) (ρ1:=[some (.mp (.i "Keeper" ["ladder"] (some a)) [aY n f],1),(t9 n f),(i9 p)]) rfl rfl (by decide) (by show 1<999;decide) rfl)).trans ?_
 refine(bb (ρ1:=[some (.mp (.i "Keeper" (["ladder","places","ways"]) (some a)) [aY n f,(iD p),.tup []],1),(t9 n f),(i9 p)]) (kQ (d:=.tup []) (q:=9) (ρ1:=[some (.mp (.i "Keeper" (["ladder","places"]) (some a)) [aY n f,(iD p)],1),(t9 n f),(i9 p)]) rfl rfl (by decide) (by show 2<999;decide) rfl)).trans ?_
 refine(bb (ρ1:=[some (.mp (.i "Keeper" (["ladder","places","ways","begins"]) (some a)) [aY n f,(iD p),.tup [],.tup []],1),(t9 n f),(i9 p)]) (kQ (d:=.tup []) (q:=9) (ρ1:=[some (.mp (.i "Keeper" (["ladder","places","ways"]) (some a)) [aY n f,(iD p),.tup []],1),(t9 n f),(i9 p)]) rfl rfl (by decide) (by show 3<999;decide) rfl)).trans ?_
 have hc:kg [.mp (.i "Keeper" ["ladder","places","ways","begins"] (some a)) [aY n f,(iD p),.tup [],.tup []]]=some (cm n ⟨p,[],[]⟩,9):=rfl
 refine(bb (ρ1:=[some (.mp (.i "Keeper" (["ladder","places","ways","begins","worths"]) (some a)) [aY n f,(iD p),.tup [],.tup [],.tup (ao (dg p z))],1),(t9 n f),(i9 p)]) (kQ (d:=.tup (ao (dg p z))) (q:=9) (ρ1:=[some (.mp (.i "Keeper" (["ladder","places","ways","begins"]) (some a)) [aY n f,(iD p),.tup [],.tup []],1),(t9 n f),(i9 p)]) (fx (eR (f:=ab 1) (q:=9) rfl (dH (qq rfl rfl hc rfl))) rfl hl) rfl (by decide) (by show 4<999;decide) rfl)).trans ?_
 exact kQ (d:=.int 0) (q:=9) (ρ1:=[some (.mp (.i "Keeper" (["ladder","places","ways","begins","worths"]) (some a)) [aY n f,(iD p),.tup [],.tup [],.tup (ao (dg p z))],1),(t9 n f),(i9 p)]) rfl rfl (by decide) (by show 5<999;decide) rfl
omit hz bz in
theorem Rq{C:aW}(hC:C.Ok n f)(hv:Vn n C.p v)(m:Nat):∃ u r,gy n f C.p (dU C) v u/\(u=v->r=0)/\(u≠v->0<r)/\aI.mu n f u+r<=aI.mu n f v/\∀ a,nq (kpr (some a) n f C v m) []=some (kpr (some a) n f C u (m+r)):=by
 have hB:=hC.vg
 have hW:=hC.vf
 obtain⟨u,R,h1,h2,h3,h4,e⟩:=DW L hC hv (qh C) (by rw[sX];omega)
 rw[y3]at h1
 refine⟨u,R.length,h1,fun z=>by rw[z]at h4;omega,fun z=>?_,h4,fun a=>?_⟩
 ·cases R with
  | nil=>exact absurd h3.symm z
  | cons x R=>exact Nat.succ_pos _
 have r0:=DY (n:=n) hB hW
 have a0:bJ (.tup [.tup (ao u),.lst (R.map ah)]) 0=some (.tup (ao u)):=rfl
 have a1:bJ (.tup [.tup (ao u),.lst (R.map ah)]) 1=some (.lst (R.map ah)):=rfl
 have a2:cL (.lst (R.map ah))=some R.length:=by simp[cL]
 unfold nq Di
 refine qr (ρ:=[some (kpr (some a) n f C u (m+R.length),1),(c9 n C),some (.tup [.tup (ao u),.lst (R.map ah)],9)]) ?_ rfl
 show aC _ _ [some (kpr (some a) n f C v m,1),none,none]=_
 refine(bb (ρ1:=[some (kpr (some a) n f C v m,1),(c9 n C),none]) (i_ (qq (ρ:=[some (kpr (some a) n f C v m,1),none,none]) rfl rfl Ec (Ed n C)) rfl)).trans ?_
 refine(bb (ρ1:=[some (kpr (some a) n f C v m,1),(c9 n C),some (.tup [.tup (ao u),.lst (R.map ah)],9)]) (i_ (fx (ρ:=[some (kpr (some a) n f C v m,1),(c9 n C),none]) (eR (jg rfl D8) (eR (f:=ab 1) (q:=9) rfl (eR (fx (dH (f:=ab 1) (q:=9) rfl) rfl r0) (dH (jg rfl Ea))))) rfl e) rfl)).trans ?_
 refine(bb (ρ1:=[some (kpr (some a) n f C u m,1),(c9 n C),some (.tup [.tup (ao u),.lst (R.map ah)],9)]) (kQ (ρ1:=[some (kpr (some a) n f C v m,1),(c9 n C),some (.tup [.tup (ao u),.lst (R.map ah)],9)]) (d:=.tup (ao u)) (q:=9) rfl rfl (by decide) (by show 6<999;decide) rfl)).trans ?_
 refine kQ (ρ1:=[some (kpr (some a) n f C u m,1),(c9 n C),some (.tup [.tup (ao u),.lst (R.map ah)],9)]) (d:=(iD (m+R.length))) (q:=9) (m8 (jg rfl Eb) (yy (d:=(iD R.length)) (dH (f:=aU 2 (eC (.int 1))) (d:=.lst (R.map ah)) (q:=0) rfl) ?_) rfl) rfl (by decide) (by show 6<999;decide) rfl
 simp only[iX,a2]
 rfl
structure Kept (n:Nat) (f:Nat->Nat->Nat) (z:Nat) (C:aW) (v:List Nat):Prop where
 ok:C.Ok n f
 low:gy n f C.p (dU C) (dg C.p z) v
theorem Kept.more{C C':aW}(k:Kept n f z C v)(hC:C'.Ok n f)(hp:C'.p=C.p)(hs:∀ s∈dU C,s∈dU C')(m:Nat):∃ u r,Kept n f z C' u/\dQ f C.p v u/\(u=v->r=0)/\(u≠v->0<r)/\aI.mu n f u+r<=aI.mu n f v/\(m_ f (dU C') v->u=v)/\∀ a,nq (kpr (some a) n f C' v m) []=some (kpr (some a) n f C' u (m+r)):=by
 have hv:Vn n C'.p v:=by rw[hp];exact k.low.V
 obtain⟨u,r,h1,h2,eo,h3,h4⟩:=Rq L hC hv m
 have o8:=vk (n:=n) (p:=C'.p) hz
 refine⟨u,r,⟨hC,h1.V,h1.cl,y7 bz h1.V,fun b hb cb lb=>h1.le b hb cb ?_⟩,by rw[<- hp];exact h1.up,h2,eo,h3,fun cv=>L.eU h1.V hv (h1.le v hv cv (L.dy hv)) h1.up,h4⟩
 have:=k.low.le b (by rw[<- hp];exact hb) (fun s k_=>cb s (hs s k_)) (by rw[<- hp];exact lb)
 rw[hp]
 exact this
end
theorem Rr{k:Nat}(hk:k<h):fZ h (iD k)=true:=by
 show(decide ((0:Int)<=(k:Int))&&decide ((k:Int)<(h:Int)))=true
 rw[Q6 (by omega),Q6 (by omega)];rfl
theorem Eg(h:body (jF n ds)=some (.nx ρ)):bw n body ds=some (.aS,9):=by unfold bw;rw[h]
theorem y9{k:Nat}(hk:k<h):nj [(iD h),(iD k)]=some (.aS,9):=by
 have e:=yZ h (iD k)
 rw[Rr hk]at e
 unfold nj C9
 exact Eg ((p7 (D0 (D1 (fx (ds:=[(iD k),(iD h)]) rfl rfl e)))).trans rfl)
theorem Rt(hn:n<=1000)(hr:∀ i,i<n->r i<n)(hm:∀ x y,x<n->y<n->f x y=y->f (r x) (r y)=r y):sO [aY n f,eT n r]=some (.aS,9):=by
 have e:=Px (f:=f) hn (eT n r)
 rw[Pw hr,yY.mpr fun y x hy hx h=>hm x y hx hy h]at e
 unfold sO Dt
 exact Eg ((p7 (D0 (D1 (fx (ds:=[aY n f,eT n r]) rfl rfl e)))).trans rfl)
structure pd (n:Nat) (f:Nat->Nat->Nat) (z:Nat) (C:aW) (v:List Nat) (C':aW) (u:List Nat) (r:Nat):Prop where
 kept:Kept n f z C' u
 up:dQ f C.p v u
 r0:u=v->r=0
 r1:u≠v->0<r
 mu:aI.mu n f u+r<=aI.mu n f v
 st:m_ f (dU C') v->u=v
def aW.iC (C:aW)(b:Nat×Nat):aW:=⟨C.p,C.W,C.B++[b]⟩
def aW.way (C:aW)(w:Nat×Nat×(Nat->Nat)):aW:=⟨C.p,C.W++[w],C.B⟩
theorem Eh{C:aW}:s∈dU (C.iC b) ↔ s∈dU C\/s=pb b:=by
 unfold dU aW.iC
 simp only[Zi,Q3,Jh,QN,QB]
 constructor
 ·rintro ((h|h)|h)
  ·exact .inl (.inl h)
  ·exact .inr h
  ·exact .inl (.inr h)
 ·rintro ((h|h)|h)
  ·exact .inl (.inl h)
  ·exact .inr h
  ·exact .inl (.inr h)
theorem Ei{C:aW}{w:Nat×Nat×(Nat->Nat)}:s∈dU (C.way w) ↔ s∈dU C\/s=sW w:=by
 unfold dU aW.way
 simp only[Zi,Q3,Jh,QN,QB,or_assoc]
section
variable {n:Nat}{f:Nat->Nat->Nat}(L:aI n f){z:Nat}(hz:z<n)(bz:∀ j,j<n->f z j=j)
theorem Ej{fa fb:aB}{xs ys:List D}(ha:fa ρ=some (.tup xs,q,ρ1))(hb:fb ρ1=some (.tup ys,q',ρ2))(hl:xs.length+ys.length<=1000):mR fa fb ρ=some (.tup (xs++ys),9,ρ2):=by
 unfold mR
 rw[ha]
 simp only[hb]
 rw[Qe hl]
include L hz bz
theorem Ru{C:aW}(k:Kept n f z C v)(hb:vd n C.p b)(hl:C.B.length<60)(m:Nat):∃ u r,pd n f z C v (C.iC b) u r/\∀ a,sJ (kpr (some a) n f C v m) [(iD b.1),(iD b.2)]=some (kpr (some a) n f (C.iC b) u (m+r)):=by
 have hC:=k.ok
 have sY:(C.iC b).Ok n f:=⟨hC.p1,hC.p8,hC.vf,by show(C.B++[b]).length<=60;simp;omega,hC.ws,fun x hx=>by
  rcases QN.mp hx with h|h
  ·exact hC.bs x h
  ·rw[QB.mp h];exact hb⟩
 obtain⟨u,r,h1,h2,h3,rh,h4,h5,h6⟩:=k.more L hz bz sY rfl (fun s hs=>Eh.mpr (.inl hs)) m
 refine⟨u,r,⟨h1,h2,h3,rh,h4,h5⟩,fun a=>?_⟩
 unfold sJ Dj
 refine qr (ρ:=[some (kpr (some a) n f (C.iC b) u (m+r),1),(i9 b.1),(i9 b.2)]) ?_ rfl
 show aC _ _ [some (kpr (some a) n f C v m,1),(i9 b.1),(i9 b.2)]=_
 refine(bb (ρ1:=[some (kpr (some a) n f C v m,1),(i9 b.1),(i9 b.2)]) (kR (fx (eR (jg rfl vq) (dH (f:=ab 1) (q:=9) rfl)) rfl (y9 hb.1)))).trans ?_
 have hm:C.B.map df++[df b]=(C.iC b).B.map df:=by show _=(C.B++[b]).map df;simp
 have fj:(C.B.map df).length + [df b].length<=1000:=by simp;omega
 have e1:=Ej (fa:=fV 0 "begins") (fb:=cS (aa (cS (aa (ab 1) (aa (ab 2) ag))) ag)) (ρ:=[some (kpr (some a) n f C v m,1),(i9 b.1),(i9 b.2)]) (ρ2:=[some (kpr (some a) n f C v m,1),(i9 b.1),(i9 b.2)]) (q':=9) (ys:=[df b]) (jg rfl D_) rfl fj
 rw[hm]at e1
 refine(bb (ρ1:=[some (kpr (some a) n f (C.iC b) v m,1),(i9 b.1),(i9 b.2)]) (kQ e1 rfl (by decide) (by show 6<999;decide) rfl)).trans ?_
 exact kR (vp (ρ:=[some (kpr (some a) n f (C.iC b) v m,1),(i9 b.1),(i9 b.2)]) (ρ1:=[some (kpr (some a) n f (C.iC b) v m,1),(i9 b.1),(i9 b.2)]) (ds:=[]) rfl rfl rfl rfl rfl h6 rfl)
theorem Rv{C:aW}(k:Kept n f z C v){w:Nat×Nat×(Nat->Nat)}(hw:sV n f C.p w)(hl:C.W.length<60)(m:Nat):∃ u r,pd n f z C v (C.way w) u r/\∀ a,sP (kpr (some a) n f C v m) [(iD w.1),(iD w.2.1),eT n w.2.2]=some (kpr (some a) n f (C.way w) u (m+r)):=by
 have hn:n<=1000:=QK L.hi (by decide)
 have hC:=k.ok
 have sY:(C.way w).Ok n f:=⟨hC.p1,hC.p8,by show(C.W++[w]).length<=60;simp;omega,hC.vg,fun x hx=>by
  rcases QN.mp hx with h|h
  ·exact hC.ws x h
  ·rw[QB.mp h];exact hw,hC.bs⟩
 obtain⟨u,r,h1,h2,h3,rh,h4,h5,h6⟩:=k.more L hz bz sY rfl (fun s hs=>Ei.mpr (.inl hs)) m
 refine⟨u,r,⟨h1,h2,h3,rh,h4,h5⟩,fun a=>?_⟩
 unfold sP Du
 refine qr (ρ:=[some (kpr (some a) n f (C.way w) u (m+r),1),(i9 w.1),(i9 w.2.1),(r9 n w.2.2)]) ?_ rfl
 show aC _ _ [some (kpr (some a) n f C v m,1),(i9 w.1),(i9 w.2.1),(r9 n w.2.2)]=_
 refine(bb (ρ1:=[some (kpr (some a) n f C v m,1),(i9 w.1),(i9 w.2.1),(r9 n w.2.2)]) (kR (fx (eR (jg rfl vq) (dH (f:=ab 1) (q:=9) rfl)) rfl (y9 hw.1)))).trans ?_
 refine(bb (ρ1:=[some (kpr (some a) n f C v m,1),(i9 w.1),(i9 w.2.1),(r9 n w.2.2)]) (kR (fx (eR (jg rfl vq) (dH (f:=ab 2) (q:=9) rfl)) rfl (y9 hw.2.1)))).trans ?_
 refine(bb (ρ1:=[some (kpr (some a) n f C v m,1),(i9 w.1),(i9 w.2.1),(r9 n w.2.2)]) (kR (fx (eR (jg rfl D8) (dH (f:=ab 3) (q:=9) rfl)) rfl (Rt hn hw.2.2.1 hw.2.2.2)))).trans ?_
 have hm:C.W.map (cy n)++[cy n w]=(C.way w).W.map (cy n):=by show _=(C.W++[w]).map (cy n);simp
 have fj:(C.W.map (cy n)).length + [cy n w].length<=1000:=by simp;omega
 have e1:=Ej (fa:=fV 0 "ways") (fb:=cS (aa (cS (aa (ab 1) (aa (ab 2) (aa (ab 3) ag)))) ag)) (ρ:=[some (kpr (some a) n f C v m,1),(i9 w.1),(i9 w.2.1),(r9 n w.2.2)]) (ρ2:=[some (kpr (some a) n f C v m,1),(i9 w.1),(i9 w.2.1),(r9 n w.2.2)]) (q':=9) (ys:=[cy n w]) (jg rfl D9) rfl fj
 rw[hm]at e1
 refine(bb (ρ1:=[some (kpr (some a) n f (C.way w) v m,1),(i9 w.1),(i9 w.2.1),(r9 n w.2.2)]) (kQ e1 rfl (by decide) (by show 6<999;decide) rfl)).trans ?_
 exact kR (vp (ρ:=[some (kpr (some a) n f (C.way w) v m,1),(i9 w.1),(i9 w.2.1),(r9 n w.2.2)]) (ρ1:=[some (kpr (some a) n f (C.way w) v m,1),(i9 w.1),(i9 w.2.1),(r9 n w.2.2)]) (ds:=[]) rfl rfl rfl rfl rfl h6 rfl)
end
def dh (C0 C:aW)(s:Sn):aW:=if s.1=true then C.iC (C0.B.getD s.2 (0,0))else C.way (C0.W.getD s.2 (0,0,id))
theorem y_{C0 C:aW}{s:Sn}:(dh C0 C s).p=C.p:=by unfold dh;split<;>rfl
theorem vt{C0 C:aW}{s:Sn}:(dh C0 C s).B.length+(dh C0 C s).W.length=C.B.length+C.W.length+1:=by
 unfold dh
 split
 ·show(C.B++[_]).length+C.W.length=_
  simp;omega
 ·show C.B.length+(C.W++[_]).length=_
  simp;omega
theorem qt{C0 C:aW}{s:Sn}{t:hZ}:t∈dU (dh C0 C s) ↔ t∈dU C\/t=bc C0 s:=by
 unfold dh bc
 cases hb:s.1 with
 | true=>exact Eh
 | false=>exact Ei
theorem Ek(C0:aW):∀ (l:List Nat) (C:aW),(l.map fun k=>((true,k):Sn)).foldl (dh C0) C=⟨C.p,C.W,C.B++l.map fun k=>C0.B.getD k (0,0)⟩
 | [],C=>by simp
 | k::l,C=>by
  show(l.map fun k=>((true,k):Sn)).foldl (dh C0) (C.iC (C0.B.getD k (0,0)))=_
  rw[Ek C0 l]
  simp[aW.iC]
theorem El(C0:aW):∀ (l:List Nat) (C:aW),(l.map fun k=>((false,k):Sn)).foldl (dh C0) C=⟨C.p,C.W++l.map fun k=>C0.W.getD k (0,0,id),C.B⟩
 | [],C=>by simp
 | k::l,C=>by
  show(l.map fun k=>((false,k):Sn)).foldl (dh C0) (C.way (C0.W.getD k (0,0,id)))=_
  rw[El C0 l]
  simp[aW.way]
theorem Rw(C0:aW):(bG C0).foldl (dh C0) ⟨C0.p,[],[]⟩=C0:=by
 unfold bG
 rw[Jv,Ek,El]
 have h1:=vi C0.B (0,0) id
 have h2:=vi C0.W (0,0,id) id
 simp only[id_eq,List.map_id]at h1 h2
 simp only[JL]
 rw[h1]
 have eo:(List.range C0.W.length).map (fun k=>C0.W.getD k (0,0,id))=C0.W:=by simpa using h2
 rw[eo]
theorem Rx{a:List Sn}{v:Nat}(hl:pS ρ[i]? = true)(hg:g ρ=some ([(iD v)],ρ1))(h1:ρ1[i]? = some (some (.lst (a.map ah),1)))(hv:v<a.length)(hb:v<=1000) :
  lG i g ρ=some (ah (a.getD v (true,0)),9,ρ1.set i (some (.lst ((a.eraseIdx v).map ah),1))):=by
 have hs:seqIndex? (Int.ofNat v) (a.map ah).length=some v:=(tL (rZ (by rw[Qm];exact hv))).1
 have Ry:(a.map ah)[v]? = some (ah (a.getD v (true,0))):=by
  rw[Qo,Qq,Qj hv];rfl
 have he:(a.map ah).eraseIdx v=(a.eraseIdx v).map ah:=by
  rw[Z0,Z0,Zi,List.map_take,List.map_drop]
 have b1:(-1000:Int)<=Int.ofNat v:=by show(-1000:Int)<=(v:Int);omega
 have b2:Int.ofNat v<=1000:=by show(v:Int)<=1000;omega
 unfold lG
 rw[Qe hl,hg]
 simp only[h1,Qe (And.intro b1 b2),hs,Ry,he]
 rfl
section
variable {n:Nat}{f:Nat->Nat->Nat}(L:aI n f){z:Nat}(hz:z<n)(bz:∀ j,j<n->f z j=j)
include L hz bz
theorem za{C0 C:aW}(h0:C0.Ok n f)(k:Kept n f z C v)(hp:C.p=C0.p){s:Sn}(hs:okN C0 s)(hl:C.B.length+C.W.length<60)(m:Nat):∃ u r,pd n f z C v (dh C0 C s) u r/\∀ a,jG (kpr (some a) n f C v m) [cm n C0,ah s]=some (kpr (some a) n f (dh C0 C s) u (m+r)):=by
 obtain⟨b,i⟩:=s
 have c1:bJ (cm n C0) 1=some (.tup (C0.W.map (cy n))):=rfl
 have c2:bJ (cm n C0) 2=some (.tup (C0.B.map df)):=rfl
 cases b with
 | true=>
  have hi:i<C0.B.length:=hs
  have pe:C0.B.getD i (0,0)∈C0.B:=by
   rw[Qq,Qj hi]
   exact QW hi
  have e0:bJ (.tup (C0.B.map df)) (Int.ofNat i)=some (df (C0.B.getD i (0,0))):=oJ (by rw[Qo,Qj hi];simp[hi])
  have hb:=h0.bs _ pe
  obtain⟨u,r,h1,h2⟩:=Ru L hz bz k (b:=C0.B.getD i (0,0)) ⟨by rw[hp];exact hb.1,hb.2⟩ (by omega) m
  refine⟨u,r,h1,fun a=>?_⟩
  show _=some (kpr (some a) n f (C.iC (C0.B.getD i (0,0))) u (m+r))
  generalize C0.B.getD i (0,0)=b at *
  unfold jG yT
  refine qr (ρ:=[some (kpr (some a) n f (C.iC b) u (m+r),1),(c9 n C0),some (ah (true,i),9),none,none,none]) ?_ rfl
  show cH _ _ _ [some (kpr (some a) n f C v m,1),(c9 n C0),some (ah (true,i),9),none,none,none]=_
  refine(B4 (ρ1:=[some (kpr (some a) n f C v m,1),(c9 n C0),some (ah (true,i),9),none,none,none]) (uW (q:=9) (m8 (fa:=aU 2 (eC (.int 0))) (fb:=eC (.str "begin")) (q:=9) (q':=9) (x:=.str "begin") (ρ1:=[some (kpr (some a) n f C v m,1),(c9 n C0),some (ah (true,i),9),none,none,none]) rfl rfl DT))).trans ?_
  have i1:cF (aU 1 (eC (.int 2))) (aU 2 (eC (.int 1))) [some (kpr (some a) n f C v m,1),(c9 n C0),some (ah (true,i),9),none,none,none]=some (df b,9,[some (kpr (some a) n f C v m,1),(c9 n C0),some (ah (true,i),9),none,none,none]):=vn (q:=9) (q':=9) (ρ1:=[some (kpr (some a) n f C v m,1),(c9 n C0),some (ah (true,i),9),none,none,none]) (k:=Int.ofNat i) (vm (q:=9) (q':=9) (k:=2) rfl rfl c2 rfl) (vm (q:=9) (q':=9) (k:=1) (d:=(iD i)) rfl rfl rfl rfl) e0 rfl rfl
  refine kR (vp (ρ1:=[some (kpr (some a) n f C v m,1),(c9 n C0),some (ah (true,i),9),none,none,none]) rfl rfl (eR (vn (q':=9) (k:=0) (d:=(iD b.1)) i1 rfl rfl rfl rfl) (dH (vn (q':=9) (k:=1) (d:=(iD b.2)) i1 rfl rfl rfl rfl))) rfl rfl h2 rfl)
 | false=>
  have hi:i<C0.W.length:=hs
  have pe:C0.W.getD i (0,0,id)∈C0.W:=by
   rw[Qq,Qj hi]
   exact QW hi
  have e0:bJ (.tup (C0.W.map (cy n))) (Int.ofNat i)=some (cy n (C0.W.getD i (0,0,id))):=oJ (by rw[Qo,Qj hi];simp[hi])
  have hw:=h0.ws _ pe
  obtain⟨u,r,h1,h2⟩:=Rv L hz bz k (w:=C0.W.getD i (0,0,id)) (by rw[hp];exact hw) (by omega) m
  refine⟨u,r,h1,fun a=>?_⟩
  show _=some (kpr (some a) n f (C.way (C0.W.getD i (0,0,id))) u (m+r))
  generalize C0.W.getD i (0,0,id)=w at *
  unfold jG yT
  refine qr (ρ:=[some (kpr (some a) n f (C.way w) u (m+r),1),(c9 n C0),some (ah (false,i),9),(i9 w.1),(i9 w.2.1),(r9 n w.2.2)]) ?_ rfl
  show cH _ _ _ [some (kpr (some a) n f C v m,1),(c9 n C0),some (ah (false,i),9),none,none,none]=_
  refine(p7 (ρ1:=[some (kpr (some a) n f C v m,1),(c9 n C0),some (ah (false,i),9),none,none,none]) (uW (q:=9) (m8 (fa:=aU 2 (eC (.int 0))) (fb:=eC (.str "begin")) (q:=9) (q':=9) (x:=.str "way") (ρ1:=[some (kpr (some a) n f C v m,1),(c9 n C0),some (ah (false,i),9),none,none,none]) rfl rfl DU))).trans ?_
  have i1:cF (aU 1 (eC (.int 1))) (aU 2 (eC (.int 1))) [some (kpr (some a) n f C v m,1),(c9 n C0),some (ah (false,i),9),none,none,none]=some (cy n w,9,[some (kpr (some a) n f C v m,1),(c9 n C0),some (ah (false,i),9),none,none,none]):=vn (q:=9) (q':=9) (ρ1:=[some (kpr (some a) n f C v m,1),(c9 n C0),some (ah (false,i),9),none,none,none]) (k:=Int.ofNat i) (vm (q:=9) (q':=9) (k:=1) rfl rfl c1 rfl) (vm (q:=9) (q':=9) (k:=1) (d:=(iD i)) rfl rfl rfl rfl) e0 rfl rfl
  refine(bb (ρ1:=[some (kpr (some a) n f C v m,1),(c9 n C0),some (ah (false,i),9),(i9 w.1),(i9 w.2.1),(r9 n w.2.2)]) (by unfold uF;rw[i1];rfl)).trans ?_
  exact kR (vp (ρ:=[some (kpr (some a) n f C v m,1),(c9 n C0),some (ah (false,i),9),(i9 w.1),(i9 w.2.1),(r9 n w.2.2)]) (ρ1:=[some (kpr (some a) n f C v m,1),(c9 n C0),some (ah (false,i),9),(i9 w.1),(i9 w.2.1),(r9 n w.2.2)]) (ds:=[(iD w.1),(iD w.2.1),eT n w.2.2]) rfl rfl rfl rfl rfl h2 rfl)
abbrev dW (ns:List Int)(n:Nat)(f:Nat->Nat->Nat)(C0:aW)(k1 k2 l:D)(a b c d:OD):aN:=[(n0 ns),(t9 n f),(c9 n C0),some (k1,1),some (k2,1),some (l,1),a,b,c,d]
theorem RA(ns:List Int){C0:aW}(h0:C0.Ok n f)(hB:C0.B.length+C0.W.length<=10){v0:List Nat}(k0:Kept n f z ⟨C0.p,[],[]⟩ v0)(k2:D):∃ v m x,Kept n f z C0 v /\
  rW 5 6 (kH jG 3 3 (aa (ab 2) (aa (ab 6) ag))) (dW ns n f C0 (kpr none n f ⟨C0.p,[],[]⟩ v0 0) k2 (.lst ((bG C0).map ah)) none none none none)=some (.nx (dW ns n f C0 (kpr none n f C0 v m) k2 (.lst ((bG C0).map ah)) x none none none)):=by
 have hlen:(bG C0).length<=10:=by rw[sX];exact hB
 obtain⟨ρ',e,C,v,m,x,hk,hp,hn,hC,rfl⟩:=j6 (pt:=aP 6) (body:=aC (cI (kH jG 3 3 (aa (ab 2) (aa (ab 6) ag)))) (lR 5 ((bG C0).map ah))) ((bG C0).map ah)
  (fun i ρ=>∃ C v m x,Kept n f z C v/\C.p=C0.p/\C.B.length+C.W.length=i/\((bG C0).drop i).foldl (dh C0) C=C0/\ρ=dW ns n f C0 (kpr none n f C v m) k2 (.lst ((bG C0).map ah)) x none none none)
  (dW ns n f C0 (kpr none n f ⟨C0.p,[],[]⟩ v0 0) k2 (.lst ((bG C0).map ah)) none none none none) (fun i hi ρ ai=>by
   obtain⟨C,v,m,x,hk,hp,hn,hC,rfl⟩:=ai
   have cR:i<(bG C0).length:=by rw[Qm]at hi;exact hi
   obtain⟨u,r,h1,h2⟩:=za L hz bz h0 hk hp (s:=(bG C0)[i]) (qh C0 _ (QW cR)) (by omega) m
   refine⟨dW ns n f C0 (kpr none n f C v m) k2 (.lst ((bG C0).map ah)) (some (ah (bG C0)[i],9)) none none none,dW ns n f C0 (kpr none n f (dh C0 C (bG C0)[i]) u (m+r)) k2 (.lst ((bG C0).map ah)) (some (ah (bG C0)[i],9)) none none none,?_,.inl ?_,dh C0 C (bG C0)[i],u,m+r,_,h1.kept,by rw[y_];exact hp,by rw[vt,hn],?_,rfl⟩
   ·rw[JC]
    rfl
   ·refine(bb (kR (D6 (ρ1:=dW ns n f C0 (kpr none n f C v m) k2 (.lst ((bG C0).map ah)) (some (ah (bG C0)[i],9)) none none none) (ds:=[cm n C0,ah (bG C0)[i]]) rfl rfl rfl rfl h2 rfl))).trans ?_
    exact LR rfl
   ·rw[Zl cR]at hC
    exact hC) ⟨⟨C0.p,[],[]⟩,v0,0,none,k0,rfl,rfl,by rw[JT];exact Rw C0,rfl⟩
 rw[Qm]at hC
 have sY:C=C0:=by
  rw[List.drop_length]at hC
  exact hC
 subst sY
 refine⟨v,m,x,hk,?_⟩
 unfold rW
 show(if _ then _ else _)=_
 rw[Qe ⟨by decide,by rw[Qm];omega⟩]
 exact e
theorem Em{l l':List hZ}{u u':List Nat}(h:gy n f p l (dg p z) u)(h':gy n f p l' (dg p z) u')(e:∀ t∈l,t∈l')(e':∀ t∈l',t∈l):u=u':=
 L.eU h.V h'.V (h.le u' h'.V (fun s hs=>h'.cl s (e s hs)) (y7 bz h'.V)) (h'.le u h.V (fun s hs=>h.cl s (e' s hs)) (y7 bz h.V))
structure Inv2 (n:Nat) (f:Nat->Nat->Nat) (z:Nat) (C0:aW) (i:Nat) (C:aW) (v:List Nat) (l:List Sn):Prop where
 kept:Kept n f z C v
 p:C.p=C0.p
 k7:C.B.length+C.W.length<=2*i
 len:l.length+i=(bG C0).length
 zb:∀ s∈l,s∈bG C0
 all:∀ s∈bG C0,s∈l\/bc C0 s∈dU C
 sub:∀ t∈dU C,t∈dU C0
theorem RB(ns:List Int){C0:aW}(h0:C0.Ok n f)(hB:C0.B.length+C0.W.length<=10)(k1:D)(hi:i<(bG C0).length){C:aW}{l:List Sn}(I:Inv2 n f z C0 i C v l)(m:Nat)(b:OD)(a d:OD) :
  ∃ C' v' l' m' a' d',Inv2 n f z C0 (i+1) C' v' l'/\sT (dW ns n f C0 k1 (kpr none n f C v m) (.lst (l.map ah)) a b ((i9 i)) d)=some (.nx (dW ns n f C0 k1 (kpr none n f C' v' m') (.lst (l'.map ah)) a' b ((i9 i)) d')):=by
 have hlen:(bG C0).length<=10:=by rw[sX];exact hB
 have hl:=I.len
 have vc:0<l.length:=by omega
 have PB:Int.ofNat i=(i:Int):=rfl
 obtain⟨j,hj,ej⟩:=D3 ns (c:=200+Int.ofNat i) (by omega) vc
 obtain⟨c,hc,ec⟩:=D3 ns (c:=220+Int.ofNat i) (by omega) (n:=3) (by decide)
 have RC:l.getD j (true,0)∈l:=by
  rw[Qq,Qj hj]
  exact QW hj
 have pf:∀ s∈l,s=l.getD j (true,0)\/s∈l.eraseIdx j:=fun s hs=>by
  obtain⟨q,hq,rfl⟩:=List.getElem_of_mem hs
  by_cases e:q=j
  ·subst e;exact .inl (by simp[hq])
  ·exact .inr (List.mem_eraseIdx_iff_getElem.mpr ⟨q,hq,e,rfl⟩)
 have eL:∀ s∈l.eraseIdx j,s∈l:=fun s hs=>List.mem_of_mem_eraseIdx hs
 have fj:(l.eraseIdx j).length+1=l.length:=by rw[List.length_eraseIdx_of_lt hj];omega
 have e1:bq 6 (lG 5 (aa (aH cj 3 (aa (ab 0) (aa (e2 bB (eC (.int 200)) (ab 8)) (aa (bE 5) ag)))) ag)) (dW ns n f C0 k1 (kpr none n f C v m) (.lst (l.map ah)) a b ((i9 i)) d)=some (.nx (dW ns n f C0 k1 (kpr none n f C v m) (.lst ((l.eraseIdx j).map ah)) (some (ah (l.getD j (true,0)),9)) b ((i9 i)) d)):=by
  refine i_ (Rx (ρ1:=dW ns n f C0 k1 (kpr none n f C v m) (.lst (l.map ah)) a b ((i9 i)) d) (v:=j) rfl (dH (fx (eR (f:=ab 0) (q:=0) rfl (eR (f:=e2 bB (eC (.int 200)) (ab 8)) (q:=9) rfl (dH (D2 (n:=l.length) rfl (by simp[cL]))))) rfl ej)) rfl hj (by omega)) rfl
 generalize l.getD j (true,0)=s at *
 have hs:=I.zb s RC
 have k7:=I.k7
 obtain⟨u,r,h1,h2⟩:=za L hz bz h0 I.kept I.p (qh C0 s hs) (by omega) m
 have I1:Inv2 n f z C0 (i+1) (dh C0 C s) u (l.eraseIdx j):=by
  refine⟨h1.kept,by rw[y_];exact I.p,by rw[vt];omega,by omega,fun t ht=>I.zb t (eL t ht),fun t ht=>?_,fun t ht=>?_⟩
  ·rcases I.all t ht with h|h
   ·rcases pf t h with rfl|h
    ·exact .inr (qt.mpr (.inr rfl))
    ·exact .inl h
   ·exact .inr (qt.mpr (.inl h))
  ·rcases qt.mp ht with h|rfl
   ·exact I.sub t h
   ·exact vj (qh C0 s hs)
 have En:∀ {C1:aW} {v1:List Nat} {m1:Nat} {C2:aW} {v2:List Nat} {m2:Nat} {l:D} {d:OD},(∀ a,jG (kpr (some a) n f C1 v1 m1) [cm n C0,ah s]=some (kpr (some a) n f C2 v2 m2))->cI (kH jG 3 4 (aa (ab 2) (aa (ab 6) ag))) (dW ns n f C0 k1 (kpr none n f C1 v1 m1) l (some (ah s,9)) b ((i9 i)) d)=some (.nx (dW ns n f C0 k1 (kpr none n f C2 v2 m2) l (some (ah s,9)) b ((i9 i)) d)):=fun {C1 v1 m1 C2 v2 m2 l d} h=>
  kR (D6 (ρ1:=dW ns n f C0 k1 (kpr none n f C1 v1 m1) l (some (ah s,9)) b ((i9 i)) d) (ds:=[cm n C0,ah s]) rfl rfl rfl rfl h rfl)
 have e3:∀ {C1:aW} {v1:List Nat} {m1:Nat} {l:D} {d:OD},js "Keeper" "raises" oZ 4 (dW ns n f C0 k1 (kpr none n f C1 v1 m1) l (some (ah s,9)) b ((i9 i)) d)=some ((iD m1),9,dW ns n f C0 k1 (kpr none n f C1 v1 m1) l (some (ah s,9)) b ((i9 i)) d):=fun {C1 v1 m1 l d}=>qq rfl rfl Ro rfl
 have e4:cG (e2 cK (aH cj 3 (aa (ab 0) (aa (e2 bB (eC (.int 220)) (ab 8)) (aa (eC (.int 3)) ag)))) (eC (.int 0))) (dW ns n f C0 k1 (kpr none n f (dh C0 C s) u (m+r)) (.lst ((l.eraseIdx j).map ah)) (some (ah s,9)) b ((i9 i)) ((i9 (m+r))))=some (decide (c=0),dW ns n f C0 k1 (kpr none n f (dh C0 C s) u (m+r)) (.lst ((l.eraseIdx j).map ah)) (some (ah s,9)) b ((i9 i)) ((i9 (m+r)))):=
  uW (m8 (fx (eR (f:=ab 0) (q:=0) rfl (eR (f:=e2 bB (eC (.int 220)) (ab 8)) (q:=9) rfl (dH (f:=eC (.int 3)) (q:=9) rfl))) rfl ec) (fb:=eC (.int 0)) (q':=9) rfl (yu c 0))
 have s1:=En (l:=.lst ((l.eraseIdx j).map ah)) (d:=d) h2
 have s2:=i_ (i:=9) (e3 (C1:=dh C0 C s) (v1:=u) (m1:=m+r) (l:=.lst ((l.eraseIdx j).map ah)) (d:=d)) (ρ2:=dW ns n f C0 k1 (kpr none n f (dh C0 C s) u (m+r)) (.lst ((l.eraseIdx j).map ah)) (some (ah s,9)) b ((i9 i)) ((i9 (m+r)))) rfl
 by_cases Eo:c=0
 ·rw[Q6 Eo]at e4
  have hI:=I1.k7
  obtain⟨u',r',g1,g2⟩:=za L hz bz h0 I1.kept I1.p (qh C0 s hs) (by omega) (m+r)
  have nC:∀ t∈dU (dh C0 (dh C0 C s) s),t∈dU (dh C0 C s):=fun t ht=>by
   rcases qt.mp ht with h|rfl
   ·exact h
   ·exact qt.mpr (.inr rfl)
  have hu:u'=u:=g1.st fun t ht=>I1.kept.low.cl t (nC t ht)
  have hr:=g1.r0 hu
  subst hr
  refine⟨dh C0 (dh C0 C s) s,u',l.eraseIdx j,m+r,some (ah s,9),(i9 (m+r)),⟨g1.kept,by rw[y_];exact I1.p,by rw[vt];have:=vt (C0:=C0) (C:=C) (s:=s);omega,I1.len,I1.zb,fun t ht=>?_,fun t ht=>I1.sub t (nC t ht)⟩,?_⟩
  ·rcases I1.all t ht with h|h
   ·exact .inl h
   ·exact .inr (qt.mpr (.inl h))
  unfold sT
  refine(bb e1).trans ?_
  refine(bb s1).trans ?_
  refine(bb s2).trans ?_
  refine(B4 e4).trans ?_
  refine(bb (En g2)).trans ?_
  have ne:=uW (m8 (e3 (C1:=dh C0 (dh C0 C s) s) (v1:=u') (m1:=m+r+0) (l:=.lst ((l.eraseIdx j).map ah)) (d:=(i9 (m+r)))) (fb:=ab 9) (q':=9) rfl (uU (m+r+0) (m+r)))
  rw[show decide (m+r+0=m+r)=true by simp]at ne
  exact(p7 ne).trans rfl
 ·rw[Q2 Eo]at e4
  refine⟨dh C0 C s,u,l.eraseIdx j,m+r,some (ah s,9),(i9 (m+r)),I1,?_⟩
  unfold sT
  refine(bb e1).trans ?_
  refine(bb s1).trans ?_
  refine(bb s2).trans ?_
  exact(p7 e4).trans rfl
end
theorem RD(ns:List Int):o3 [ck ns]=(b9 true):=by
 obtain⟨n,f,L,hL⟩:=O9 ns 0 (JZ 0)
 obtain⟨z,hz,bz⟩:=L.bot
 obtain⟨C,hC,Su,Sv,Sw,RE⟩:=PC L hz bz ns 20 (by decide)
 have Ep:=hC.p1
 have qk:=hC.p8
 have hlen:(bG C).length<=10:=by rw[sX];omega
 obtain⟨ul,Er,RF⟩:=Rf L hz bz hC
 have hk:=fun a=>Rp L hz bz a Ep qk
 have k0:Kept n f z ⟨C.p,[],[]⟩ (dg C.p z):=⟨⟨Ep,qk,by show 0<=60;decide,by show 0<=60;decide,(fun _ z=>nomatch z),(fun _ z=>nomatch z)⟩,vk hz,(fun s hs=>nomatch hs),L.dy (vk hz),fun b hb _ h=>h⟩
 have ev:=Rg L hC
 unfold o3 DE
 refine fw ?_
 show aC _ _ [(n0 ns),none,none,none,none,none,none,none,none,none]=_
 refine(bb (ρ1:=[(n0 ns),(t9 n f),none,none,none,none,none,none,none,none]) (i_ (fx (ds:=[ck ns,.int 0]) rfl rfl hL) rfl)).trans ?_
 refine(bb (ρ1:=[(n0 ns),(t9 n f),(c9 n C),none,none,none,none,none,none,none]) (i_ (fx (ds:=[ck ns,.int 20,aY n f,.bl false]) rfl rfl RE) rfl)).trans ?_
 refine(bb (ρ1:=[(n0 ns),(t9 n f),(c9 n C),some (kpr none n f ⟨C.p,[],[]⟩ (dg C.p z) 0,1),none,none,none,none,none,none]) (i_ (D7 (ds:=[aY n f,(iD C.p)]) rfl rfl hk) rfl)).trans ?_
 refine(bb (ρ1:=[(n0 ns),(t9 n f),(c9 n C),some (kpr none n f ⟨C.p,[],[]⟩ (dg C.p z) 0,1),some (kpr none n f ⟨C.p,[],[]⟩ (dg C.p z) 0,1),none,none,none,none,none]) (i_ (D7 (ds:=[aY n f,(iD C.p)]) rfl rfl hk) rfl)).trans ?_
 refine(bb (ρ1:=dW ns n f C (kpr none n f ⟨C.p,[],[]⟩ (dg C.p z) 0) (kpr none n f ⟨C.p,[],[]⟩ (dg C.p z) 0) (.lst ((bG C).map ah)) none none none none) (i_ (fx (ds:=[cm n C]) rfl rfl ev) rfl)).trans ?_
 obtain⟨v1,m1,x1,RG,e1⟩:=RA L hz bz ns hC (by omega) k0 (kpr none n f ⟨C.p,[],[]⟩ (dg C.p z) 0)
 refine(bb e1).trans ?_
 refine(bb (ρ1:=dW ns n f C (kpr none n f C v1 m1) (kpr none n f ⟨C.p,[],[]⟩ (dg C.p z) 0) (.lst ((bG C).map ah)) x1 (some (.int (Int.ofNat (bG C).length),9)) none none) (i_ (D2 (n:=(bG C).length) rfl (by simp[cL])) rfl)).trans ?_
 obtain⟨ρ',e,C2,v2,l2,m2,a,c,d,I2,rfl⟩:=j6 (pt:=aP 8) (body:=sT) (bW (bG C).length)
  (fun i ρ=>∃ C2 v2 l2 m2 a c d,Inv2 n f z C i C2 v2 l2/\ρ=dW ns n f C (kpr none n f C v1 m1) (kpr none n f C2 v2 m2) (.lst (l2.map ah)) a (some (.int (Int.ofNat (bG C).length),9)) c d)
  (dW ns n f C (kpr none n f C v1 m1) (kpr none n f ⟨C.p,[],[]⟩ (dg C.p z) 0) (.lst ((bG C).map ah)) x1 (some (.int (Int.ofNat (bG C).length),9)) none none) (fun i hi ρ ai=>by
   obtain⟨C2,v2,l2,m2,a,c,d,I2,rfl⟩:=ai
   have cR:i<(bG C).length:=by rw[eh]at hi;exact hi
   obtain⟨C',v',l',m',a',d',I',e'⟩:=RB L hz bz ns hC (by omega) (kpr none n f C v1 m1) cR I2 m2 (some (.int (Int.ofNat (bG C).length),9)) a d
   exact⟨dW ns n f C (kpr none n f C v1 m1) (kpr none n f C2 v2 m2) (.lst (l2.map ah)) a (some (.int (Int.ofNat (bG C).length),9)) ((i9 i)) d,_,by rw[qg];rfl,.inl e',C',v',l',m',a',_,d',I',rfl⟩) ⟨⟨C.p,[],[]⟩,dg C.p z,bG C,0,x1,none,none,⟨k0,rfl,ZC _,rfl,fun s hs=>hs,fun s hs=>.inl hs,(fun t ht=>nomatch ht)⟩,rfl⟩
 rw[eh]at I2
 refine(bb ((jv (o_ (m:=(bG C).length) (by omega) (fe:=ab 7) (q:=9) rfl)).trans e)).trans ?_
 have RH:l2=[]:=by have:=I2.len;exact Q0.mp (by omega)
 subst RH
 have q1:v1=ul:=Em L hz bz RG.low Er (fun t h=>h) fun t h=>h
 have RI:=I2.p
 have nE:=I2.kept.low
 rw[RI]at nE
 have q2:v2=ul:=Em L hz bz nE Er I2.sub fun t ht=>by
  have:t∈(bG C).map (bc C):=by rw[y3];exact ht
  obtain⟨s,hs,rfl⟩:=QF.mp this
  rcases I2.all s hs with h|h
  ·cases h
  ·exact h
 subst q1
 subst q2
 generalize hR:(dW ns n f C (kpr none n f C v2 m1) (kpr none n f C2 v2 m2) (.lst (List.map ah [])) a (some (.int (Int.ofNat (bG C).length),9)) c d)=R
 have r3:R[3]? = some (some (kpr none n f C v2 m1,1)):=by rw[<- hR];rfl
 have r4:R[4]? = some (some (kpr none n f C2 v2 m2,1)):=by rw[<- hR];rfl
 have r1:ab 1 R=some (aY n f,9,R):=by rw[<- hR];rfl
 have r2:ab 2 R=some (cm n C,9,R):=by rw[<- hR];rfl
 have a3:=qq (m:="answer") (F:=lV) r3 rfl Ef (Ee v2)
 have a4:=qq (m:="answer") (F:=lV) r4 rfl Ef (Ee v2)
 have c3:=qq (m:="chart") (F:=kg) r3 rfl Ec (Ed n C)
 have hT:=Mi v2 v2
 rw[Q6 rfl]at hT
 refine iz (ρ1:=R) ?_
 have d1:=m8 a3 (fx (F:=qe) (n:=2) (eR r1 (dH r2)) rfl RF) hT
 have d2:=m8 a4 a3 hT
 have d3:=m8 c3 r2 (Rj n C)
 unfold kE
 rw[d1]
 simp only[d2,d3]
 rfl
theorem km(ns:List Int)(D5:ns.length<=63):∃ q,qf [.lst (ns.map D.int)]=some (.bl true,q):=by
 obtain⟨x,e⟩:=Rl D5 (m:=5) (by decide) RD
 refine⟨9,?_⟩
 unfold qf DG
 refine fw ?_
 exact(bb e).trans rfl
def A0 (K:PySem.W.Frag)(mg:Str->Option Value)(x:Str)(st:Stmt):Prop:=∃ f fd,iN K x x st f fd/\mg x=some (.ref f)
theorem A0.mk{K:PySem.W.Frag}{h:Heap}{mg:Str->Option Value}{x:Str}{f:Addr}{kV:Value}(X:K.In h)(G:h.Ns mainGlobals mg)(a:PySem.W.nsIn K mainGlobals x=some (some (.ref f)))(l:K.lookup f=some ⟨oc,od,.func (PySem.W.fnOf x x (ky st) (d7 st) (aG st) .none kV dc pm an cd ct),sl⟩)(c:PySem.W.codeIn K cd x=true)(k:PySem.W.keepIn K (.ref f)=true):A0 K mg x st:=⟨_,_,wm l c k,JW X G a⟩
theorem A0.at{K:PySem.W.Frag}{mg:Str->Option Value}{x:Str}(a:A0 K mg x st)(h:∀ (kV doc pm:Value) (an:Option Addr) (aQ ct:Value) (us:List Value),us.length=ps.length->bindArgs (PySem.W.fnOf x x (ky st) (d7 st) (aG st) .none kV doc pm an aQ ct) ⟨us,[]⟩=pure (ps.zip us)):At K mg x st ps:=by
 obtain⟨f,fd,F,m⟩:=a
 exact⟨f,fd,F,m,F.binds h⟩
def A0M (K:PySem.W.Frag)(nm m qual:Str)(st:Stmt):Prop:=∃ C f fd,PySem.W.nsIn K mainGlobals nm=some (some (.ref C))/\gK K C m f/\iN K m qual st f fd
theorem A0M.mk{K:PySem.W.Frag}{nm m:Str}{C f:Addr}{kV:Value}(n:PySem.W.nsIn K mainGlobals nm=some (some (.ref C)))(a:PySem.W.findIn K (.ref C) m=some (some (.ref f)))(i:PySem.W.isFn K (.ref f)=true)(l:K.lookup f=some ⟨oc,od,.func (PySem.W.fnOf m qual (ky st) (d7 st) (aG st) .none kV dc pm an cd ct),sl⟩)(c:PySem.W.codeIn K cd qual=true)(k:PySem.W.keepIn K (.ref f)=true):A0M K nm m qual st:=⟨_,_,_,n,⟨a,i,k⟩,wm l c k⟩
theorem A0M.at{K:PySem.W.Frag}{nm m:Str}(a:A0M K nm m qual st)(h:∀ (kV doc pm:Value) (an:Option Addr) (aQ ct:Value) (us:List Value),us.length=ps.length->bindArgs (PySem.W.fnOf m qual (ky st) (d7 st) (aG st) .none kV doc pm an aQ ct) ⟨us,[]⟩=pure (ps.zip us)):i7 K nm m qual st ps:=by
 obtain⟨C,f,fd,n,mt,F⟩:=a
 exact⟨C,f,fd,n,mt,F,F.binds h⟩
theorem all_mk{w:World}{K:PySem.W.Frag}{h:Heap}{mg:Str->Option Value}{fa:Addr}{zc:Addr}{zd sZ:Option Addr}{ze:Array (Option Value)}{zf s9 s_ tj ph tm:Value}{kC:Addr}(X:K.In h)(G:h.Ns mainGlobals mg)(RJ:mg "law" = some (.ref fa))
  (A1:A0 K mg "_law_cell" (top 35))
  (A2:A0 K mg "_law_pick" (top 36))
  (A3:A0 K mg "_law_chain" (top 37))
  (A4:A0 K mg "_law_couples" (top 38))
  (A5:A0 K mg "_law_side_by_side" (top 39))
  (A6:A0 K mg "_law_base" (top 40))
  (A7:A0 K mg "_law_ladder" (top 41))
  (A8:A0 K mg "_law_low" (top 42))
  (A9:A0 K mg "_law_join" (top 43))
  (A10:A0 K mg "_law_under" (top 44))
  (A11:A0 K mg "_law_rule" (top 45))
  (A12:A0 K mg "_law_spreads" (top 46))
  (A13:A0 K mg "_law_spread_rule" (top 47))
  (A14:A0 K mg "_law_chart" (top 48))
  (A15:A0 K mg "row_of_least" (top 11))
  (A16:A0 K mg "least_of" (top 12))
  (A17:A0 K mg "lowest" (top 23))
  (A18:A0M K "Keeper" "chart" "Keeper.chart" (fC (top 33) 4))
  (A19:A0M K "Keeper" "__init__" "Keeper.__init__" (fC (top 33) 0))
  (A20:A0 K mg "_law_every_step" (top 49))
  (A21:A0 K mg "is_whole" (top 6))
  (A22:A0 K mg "is_number_of" (top 7))
  (A23:A0 K mg "refuse_no_place" (top 21))
  (A24:A0 K mg "place_and_worth" (top 28))
  (A25:A0 K mg "worths_behind" (top 29))
  (A26:A0 K mg "risen" (top 30))
  (A27:A0 K mg "all_steps" (top 25))
  (A28:A0M K "Keeper" "rise" "Keeper.rise" (fC (top 33) 3))
  (A29:A0M K "Keeper" "add_begin" "Keeper.add_begin" (fC (top 33) 1))
  (A30:A0 K mg "is_row_of" (top 8))
  (A31:A0 K mg "is_rule" (top 16))
  (A32:A0 K mg "is_below" (top 13))
  (A33:A0 K mg "below" (top 14))
  (A34:A0 K mg "rises" (top 17))
  (A35:A0 K mg "is_rising_rule" (top 18))
  (A36:A0 K mg "refuse_unrising" (top 19))
  (A37:A0M K "Keeper" "add_way" "Keeper.add_way" (fC (top 33) 2))
  (A38:A0 K mg "_law_come" (top 51))
  (A39:A0M K "Keeper" "raises" "Keeper.raises" (fC (top 33) 6))
  (A40:A0M K "Keeper" "answer" "Keeper.answer" (fC (top 33) 5))
  (A41:A0 K mg "is_named_number" (top 9))
  (A42:A0 K mg "is_step" (top 26))
  (A43:A0 K mg "refuse_no_step" (top 27))
  (A44:A0 K mg "least_by" (top 31))
  (A45:A0 K mg "least" (top 24))
  (A46:A0 K mg "_law_once" (top 52))
  (a47:PySem.W.nsIn K mainGlobals "law" = some (some (.ref zc))) (l47:K.lookup zc=some ⟨zf,zd,.func (PySem.W.fnOf "law" "law" (ky (top 53)) (d7 (top 53)) (aG (top 53)) .none s9 s_ tj sZ ph tm),ze⟩) (c47:PySem.W.codeIn K ph "law" = true) (k47:PySem.W.keepIn K (.ref zc)=true)
  (z1:PySem.W.nsIn K mainGlobals "all" = some none) (z2:PySem.W.nsIn K mainGlobals "bool" = some none) (z3:PySem.W.nsIn K mainGlobals "int" = some none) (z4:PySem.W.nsIn K mainGlobals "isinstance" = some none) (z5:PySem.W.nsIn K mainGlobals "len" = some none) (z6:PySem.W.nsIn K mainGlobals "list" = some none) (z7:PySem.W.nsIn K mainGlobals "max" = some none) (z8:PySem.W.nsIn K mainGlobals "range" = some none) (z9:PySem.W.nsIn K mainGlobals "str" = some none) (z10:PySem.W.nsIn K mainGlobals "tuple" = some none) (kN:PySem.W.nsIn K mainGlobals "Keeper" = some (some (.ref kC))) (kM:PySem.W.makesIn K kC=true) (kP:PySem.W.keepIn K (.ref kC)=true) (kpg:PySem.W.plainGet K kC Str.empty=true) (khd:PySem.W.hasDictIn K kC=true) (kpo:PySem.W.plainOver K kC=true) (ksa:PySem.W.findIn K (.ref kC) "__setattr__" = some (some (.builtin "object.__setattr__"))) (kca:PySem.W.findIn K (.ref kC) "__class__" = some (some (.builtin "object.__class__"))) (kcn:PySem.W.specialIn K (.builtin "object.__class__") "__get__" = some (some (.builtin "getset_descriptor.__get__"))) (kct:PySem.W.takesIn K (.builtin "object.__class__")=some true) (kcm:PySem.W.mroIn K kC (.type "object")=some true) (kn0:PySem.W.mroIn K kC (.type "bool")=some false) (kn1:PySem.W.mroIn K kC (.type "int")=some false) (kn2:PySem.W.mroIn K kC (.type "tuple")=some false) (kn3:PySem.W.mroIn K kC (.type "list")=some false) (kn4:PySem.W.mroIn K kC (.type "str")=some false) (kf_begins:PySem.W.findIn K (.ref kC) "begins" = some none) (kf_ladder:PySem.W.findIn K (.ref kC) "ladder" = some none) (kf_many_raises:PySem.W.findIn K (.ref kC) "many_raises" = some none) (kf_places:PySem.W.findIn K (.ref kC) "places" = some none) (kf_ways:PySem.W.findIn K (.ref kC) "ways" = some none) (kf_worths:PySem.W.findIn K (.ref kC) "worths" = some none) :
  ∃ fd:FuncData,(∀ (s:Shared) (v:Value),BindsTo s fd ⟨[v],[]⟩ [("_law_script",v)])/\∀ base:Heap,K.In base->base.Ns mainGlobals mg->bO l.prog w K mg base c_ 10 fa fd ["_law_script"] (iR K 1 qf):=by
 have e:=RJ.symm.trans (JW X G a47)
 cases e
 have B:Bt mg:=⟨QY X G z1,QY X G z2,QY X G z3,QY X G z4,QY X G z5,QY X G z6,QY X G z7,QY X G z8,QY X G z9,QY X G z10⟩
 have hc:∀ C,PySem.W.nsIn K mainGlobals "Keeper" = some (some (.ref C))->mg "Keeper" = some (.ref C)/\PySem.W.makesIn K C=true/\PySem.W.keepIn K (.ref C)=true/\fE K C:=fun C e=>by
  rw[kN]at e
  cases e
  exact⟨JW X G kN,kM,kP,⟨⟨kpg,khd,kpo,ksa⟩,kca,kcn,kct,kcm,fE.LY kn0 kn1 kn2 kn3 kn4⟩⟩
 have N:Kt K:=⟨iy.of kN kf_begins,iy.of kN kf_ladder,iy.of kN kf_many_raises,iy.of kN kf_places,iy.of kN kf_ways,iy.of kN kf_worths⟩
 refine⟨PySem.W.fnOf "law" "law" (ky (top 53)) (d7 (top 53)) (aG (top 53)) .none s9 s_ tj sZ ph tm,fun s v=>.of_eq rfl,fun base KX NG=>?_⟩
 have gW:=Mr (P:=l.prog) (w:=w) (base:=base) B (A1.at fun _ _ _ _ _ _ _ h=>by obtain⟨_,_,rfl⟩:=L3.fX h;rfl)
 have bf:=Ms B gW (A2.at fun _ _ _ _ _ _ _ h=>by obtain⟨_,_,_,rfl⟩:=L3.j_ h;rfl)
 have gz:=Mz (P:=l.prog) (w:=w) (base:=base) B (A3.at fun _ _ _ _ _ _ _ h=>by obtain⟨_,rfl⟩:=L3.jd h;rfl)
 have eZ:=MD (P:=l.prog) (w:=w) (base:=base) B (A4.at fun _ _ _ _ _ _ _ h=>by obtain⟨_,_,rfl⟩:=L3.fX h;rfl)
 have cQ:=MH (P:=l.prog) (w:=w) (base:=base) B (A5.at fun _ _ _ _ _ _ _ h=>by obtain⟨_,rfl⟩:=L3.jd h;rfl)
 have gX:=MI B bf gz eZ cQ (A6.at fun _ _ _ _ _ _ _ h=>by obtain⟨_,_,rfl⟩:=L3.fX h;rfl)
 have fN:=MO B gX bf (A7.at fun _ _ _ _ _ _ _ h=>by obtain⟨_,_,rfl⟩:=L3.fX h;rfl)
 have e7:=MS (P:=l.prog) (w:=w) (base:=base) B (A8.at fun _ _ _ _ _ _ _ h=>by obtain⟨_,rfl⟩:=L3.jd h;rfl)
 have gY:=MU B e7 (A9.at fun _ _ _ _ _ _ _ h=>by obtain⟨_,_,rfl⟩:=L3.fX h;rfl)
 have gA:=MX (P:=l.prog) (w:=w) (base:=base) B (A10.at fun _ _ _ _ _ _ _ h=>by obtain⟨_,_,rfl⟩:=L3.fX h;rfl)
 have dX:=M1 B e7 bf gY gA (A11.at fun _ _ _ _ _ _ _ h=>by obtain⟨_,_,_,rfl⟩:=L3.j_ h;rfl)
 have e8:=M8 (P:=l.prog) (w:=w) (base:=base) B (A12.at fun _ _ _ _ _ _ _ h=>by obtain⟨_,_,rfl⟩:=L3.fX h;rfl)
 have cY:=Na B dX e8 bf (A13.at fun _ _ _ _ _ _ _ h=>by obtain⟨_,_,_,rfl⟩:=L3.j_ h;rfl)
 have gB:=Nc B bf dX cY (A14.at fun _ _ _ _ _ _ _ h=>by obtain⟨_,_,_,_,rfl⟩:=L3.uY h;rfl)
 have e_:=Ng (P:=l.prog) (w:=w) (base:=base) B (A15.at fun _ _ _ _ _ _ _ h=>by obtain⟨_,rfl⟩:=L3.jd h;rfl)
 have iE:=Ni B e_ (A16.at fun _ _ _ _ _ _ _ h=>by obtain⟨_,rfl⟩:=L3.jd h;rfl)
 have gZ:=Nl B iE (A17.at fun _ _ _ _ _ _ _ h=>by obtain⟨_,_,rfl⟩:=L3.fX h;rfl)
 have bS:=Np (P:=l.prog) (w:=w) (base:=base) B (A18.at fun _ _ _ _ _ _ _ h=>by obtain⟨_,rfl⟩:=L3.jd h;rfl)
 have dz:=Nr B N gZ bS (A19.at fun _ _ _ _ _ _ _ h=>by obtain⟨_,_,_,rfl⟩:=L3.j_ h;rfl) hc
 have dA:=Nu (P:=l.prog) (w:=w) (base:=base) B (A20.at fun _ _ _ _ _ _ _ h=>by obtain⟨_,rfl⟩:=L3.jd h;rfl)
 have iF:=Nw (P:=l.prog) (w:=w) (base:=base) B (A21.at fun _ _ _ _ _ _ _ h=>by obtain⟨_,rfl⟩:=L3.jd h;rfl)
 have bT:=Ny B iF (A22.at fun _ _ _ _ _ _ _ h=>by obtain⟨_,_,rfl⟩:=L3.fX h;rfl)
 have b7:=NB B bT (A23.at fun _ _ _ _ _ _ _ h=>by obtain⟨_,_,rfl⟩:=L3.fX h;rfl)
 have dB:=NC (P:=l.prog) (w:=w) (base:=base) B (A24.at fun _ _ _ _ _ _ _ h=>by obtain⟨_,_,_,rfl⟩:=L3.j_ h;rfl)
 have eu:=ND B dB (A25.at fun _ _ _ _ _ _ _ h=>by obtain⟨_,_,_,_,rfl⟩:=L3.uY h;rfl)
 have jh:=NH B eu (A26.at fun _ _ _ _ _ _ _ h=>by obtain⟨_,_,_,_,rfl⟩:=L3.uY h;rfl)
 have dY:=NJ (P:=l.prog) (w:=w) (base:=base) B (A27.at fun _ _ _ _ _ _ _ h=>by obtain⟨_,rfl⟩:=L3.jd h;rfl)
 have cV:=NK B N bS jh dY (A28.at fun _ _ _ _ _ _ _ h=>by obtain⟨_,rfl⟩:=L3.jd h;rfl)
 have cZ:=NM B N b7 cV (A29.at fun _ _ _ _ _ _ _ h=>by obtain⟨_,_,_,rfl⟩:=L3.j_ h;rfl)
 have g7:=NP B bT (A30.at fun _ _ _ _ _ _ _ h=>by obtain⟨_,_,_,rfl⟩:=L3.j_ h;rfl)
 have jx:=NR B g7 (A31.at fun _ _ _ _ _ _ _ h=>by obtain⟨_,_,rfl⟩:=L3.fX h;rfl)
 have fg:=NU (P:=l.prog) (w:=w) (base:=base) B (A32.at fun _ _ _ _ _ _ _ h=>by obtain⟨_,_,_,rfl⟩:=L3.j_ h;rfl)
 have l7:=NX B fg (A33.at fun _ _ _ _ _ _ _ h=>by obtain⟨_,_,rfl⟩:=L3.fX h;rfl)
 have l8:=N0 B l7 fg (A34.at fun _ _ _ _ _ _ _ h=>by obtain⟨_,_,rfl⟩:=L3.fX h;rfl)
 have dM:=N3 B jx l8 (A35.at fun _ _ _ _ _ _ _ h=>by obtain⟨_,_,rfl⟩:=L3.fX h;rfl)
 have dC:=N7 B dM (A36.at fun _ _ _ _ _ _ _ h=>by obtain⟨_,_,rfl⟩:=L3.fX h;rfl)
 have dN:=N_ B N b7 dC cV (A37.at fun _ _ _ _ _ _ _ h=>by obtain⟨_,_,_,_,rfl⟩:=L3.uY h;rfl)
 have g8:=Ob B cZ dN (A38.at fun _ _ _ _ _ _ _ h=>by obtain⟨_,_,_,rfl⟩:=L3.j_ h;rfl)
 have eA:=Od (P:=l.prog) (w:=w) (base:=base) B (A39.at fun _ _ _ _ _ _ _ h=>by obtain⟨_,rfl⟩:=L3.jd h;rfl)
 have eE:=Of (P:=l.prog) (w:=w) (base:=base) B (A40.at fun _ _ _ _ _ _ _ h=>by obtain⟨_,rfl⟩:=L3.jd h;rfl)
 have dE:=Oh B bT (A41.at fun _ _ _ _ _ _ _ h=>by obtain⟨_,_,rfl⟩:=L3.fX h;rfl)
 have jy:=Oj B dE (A42.at fun _ _ _ _ _ _ _ h=>by obtain⟨_,_,rfl⟩:=L3.fX h;rfl)
 have dO:=Oq B jy (A43.at fun _ _ _ _ _ _ _ h=>by obtain⟨_,_,rfl⟩:=L3.fX h;rfl)
 have iG:=Ou B dO jh gZ (A44.at fun _ _ _ _ _ _ _ h=>by obtain⟨_,_,_,rfl⟩:=L3.j_ h;rfl)
 have l9:=Oy B iG dY (A45.at fun _ _ _ _ _ _ _ h=>by obtain⟨_,_,rfl⟩:=L3.fX h;rfl)
 have g9:=OA B fN gB dz dA g8 bf eA eE l9 bS (A46.at fun _ _ _ _ _ _ _ h=>by obtain⟨_,rfl⟩:=L3.jd h;rfl)
 exact OH B g9 (wm (st:=top 53) l47 c47 k47)
theorem walk{q:Program}{loose:List Str}{XP:(Str->Option Value)->Heap->Prop}{YP:World->Heap->Prop}{d:DefRec}{K:Params->PySem.W.Frag}(hn:l.most=some 63)(qX:d.params.defaults=[])
  (hY:∀ (w:World) (h:Heap),YP w h->(K w.params).In h)
  (F:∀ (w:World) (mg:Str->Option Value) (fa:Addr) (h:Heap),(K w.params).In h->h.Ns mainGlobals mg->mg d.name=some (.ref fa)->(∀ x∈pI,PySem.W.tabIn (K w.params) x=none) /\
    ∃ fd:FuncData,(∀ (s:Shared) (u:Value),BindsTo s fd ⟨[u],[]⟩ [("_law_script",u)])/\∀ base:Heap,(K w.params).In base->base.Ns mainGlobals mg->bO l.prog w (K w.params) mg base c_ 10 fa fd ["_law_script"] (iR (K w.params) 1 qf)) :
  PySem.W.WalkO q loose XP YP l.row.toRowW d [] (fun f vs=>PySem.call f vs):=
 L4 (n:=63) (k:=10) (x:="_law_script") (F0:=qf) hn (by decide) qX ⟨rfl,by decide,by decide⟩ hY F fun _ _ a ns hl tb hS=>KC km hl hS tb
end My
namespace PySem.W.Fast
def tw10063598683235538433:=0
def tw10126706203244565614:=0
def tw10139163800422756004:=0
def tw10192991119538967137:=0
def tw10198939372701999138:=0
def tw10205658567381386012:=0
def tw10228774782769496235:=0
def tw10236189151795381129:=0
def tw10240732692777385948:=0
def tw10327077181459949409:=0
def tw10388791599643505716:=0
def tw10412980609278752949:=0
def tw10437242028277960349:=0
def tw10438993964606083344:=0
def tw10444534082671654923:=0
def tw10471338940208653771:=0
def tw10474573204178641801:=0
def tw10519242398750813713:=0
def tw10528725646611001602:=0
def tw10531057237595703284:=0
def tw10553182090619000554:=0
def tw10563962858504842618:=0
def tw10593744041929425473:=0
def tw10885078324519445374:=0
def tw10916688244254561948:=0
def tw11060234767844724966:=0
def tw11100369840465485469:=0
def tw11132750361144474490:=0
def tw11161996387955594859:=0
def tw11189903647786142007:=0
def tw1126755845899397561:=0
def tw11308604856158043561:=0
def tw11342949138925506556:=0
def tw11351058606393347995:=0
def tw1135322717029011652:=0
def tw11367327934618616892:=0
def tw11374731079239389154:=0
def tw11376260542455975229:=0
def tw11411974808017194450:=0
def tw1145208864869649174:=0
def tw11490874626931982009:=0
def tw11594261160169298446:=0
def tw11680240148436702731:=0
def tw11684919935263547888:=0
def tw11707488314047208341:=0
def tw11764899154025976994:=0
def tw11764989131901830868:=0
def tw1176627369758001365:=0
def tw11828423209486874226:=0
def tw1198022821648334247:=0
def tw12045322522985143800:=0
def tw1208680288384175659:=0
def tw12123351868360555516:=0
def tw12514329768602239260:=0
def tw125169563407566511:=0
def tw12534017709855813786:=0
def tw12541303056446842609:=0
def tw12542795892825072379:=0
def tw12556625069137657140:=0
def tw12634067747444737556:=0
def tw12649752289607146925:=0
def tw12664357421913169283:=0
def tw12688574218397696083:=0
def tw12737086298586917390:=0
def tw12755447275797246567:=0
def tw12860513990762587697:=0
def tw12863524677617235901:=0
def tw12879130629876918782:=0
def tw12889550478064618761:=0
def tw1289382580950632435:=0
def tw12963392103046919038:=0
def tw12990564251591979285:=0
def tw13021635170184892489:=0
def tw13053304731699784741:=0
def tw13102946536770237743:=0
def tw13232483049545308834:=0
def tw13238683790767533553:=0
def tw13344616646918891537:=0
def tw13363635440440749675:=0
def tw13381567300333132813:=0
def tw13410179519063564412:=0
def tw13450405418733443662:=0
def tw13469637031305897741:=0
def tw13481739137114720308:=0
def tw13482290291379347256:=0
def tw1351864445851624537:=0
def tw1362922512584200381:=0
def tw1363022671839514193:=0
def tw13656251820684849044:=0
def tw13661307717347620562:=0
def tw13697160394425800179:=0
def tw13767177161936881235:=0
def tw13850358243133745074:=0
def tw13850687687328562184:=0
def tw13863267943661326335:=0
def tw13869376789830666174:=0
def tw13943207189725309791:=0
def tw14011285484311041762:=0
def tw14127540715341576463:=0
def tw14212211135899391778:=0
def tw1424457057048561453:=0
def tw14350374207903324124:=0
def tw14379266403347646568:=0
def tw14477295812451835215:=0
def tw1450688130368000825:=0
def tw14523186435936921058:=0
def tw14534640584773291143:=0
def tw14660788074507150420:=0
def tw14721389827798229996:=0
def tw14776273765242421112:=0
def tw14780276308570357845:=0
def tw14806801547062769526:=0
def tw14823073339150628772:=0
def tw14840056003819804982:=0
def tw14884298291654911156:=0
def tw14919716827548610297:=0
def tw14935404939713887253:=0
def tw14946111361928587957:=0
def tw14971485992257919162:=0
def tw15068914579823775712:=0
def tw15083144711735665603:=0
def tw15189517977898411008:=0
def tw15231749552732776307:=0
def tw1525464383105905184:=0
def tw15290361066229006098:=0
def tw15324481547445406427:=0
def tw15329500976709191302:=0
def tw15342425079881356252:=0
def tw15435145852865615714:=0
def tw15464245844425784914:=0
def tw15469088393986959654:=0
def tw15516227170744378650:=0
def tw15557208765096284903:=0
def tw15570959406540868962:=0
def tw15577090331794176749:=0
def tw15577308100129597520:=0
def tw15614463886495024612:=0
def tw15659577449046091240:=0
def tw15764507780536916996:=0
def tw15826337728848737582:=0
def tw15848863236440474356:=0
def tw15868589914744944968:=0
def tw15931676215697316417:=0
def tw15961133154094611765:=0
def tw16006198505505841145:=0
def tw16046605110121632258:=0
def tw16076497596074606912:=0
def tw16076956196335102795:=0
def tw16083656071690673583:=0
def tw16108414093018663802:=0
def tw16170299392276448660:=0
def tw16178454967888198153:=0
def tw1622143540067704664:=0
def tw16233224688329374879:=0
def tw16289808945329790026:=0
def tw16300300906414153826:=0
def tw1630873387532335868:=0
def tw16364036452725001764:=0
def tw16503418054967133789:=0
def tw16543742204092829573:=0
def tw16567552049804040973:=0
def tw1657532161825187682:=0
def tw16577855432377522936:=0
def tw16583633605317383460:=0
def tw16749946888457497907:=0
def tw16760821306290766545:=0
def tw16834970304329187589:=0
def tw16940297545889149540:=0
def tw1705816494491376272:=0
def tw17164794882284604659:=0
def tw17220090418434500014:=0
def tw17235510490548452822:=0
def tw17526899052140680828:=0
def tw17645373528222232450:=0
def tw17683210513788712258:=0
def tw17797940218993618152:=0
def tw17806520732302450973:=0
def tw17826668112911134186:=0
def tw17861807645771762812:=0
def tw17913387780418142497:=0
def tw18100378636137906513:=0
def tw18223359124288702952:=0
def tw18260212850802778382:=0
def tw18316573979467007355:=0
def tw18366319245636413750:=0
def tw18440149526644611470:=0
def tw1879900981810886917:=0
def tw1905091547047029737:=0
def tw1911652231103853930:=0
def tw1986589322313515670:=0
def tw2032141417236469416:=0
def tw2050038079695434129:=0
def tw2139717016296803052:=0
def tw2151235515297626593:=0
def tw2220730370199436279:=0
def tw2225371884066117502:=0
def tw2294473854923856385:=0
def tw2372105183455354536:=0
def tw2386775861471523442:=0
def tw2389777034192416256:=0
def tw2500520151141239665:=0
def tw2526871388994785528:=0
def tw271687801579552299:=0
def tw2784723095895725278:=0
def tw2798868715897400728:=0
def tw2811978482569282884:=0
def tw2880698122510752071:=0
def tw2902615741084253859:=0
def tw2912371065884788488:=0
def tw2953398827630547488:=0
def tw3048906989752033092:=0
def tw3051264396000218154:=0
def tw3131924078532923817:=0
def tw3147061664967493365:=0
def tw3207903610209551189:=0
def tw3236788486488717132:=0
def tw3240764947788919714:=0
def tw3275265353697770754:=0
def tw3303482147909333218:=0
def tw3306736402746586577:=0
def tw3355212960010965420:=0
def tw3411382596899978901:=0
def tw3527186150770289841:=0
def tw3530700341096968471:=0
def tw3540222592031422971:=0
def tw3547990417771447214:=0
def tw3567390780539613944:=0
def tw3567889502449879036:=0
def tw3580253356859173977:=0
def tw3599959235749973266:=0
def tw3637151686724973413:=0
def tw3657432692875561297:=0
def tw3739079874284876264:=0
def tw376940340732088714:=0
def tw3826500969989789549:=0
def tw3842434337701355174:=0
def tw3984747228186671292:=0
def tw4017726581450483537:=0
def tw4037433034603707086:=0
def tw408077195890463418:=0
def tw4118906182493907954:=0
def tw4237588761226590947:=0
def tw4280690501316928085:=0
def tw4339306074903057381:=0
def tw4394393307156023891:=0
def tw4402498329043247693:=0
def tw4536835800026563449:=0
def tw4568113509259446886:=0
def tw4637186502582518153:=0
def tw4692254958124429352:=0
def tw477694005737938046:=0
def tw4788295223636096771:=0
def tw4806413763845259561:=0
def tw4847215454251309468:=0
def tw4872050499449101149:=0
def tw4895825294497898512:=0
def tw4997693486265014376:=0
def tw5001436957790100975:=0
def tw5001536176329555847:=0
def tw5039156547209064481:=0
def tw5050898118267341640:=0
def tw511572482579144698:=0
def tw5320957033274107583:=0
def tw5340581940500257885:=0
def tw5398686927545490291:=0
def tw5417591876562253150:=0
def tw546369520356207868:=0
def tw5466486723935012697:=0
def tw54827119046535997:=0
def tw5561674500422705309:=0
def tw559806638732375615:=0
def tw5631219752490022486:=0
def tw5633811045176115199:=0
def tw5648695528406505552:=0
def tw5677119593330976990:=0
def tw5739752089917854843:=0
def tw5944000213426295300:=0
def tw5976184990687366081:=0
def tw6012326630133659654:=0
def tw6016445690122175184:=0
def tw608468907913401093:=0
def tw6108097560377898170:=0
def tw6267473253734655052:=0
def tw6279993086523425135:=0
def tw6284034415974729239:=0
def tw6299289653057214700:=0
def tw6299471320318764999:=0
def tw6339979341741092590:=0
def tw6413258077419291836:=0
def tw6470355423470259595:=0
def tw6497128495011824122:=0
def tw6630606890346141469:=0
def tw6632142921479929967:=0
def tw6657851528090399500:=0
def tw6773369515634755191:=0
def tw6813352029444132232:=0
def tw6834632535739322266:=0
def tw6880842484786323943:=0
def tw6988539861868571374:=0
def tw7006740638947838336:=0
def tw7076925915086923500:=0
def tw7092675861978691304:=0
def tw7195435583069366885:=0
def tw7302513695587818755:=0
def tw7314510813616653105:=0
def tw7397404142588501096:=0
def tw7410440472263520005:=0
def tw7509587322278096712:=0
def tw7567556724169985741:=0
def tw7596212030997776667:=0
def tw7604706201769547140:=0
def tw7613251460545993840:=0
def tw7749108932749935491:=0
def tw7813590490265653378:=0
def tw786383229121827470:=0
def tw7880447898439365393:=0
def tw8017528899590637575:=0
def tw8018939464470086662:=0
def tw8035687161596941844:=0
def tw8045141328731858734:=0
def tw8239573321038930371:=0
def tw8244100377870025141:=0
def tw8274612455760102539:=0
def tw8304291778428393389:=0
def tw8323806175049913436:=0
def tw8420418160623527090:=0
def tw842117266323776290:=0
def tw8521918546192568780:=0
def tw8562533204967256183:=0
def tw8585699431436563740:=0
def tw8604358236704822378:=0
def tw8694064040808643284:=0
def tw8720111354250766312:=0
def tw8744810142324020490:=0
def tw8846738798001708687:=0
def tw8887309890722759683:=0
def tw8912767605894980208:=0
def tw9018288036741688511:=0
def tw9044619163107482987:=0
def tw91121914666039154:=0
def tw913329622280603973:=0
def tw9211473823899383452:=0
def tw9213054259906949429:=0
def tw9213280336226341300:=0
def tw9251377320689825681:=0
def tw9307403817879188044:=0
def tw9320337696811898355:=0
def tw9339312352444261599:=0
def tw934799551310997327:=0
def tw9387755706831761821:=0
def tw9407301332294969799:=0
def tw9419534313564781569:=0
def tw9514257504817722943:=0
def tw9517665218838636708:=0
def tw9571803066185115815:=0
def tw9610909606000256881:=0
def tw9647623999031101713:=0
def tw9669113737970156477:=0
def tw9759811374292985373:=0
def tw9863679250897329793:=0
def tw9939643795827722055:=0
def tw9964556987495507349:=0
def tw9997837879559306504:=0
end PySem.W.Fast
open PySem PySem.W PyProof.Rows
set_option maxRecDepth 100000 in
set_option maxHeartbeats 0 in
theorem PySem.Challenge.cw_ladderhall_k61_whole_any_coming_holds : PySem.Challenge.rw_ladderhall_k61_whole_any_coming.Holds := by
  w_on; o_law; k_head; (case hw => w_witness2)
  k_fill
  refine My.walk (l := PySem.Challenge.rw_ladderhall_k61_whole_any_coming) rfl rfl (fun w h Y => PySem.W.kIn_of Y) ?F
  case F =>
    intro w mg fa h KX G hmg
    refine' ⟨L3.T0.of ?r1 ?r2 ?r3 ?r4 ?r5 ?r6, ?al⟩
    (case r1 => refine' L3.j0l ?_; k_is)
    (case r2 => refine' L3.j0l ?_; k_is)
    (case r3 => refine' L3.j0l ?_; k_is)
    (case r4 => refine' L3.j0l ?_; k_is)
    (case r5 => refine' L3.j0l ?_; k_is)
    (case r6 => refine' L3.j0l ?_; k_is)
    refine' My.all_mk KX G hmg ?A1 ?A2 ?A3 ?A4 ?A5 ?A6 ?A7 ?A8 ?A9 ?A10 ?A11 ?A12 ?A13 ?A14 ?A15 ?A16 ?A17 ?A18 ?A19 ?A20 ?A21 ?A22 ?A23 ?A24 ?A25 ?A26 ?A27 ?A28 ?A29 ?A30 ?A31 ?A32 ?A33 ?A34 ?A35 ?A36 ?A37 ?A38 ?A39 ?A40 ?A41 ?A42 ?A43 ?A44 ?A45 ?A46 ?a47 ?l47 ?c47 ?k47 ?z1 ?z2 ?z3 ?z4 ?z5 ?z6 ?z7 ?z8 ?z9 ?z10 ?kN ?kM ?kP ?kpg ?khd ?kpo ?ksa ?kca ?kcn ?kct ?kcm ?kn0 ?kn1 ?kn2 ?kn3 ?kn4 ?kf_begins ?kf_ladder ?kf_many_raises ?kf_places ?kf_ways ?kf_worths
    (case A18 | A19 | A28 | A29 | A37 | A39 | A40 => refine' My.A0M.mk ?n ?a ?i ?l ?c ?k; (case n => k_is); (case a => k_is); (case i => k_is); (case l => k_is); (case c => k_is); (case k => k_is))
    (case A1 | A2 | A3 | A4 | A5 | A6 | A7 | A8 | A9 | A10 | A11 | A12 | A13 | A14 | A15 | A16 | A17 | A20 | A21 | A22 | A23 | A24 | A25 | A26 | A27 | A30 | A31 | A32 | A33 | A34 | A35 | A36 | A38 | A41 | A42 | A43 | A44 | A45 | A46 => refine' My.A0.mk KX G ?a ?l ?c ?k; (case a => k_is); (case l => k_is); (case c => k_is); (case k => k_is))
    (case a47 => k_is)
    (case l47 => k_is)
    (case c47 => k_is)
    (case k47 => k_is)
    (case z1 => k_is)
    (case z2 => k_is)
    (case z3 => k_is)
    (case z4 => k_is)
    (case z5 => k_is)
    (case z6 => k_is)
    (case z7 => k_is)
    (case z8 => k_is)
    (case z9 => k_is)
    (case z10 => k_is)
    (case kN => k_is)
    (case kM => k_is)
    (case kP => k_is)
    (case kpg => k_is)
    (case khd => k_is)
    (case kpo => k_is)
    (case ksa => k_is)
    (case kca => k_is)
    (case kcn => k_is)
    (case kct => k_is)
    (case kcm => k_is)
    (case kn0 => k_is)
    (case kn1 => k_is)
    (case kn2 => k_is)
    (case kn3 => k_is)
    (case kn4 => k_is)
    (case kf_begins => k_is)
    (case kf_ladder => k_is)
    (case kf_many_raises => k_is)
    (case kf_places => k_is)
    (case kf_ways => k_is)
    (case kf_worths => k_is)
