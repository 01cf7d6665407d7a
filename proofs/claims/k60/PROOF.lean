import PyProof.Rows.All
import Wide.All
import OpenK.AllK
import Wide.FinOn
import Lean
import PyProof.EqAt
import PyProof.EqKinds
import PyProof.TupleCall
import KE.KIsNot
import PyProof.ExcArgs
import OpenK.KOwn
import KE.LcSums
import PyProof.EnumMake
import PyProof.Draws
import PyProof.Rows.EnumRows
import PyProof.ExcBaseAll.ValueError
import PyProof.NsDelKeeps
import PyProof.Rows.SetFrom
import PyProof.WalksMore
import KE.KDictSum
import PyProof.Rows.MinMaxN
import PyProof.Rows.CallKwBuiltin
import KE.KMinKey
import KE.KSortKey
import PyProof.DictWalks
import PySem.SetOps
import PyProof.TupleKey
import PyProof.SetKind
import PyProof.IsRules
import PyProof.Rules
import PyProof.DictKinds
import KE.KSortAsk
import KE.KSortTup
import PyProof.PureInt
import PyProof.DictIter
import KE.KItemsList
import PyProof.DictUpdate
import PyProof.DictRoadsH
import PySem.Challenge.RW_ladderhall_k60_whole_kept
set_option Elab.async false
set_option linter.all false
set_option maxRecDepth 100000
set_option maxHeartbeats 0
noncomputable section
def Qa:=@PySem.wpAny_bind
def Qb:=@List.mem_cons_of_mem
def Qc:=@PySem.Heap.get?_push_of_some
def Qd:=@List.mem_cons_self
def Qe:=@if_pos
def Qf:=@Nat.le_refl
def Qg:=@if_neg
def Qh:=@List.mem_append_right
def Qi:=@List.mem_cons
def Qj:=@PySem.wpAny_pure
def Qk:=@List.size_toArray
def Ql:=@PySem.Heap.lt_size
def Qm:=@List.length_map
def Qn:=@Nat.lt_of_lt_of_le
def Qo:=@List.length_append
def Qp:=@List.getElem?_eq_some_iff
def Qq:=@List.getElem?_eq_none
def Qr:=@List.getElem?_set_ne
def Qs:=@PySem.Heap.get?_push_size
def Qt:=@Option.some.inj
def Qu:=@List.length_set
def Qv:=@Nat.le_trans
def Qw:=@List.getElem?_set_self
def Qx:=@List.getElem?_eq_getElem
def Qy:=@List.mem_map
def Qz:=@List.mem_range
def QA:=@List.getElem?_append_left
def QB:=@Bool.and_eq_true_iff
def QC:=@List.mem_singleton
def QF:=@decide_eq_true
def QG:=@PySem.mem_of_lookup
def QH:=@List.getElem?_map
def QI:=@Nat.ne_of_lt
def QJ:=@decide_eq_false
def QK:=@PySem.W.mg_of
def QL:=@List.length_cons
def QM:=@List.getD_eq_getElem?_getD
def QN:=@Nat.lt_irrefl
def QO:=@List.getElem?_append_right
def QP:=@List.length_range
def QR:=@List.map_cons
def QS:=@List.not_mem_nil
def QT:=@PySem.PassesOwn.never
def QU:=@List.mem_append_left
def QV:=@PySem.wpAny_mono
def QW:=@List.lookup_cons
def QX:=@PyProof.Rows.boot_tuple
def QY:=@PySem.Heap.get?_update_other
def QZ:=@PySem.SeqAt.canLay_of_shaped
def Q0:=@List.mem_append
def Q1:=@PySem.W.mg_none_of
def Q2:=@Nat.lt_succ_self
def Q3:=@List.length_take
def Q4:=@PyProof.Rows.slot_tuple_getitem
def Q5:=@PySem.W.kia_one
def Q6:=@List.getElem_mem
def Q7:=@Nat.lt_succ_of_lt
def Q8:=@List.ext_getElem?
def Q9:=@Nat.zero_le
def Za:=@List.append_nil
def Zb:=@Array.length_toList
def Zc:=@List.getElem?_range
def Zd:=@List.length_replicate
def Ze:=@of_decide_eq_true
def Zf:=@List.filter_cons_of_pos
def Zg:=@Bool.and_eq_true
def Zh:=@PySem.F.plain_max_loop
def Zi:=@beq_iff_eq
def Zj:=@PySem.wpAny_truthy_bool
def Zk:=@List.length_filter_le
def Zl:=@PySem.wpAny_holding
def Zm:=@Option.isSome_iff_exists
def Zn:=@List.map_map
def Zo:=@List.map_append
def Zp:=@PySem.sizeLine_eq
def Zq:=@List.getElem?_replicate
def Zr:=@List.length_eq_zero_iff
def Zs:=@PySem.Heap.size_push
def Zt:=@beq_eq_false_iff_ne
def Zu:=@List.replicate_succ
def Zv:=@List.nodup_cons
def Zw:=@Option.map_some
def Zx:=@congrArg
def Zy:=@Bool.false_ne_true
def Zz:=@List.all_eq_true
def ZA:=@PySem.wpAny_newObj_type
def ZB:=@PySem.F.plainAttrs_list
def ZC:=@List.filter_cons_of_neg
def ZD:=@Nat.not_lt
def ZE:=@List.map_congr_left
def ZF:=@Nat.le_of_lt
def ZG:=@beq_self_eq_true
def ZH:=@PySem.wpAny_Call_Name_kw
def ZI:=@Bool.false_eq_true
def ZJ:=@List.mem_filter
def ZK:=@PySem.wpAny_passesOwn
def ZL:=@PySem.codeAny_builtin
def ZM:=@List.mem_of_getElem?
def ZN:=@List.flatten_cons
def ZO:=@PySem.Around.under_plainId
def ZP:=@List.getElem?_take_of_lt
def ZQ:=@List.filterMap_cons
def ZR:=@Ne.symm
def ZS:=@List.length_drop
def ZT:=@List.getElem?_cons_succ
def ZU:=@PySem.W.cellsFrom_some
def ZV:=@List.range_succ_eq_map
def ZW:=@PyProof.Rows.boot_list
def ZX:=@List.find?_cons
def ZY:=@PyProof.Rows.boot_isinstance
def ZZ:=@Bool.true_and
def Z0:=@PySem.W.methodCall_KW
def Z1:=@Array.getElem?_toList
def Z2:=@PyProof.Rows.callWith_type1
def Z3:=@PySem.F.typeOf_object_class
def Z4:=@decide_eq_true_eq
def Z5:=@Function.comp_def
def Z6:=@Nat.le_succ
def Z7:=@PySem.codeAny_call_builtin
def Z8:=@PySem.codeAny_mono
def Z9:=@if_true
def Ja:=@Nat.lt_trans
def Jb:=@List.take_length
def Jc:=@List.filter_cons
def Jd:=@List.drop_eq_getElem_cons
def Je:=@PySem.F.args_tuple_add_2
def Jf:=@PySem.wpAny_execs_nil
def Jg:=@List.of_mem_zip
def Jh:=@PySem.pushCells_keeps
def Ji:=@PySem.Calls.spliced_cons
def Jj:=@PySem.W.callWith_K
def Jk:=@PySem.call_meets
def Jl:=@PySem.F.entry_tuple_add
def Jm:=@Int.le_refl
def Jn:=@Int.eq_ofNat_of_zero_le
def Jo:=@List.findIdx?_eq_some_iff_getElem
def Jp:=@Nat.ne_of_gt
def Jq:=@PySem.F.slot_tuple_add
def Jr:=@List.append_assoc
def Js:=@PyProof.Rows.room_in_shaped
def Jt:=@PySem.F.entry_max_loop
def Ju:=@PySem.wpAny_tryCatch
def Jv:=@List.take_of_length_le
def Jw:=@List.flatten_replicate_singleton
def Jx:=@List.take_succ_eq_append_getElem
def Jy:=@PySem.Heap.get?_update_self
def Jz:=@PySem.F.slot_dict_get
def JA:=@PySem.wpAny_execs_cons
def JB:=@List.any_eq_true
def JC:=@PySem.W.Looks.of_pure
def JD:=@PySem.plainId_quiet
def JE:=@List.sum_cons
def JF:=@if_false
def JG:=@PySem.Calls.evalArgs_plain
def JH:=@List.mem_iff_getElem
def JI:=@Nat.not_lt_zero
def JJ:=@Nat.le_antisymm
def JK:=@List.range_succ
def JL:=@List.set_append
def JM:=@PySem.W.plainGet_of
def JN:=@PySem.F.slot_gs_get
def JO:=@PySem.Heap.SameBut.update
def JP:=@List.length_pos_iff
def JQ:=@List.map_nil
def JR:=@Nat.succ.inj
def JS:=@List.idxOf_lt_length_of_mem
def JT:=@PySem.Calls.Name_function_global
def JU:=@List.mem_filterMap
def JV:=@PySem.wpAny_call
def JW:=@PySem.tupleKind_room_in1
def JX:=@PySem.F.excAttr_ValueError
def JY:=@List.getElem?_take_eq_none
def JZ:=@PySem.SeqAt.readsAll_map
def J9:=@PySem.F.excBase_ValueError
def Ya:=@Int.emod_lt_of_pos
def Yb:=@List.getElem?_zip_eq_some
def Yc:=@List.pairwise_iff_getElem
def Yd:=@PySem.W.kitx_list
def Ye:=@PySem.Calls.spliced_nil
def Yf:=@PySem.wpAny_pyIter_list
def Yg:=@PySem.wpAny_letGo
def Yh:=@List.take_add_one
def Yi:=@List.foldl_append
def Yj:=@PySem.Paired.length
def Yk:=@PySem.wpAny_standAt
def Yl:=@PySem.F.slot_tuple_index
def Ym:=@PyProof.Rows.listUpdate_at
def Yn:=@PySem.noFill_tuple_add
def Yo:=@Nat.succ_le_succ
def Yp:=@Nat.le_of_not_lt
def Yq:=@List.cons_append
def Yr:=@PySem.F.args_dict_get_3
def Ys:=@PySem.isinstance_outer
def Yt:=@PySem.SeqAt.items_eqAt
def Yu:=@PySem.F.slot_list_count
def Yv:=@PySem.F.slot_list_index
def Yw:=@Nat.le_of_eq
def Yx:=@PySem.concat_meets
def Yy:=@PySem.wpAny_typeOf
def Yz:=@Option.map_eq_some_iff
def YA:=@PySem.F.entry_dict_get
def YB:=@List.all_map
def YC:=@List.length_nil
def YD:=@PySem.call_isinstance
def YE:=@PySem.wpAny_updateSeq
def YF:=@Int.emod_nonneg
def YG:=@Classical.choose_spec
def YH:=@Bool.beq_eq_decide_eq
def YI:=@PyProof.Rows.boot_max
def YJ:=@PySem.wpAny_field
def YK:=@PySem.W.looks_subIn
def YL:=@PySem.boot_len
def YM:=@PySem.wpAny_seqItems
def YN:=@List.mem_of_mem_take
def YO:=@List.any_cons
def YQ:=@Bool.not_true
def YR:=@List.all_cons
def YS:=@Nat.succ_mul
def YT:=@Nat.sub_self
def YU:=@dif_pos
def YV:=@Sum.inr.inj
namespace L2
open PySem PySem.Spec PyProof.Rows
variable {A:Around}{C a b dx it:Addr}{E Q:Value->Shared->Prop}{K:PySem.W.Frag}{M:Model}{N ps:List Str}{P:Program}{base h:Heap}{body:List Stmt}{c tg:Expr}{f:Value->Value->Sem Value}{fp:List Addr}{g:Int->Int->Int}{i j:Nat}{kindOf:Str->Option NameKind}{kw:List (Str×Value)}{m qual x:Str}{mA mg:Str->Option Value}{o:Obj}{op lG:CmpOp}{outer:List Env}{pins:List (Addr×Obj)}{pl:Sem Bool}{s s':Shared}{sc scope:Scope}{u v:Value}{us:List Value}{w:World}
abbrev Key:=Sum Int Str
def uz:Key->Value->Bool
 | .inl k,v=>Value.isInt k v
 | .inr x,v=>Value.isStrOf x v
def Nj (w:World):Key->Int
 | .inl k=>hashInt k
 | .inr x=>hashStr w x
theorem o8:∀ {k:Key} {v:Value},uz k v=true->(∃ i t,k=Sum.inl i/\v=Value.int i t)\/(∃ x t,k=Sum.inr x/\v=Value.str x t)
 | .inl i,v,h=>by
  obtain⟨t,e⟩:=Value.isInt_shape (k:=i) (v:=v) h
  exact .inl ⟨i,t,rfl,e⟩
 | .inr x,v,h=>by
  obtain⟨t,e⟩:=Value.isStrOf_shape (x:=x) (v:=v) h
  exact .inr ⟨x,t,rfl,e⟩
theorem Nk(i:Int)(t:Tok):uz (.inl i) (.int i t)=true:=by simp[uz,Value.isInt]
theorem Nl(x:Str)(t:Tok):uz (.inr x) (.str x t)=true:=by simp[uz,Value.isStrOf]
theorem Nm(a b:Int):decide ((Sum.inl a:Key)=Sum.inl b)=(a==b):=by
 by_cases e:a=b
 ·subst e;simp
 ·have h:¬ (Sum.inl a:Key)=Sum.inl b:=fun q=>e (Sum.inl.inj q)
  rw[QJ h]
  exact(Zt.mpr e).symm
theorem Np(a b:Str):decide ((Sum.inr a:Key)=Sum.inr b)=decide (a=b):=by
 by_cases e:a=b
 ·subst e;simp
 ·have h:¬ (Sum.inr a:Key)=Sum.inr b:=fun q=>e (YV q)
  rw[QJ h,QJ e]
theorem Nq(a:Int)(b:Str):decide ((Sum.inl a:Key)=Sum.inr b)=false:=QJ (fun q=>nomatch q)
theorem Nr(a:Str)(b:Int):decide ((Sum.inr a:Key)=Sum.inl b)=false:=QJ (fun q=>nomatch q)
def jf (prog:Program)(w:World):PySem.KeyKind prog w Key where
 is:=uz
 hash:=Nj w
 inj:=fun v a b ha hb=>by
  rcases o8 ha with⟨i,t,rfl,rfl⟩|⟨x,t,rfl,rfl⟩
  ·rcases o8 hb with⟨j,u,rfl,e⟩|⟨y,u,rfl,e⟩
   ·injection e with e1 _;rw[e1]
   ·exact nomatch e
  ·rcases o8 hb with⟨j,u,rfl,e⟩|⟨y,u,rfl,e⟩
   ·exact nomatch e
   ·injection e with e1 _;rw[e1]
 byValue:=fun k v h=>by
  rcases o8 h with⟨i,t,rfl,rfl⟩|⟨x,t,rfl,rfl⟩<;>rfl
 pyHash:=fun hv h=>by
  rcases o8 hv with⟨i,t,rfl,rfl⟩|⟨x,t,rfl,rfl⟩
  ·exact wpAny_pyHash_int h
  ·exact wpAny_pyHash_str h
 eqBool:=fun hu hv h=>by
  rcases o8 hu with⟨i,t,rfl,rfl⟩|⟨x,t,rfl,rfl⟩
  ·rcases o8 hv with⟨j,u,rfl,rfl⟩|⟨y,u,rfl,rfl⟩
   ·rw[Nm]at h;exact wpAny_eqBool_int h
   ·rw[Nq]at h;exact SeqAt.EqAt.int_str i t y u _ _ _ _ h
  ·rcases o8 hv with⟨j,u,rfl,rfl⟩|⟨y,u,rfl,rfl⟩
   ·rw[Nr]at h;exact SeqAt.EqAt.str_int x t j u _ _ _ _ h
   ·rw[Np]at h;exact wpAny_eqBool_str h
 «strs»:=fun k x t v h=>by
  rcases o8 h with⟨i,u,rfl,e⟩|⟨y,u,rfl,e⟩
  ·exact nomatch e
  ·injection e with e1 _
   subst e1
   cases v<;>rfl
theorem Nt(prog:Program)(w:World)(i:Int)(t:Tok):(jf prog w).is (.inl i) (.int i t)=true:=Nk i t
theorem Nu(prog:Program)(w:World)(x:Str)(t:Tok):(jf prog w).is (.inr x) (.str x t)=true:=Nl x t
inductive V where
 | au|bl (b:Bool)|int (i:Int)|str (x:Str)|uA (b:Array UInt8)|rV (b:UInt64)|ref (a:Addr)|ty (n:String)
 deriving DecidableEq
def bh:V->Value->Prop
 | .au,u=>u=Value.none
 | .bl b,u=>u=Value.bool b
 | .int i,u=>∃ t,u=Value.int i t
 | .str x,u=>∃ t,u=Value.str x t
 | .uA b,u=>∃ t,u=Value.bytes b t
 | .rV b,u=>∃ t,u=Value.float b t
 | .ref a,u=>u=Value.ref a
 | .ty n,u=>u=Value.type n
abbrev a_:List V->List Value->Prop:=Paired bh
theorem a_.length{xs:List V}(r:a_ xs us):xs.length=us.length:=Yj r
theorem a_.get:∀ {xs:List V} {us:List Value} {i:Nat} {x:V},a_ xs us->xs[i]? = some x->∃ u,us[i]? = some u/\bh x u
 | _,_,_,_,.nil,e=>by simp at e
 | _,_,0,_,.cons r _,e=>by simp at e;subst e;exact⟨_,rfl,r⟩
 | _,_,i+1,x,.cons _ t,e=>by
  obtain⟨u,h1,h2⟩:=a_.get (i:=i) (x:=x) t (by simpa using e)
  exact⟨u,by simpa using h1,h2⟩
theorem a_.set{x:V}(r:bh x u):∀ {xs:List V} {us:List Value} (i:Nat),a_ xs us->a_ (xs.set i x) (us.set i u)
 | _,_,_,.nil=>.nil
 | _,_,0,.cons _ t=>.cons r t
 | _,_,i+1,.cons q t=>.cons q (a_.set r i t)
theorem a_.append:∀ {xs ys:List V} {us ws:List Value},a_ xs us->a_ ys ws->a_ (xs++ys) (us++ws)
 | _,_,_,_,.nil,s=>s
 | _,_,_,_,.cons r t,s=>.cons r (a_.append t s)
theorem a_.take:∀ {xs:List V} {us:List Value} (n:Nat),a_ xs us->a_ (xs.take n) (us.take n)
 | _,_,0,_=>.nil
 | _,_,_+1,.nil=>.nil
 | _,_,n+1,.cons r t=>.cons r (a_.take n t)
theorem a_.drop:∀ {xs:List V} {us:List Value} (n:Nat),a_ xs us->a_ (xs.drop n) (us.drop n)
 | _,_,0,r=>r
 | _,_,_+1,.nil=>.nil
 | _,_,n+1,.cons _ t=>a_.drop n t
def jg:Option V->Option Value->Prop
 | some v,some u=>bh v u
 | none,none=>True
 | _,_=>False
def KV {κ:Type}:List (κ×V)->List (κ×Value)->Prop:=Paired fun(p:κ×V) (q:κ×Value)=>p.1=q.1/\bh p.2 q.2
def kV:Key->V
 | .inl i=>.int i
 | .inr x=>.str x
inductive HO where
 | lst (xs:List V)
 | tup (xs:List V)
 | dK (ai:List (Key×V))|dT (ai:List (List Key×V))
 | set (S:Int->Bool) (n:Nat)
 | ins (C dx:Addr) (fs:List (Str×V))
 | own (x:Addr)
 | xd (fs:List (Str×V))
 | met (f x:Addr)
 | j5 (lo hi:Int)
 | bZ (o:Obj) (u:HO)
 | dB (ps:Array Value)
 | ext (φ:Heap->Prop)
abbrev Hp:=Addr->Option HO
def upd (H:Hp)(a:Addr)(o:HO):Hp:=fun b=>if b=a then some o else H b
theorem cT{H:Hp}{o:HO}:upd H a o a=some o:=by unfold upd;rw[Qe rfl]
theorem aO{H:Hp}{o:HO}(h:b≠a):upd H a o b=H b:=by unfold upd;rw[Qg h]
theorem Nv{H:Hp}{o u:HO}:upd (upd H a o) a u=upd H a u:=by
 funext b;unfold upd;split<;>rfl
theorem Nw{H:Hp}{o u:HO}(h:H a=some o)(h':H b=some u)(d:o≠u):a≠b:=by
 intro e;subst e;rw[h]at h';exact d (Qt h')
theorem dY{H:Hp}{o:HO}(h:H a=some o)(h':H b=none):a≠b:=by
 intro e;subst e;rw[h]at h';cases h'
def m9 (h:Heap)(a:Addr)(items:Array Value):Prop:=∃ o,h.get? a=some o/\o.cls=.type "tuple" /\ (∃ n,o.data=.seq items n)/\o.dict=none
theorem m9.tup{h:Heap}{a:Addr}{items:Array Value}(x:m9 h a items):IsTup h a items:=let ⟨o,e,c,n,_⟩:=x;⟨o,e,c,n⟩
theorem m9.new(h:Heap)(items:Array Value):m9 (h.push { cls:=.type "tuple",data:=.seq items }) h.objs.size items:=⟨_,Qs _ rfl,rfl,⟨_,rfl⟩,rfl⟩
theorem m9.lt{items:Array Value}(x:m9 h a items):a<h.objs.size:=let ⟨_,e,_⟩:=x;Ql e
section
variable (P:Program)(w:World)
def cR (H:Hp)(h:Heap)(a:Addr):HO->Prop
 | .lst xs=>xs.length<=sizeLine/\∃ (aq:List Value) (n:Nat),a_ xs aq/\h.get? a=some { cls:=.type "list",data:=.seq aq.toArray n }
 | .tup xs=>xs.length<=sizeLine/\∃ aq:List Value,a_ xs aq/\m9 h a aq.toArray
 | .dK ai=>ai.length<=sizeLine/\(a==sysModules)=false/\∃ vs,KV ai vs/\h.DictOf (jf P w) a vs
 | .dT ai=>ai.length<=sizeLine/\(a==sysModules)=false/\∃ xs:List (List Key×Addr×Value),
   Paired (fun(p:List Key×V) (q:List Key×Addr×Value)=>p.1=q.1/\H q.2.1=some (.tup (p.1.map kV))/\bh p.2 q.2.2) ai xs /\
   ∃ o es ep,h.get? a=some o/\o.ExactDict/\o.data=.dict es ep/\es.toList=xs.map (entryOfKey (tupleKind (jf P w)))/\(xs.map (·.1)).Nodup
 | .set S n=>h.SetOf (intKind P w) a S n
 | .ins C dx fs=>H dx=some (.own a)/\fs.length<=1000/\dx≠a/\h.get? a=some (PySem.W.instObj C dx) /\
   ∃ mA,h.Ns1 dx mA/\(∀ f,jg (fs.lookup f) (mA f))/\PySem.Within mA (fs.map (·.1))
 | .own _=>∃ o,h.get? a=some o
 | .xd fs=>∃ mA,h.Ns1 a mA/\∀ f,jg (fs.lookup f) (mA f)
 | .j5 lo hi=>∃ t u v,h.get? a=some { cls:=.type "range",data:=.fields #[.int lo t,.int hi u,.int 1 v] }
 | .bZ o u=>h.get? a=some o/\cR H h a u
 | .dB ps=>h.get? a=some { cls:=.none,data:=.fields ps }
 | .met f x=>h.get? a=some (PySem.W.methodObj (.ref f) (.ref x))
 | .ext φ=>φ h/\(∃ o,h.get? a=some o)/\∀ h1 h2:Heap,φ h1->(∀ o,h1.get? a=some o->h2.get? a=some o)->φ h2
def cX (H:Hp)(h:Heap):Prop:=∀ a o,H a=some o->cR P w H h a o
end
section
variable {P:Program}{w:World}{H H':Hp}{h h':Heap}{a:Addr}{o:HO}
theorem cR.lt(x:cR P w H h a o):a<h.objs.size:=by
 cases o with
 | lst xs=>obtain⟨_,_,_,_,e⟩:=x;exact Ql e
 | tup xs=>obtain⟨_,_,_,p⟩:=x;exact p.lt
 | dK ai=>obtain⟨_,_,_,_,o,_,_,e,_⟩:=x;exact Ql e
 | dT ai=>obtain⟨_,_,_,_,o,_,_,e,_⟩:=x;exact Ql e
 | set S n=>obtain⟨o,_,_,_,e,_⟩:=x;exact Ql e
 | ins C dx fs=>obtain⟨_,_,_,e,_⟩:=x;exact Ql e
 | own y=>obtain⟨_,e⟩:=x;exact Ql e
 | xd fs=>obtain⟨_,⟨_,_,_,e,_⟩,_⟩:=x;exact Ql e
 | j5 lo hi=>obtain⟨_,_,_,e⟩:=x;exact Ql e
 | bZ ob u=>obtain⟨e,_⟩:=x;exact Ql e
 | dB ps=>exact Ql (show h.get? a=some _ from x)
 | met f y=>exact Ql (show h.get? a=some _ from x)
 | ext φ=>obtain⟨_,⟨_,e⟩,_⟩:=x;exact Ql e
theorem Paired.rW{α β:Type}{F G:α->β->Prop}:∀ {vD:List α} {vE:List β},Paired F vD vE->(∀ a b,F a b->G a b)->Paired G vD vE
 | _,_,.nil,_=>.nil
 | _,_,.cons r t,f=>.cons (f _ _ r) (Paired.rW t f)
theorem cR.gX(x:cR P w H h a o)(k:∀ b u,(b=a\/H b=some (.own a))->h.get? b=some u->h'.get? b=some u)
  (ho:∀ b,H b=some (.own a)->H' b=some (.own a)) (ht:∀ b xs,H b=some (.tup xs)->H' b=some (.tup xs)):cR P w H' h' a o:=by
 induction o with
 | lst xs=>obtain⟨z,aq,n,r,e⟩:=x;exact⟨z,aq,n,r,k _ _ (.inl rfl) e⟩
 | tup xs=>obtain⟨z,aq,r,ob,e,c⟩:=x;exact⟨z,aq,r,ob,k _ _ (.inl rfl) e,c⟩
 | dK ai=>obtain⟨z,y,vs,r,ob,es,ep,e,c⟩:=x;exact⟨z,y,vs,r,ob,es,ep,k _ _ (.inl rfl) e,c⟩
 | dT ai=>
  obtain⟨z,y,xs,r,ob,es,ep,e,c⟩:=x
  exact⟨z,y,xs,Paired.rW r fun p q z=>⟨z.1,ht _ _ z.2.1,z.2.2⟩,ob,es,ep,k _ _ (.inl rfl) e,c⟩
 | set S n=>obtain⟨ob,es,ep,t,e,c⟩:=x;exact⟨ob,es,ep,t,k _ _ (.inl rfl) e,c⟩
 | ins C dx fs=>
  obtain⟨d,z,ne,e,mA,⟨od,es,ep,e2,c⟩,r⟩:=x
  exact⟨ho _ d,z,ne,k _ _ (.inl rfl) e,mA,⟨od,es,ep,k _ _ (.inr d) e2,c⟩,r⟩
 | own y=>obtain⟨ob,e⟩:=x;exact⟨ob,k _ _ (.inl rfl) e⟩
 | xd fs=>obtain⟨mA,⟨od,es,ep,e,c⟩,r⟩:=x;exact⟨mA,⟨od,es,ep,k _ _ (.inl rfl) e,c⟩,r⟩
 | j5 lo hi=>obtain⟨t,u,v,e⟩:=x;exact⟨t,u,v,k _ _ (.inl rfl) e⟩
 | bZ ob u ih=>obtain⟨e,q⟩:=x;exact⟨k _ _ (.inl rfl) e,ih q⟩
 | dB ps=>
  have e:h.get? a=some { cls:=.none,data:=.fields ps }:=x
  show h'.get? a=some { cls:=.none,data:=.fields ps }
  exact k a _ (.inl rfl) e
 | met f y=>
  have e:h.get? a=some (PySem.W.methodObj (.ref f) (.ref y)):=x
  show h'.get? a=some (PySem.W.methodObj (.ref f) (.ref y))
  exact k a _ (.inl rfl) e
 | ext φ=>obtain⟨p,⟨o,e⟩,st⟩:=x;exact⟨st _ _ p fun o q=>k _ _ (.inl rfl) q,⟨o,k _ _ (.inl rfl) e⟩,st⟩
theorem cX.lt(x:cX P w H h)(e:H a=some o):a<h.objs.size:=(x a o e).lt
theorem cX.fresh(x:cX P w H h)(e:h.objs.size<=a):H a=none:=by
 cases q:H a with
 | none=>rfl
 | some u=>exact absurd (Qn (x.lt q) e) (QN _)
theorem cX.kept(x:cX P w H h)(k:∀ b u,h.get? b=some u->h'.get? b=some u):cX P w H h':=fun a o e=>
 (x a o e).gX (fun b u _ q=>k b u q) (fun _ q=>q) fun _ _ q=>q
theorem cX.laid(x:cX P w H h)(k:∀ b u,h.get? b=some u->h'.get? b=some u)(hp:h.objs.size<=a)(new:cR P w (upd H a o) h' a o):cX P w (upd H a o) h':=fun b u e=>by
 have hn:=x.fresh hp
 by_cases hb:b=a
 ·subst hb;rw[cT]at e;cases e;exact new
 ·rw[aO hb]at e
  exact(x b u e).gX (fun c v _ q=>k c v q) (fun c q=>by rw[aO (dY q hn)];exact q) fun c xs q=>by rw[aO (dY q hn)];exact q
end
def Rd (H:Hp)(a:Addr)(u:HO):Prop:=H a=some u\/∃ o,H a=some (.bZ o u)
theorem Rd.of{H:Hp}{u:HO}(h:H a=some u):Rd H a u:=.inl h
theorem Rd.ok{H:Hp}{u:HO}(r:Rd H a u)(x:cX P w H h):cR P w H h a u:=by
 rcases r with r|⟨o,r⟩
 ·exact x a u r
 ·obtain⟨_,q⟩:=x a _ r
  exact q
def vF:Option HO->Prop
 | some (.lst _)=>True
 | some (.dK _)=>True
 | some (.dT _)=>True
 | some (.set _ _)=>True
 | some (.ins _ _ _)=>True
 | some (.ext _)=>True
 | _=>False
section
variable {P:Program}{w:World}{H:Hp}{h h':Heap}{x e:Addr}{o':HO}
theorem cX.write(ok:cX P w H h)(mu:vF (H x))(he:e=x\/H e=some (.own x))(k:∀ b u,b≠e->h.get? b=some u->h'.get? b=some u)(uB:∃ u,h'.get? e=some u)
  (new:cR P w (upd H x o') h' x o'):cX P w (upd H x o') h':=fun b u q=>by
 have vG:∀ c y,H c=some (.own y)->c≠x:=fun c y r z=>by subst z;rw[r]at mu;exact mu
 have Bm:∀ c xs,H c=some (.tup xs)->c≠x:=fun c xs r z=>by subst z;rw[r]at mu;exact mu
 by_cases hb:b=x
 ·subst hb;rw[cT]at q;cases q;exact new
 ·rw[aO hb]at q
  by_cases m_:b=e
  ·have q':H b=some (.own x):=by
    rcases he with z|z
    ·exact absurd (m_.trans z) hb
    ·rw[m_];exact z
   rw[q]at q';cases q'
   obtain⟨v,hv⟩:=uB
   exact⟨v,by rw[m_];exact hv⟩
  ·refine(ok b u q).gX (fun c v hc r=>k c v ?_ r) (fun c r=>by rw[aO (vG c b r)];exact r) fun c xs r=>by rw[aO (Bm c xs r)];exact r
   rcases hc with rfl|hc
   ·exact m_
   ·rintro rfl
    rcases he with z|z
    ·exact vG c b hc z
    ·rw[hc]at z;cases z;exact hb rfl
end
structure Un (fs ex:List Addr) (H H':Hp) (h h':Heap):Prop where
 keep:∀ b o,h.get? b=some o->H b=none->b ∉ fs->b ∉ ex->h'.get? b=some o
 slot:∀ b o,h.get? b=some o->H b=none->b∈fs->b ∉ ex->∃ sl,h'.get? b=some { o with slots:=sl }
 free:∀ b o,h.get? b=some o->H b=none->b ∉ ex->H' b=none
 there:∀ b o,h.get? b=some o->b ∉ ex->∃ o',h'.get? b=some o'
 d_:∀ b xs,H b=some (.tup xs)->H' b=some (.tup xs)
 dJ:∀ b o u,H b=some (.bZ o u)->H' b=some (.bZ o u)
 dM:∀ b ps,H b=some (.dB ps)->∃ more,H' b=some (.dB (ps++more))
section
variable {fs cj ex ex':List Addr}{H H1 H2:Hp}{h h1 h2 h':Heap}{a x e:Addr}{o:HO}
theorem Un.any(u:Un fs ex H H1 h h1){ob:Obj}(q:h.get? b=some ob)(n:H b=none)(hx:b ∉ ex):∃ sl,h1.get? b=some { ob with slots:=sl }:=by
 by_cases hb:b∈fs
 ·exact u.slot b ob q n hb hx
 ·exact⟨ob.slots,u.keep b ob q n hb hx⟩
theorem Un.kept(k:∀ b u,h.get? b=some u->h'.get? b=some u):Un fs ex H H h h':=
 ⟨fun b ob q _ _ _=>k b ob q,fun b ob q _ _ _=>⟨ob.slots,k b ob q⟩,fun _ _ _ n _=>n,fun b ob q _=>⟨ob,k b ob q⟩,fun _ _ q=>q,fun _ _ _ q=>q,fun _ ps q=>⟨#[],by rw[q];simp⟩⟩
theorem Un.refl:Un fs ex H H h h:=Un.kept fun _ _ q=>q
theorem Un.laid(k:∀ b u,h.get? b=some u->h'.get? b=some u)(hp:h.objs.size<=a)(hn:H a=none):Un fs ex H (upd H a o) h h' where
 keep:=fun b u q _ _ _=>k b u q
 slot:=fun b u q _ _ _=>⟨u.slots,k b u q⟩
 free:=fun b u q n _=>by rw[aO (QI (Qn (Ql q) hp))];exact n
 there:=fun b u q _=>⟨u,k b u q⟩
 d_:=fun b xs q=>by rw[aO (dY q hn)];exact q
 dJ:=fun b u xs q=>by rw[aO (dY q hn)];exact q
 dM:=fun b ps q=>⟨#[],by rw[aO (dY q hn),q];simp⟩
theorem Un.write(mu:vF (H x))(he:e=x\/H e=some (.own x))(k:∀ b u,b≠e->h.get? b=some u->h'.get? b=some u)(uB:∃ u,h'.get? e=some u):Un fs ex H (upd H x o) h h':=by
 have hx:∀ b,H b=none->b≠x:=fun b n z=>by subst z;rw[n]at mu;exact mu
 have hb:∀ b,H b=none->b≠e:=fun b n z=>by
  subst z
  rcases he with r|r
  ·exact hx b n r
  ·rw[n]at r;cases r
 have hm:∀ b u,H b=some u->¬ vF (some u)->b≠x:=fun b u q nm z=>by subst z;rw[q]at mu;exact nm mu
 refine⟨fun b u q n _ _=>k b u (hb b n) q,fun b u q n _ _=>⟨u.slots,k b u (hb b n) q⟩,fun b u q n _=>by rw[aO (hx b n)];exact n,fun b u q _=>?_,
  fun b xs q=>by rw[aO (hm b _ q fun z=>z)];exact q,fun b u xs q=>by rw[aO (hm b _ q fun z=>z)];exact q,fun b ps q=>⟨#[],by rw[aO (hm b _ q fun z=>z),q];simp⟩⟩
 by_cases m_:b=e
 ·subst m_;exact uB
 ·exact⟨u,k b u m_ q⟩
end
def ng (h:Heap)(H:Hp):List Addr:=(List.range h.objs.size).filter fun a=>(H a).isSome
def ou (h:Heap)(H:Hp):Heap:=PySem.W.hideAll h (ng h H)
theorem Nx(h:Heap)(H:Hp):(ou h H).objs.size=h.objs.size:=PySem.W.hideAll_size _ _
theorem Ny{H:Hp}(e:h.get? b=some o)(n:H b=none):(ou h H).get? b=some o:=
 PySem.W.hideAll_get _ e fun hm=>by
  have q:(H b).isSome=true:=(ZJ.mp hm).2
  rw[n]at q;simp at q
theorem Nz{H:Hp}(e:(ou h H).get? b=some o):h.get? b=some o/\H b=none:=by
 have e':h.get? b=some o:=PySem.W.of_hideAll (ng h H) e
 refine⟨e',?_⟩
 cases q:H b with
 | none=>rfl
 | some x=>
  have hm:b∈ng h H:=ZJ.mpr ⟨Qz.mpr (Ql e'),by simp[q]⟩
  have z:(ou h H).get? b=none:=PySem.W.hideAll_none (ng h H) hm
  rw[z]at e;cases e
def NA (g h:Heap)(L:Addr):List (Addr×Obj):=(List.range h.objs.size).filterMap fun a=>if a=L\/(g.get? a).isSome=true then none else(h.get? a).map fun o=>(a,o)
def bw (g h:Heap)(L d:Addr):List (Addr×Obj):=(NA g h L).filter fun p=>decide (p.1≠d)
structure Mod (K:PySem.W.Frag) (mg:Str->Option Value) (base:Heap):Prop where
 rX:K.In base
 glob:base.Ns mainGlobals mg
 blt:∃ mb,base.Ns builtinsNs mb/\∀ x:Str,x ≠ "__name__"->mb x=bootBuiltins x
 nolimit:base.NoLimit
structure Cx where
 prog:Program
 w:World
 K:PySem.W.Frag
 mg:Str->Option Value
 base:Heap
 A:Around
 N:List Str
 ax:Shared
 bE:Hp
 env:Env
 outer:List Env
 stack:List Env
 ex:List Addr
 fn:Str->Bool
 calm:Bool
 pn:List (Addr×Obj)
 xe:Value->Shared->Prop
def cM (l:List Env):List Addr:=l.filterMap (·.frame)
abbrev Cx.fs (X:Cx):List Addr:=cM X.outer
def uC (sc:Scope)(x:Str):Prop:=sc.names.lookup x=some .local\/sc.names.lookup x=some .cell\/sc.names.lookup x=some .free
def Loc (sc:Scope)(x:Str):Prop:=sc.names.lookup x=some .local\/sc.names.lookup x=some .cell
def NB (env:Env)(h:Heap)(m:Str->Option Value)(x:Str)(u:Value):Prop:=
 (env.kindOf x=some .local/\m x=some u)\/((env.kindOf x=some .cell\/env.kindOf x=some .free)/\∃ c,env.cells.lookup x=some c/\h.IsCell c (some u))
structure Cx.Ok (X:Cx):Prop where
 mod:Mod X.K X.mg X.base
 kind:X.env.scope.kind=.function
 glob:X.env.globals=mainGlobals
 blt:X.env.builtins=builtinsNs
 above:X.ax.heap.objs.size<=X.env.locals
 inj:∀ x y c,X.env.cells.lookup x=some c->X.env.cells.lookup y=some c->x=y
 has:∀ x,(X.env.kindOf x=some .cell\/X.env.kindOf x=some .free)->∃ c,X.env.cells.lookup x=some c
 rY:∀ x c,X.fn x=true->X.env.cells.lookup x=some c->X.ax.heap.objs.size<=c
 hd:X.calm=true->X.A.handled=none
 frames:X.A.frames=some X.stack
 vH:X.stack=X.outer\/(X.stack=X.env::X.outer/\X.env.frame=some X.env.locals)
 yP:∀ b∈X.ex,b≠X.env.locals/\∀ x c,X.env.cells.lookup x=some c->c≠b
 bs:∀ b o,X.base.get? b=some o->X.ax.heap.get? b=some o/\X.bE b=none
 lH:X.base.objs.size<=X.ax.heap.objs.size
 lI:∀ b o,X.base.get? b=some o->b ∉ X.ex
 lJ:∀ b∈X.ex,b ∉ X.fs
 dN:X.ax.heap.FunFrames X.base X.outer
 o9:∀ b∈X.fs,X.bE b=none
structure Inv (X:Cx) (pins:List (Addr×Obj)) (σ:List (Option V)) (H:Hp) (s:Shared):Prop where
 ok:X.Ok
 os:s.os=X.ax.os
 bare:AllBare s.gens
 base:Un X.fs X.ex X.bE H X.ax.heap s.heap
 loc:∃ m,s.heap.Ns X.env.locals m/\∀ (i:Nat) (x:Str) (v:V),X.N[i]? = some x->σ[i]? = some (some v)->uC X.env.scope x->∃ u,bh v u/\NB X.env s.heap m x u
 cell:∀ x c,X.env.cells.lookup x=some c->∃ v,s.heap.IsCell c v
 free:H X.env.locals=none
 cw:∀ x c,X.env.cells.lookup x=some c->H c=none
 pin:∀ p∈X.pn++pins,s.heap.get? p.1=some p.2/\H p.1=none/\p.1≠X.env.locals/\p.1 ∉ X.fs/\∀ v,p.2.data ≠ .cell v
 az:cX X.prog X.w H s.heap
 len:σ.length=X.N.length
section
variable {X:Cx}{pins:List (Addr×Obj)}{σ:List (Option V)}{H H':Hp}{s:Shared}{h':Heap}
theorem Cx.Ok.Bn(ok:X.Ok)(e:X.base.get? b=some o):b ∉ X.fs:=fun hb=>by
 have:=(ok.dN.mem hb).1
 rw[e]at this;cases this
theorem Inv.bs(I:Inv X pins σ H s):∀ b o,X.base.get? b=some o->s.heap.get? b=some o/\H b=none:=fun b o e=>
 ⟨I.base.keep b o (I.ok.bs b o e).1 (I.ok.bs b o e).2 (I.ok.Bn e) (I.ok.lI b o e),I.base.free b o (I.ok.bs b o e).1 (I.ok.bs b o e).2 (I.ok.lI b o e)⟩
theorem Inv.bk(I:Inv X pins σ H s):∀ b o,X.base.get? b=some o->s.heap.get? b=some o:=fun b o e=>(I.bs b o e).1
theorem Inv.mod(I:Inv X pins σ H s):Mod X.K X.mg X.base:=I.ok.mod
theorem Inv.dC(I:Inv X pins σ H s):X.K.In s.heap:=I.ok.mod.rX.keeps I.bk
theorem Inv.fr(I:Inv X pins σ H s):∃ m,Fr X.base X.env.locals s.heap m:=
 let ⟨m,hn,_⟩:=I.loc
 ⟨m,hn,I.bk,Qv I.ok.lH I.ok.above⟩
theorem Inv.lt(I:Inv X pins σ H s):X.env.locals<s.heap.objs.size:=let ⟨_,hn,_⟩:=I.loc;hn.lt
theorem Inv.sz(I:Inv X pins σ H s):X.ax.heap.objs.size<=s.heap.objs.size:=Qv I.ok.above (ZF I.lt)
theorem Inv.rZ(I:Inv X pins σ H s)(h:s.heap.objs.size<=a):a ∉ X.fs:=fun hb=>by
 obtain⟨_,o,ho,_⟩:=I.ok.dN.mem hb
 exact absurd (Qn (Ql ho) (Qv I.sz h)) (QN _)
theorem Inv.mG(I:Inv X pins σ H s):∀ x c,X.env.cells.lookup x=some c->c≠X.env.locals:=fun x c e z=>by
 obtain⟨v,o,ho,hd⟩:=I.cell x c e
 obtain⟨m,⟨o',es,ep,gY,kR,_⟩,_⟩:=I.loc
 rw[z,gY]at ho;cases ho;rw[kR]at hd;cases hd
theorem Inv.dN(I:Inv X pins σ H s):s.heap.FunFrames X.base X.outer:=by
 have all:∀ (l:List Env),(∀ b∈cM l,b∈X.fs)->X.ax.heap.FunFrames X.base l->s.heap.FunFrames X.base l:=by
  intro l
  induction l with
  | nil=>intro _ _;trivial
  | cons env r ih=>
   intro hs hl
   obtain⟨hk,⟨L,o,hf,hn,ho,hd⟩,hr⟩:=hl
   have hL:L∈X.fs:=hs L (by unfold cM;rw[ZQ,hf];exact Qd)
   obtain⟨sl,e⟩:=I.base.slot L o ho (I.ok.o9 L hL) hL fun z=>I.ok.lJ L z hL
   exact⟨hk,⟨L,_,hf,hn,e,hd⟩,ih (fun b hb=>hs b (by unfold cM;rw[ZQ,hf];exact Qb _ hb)) hr⟩
 exact all X.outer (fun _ hb=>hb) I.ok.dN
theorem Inv.stack(I:Inv X pins σ H s):s.heap.FunFrames X.base X.stack:=by
 rcases I.ok.vH with e|⟨e,hf⟩
 ·rw[e];exact I.dN
 ·rw[e]
  obtain⟨m,hn,_⟩:=I.loc
  refine .cons (by rw[I.ok.kind];decide) hf hn ?_ I.dN
  exact Heap.get?_none_of_le (Qv I.ok.lH I.ok.above)
theorem Inv.gq(I:Inv X pins σ H s):∀ b∈cM X.stack,b∈X.env.locals::X.fs:=fun b hb=>by
 rcases I.ok.vH with e|⟨e,hf⟩
 ·rw[e]at hb;exact Qb _ hb
 ·rw[e]at hb
  unfold cM at hb
  rw[ZQ,hf]at hb
  exact hb
theorem Inv.dH(I:Inv X pins σ H s):∀ b∈cM X.stack,H b=none:=fun b hb=>by
 rcases Qi.mp (I.gq b hb)with e|hb
 ·rw[e];exact I.free
 ·obtain⟨_,o,ho,_⟩:=I.ok.dN.mem hb
  exact I.base.free b o ho (I.ok.o9 b hb) fun z=>I.ok.lJ b z hb
theorem Inv.step{g':Array GenState}{t':Nat}{d':Drawn}{ch:List Addr}(I:Inv X pins σ H s)
  (oy:∀ b∈ch,(b∈X.ex\/X.ax.heap.objs.size<=b)/\b≠X.env.locals/\(∀ x c,X.env.cells.lookup x=some c->c≠b)/\∀ p∈X.pn++pins,p.1≠b)
  (keep:∀ b o,b≠X.env.locals->b ∉ X.fs->b ∉ ch->s.heap.get? b=some o->H b=none->h'.get? b=some o)
  (slot:∀ b o,b≠X.env.locals->b∈X.fs->b ∉ ch->s.heap.get? b=some o->H b=none->∃ sl,h'.get? b=some { o with slots:=sl }) (free:∀ b o,b ∉ ch->s.heap.get? b=some o->H b=none->H' b=none)
  (there:∀ b o,b ∉ ch->s.heap.get? b=some o->∃ o',h'.get? b=some o')
  (d_:∀ b xs,H b=some (.tup xs)->H' b=some (.tup xs)) (dJ:∀ b o u,H b=some (.bZ o u)->H' b=some (.bZ o u)) (dM:∀ b ps,H b=some (.dB ps)->∃ more,H' b=some (.dB (ps++more)))
  (ns:∀ m,s.heap.Ns X.env.locals m->h'.Ns X.env.locals m) (az:cX X.prog X.w H' h') (hg:AllBare g') :
  Inv X pins σ H' { s with heap:=h',gens:=g',drawn:=d',toks:=t' }:=by
 have Fy:∀ b o,X.ax.heap.get? b=some o->b≠X.env.locals:=fun b o e=>QI (Qn (Ql e) I.ok.above)
 have yQ:∀ b o,X.ax.heap.get? b=some o->b ∉ X.ex->b ∉ ch:=fun b o e hx hb=>by
  rcases(oy b hb).1 with z|z
  ·exact hx z
  ·exact absurd (Qn (Ql e) z) (QN _)
 have cellK:∀ x c,X.env.cells.lookup x=some c->∀ v,s.heap.IsCell c v->h'.IsCell c v:=fun x c e v aj=>by
  obtain⟨o,ho,hd⟩:=aj
  have vI:c ∉ ch:=fun z=>(oy c z).2.2.1 x c e rfl
  by_cases hc:c∈X.fs
  ·obtain⟨sl,q⟩:=slot c o (I.mG x c e) hc vI ho (I.cw x c e)
   exact⟨_,q,hd⟩
  ·exact⟨o,keep c o (I.mG x c e) hc vI ho (I.cw x c e),hd⟩
 refine⟨I.ok,I.os,hg,⟨fun b o e n hb hx=>?_,fun b o e n hb hx=>?_,fun b o e n hx=>?_,fun b o e hx=>?_,fun b xs e=>d_ b xs (I.base.d_ b xs e),fun b o xs e=>dJ b o xs (I.base.dJ b o xs e),fun b ps e=>?_⟩,?_,fun x c e=>?_,?_,fun x c e=>?_,fun p hp=>?_,az,I.len⟩
 ·exact keep b o (Fy b o e) hb (yQ b o e hx) (I.base.keep b o e n hb hx) (I.base.free b o e n hx)
 ·obtain⟨sl,e1⟩:=I.base.slot b o e n hb hx
  obtain⟨oz,e2⟩:=slot b _ (Fy b o e) hb (yQ b o e hx) e1 (I.base.free b o e n hx)
  exact⟨oz,e2⟩
 ·obtain⟨o',e1⟩:=I.base.there b o e hx
  exact free b o' (yQ b o e hx) e1 (I.base.free b o e n hx)
 ·obtain⟨o',e1⟩:=I.base.there b o e hx
  exact there b o' (yQ b o e hx) e1
 ·obtain⟨m1,e1⟩:=I.base.dM b ps e
  obtain⟨m2,e2⟩:=dM b _ e1
  exact⟨m1++m2,by rw[e2,Array.append_assoc]⟩
 ·obtain⟨m,hn,hl⟩:=I.loc
  refine⟨m,ns m hn,fun i x v e1 e2 e3=>?_⟩
  obtain⟨u,r,l⟩:=hl i x v e1 e2 e3
  refine⟨u,r,?_⟩
  rcases l with l|⟨k,c,e,z⟩
  ·exact .inl l
  ·exact .inr ⟨k,c,e,cellK x c e _ z⟩
 ·obtain⟨v,z⟩:=I.cell x c e
  exact⟨v,cellK x c e v z⟩
 ·obtain⟨m,⟨o,_,_,ho,_⟩,_⟩:=I.loc
  exact free _ o (fun z=>(oy _ z).2.1 rfl) ho I.free
 ·obtain⟨v,o,ho,hd⟩:=I.cell x c e
  exact free c o (fun z=>(oy c z).2.2.1 x c e rfl) ho (I.cw x c e)
 ·obtain⟨e,n,ne,nf,d⟩:=I.pin p hp
  have vI:p.1 ∉ ch:=fun z=>(oy p.1 z).2.2.2 p hp rfl
  exact⟨keep p.1 p.2 ne nf vI e n,free p.1 p.2 vI e n,ne,nf,d⟩
theorem Inv.un{t':Nat}(I:Inv X pins σ H s)(u:Un X.fs [] H H' s.heap h')(az:cX X.prog X.w H' h'):Inv X pins σ H' { s with heap:=h',toks:=t' }:=by
 obtain⟨m,⟨o,es,ep,ho,r⟩,_⟩:=id I.loc
 obtain⟨sl,hL⟩:=u.any ho I.free (by simp)
 exact I.step (g':=s.gens) (d':=s.drawn) (ch:=[]) (fun _ z=>nomatch z) (fun b o _ hb _ e n=>u.keep b o e n hb (by simp)) (fun b o _ hb _ e n=>u.slot b o e n hb (by simp)) (fun b o _ e n=>u.free b o e n (by simp)) (fun b o _ e=>u.there b o e (by simp)) u.d_ u.dJ u.dM (fun m' hm=>by
  obtain⟨o',kT,Bo,gY,r'⟩:=hm
  rw[ho]at gY;cases gY
  exact⟨_,kT,Bo,hL,r'⟩) az I.bare
theorem Inv.call{g':Array GenState}{t':Nat}{d':Drawn}{ch:List Addr}(I:Inv X pins σ H s)(u:Un (cM X.stack) ch H H' s.heap h')(az:cX X.prog X.w H' h')(hg:AllBare g')
  (oy:∀ b∈ch,(b∈X.ex\/X.ax.heap.objs.size<=b)/\b≠X.env.locals/\(∀ x c,X.env.cells.lookup x=some c->c≠b)/\∀ p∈X.pn++pins,p.1≠b) :
  Inv X pins σ H' { s with heap:=h',gens:=g',drawn:=d',toks:=t' }:=by
 obtain⟨m,⟨o,es,ep,ho,r⟩,_⟩:=id I.loc
 obtain⟨sl,hL⟩:=u.any ho I.free fun z=>(oy _ z).2.1 rfl
 exact I.step (ch:=ch) oy (fun b o hL hb hc e n=>u.keep b o e n (fun z=>(Qi.mp (I.gq b z)).elim hL hb) hc) (fun b o _ _ hc e n=>u.any e n hc) (fun b o hc e n=>u.free b o e n hc) (fun b o hc e=>u.there b o e hc) u.d_ u.dJ u.dM (fun m' hm=>by
  obtain⟨o',kT,Bo,gY,r'⟩:=hm
  rw[ho]at gY;cases gY
  exact⟨_,kT,Bo,hL,r'⟩) az hg
theorem Inv.turned{t':Nat}(I:Inv X pins σ H s)(k:∀ b o,b≠it->s.heap.get? b=some o->h'.get? b=some o)(hn:H it=none)(hL:it≠X.env.locals)
  (h1:it∈X.ex\/X.ax.heap.objs.size<=it) (h2:∀ x c,X.env.cells.lookup x=some c->c≠it) (h3:∀ p∈X.pn++pins,p.1≠it):Inv X pins σ H { s with heap:=h',toks:=t' }:=by
 have Fz:∀ b u,H b=some u->b≠it:=fun b u e z=>by rw[z,hn]at e;cases e
 refine I.step (g':=s.gens) (d':=s.drawn) (ch:=[it]) (fun b hb=>?_) (fun b o _ _ hc e _=>k b o (fun z=>hc (by simp[z])) e) (fun b o _ _ hc e _=>⟨o.slots,k b o (fun z=>hc (by simp[z])) e⟩) (fun _ _ _ _ n=>n)
  (fun b o hc e=>⟨o,k b o (fun z=>hc (by simp[z])) e⟩) (fun _ _ e=>e) (fun _ _ _ e=>e) (fun b ps e=>⟨#[],by rw[e];simp⟩) (fun m hm=>?_) (fun b u e=>?_) I.bare
 ·have e:b=it:=by simpa using hb
  subst e
  exact⟨h1,hL,h2,h3⟩
 ·obtain⟨o,es,ep,ho,r⟩:=hm
  exact⟨o,es,ep,k _ o (ZR hL) ho,r⟩
 ·refine(I.az b u e).gX (fun c v hc q=>k c v ?_ q) (fun _ q=>q) fun _ _ q=>q
  rcases hc with z|z
  ·rw[z];exact Fz b u e
  ·exact Fz c _ z
theorem Inv.tok(I:Inv X pins σ H s)(t:Nat):Inv X pins σ H { s with toks:=t }:=I.un (h':=s.heap) (t':=t) Un.refl I.az
theorem Inv.kept{t':Nat}(I:Inv X pins σ H s)(k:∀ b u,s.heap.get? b=some u->h'.get? b=some u):Inv X pins σ H { s with heap:=h',toks:=t' }:=I.un (Un.kept k) (I.az.kept k)
theorem Inv.laid{o:HO}{t':Nat}(I:Inv X pins σ H s)(k:∀ b u,s.heap.get? b=some u->h'.get? b=some u)(hp:s.heap.objs.size<=a)(new:cR X.prog X.w (upd H a o) h' a o) :
  Inv X pins σ (upd H a o) { s with heap:=h',toks:=t' }:=I.un (Un.laid k hp (I.az.fresh hp)) (I.az.laid k hp new)
theorem Inv.write{x e:Addr}{o:HO}{t':Nat}(I:Inv X pins σ H s)(mu:vF (H x))(he:e=x\/H e=some (.own x))(k:∀ b u,b≠e->s.heap.get? b=some u->h'.get? b=some u)(uB:∃ u,h'.get? e=some u)
  (new:cR X.prog X.w (upd H x o) h' x o):Inv X pins σ (upd H x o) { s with heap:=h',toks:=t' }:=I.un (Un.write mu he k uB) (I.az.write mu he k uB new)
theorem Inv.weak{aP:List (Option V)}(I:Inv X pins σ H s)(hl:aP.length=σ.length)(w:∀ (i:Nat) v,aP[i]? = some (some v)->σ[i]? = some (some v)):Inv X pins aP H s:=
 ⟨I.ok,I.os,I.bare,I.base,let ⟨m,hn,gZ⟩:=I.loc;⟨m,hn,fun i x v e1 e2 e3=>gZ i x v e1 (w i v e2) e3⟩,I.cell,I.free,I.cw,I.pin,I.az,hl.trans I.len⟩
theorem Inv.cK{pins':List (Addr×Obj)}(I:Inv X pins σ H s)(h:∀ p∈pins',s.heap.get? p.1=some p.2/\H p.1=none/\p.1≠X.env.locals/\p.1 ∉ X.fs/\∀ v,p.2.data ≠ .cell v):Inv X pins' σ H s:=
 ⟨I.ok,I.os,I.bare,I.base,I.loc,I.cell,I.free,I.cw,fun p hp=>(Q0.mp hp).elim (fun z=>I.pin p (QU _ z)) (h p),I.az,I.len⟩
theorem Bp(hN:N.Nodup)(a:N[i]? = some x)(b:N[j]? = some x):i=j:=by
 obtain⟨h1,e1⟩:=Qp.mp a
 obtain⟨h2,e2⟩:=Qp.mp b
 exact(List.getElem_inj hN).mp (e1.trans e2.symm)
theorem FA{M:Model}{A:Around}{E:Value->Shared->Prop}{v:V}{Q:Unit->Shared->Prop}(I:Inv X pins σ H s)(hN:X.N.Nodup)(hi:X.N[i]? = some x)(hx:Loc X.env.scope x)(r:bh v u)
  (h:∀ s',Inv X pins (σ.set i (some v)) H s'->(∃ a,Heap.SameBut a s.heap s'.heap/\(a=X.env.locals\/X.env.cells.lookup x=some a))->Q () s') (hf:X.fn x=true\/X.env.scope.names.lookup x=some .local:=by first|exact .inl rfl|exact .inr rfl|assumption):wpAny M A (storeName X.env x u) Q E s:=by
 obtain⟨m,hn,hl⟩:=id I.loc
 have r_:(X.env.scope.kind == .class||(X.env.scope.kind == .module&&X.env.locals != X.env.globals))=false:=by rw[I.ok.kind];rfl
 have lK:i<σ.length:=by rw[I.len];exact(Qp.mp hi).1
 have mG:=I.mG
 have tracked:∀ {a:Addr} {h':Heap},(∃ o,s.heap.get? a=some o/\H a=none)->Heap.SameBut a s.heap h'->cX X.prog X.w H h':=fun {a h'} ha hs b ob e=>by
  obtain⟨_,_,qr⟩:=ha
  refine(I.az b ob e).gX (fun c w' hc q=>(hs.2 c ?_).trans q) (fun _ q=>q) fun _ _ q=>q
  rintro rfl
  rcases hc with rfl|hc
  ·rw[qr]at e;cases e
  ·rw[qr]at hc;cases hc
 rcases hx with hk|hk
 ·refine wpAny_storeName_local hk hn (fun h' nh hs=>?_) r_
  obtain⟨oL,_,_,se,_⟩:=id hn
  refine h _ ⟨I.ok,I.os,I.bare,⟨fun b o e n hb hx=>?_,fun b o e n hb hx=>?_,I.base.free,fun b o e hx=>?_,I.base.d_,I.base.dJ,I.base.dM⟩,⟨_,nh,fun j y v' e1 e2 e3=>?_⟩,fun y c e=>?_,I.free,I.cw,fun p hp=>?_,tracked ⟨oL,se,I.free⟩ hs,by simpa using I.len⟩ ⟨_,hs,.inl rfl⟩
  ·exact(hs.2 b (QI (Qn (Ql e) I.ok.above))).trans (I.base.keep b o e n hb hx)
  ·obtain⟨sl,e1⟩:=I.base.slot b o e n hb hx
   exact⟨sl,(hs.2 b (QI (Qn (Ql e) I.ok.above))).trans e1⟩
  ·obtain⟨o',e1⟩:=I.base.there b o e hx
   exact⟨o',(hs.2 b (QI (Qn (Ql e) I.ok.above))).trans e1⟩
  ·by_cases hj:j=i
   ·subst hj
    rw[hi]at e1;cases e1
    rw[Qw lK]at e2
    cases e2
    exact⟨u,r,.inl ⟨hk,by simp⟩⟩
   ·rw[Qr (ZR hj)]at e2
    obtain⟨u',r',q⟩:=hl j y v' e1 e2 e3
    refine⟨u',r',?_⟩
    rcases q with⟨k,e⟩|⟨k,c,e,z⟩
    ·refine .inl ⟨k,?_⟩
     have:y≠x:=fun e=>hj (Bp hN e1 (e ▸ hi))
     simp[this,e]
    ·exact .inr ⟨k,c,e,z.sameBut hs (mG y c e)⟩
  ·obtain⟨w',z⟩:=I.cell y c e
   exact⟨w',z.sameBut hs (mG y c e)⟩
  ·obtain⟨e,n,ne,nf,d⟩:=I.pin p hp
   exact⟨(hs.2 p.1 ne).trans e,n,ne,nf,d⟩
 ·have sf:X.fn x=true:=by
   rcases hf with z|z
   ·exact z
   ·rw[z]at hk;cases hk
  obtain⟨c,hc⟩:=I.ok.has x (.inl hk)
  obtain⟨w',z⟩:=I.cell x c hc
  refine wpAny_storeName_cell I.ok.kind hk hc z (fun h' js hs=>?_)
  obtain⟨oc,qu,Bq⟩:=id z
  refine h { s with heap:=h' } ⟨I.ok,I.os,I.bare,⟨fun b o e n hb hx=>?_,fun b o e n hb hx=>?_,I.base.free,fun b o e hx=>?_,I.base.d_,I.base.dJ,I.base.dM⟩,⟨m,hn.sameBut hs (ZR (mG x c hc)),fun j y v' e1 e2 e3=>?_⟩,fun y c' e=>?_,I.free,I.cw,fun p hp=>?_,tracked ⟨oc,qu,I.cw x c hc⟩ hs,by simpa using I.len⟩ ⟨c,hs,.inr hc⟩
  ·exact(hs.2 b (QI (Qn (Ql e) (I.ok.rY x c sf hc)))).trans (I.base.keep b o e n hb hx)
  ·obtain⟨sl,e1⟩:=I.base.slot b o e n hb hx
   exact⟨sl,(hs.2 b (QI (Qn (Ql e) (I.ok.rY x c sf hc)))).trans e1⟩
  ·obtain⟨o',e1⟩:=I.base.there b o e hx
   exact⟨o',(hs.2 b (QI (Qn (Ql e) (I.ok.rY x c sf hc)))).trans e1⟩
  ·by_cases hj:j=i
   ·subst hj
    rw[hi]at e1;cases e1
    rw[Qw lK]at e2
    cases e2
    exact⟨u,r,.inr ⟨.inl hk,c,hc,js⟩⟩
   ·rw[Qr (ZR hj)]at e2
    obtain⟨u',r',q⟩:=hl j y v' e1 e2 e3
    refine⟨u',r',?_⟩
    rcases q with q|⟨k,c',e,z'⟩
    ·exact .inl q
    ·refine .inr ⟨k,c',e,z'.sameBut hs ?_⟩
     rintro rfl
     exact hj (Bp hN e1 (I.ok.inj _ _ _ e hc ▸ hi))
  ·by_cases FC:c'=c
   ·subst FC;exact⟨_,js⟩
   ·obtain⟨w2,z2⟩:=I.cell y c' e
    exact⟨w2,z2.sameBut hs FC⟩
  ·obtain⟨e,n,ne,nf,d⟩:=I.pin p hp
   refine⟨(hs.2 p.1 ?_).trans e,n,ne,nf,d⟩
   intro q
   rw[q,qu]at e
   have q':oc=p.2:=Qt e
   exact d w' (by rw[<- q'];exact Bq)
theorem Br{M:Model}{A:Around}{E:Value->Shared->Prop}{v:V}{Q:Unit->Shared->Prop}(I:Inv X pins σ H s)(hN:X.N.Nodup)(hi:X.N[i]? = some x)(hx:Loc X.env.scope x)(r:bh v u)
  (h:∀ s',Inv X pins (σ.set i (some v)) H s'->Q () s') (hf:X.fn x=true\/X.env.scope.names.lookup x=some .local:=by first|exact .inl rfl|exact .inr rfl|assumption):wpAny M A (storeName X.env x u) Q E s:=
 FA I hN hi hx r (fun s' I' _=>h s' I') hf
theorem Inv.kU{ch:List Addr}(I:Inv X pins σ H s)(ho:s'.os=s.os)(u:Un (cM X.stack) ch H H' s.heap s'.heap)(az:cX X.prog X.w H' s'.heap)(hg:AllBare s'.gens)
  (oy:∀ b∈ch,(b∈X.ex\/X.ax.heap.objs.size<=b)/\b≠X.env.locals/\(∀ x c,X.env.cells.lookup x=some c->c≠b)/\∀ p∈X.pn++pins,p.1≠b):Inv X pins σ H' s':=by
 obtain⟨h',g',d',t',o'⟩:=s'
 have e:o'=s.os:=ho
 subst e
 exact I.call (g':=g') (t':=t') (d':=d') u az hg oy
end
abbrev XK:=Value->Option Addr->Hp->Prop
abbrev St:=List (Option V)
abbrev VK:=V->Hp->Prop
abbrev TE:=St->Hp->VK->Prop
abbrev TT:=St->Hp->(Bool->Hp->Prop)->Prop
abbrev TA:=St->Hp->(List V->Hp->Prop)->Prop
structure Ends where
 nx:St->Hp->Prop
 rt:VK
 bk:St->Hp->Prop:=fun _ _=>False
 ct:St->Hp->Prop:=fun _ _=>False
abbrev TS:=Ends->St->Hp->Prop
def EP (X:Cx)(pins:List (Addr×Obj))(σ:St)(Q:VK)(u:Value)(s':Shared):Prop:=∃ v H',Inv X pins σ H' s'/\bh v u/\Q v H'
def TP (X:Cx)(pins:List (Addr×Obj))(σ:St)(Q:Bool->Hp->Prop)(b:Bool)(s':Shared):Prop:=∃ H',Inv X pins σ H' s'/\Q b H'
def AP (X:Cx)(pins:List (Addr×Obj))(σ:St)(Q:List V->Hp->Prop)(us:List Value)(s':Shared):Prop:=∃ vs H',Inv X pins σ H' s'/\a_ vs us/\Q vs H'
def SP (X:Cx)(pins:List (Addr×Obj))(D:Ends)(f:Flow)(s':Shared):Prop:=
 match f with
 | .next=>∃ aP H',Inv X pins aP H' s'/\D.nx aP H'
 | .brk=>∃ aP H',Inv X pins aP H' s'/\D.bk aP H'
 | .cont=>∃ aP H',Inv X pins aP H' s'/\D.ct aP H'
 | .ret u=>∃ v aP H',Inv X pins aP H' s'/\bh v u/\D.rt v H'
def PE (X:Cx)(e:Expr)(t:TE):Prop:=
 ∀ (pins:List (Addr×Obj)) (s:Shared) (σ:St) (H:Hp) (Q:VK),Inv X pins σ H s->t σ H Q->wpAny (model X.prog X.w) X.A (eval e X.env) (EP X pins σ Q) X.xe s
structure QE (X:Cx) (e:Expr) (t:TE):Prop where mk::o:PE X e t
def PT (X:Cx)(e:Expr)(t:TT):Prop:=
 ∀ (pins:List (Addr×Obj)) (s:Shared) (σ:St) (H:Hp) (Q:Bool->Hp->Prop),Inv X pins σ H s->t σ H Q->wpAny (model X.prog X.w) X.A (isTrue e X.env (eval e X.env)) (TP X pins σ Q) X.xe s
def PW (X:Cx)(e:Expr)(t:TT):Prop:=
 ∀ (whole:Sem Value) (pins:List (Addr×Obj)) (s:Shared) (σ:St) (H:Hp) (Q:Bool->Hp->Prop),Inv X pins σ H s->t σ H Q->wpAny (model X.prog X.w) X.A (isTrue e X.env whole) (TP X pins σ Q) X.xe s
theorem PW.pt{X:Cx}{e:Expr}{t:TT}(h:PW X e t):PT X e t:=h _
def PA (X:Cx)(es:List Expr)(t:TA):Prop:=
 ∀ (pos:Pos) (pins:List (Addr×Obj)) (s:Shared) (σ:St) (H:Hp) (Q:List V->Hp->Prop),Inv X pins σ H s->t σ H Q->wpAny (model X.prog X.w) X.A (spliced (backTo pos (starEach es X.env))) (AP X pins σ Q) X.xe s
def PS (X:Cx)(st:Stmt)(t:TS):Prop:=
 ∀ (pins:List (Addr×Obj)) (s:Shared) (σ:St) (H:Hp) (D:Ends),Inv X pins σ H s->t D σ H->wpAny (model X.prog X.w) X.A (exec st X.env) (SP X pins D) X.xe s
def fZ (X:Cx)(st:List Stmt)(t:TS):Prop:=
 ∀ (pins:List (Addr×Obj)) (s:Shared) (σ:St) (H:Hp) (D:Ends),Inv X pins σ H s->t D σ H->wpAny (model X.prog X.w) X.A (execs st X.env) (SP X pins D) X.xe s
theorem aU{α:Type}{t:Sem α}{Q Q':α->Shared->Prop}(h:wpAny M A t Q E s)(hQ:∀ a s,Q a s->Q' a s):wpAny M A t Q' E s:=QV h hQ fun _ _ x=>x
section
variable {X:Cx}
def eh (i:Nat):TE:=fun σ H Q=>∃ v,σ[i]? = some (some v)/\Q v H
def tC (v:V):TE:=fun _ H Q=>Q v H
theorem NC{pos:Pos}(hN:X.N[i]? = some x)(hv:uC X.env.scope x)(hd:(x==("__debug__":Str))=false:=by decide)(fR:(x==("__classdict__":Str))=false:=by decide):PE X (.Name x pos) (eh i):=by
 intro pins s σ H Q I h
 obtain⟨v,e,h⟩:=h
 obtain⟨m,hn,hl⟩:=I.loc
 obtain⟨u,r,l⟩:=hl i x v hN e hv
 have fin:EP X pins σ Q u s:=⟨v,H,I,r,h⟩
 rcases l with⟨hk,hm⟩|⟨hk,c,hc,kW⟩
 ·exact wpAny_Name (wpAny_loadName_local I.ok.kind hk hn hm fin) hd
 ·rcases hk with hk|hk
  ·exact wpAny_Name (wpAny_loadName_cell I.ok.kind hk hc kW fin) hd
  ·exact wpAny_Name (wpAny_loadName_free I.ok.kind hk hc kW fin fR) hd
theorem yR{i j pos}:PE X (.Constant (.int i) j pos) (tC (.int i)):=fun _ _ _ H _ I h=>wpAny_Constant_int ⟨.int i,H,I.tok _,⟨_,rfl⟩,h⟩
theorem ND{b j pos}:PE X (.Constant (.bool b) j pos) (tC (.bl b)):=fun _ _ _ H _ I h=>Constant_bool ⟨.bl b,H,I,rfl,h⟩
theorem NF{j pos}:PE X (.Constant .none j pos) (tC .au):=fun _ _ _ H _ I h=>Constant_none ⟨.au,H,I,rfl,h⟩
theorem yS{x j pos}:PE X (.Constant (.str x) j pos) (tC (.str x)):=fun _ _ _ H _ I h=>Calls.Constant_str ⟨.str x,H,I.tok _,⟨_,rfl⟩,h⟩
def Gl (X:Cx)(x:Str):Prop:=X.env.kindOf x=some .globalImplicit
theorem vJ{E:Value->Shared->Prop}{σ:St}{H:Hp}{pos:Pos}(I:Inv X pins σ H s)(hg:Gl X x)(hm:X.mg x=some u)(h:Q u s)
  (hd:(x==("__debug__":Str))=false:=by decide):wpAny (model X.prog X.w) X.A (eval (.Name x pos) X.env) Q E s:=
 JT I.ok.kind hg (Calls.loadGlobal_global (by rw[I.ok.glob];exact I.mod.glob.keeps I.bk) hm h) hd
theorem sg{E:Value->Shared->Prop}{σ:St}{H:Hp}{pos:Pos}(I:Inv X pins σ H s)(hg:Gl X x)(hm:X.mg x=none)(hv:bootBuiltins x=some u)(h:Q u s)
  (hn:x ≠ "__name__":=by decide) (hd:(x==("__debug__":Str))=false:=by decide):wpAny (model X.prog X.w) X.A (eval (.Name x pos) X.env) Q E s:=by
 obtain⟨mb,h1,h2⟩:=I.mod.blt
 exact JT I.ok.kind hg (Calls.loadGlobal_builtin (by rw[I.ok.glob];exact I.mod.glob.keeps I.bk) hm (by rw[I.ok.blt];exact h1.keeps I.bk) ((h2 x hn).trans hv) h) hd
theorem NH{v:V}{pos:Pos}(hg:Gl X x)(hm:X.mg x=some u)(r:bh v u)(hd:(x==("__debug__":Str))=false:=by decide):PE X (.Name x pos) (tC v):=
 fun _ _ _ H _ I h=>vJ I hg hm ⟨v,H,I,r,h⟩ hd
theorem FD{v:V}{pos:Pos}(hg:Gl X x)(hm:X.mg x=none)(hv:bootBuiltins x=some u)(r:bh v u)(hn:x ≠ "__name__":=by decide)(hd:(x==("__debug__":Str))=false:=by decide):PE X (.Name x pos) (tC v):=
 fun _ _ _ H _ I h=>sg I hg hm hv ⟨v,H,I,r,h⟩ hn hd
variable {a b:Expr}{ta tb:TE}{pos:Pos}
variable {tA yT:TT}{bw:List Expr}
def NI (t u:TT):TT:=fun σ H Q=>t σ H fun c H1=>if c=true then u σ H1 Q else Q false H1
def NJ (t u:TT):TT:=fun σ H Q=>t σ H fun c H1=>if c=true then Q true H1 else u σ H1 Q
def NK (t:TT):TT:=fun σ H Q=>t σ H fun c H1=>Q (!c) H1
theorem NL(ha:PT X a tA):PW X (.BoolOp .And [a] pos) tA:=by
 intro wh pins s σ H Q I h
 refine isTrue_and (aU (ha pins s σ H Q I h) fun c s1 e=>?_)
 cases c with
 | true=>exact isTrue_and_nil e
 | false=>exact e
theorem NM(ha:PT X a tA):PW X (.BoolOp .Or [a] pos) tA:=by
 intro wh pins s σ H Q I h
 refine isTrue_or (aU (ha pins s σ H Q I h) fun c s1 e=>?_)
 cases c with
 | false=>exact isTrue_or_nil e
 | true=>exact e
theorem NN(ha:PT X a tA)(hb:PW X (.BoolOp .And (b::bw) pos) yT):PW X (.BoolOp .And (a::b::bw) pos) (NI tA yT):=by
 intro wh pins s σ H Q I h
 refine isTrue_and (aU (ha pins s σ H _ I h) fun c s1 aj=>?_)
 obtain⟨H1,I1,q1⟩:=aj
 cases c with
 | true=>exact hb wh pins s1 σ H1 Q I1 q1
 | false=>exact⟨H1,I1,q1⟩
theorem NO(ha:PT X a tA)(hb:PW X (.BoolOp .Or (b::bw) pos) yT):PW X (.BoolOp .Or (a::b::bw) pos) (NJ tA yT):=by
 intro wh pins s σ H Q I h
 refine isTrue_or (aU (ha pins s σ H _ I h) fun c s1 aj=>?_)
 obtain⟨H1,I1,q1⟩:=aj
 cases c with
 | true=>exact⟨H1,I1,q1⟩
 | false=>exact hb wh pins s1 σ H1 Q I1 q1
theorem NP(ha:PT X a tA):PT X (.UnaryOp .Not a pos) (NK tA):=by
 intro pins s σ H Q I h
 exact isTrue_not (ha pins s σ H (fun c H1=>Q (!c) H1) I h)
def NQ (ta tb:TE):TE:=fun σ H Q=>ta σ H fun x H1=>∃ c,x=.bl c/\if c=true then tb σ H1 Q else Q (.bl false) H1
def NR (ta:TE):TE:=fun σ H Q=>ta σ H fun x H1=>∃ c,x=.bl c/\Q (.bl (!c)) H1
theorem NS{op}{t:TE}(h:PE X a t):PE X (.BoolOp op [a] pos) t:=fun pins s σ H Q I hw=>BoolOp_one (h pins s σ H Q I hw)
theorem NT(ha:PE X a ta)(hb:PE X (.BoolOp .And (b::bw) pos) tb):PE X (.BoolOp .And (a::b::bw) pos) (NQ ta tb):=by
 intro pins s σ H Q I h
 refine BoolOp_and (aU (ha pins s σ H _ I h) fun v s1 aj=>?_)
 obtain⟨x,H1,I1,r1,q1⟩:=aj
 obtain⟨c,rfl,q1⟩:=q1
 cases r1
 refine Zj ?_
 cases c with
 | true=>exact hb pins s1 σ H1 Q I1 q1
 | false=>exact⟨.bl false,H1,I1,rfl,q1⟩
theorem NU(ha:PE X a ta):PE X (.UnaryOp .Not a pos) (NR ta):=by
 intro pins s σ H Q I h
 refine UnaryOp_ (aU (ha pins s σ H _ I h) fun v s1 aj=>?_)
 obtain⟨x,H1,I1,r1,q1⟩:=aj
 obtain⟨c,rfl,q1⟩:=q1
 cases r1
 exact not_of (Zj ⟨.bl (!c),H1,I1,rfl,q1⟩)
def NV (t:TT)(ta tb:TE):TE:=fun σ H Q=>t σ H fun c H1=>if c=true then ta σ H1 Q else tb σ H1 Q
theorem NW(hc:PT X c tA)(ha:PE X a ta)(hb:PE X b tb):PE X (.IfExp c a b pos) (NV tA ta tb):=by
 intro pins s σ H Q I h
 refine wpAny_IfExp (aU (hc pins s σ H _ I h) fun d s1 aj=>?_)
 obtain⟨H1,I1,q1⟩:=aj
 cases d with
 | true=>exact ha pins s1 σ H1 Q I1 q1
 | false=>exact hb pins s1 σ H1 Q I1 q1
end
def cL (K:PySem.W.Frag)(H:Hp)(a:Addr)(xs:List V):Prop:=
 Rd H a (.lst xs) \/
  ∃ (o:Obj) (aq:Array Value) (n:Nat),K.lookup a=some o/\o.cls=.type "list" /\ o.dict=none/\o.data=.seq aq n/\aq.size<=sizeLine/\a_ xs aq.toList
def dO (K:PySem.W.Frag)(H:Hp)(a:Addr)(xs:List V):Prop:=
 Rd H a (.tup xs) \/
  ∃ (o:Obj) (aq:Array Value) (n:Nat),K.lookup a=some o/\o.cls=.type "tuple" /\ o.data=.seq aq n/\aq.size<=sizeLine/\a_ xs aq.toList
def NX:Value->Option V
 | .none=>some .au
 | .bool b=>some (.bl b)
 | .int i _=>some (.int i)
 | .str x _=>some (.str x)
 | .bytes b _=>some (.uA b)
 | .float b _=>some (.rV b)
 | .ref a=>some (.ref a)
 | .type n=>some (.ty n)
 | _=>none
theorem bh.abs{x:V}(r:bh x u):NX u=some x:=by
 cases x with
 | au=>cases r;rfl
 | bl _=>cases r;rfl
 | int _=>obtain⟨t,rfl⟩:=r;rfl
 | str _=>obtain⟨t,rfl⟩:=r;rfl
 | uA _=>obtain⟨t,rfl⟩:=r;rfl
 | rV _=>obtain⟨t,rfl⟩:=r;rfl
 | ref _=>cases r;rfl
 | ty _=>cases r;rfl
theorem bh.inj{x y:V}(r:bh x u)(q:bh y u):x=y:=Qt (r.abs.symm.trans q.abs)
theorem a_.inj:∀ {xs ys:List V} {us:List Value},a_ xs us->a_ ys us->xs=ys
 | _,_,_,.nil,.nil=>rfl
 | _,_,_,.cons r t,.cons r' t'=>by rw[r.inj r',a_.inj t t']
section
variable {X:Cx}{pins:List (Addr×Obj)}{σ:St}{H:Hp}{s:Shared}{a:Addr}{xs ys:List V}
theorem cL.of(h:H a=some (.lst xs)):cL K H a xs:=.inl (.inl h)
theorem dO.of(h:H a=some (.tup xs)):dO K H a xs:=.inl (.inl h)
theorem Inv.list(I:Inv X pins σ H s)(h:cL X.K H a xs):∃ aq:List Value,a_ xs aq/\PlainL s.heap a aq.toArray/\xs.length<=sizeLine:=by
 rcases h with h|⟨o,aq,n,hk,hc,hd,hs,hz,r⟩
 ·obtain⟨z,aq,n,r,e⟩:=h.ok I.az
  exact⟨aq,r,⟨_,n,e,rfl,rfl,rfl⟩,z⟩
 ·refine⟨aq.toList,r,⟨o,n,I.dC a o hk,hc,hd,by simpa using hs⟩,?_⟩
  have e:=r.length
  simp only[Zb]at e
  omega
theorem Inv.tuple(I:Inv X pins σ H s)(h:dO X.K H a xs):∃ aq:List Value,a_ xs aq/\IsTup s.heap a aq.toArray/\xs.length<=sizeLine:=by
 rcases h with h|⟨o,aq,n,hk,hc,hs,hz,r⟩
 ·obtain⟨z,aq,r,p⟩:=h.ok I.az
  exact⟨aq,r,p.tup,z⟩
 ·refine⟨aq.toList,r,⟨o,I.dC a o hk,hc,n,by simpa using hs⟩,?_⟩
  have e:=r.length
  simp only[Zb]at e
  omega
theorem Inv.ni(I:Inv X pins σ H s)(h:cL X.K H a xs)(h':cL X.K H a ys):xs=ys:=by
 obtain⟨aq,r,⟨o,n,e,_,_,d⟩,_⟩:=I.list h
 obtain⟨its',r',⟨o',n',e',_,_,d'⟩,_⟩:=I.list h'
 rw[e]at e';cases e'
 rw[d]at d'
 injection d' with d1 _
 have:aq=its':=by simpa using Zx Array.toList d1
 subst this
 exact r.inj r'
theorem Inv.lL(I:Inv X pins σ H s)(h:dO X.K H a xs)(h':dO X.K H a ys):xs=ys:=by
 obtain⟨aq,r,⟨o,e,_,n,d⟩,_⟩:=I.tuple h
 obtain⟨its',r',⟨o',e',_,n',d'⟩,_⟩:=I.tuple h'
 rw[e]at e';cases e'
 rw[d]at d'
 injection d' with d1 _
 have:aq=its':=by simpa using Zx Array.toList d1
 subst this
 exact r.inj r'
end
abbrev Cx.g7 (X:Cx)(E:Value->Shared->Prop):Cx:={ X with xe:=E }
abbrev Cx.cU (X:Cx):Cx:=X.g7 fun _ _=>False
theorem Cx.Ok.g7{X:Cx}(ok:X.Ok)(E:Value->Shared->Prop):(X.g7 E).Ok:=
 ⟨ok.mod,ok.kind,ok.glob,ok.blt,ok.above,ok.inj,ok.has,ok.rY,ok.hd,ok.frames,ok.vH,ok.yP,ok.bs,ok.lH,ok.lI,ok.lJ,ok.dN,ok.o9⟩
theorem Cx.Ok.dE{X:Cx}(ok:(X.g7 E).Ok):X.Ok:=
 ⟨ok.mod,ok.kind,ok.glob,ok.blt,ok.above,ok.inj,ok.has,ok.rY,ok.hd,ok.frames,ok.vH,ok.yP,ok.bs,ok.lH,ok.lI,ok.lJ,ok.dN,ok.o9⟩
section
variable {X:Cx}{pins:List (Addr×Obj)}{σ:St}{H:Hp}{s:Shared}{E:Value->Shared->Prop}
theorem Inv.g7(I:Inv X pins σ H s)(E:Value->Shared->Prop):Inv (X.g7 E) pins σ H s:=⟨I.ok.g7 E,I.os,I.bare,I.base,I.loc,I.cell,I.free,I.cw,I.pin,I.az,I.len⟩
theorem Inv.dE(I:Inv (X.g7 E) pins σ H s):Inv X pins σ H s:=⟨I.ok.dE,I.os,I.bare,I.base,I.loc,I.cell,I.free,I.cw,I.pin,I.az,I.len⟩
theorem SP.dE{D:Ends}{f:Flow}(h:SP (X.g7 E) pins D f s'):SP X pins D f s':=by
 cases f with
 | next=>obtain⟨aP,H',I,q⟩:=h;exact⟨aP,H',I.dE,q⟩
 | brk=>obtain⟨aP,H',I,q⟩:=h;exact⟨aP,H',I.dE,q⟩
 | cont=>obtain⟨aP,H',I,q⟩:=h;exact⟨aP,H',I.dE,q⟩
 | ret u=>obtain⟨v,aP,H',I,r,q⟩:=h;exact⟨v,aP,H',I.dE,r,q⟩
theorem fZ.cU{st:List Stmt}{t:TS}(h:fZ X.cU st t):fZ X st t:=fun pins s σ H D I hw=>
 QV (h pins s σ H D (I.g7 _) hw) (fun _ _ q=>q.dE) fun _ _ z=>False.elim z
end
section
variable {X:Cx}{st:Stmt}{bw:List Stmt}{t u:TS}{e:Expr}{te:TE}{pos:Pos}
def NY:TS:=fun D σ H=>D.nx σ H
def yU (t u:TS):TS:=fun D σ H=>t { D with nx:=u D } σ H
theorem NZ:fZ X [] NY:=fun _ _ σ H _ I h=>Jf ⟨σ,H,I,h⟩
theorem sh(h1:PS X st t)(h2:fZ X bw u):fZ X (st::bw) (yU t u):=by
 intro pins s σ H D I h
 refine JA (aU (h1 pins s σ H { D with nx:=u D } I h) fun f s1 q=>?_)
 cases f with
 | next=>
  obtain⟨aP,H',I',q⟩:=q
  exact h2 pins s1 aP H' D I' q
 | ret v=>exact q
 | brk=>exact q
 | cont=>exact q
theorem yV(h1:PS X st t):fZ X [st] t:=by
 intro pins s σ H D I h
 refine JA (aU (h1 pins s σ H D I h) fun f s1 q=>?_)
 cases f with
 | next=>exact Jf q
 | ret v=>exact q
 | brk=>exact q
 | cont=>exact q
def N0:TS:=fun D σ H=>D.bk σ H
theorem N1:PS X (.Break pos) N0:=fun _ _ σ H _ I h=>wpAny_Break ⟨σ,H,I,h⟩
theorem Inv.quiet{σ:St}{H:Hp}(I:Inv X pins σ H s):interactive X.env=false:=by simp[interactive,I.ok.kind]
def N2 (te:TE):TS:=fun D σ H=>te σ H fun _ H1=>D.nx σ H1
theorem FE(he:PE X e te)(hs:swapsWith e none pos.line X.env=pure false:=by rfl):PS X (.Expr e pos) (N2 te):=by
 intro pins s σ H D I h
 exact wpAny_Expr_any (aU (he pins s σ H _ I h) fun v s1 ⟨x,H1,I1,r1,q1⟩=>⟨σ,H1,I1,q1⟩) I.quiet hs
def FF (te:TE):TS:=fun D σ H=>te σ H D.rt
theorem FG(he:PE X e te):PS X (.Return (some e) pos) (FF te):=by
 intro pins s σ H D I h
 exact wpAny_Return_some (aU (he pins s σ H _ I h) fun v s1 ⟨x,H1,I1,r1,q1⟩=>⟨x,σ,H1,I1,r1,q1⟩)
def N3 (c:TT)(t u:TS):TS:=fun D σ H=>c σ H fun b H1=>if b=true then t D σ H1 else u D σ H1
theorem FH{a b:List Stmt}{tc:TT}(hc:PT X c tc)(ha:fZ X a t)(hb:fZ X b u):PS X (.If c a b pos) (N3 tc t u):=by
 intro pins s σ H D I h
 refine wpAny_If (aU (hc pins s σ H _ I h) fun d s1 aj=>?_)
 obtain⟨H1,I1,q1⟩:=aj
 cases d with
 | true=>exact ha pins s1 σ H1 D I1 q1
 | false=>exact hb pins s1 σ H1 D I1 q1
def N4:TS:=fun _ _ _=>False
theorem N5:PS X st N4:=fun _ _ _ _ _ _ h=>h.elim
end
abbrev TG:=V->St->Hp->(St->Hp->Prop)->Prop
def PG (X:Cx)(target:Expr)(t:TG):Prop:=
 ∀ (pins:List (Addr×Obj)) (s:Shared) (σ:St) (H:Hp) (v:V) (u:Value) (Q:St->Hp->Prop),Inv X pins σ H s->bh v u->t v σ H Q->
  wpAny (model X.prog X.w) X.A (assign target X.env u) (fun _ s'=>∃ aP H',Inv X pins aP H' s'/\Q aP H') X.xe s
abbrev Bs:=V->V->V->Hp->(Hp->Prop)->Prop
def FI (X:Cx)(t:Bs):Prop:=
 ∀ (pins:List (Addr×Obj)) (s:Shared) (σ:St) (H:Hp) (o i v:V) (ov iv u:Value) (Q:Hp->Prop),Inv X pins σ H s->bh o ov->bh i iv->bh v u->t o i v H Q->
  wpAny (model X.prog X.w) X.A (setItem ov iv u) (fun _ s'=>∃ H',Inv X pins σ H' s'/\Q H') X.xe s
section
variable {X:Cx}{pos:Pos}
def si (i:Nat):TG:=fun v σ H Q=>Q (σ.set i (some v)) H
theorem Bu(hN:X.N.Nodup)(hi:X.N[i]? = some x)(hx:Loc X.env.scope x)(hf:X.fn x=true\/X.env.scope.names.lookup x=some .local:=by first|exact .inl rfl|exact .inr rfl|assumption):PG X (.Name x pos) (si i):=by
 intro pins s σ H v u Q I r h
 exact wpAny_assign_Name (Br I hN hi hx r (fun s' I'=>⟨_,H,I',h⟩) hf)
def N6 (to ti:TE)(t:Bs):TG:=fun v σ H Q=>to σ H fun o H1=>ti σ H1 fun i H2=>t o i v H2 fun H3=>Q σ H3
theorem N7{o i:Expr}{to ti:TE}{t:Bs}(ho:PE X o to)(hi:PE X i ti)(hs:FI X t)
  (ha:∀ v,assign (.Subscript o i pos) X.env v=(do
    let ov <- holding [v] (eval o X.env)
    let iv <- holding [v,ov] (eval i X.env)
    standAt pos
    holding [v,ov,iv] (setItem ov iv v)
    release [v,ov,iv] []):=by intro _;rfl):PG X (.Subscript o i pos) (N6 to ti t):=by
 intro pins s σ H v u Q I r h
 rw[ha]
 refine Qa (Zl (aU (ho pins s σ H _ I h) fun ov s1 aj=>?_))
 obtain⟨x,H1,I1,r1,q1⟩:=aj
 refine Qa (Zl (aU (hi pins s1 σ H1 _ I1 q1) fun iv s2 aj=>?_))
 obtain⟨y,H2,I2,r2,q2⟩:=aj
 refine Qa (Yk (Qa (Zl (aU (hs pins s2 σ H2 x y v ov iv u _ I2 r1 r2 r q2) fun _ s3 aj=>?_))))
 obtain⟨H3,I3,q3⟩:=aj
 exact wpAny_release ⟨σ,H3,I3,q3⟩
def yW (te:TE)(g:TG):TS:=fun D σ H=>te σ H fun x H1=>g x σ H1 D.nx
theorem N8{e:Expr}{te:TE}{g:TG}(he:PE X e te)(hg:PG X tg g)(hs:swapsWithSole [tg] e pos.line X.env=pure false:=by rfl)(hw:swappedStores [tg] e X.env=pure none:=by rfl)
  (h1:(assignEach [tg] X.env).map (·.2)=[assign tg X.env]:=by rfl):PS X (.Assign [tg] e pos) (yW te g):=by
 intro pins s σ H D I h
 refine wpAny_Assign_stores (aU (he pins s σ H _ I h) fun v s1 ⟨x,H1,I1,r1,q1⟩=>?_) hs hw
 rw[h1]
 exact aU (hg pins s1 σ H1 x v _ I1 r1 q1) fun _ s2 q=>q
theorem Bv{e:Expr}{te:TE}{pos':Pos}(hN:X.N.Nodup)(hi:X.N[i]? = some x)(hx:Loc X.env.scope x)(he:PE X e te)(hs:swapsWith e (some (.Name x pos')) pos.line X.env=pure false:=by rfl)(hf:X.fn x=true\/X.env.scope.names.lookup x=some .local:=by first|exact .inl rfl|exact .inr rfl|assumption) :
  PS X (.Assign [.Name x pos'] e pos) (yW te (si i)):=by
 intro pins s σ H D I h
 refine wpAny_Assign_Name (aU (he pins s σ H _ I h) fun v s1 ⟨y,H1,I1,r1,q1⟩=>?_) hs
 exact Br I1 hN hi hx r1 (fun s2 I2=>⟨_,H1,I2,q1⟩) hf
def N9 (c:TT)(tb:TS):TS:=fun D σ H=>∃ W:Nat->St->Hp->Prop,(∃ m,W m σ H)/\∀ m σ H,W m σ H->
 c σ H fun b H1=>if b=true then ∃ N:St->Hp->Prop,(∀ aP H',N aP H'->∃ m',m'<m/\W m' aP H')/\tb { D with nx:=N,ct:=N,bk:=D.nx } σ H1 else D.nx σ H1
theorem N_{tc:TT}{tb:TS}(hp:PassesOwn (model X.prog X.w) X.A X.env X.xe)(hc:PT X c tc)(hb:fZ X body tb):PS X (.While c body [] pos) (N9 tc tb):=by
 intro pins s σ H D I h
 obtain⟨W,⟨m0,w0⟩,turn⟩:=h
 refine wpAny_While (codeAny_whileLoop (fun n s'=>∃ aP H',Inv X pins aP H' s'/\W n aP H') ?_ m0 ⟨σ,H,I,w0⟩)
 rintro n s1 ⟨vK,H1,I1,w1⟩
 refine ZK hp (aU (hc pins s1 vK H1 _ I1 (turn n vK H1 w1)) fun b s2 aj=>?_)
 obtain⟨H2,I2,q2⟩:=aj
 cases b with
 | true=>
  obtain⟨N,hN,q2⟩:=q2
  rw[Qe rfl]
  refine ZK hp (aU (hb pins s2 vK H2 _ I2 q2) fun f s3 q3=>?_)
  cases f with
  | next=>
   obtain⟨mH,H3,I3,n3⟩:=q3
   obtain⟨m',hm,w3⟩:=hN mH H3 n3
   exact⟨m',hm,mH,H3,I3,w3⟩
  | cont=>
   obtain⟨mH,H3,I3,n3⟩:=q3
   obtain⟨m',hm,w3⟩:=hN mH H3 n3
   exact⟨m',hm,mH,H3,I3,w3⟩
  | brk=>exact q3
  | ret v=>exact q3
 | false=>
  rw[Qg Zy]
  exact Jf ⟨vK,H2,I2,q2⟩
end
structure It where
 go:Nat->Hp->Prop
 qw:Nat->Hp->V->Hp->Prop
 stop:Nat->Hp->Prop
def oA (X:Cx)(pins:List (Addr×Obj))(H:Hp)(b:Addr):Prop:=
 H b=none/\b≠X.env.locals/\b ∉ X.fs/\(b∈X.ex\/X.ax.heap.objs.size<=b)/\(∀ x c,X.env.cells.lookup x=some c->c≠b)/\∀ p∈X.pn++pins,p.1≠b
theorem Inv.sj{X:Cx}{σ:St}{H H':Hp}(I:Inv X pins σ H s)(hb:s.heap.objs.size<=b)(hn:H' b=none):oA X pins H' b:=by
 refine⟨hn,Jp (Qn I.lt hb),I.rZ hb,.inr (Qv I.sz hb),fun x c e z=>?_,fun p hp z=>?_⟩
 ·obtain⟨v,q⟩:=I.cell x c e
  exact absurd (Qn q.lt (by rw[z];exact hb)) (QN _)
 ·exact absurd (Qn (Ql (I.pin p hp).1) (by rw[z];exact hb)) (QN _)
structure Turn (P:Program) (w:World) (K:PySem.W.Frag) (tg:Expr) (J:It) (fp:List Addr) (it:Addr) (tn:Nat->Heap->Prop):Prop where
 mem:it∈fp
 obj:∀ i h,tn i h->∀ b∈fp,∃ o,h.get? b=some o/\∀ v,o.data ≠ .cell v
 keep:∀ i h h',tn i h->(∀ b∈fp,∀ o,h.get? b=some o->h'.get? b=some o)->tn i h'
 item:∀ (X:Cx),X.prog=P->X.w=w->X.K=K->X.calm=true->∀ (i:Nat) (pins:List (Addr×Obj)) (s:Shared) (σ:St) (H:Hp) (E:Value->Shared->Prop),Inv X pins σ H s->(∀ b∈fp,oA X pins H b)->tn i s.heap->J.go i H->
  wpAny (model P w) X.A (pyNext (.ref it)) (fun r s1=>∃ u,r=some u /\
   wpAny (model P w) X.A (letOwnedTupleGo tg (.ref it) u) (fun _ s2=>∃ x H',Inv X pins σ H' s2/\bh x u/\J.qw i H x H'/\tn (i+1) s2.heap/\∀ b∈fp,H' b=none) E s1) E s
 done:∀ (X:Cx),X.prog=P->X.w=w->X.K=K->X.calm=true->∀ (i:Nat) (pins:List (Addr×Obj)) (s:Shared) (σ:St) (H:Hp) (E:Value->Shared->Prop),Inv X pins σ H s->(∀ b∈fp,oA X pins H b)->tn i s.heap->J.stop i H->
  wpAny (model P w) X.A (pyNext (.ref it)) (fun r s1=>r=none/\Inv X pins σ H s1) E s
 self:∀ (A:Around) (i:Nat) (s:Shared) (Q:Value->Shared->Prop) (E:Value->Shared->Prop),tn i s.heap->Q (.ref it) s->wpAny (model P w) A (pyIter (.ref it)) Q E s
abbrev TI:=St->Hp->(It->Hp->Prop)->Prop
def FJ (X:Cx)(pins:List (Addr×Obj))(σ:St)(tg:Expr)(R:It->Hp->Prop)(yX:Value)(s2:Shared):Prop:=
 ∃ (it:Addr) (fp:List Addr) (tn:Nat->Heap->Prop) (J:It) (H':Hp),yX=.ref it/\Inv X pins σ H' s2/\Turn X.prog X.w X.K tg J fp it tn/\tn 0 s2.heap/\(∀ b∈fp,oA X pins H' b)/\R J H'
def PI (X:Cx)(tg iter:Expr)(wi:TI):Prop:=
 ∀ (pins:List (Addr×Obj)) (s:Shared) (σ:St) (H:Hp) (R:It->Hp->Prop),Inv X pins σ H s->wi σ H R->
  wpAny (model X.prog X.w) X.A (eval iter X.env) (fun v s1=>wpAny (model X.prog X.w) X.A (pyIter v) (FJ X pins σ tg R) X.xe s1) X.xe s
theorem Bw{n:String}{vs:Array Value}{Q:Unit->Shared->Prop}(ho:s.heap.get? it=some o)(hc:o.cls=.type n)(hd:o.data=.fields vs)
  (hn:["enumerate","zip","dict_itemiterator","dict_reverseitemiterator","odict_iterator","itertools.zip_longest","itertools.pairwise"].contains n=false) (hQ:Q () s):wpAny M A (letOwnedTupleGo tg (.ref it) u) Q E s:=by
 unfold letOwnedTupleGo
 cases tg<;>first
  | exact Qj hQ
  | (cases u<;>first
      | exact Qj hQ
      | (refine Qa (wpAny_load ho ?_)
         rw[hc,hd]
         show wpAny M A (if(["enumerate","zip","dict_itemiterator","dict_reverseitemiterator","odict_iterator","itertools.zip_longest","itertools.pairwise"].contains n&&vs[0]? == some (rawInt _))=true then _ else _) Q E s
         rw[Qg (by intro h;rw[hn,Bool.false_and]at h;cases h)]
         exact Qj hQ))
def Bx (K:PySem.W.Frag)(a:Addr):It:=
 ⟨fun i H=>∃ xs x,cL K H a xs/\xs[i]? = some x,fun i H x H'=>H'=H/\∀ xs,cL K H a xs->xs[i]? = some x,fun i H=>∃ xs,cL K H a xs/\xs.length<=i⟩
def By (K:PySem.W.Frag)(a:Addr):It:=
 ⟨fun i H=>∃ xs x,dO K H a xs/\xs[i]? = some x,fun i H x H'=>H'=H/\∀ xs,dO K H a xs->xs[i]? = some x,fun i H=>∃ xs,dO K H a xs/\xs.length<=i⟩
def yY (lo:Int)(n:Nat):It:=⟨fun i _=>i<n,fun i H x H'=>H'=H/\x=.int (lo+i),fun i _=>n<=i⟩
theorem Oa(a it:Addr):Turn P w K tg (Bx K a) [it] it (fun i h=>h.IsListIter it a i) where
 mem:=by simp
 obj:=fun i h st b hb=>by
  have e:b=it:=by simpa using hb
  subst e
  obtain⟨o,e,c,d⟩:=st
  exact⟨o,e,fun v z=>by rw[d]at z;cases z⟩
 keep:=fun i h h' st k=>st.at fun o e=>k it (by simp) o e
 item:=by
  intro X hP hw hK hc i pins s σ H E I hf st hg
  subst hP hw hK
  obtain⟨xs,x,hq,hx⟩:=hg
  obtain⟨aq,rv,p,hz⟩:=I.list hq
  obtain⟨u,hu,ru⟩:=rv.get hx
  obtain⟨f0,f1,f2,f3,f4,f5⟩:=hf it (by simp)
  refine wpAny_pyNext_list_item st p.isList (x:=u) (by simpa using hu) fun h' jh sb=>?_
  have I1:Inv X pins σ H { s with heap:=h' }:=I.turned (t':=s.toks) (fun b o hb e=>(sb.2 b hb).trans e) f0 f1 f3 f4 f5
  obtain⟨o,e,c,d⟩:=id jh
  exact⟨u,rfl,Bw (s:={ s with heap:=h' }) e c d (by decide) ⟨x,H,I1,ru,⟨rfl,fun ys hy=>by rw[I.ni hy hq];exact hx⟩,jh,fun b hb=>(hf b hb).1⟩⟩
 done:=by
  intro X hP hw hK hc i pins s σ H E I hf st hg
  subst hP hw hK
  obtain⟨xs,hq,hx⟩:=hg
  obtain⟨aq,rv,p,hz⟩:=I.list hq
  obtain⟨f0,f1,f2,f3,f4,f5⟩:=hf it (by simp)
  have hl:=rv.length
  exact wpAny_pyNext_list_end (I.ok.hd hc) st p.isList (by simp;omega) fun h' eb=>⟨rfl,I.turned (t':=s.toks) (fun b o hb e=>eb b o hb e) f0 f1 f3 f4 f5⟩
 self:=fun _ _ _ _ _ st h=>wpAny_pyIter_listiter st h
theorem Ob(a it:Addr):Turn P w K tg (By K a) [it] it (fun i h=>h.IsTupleIter it a i) where
 mem:=by simp
 obj:=fun i h st b hb=>by
  have e:b=it:=by simpa using hb
  subst e
  obtain⟨o,e,c,d⟩:=st
  exact⟨o,e,fun v z=>by rw[d]at z;cases z⟩
 keep:=fun i h h' st k=>st.at fun o e=>k it (by simp) o e
 item:=by
  intro X hP hw hK hc i pins s σ H E I hf st hg
  subst hP hw hK
  obtain⟨xs,x,hq,hx⟩:=hg
  obtain⟨aq,rv,p,hz⟩:=I.tuple hq
  obtain⟨u,hu,ru⟩:=rv.get hx
  obtain⟨f0,f1,f2,f3,f4,f5⟩:=hf it (by simp)
  refine wpAny_pyNext_tuple_item st (show s.heap.IsTuple a aq.toArray from p) (x:=u) (by simpa using hu) fun h' jh sb=>?_
  have I1:Inv X pins σ H { s with heap:=h' }:=I.turned (t':=s.toks) (fun b o hb e=>(sb.2 b hb).trans e) f0 f1 f3 f4 f5
  obtain⟨o,e,c,d⟩:=id jh
  exact⟨u,rfl,Bw (s:={ s with heap:=h' }) e c d (by decide) ⟨x,H,I1,ru,⟨rfl,fun ys hy=>by rw[I.lL hy hq];exact hx⟩,jh,fun b hb=>(hf b hb).1⟩⟩
 done:=by
  intro X hP hw hK hc i pins s σ H E I hf st hg
  subst hP hw hK
  obtain⟨xs,hq,hx⟩:=hg
  obtain⟨aq,rv,p,hz⟩:=I.tuple hq
  obtain⟨f0,f1,f2,f3,f4,f5⟩:=hf it (by simp)
  have hl:=rv.length
  exact wpAny_pyNext_tuple_end (I.ok.hd hc) st (show s.heap.IsTuple a aq.toArray from p) (by simp;omega) fun h' eb=>⟨rfl,I.turned (t':=s.toks) (fun b o hb e=>eb b o hb e) f0 f1 f3 f4 f5⟩
 self:=fun _ _ _ _ _ st h=>wpAny_pyIter_tupleiter st h
theorem Oc(it:Addr)(lo:Int)(n:Nat):Turn P w K tg (yY lo n) [it] it (fun i h=>IsRangeIter h it (lo+(i:Nat)*1) ((n:Int)-(i:Nat)) 1) where
 mem:=by simp
 obj:=fun i h st b hb=>by
  have e:b=it:=by simpa using hb
  subst e
  exact⟨_,st,fun v z=>by
   have z':Data.fields _=Data.cell v:=z
   cases z'⟩
 keep:=fun i h h' st k=>k it (by simp) _ st
 item:=by
  intro X hP hw hK hc i pins s σ H E I hf st hg
  subst hP hw hK
  obtain⟨f0,f1,f2,f3,f4,f5⟩:=hf it (by simp)
  have W:=Walks.range (prog:=X.prog) (w:=X.w) (I.ok.hd hc) it lo 1 n
  refine W.item i s _ _ hg st fun v h' tk hv jh kk=>?_
  obtain⟨t,rfl⟩:=hv
  have I1:Inv X pins σ H { s with heap:=h',toks:=tk }:=I.turned (fun b o hb e=>kk b o (by simpa using hb) e) f0 f1 f3 f4 f5
  refine⟨_,rfl,Bw (s:={ s with heap:=h',toks:=tk }) (n:="range_iterator") jh rfl rfl (by decide) ⟨.int (lo+i),H,I1,⟨t,?_⟩,⟨rfl,rfl⟩,jh,fun b hb=>(hf b hb).1⟩⟩
  rw[Int.mul_one]
 done:=by
  intro X hP hw hK hc i pins s σ H E I hf st hg
  subst hP hw hK
  obtain⟨f0,f1,f2,f3,f4,f5⟩:=hf it (by simp)
  exact wpAny_pyNext_range_end (I.ok.hd hc) st (by have:n<=i:=hg;omega) fun h' eb=>⟨rfl,I.turned (t':=s.toks) (fun b o hb e=>eb b o hb e) f0 f1 f3 f4 f5⟩
 self:=fun _ _ _ _ _ st h=>wpAny_pyIter_rangeiter st h
section
variable {X:Cx}{tg:Expr}
theorem Od{σ:St}{H:Hp}{R:It->Hp->Prop}{lo hi:Int}{t u v:Tok}{tk:Nat}(I:Inv X pins σ H s)(h1:-(2 ^ 62)<=lo)(h2:lo<2 ^ 62)(h3:-(2 ^ 62)<=hi)(h4:hi<2 ^ 62)
  (q:R (yY lo (hi-lo).toNat) H):wpAny (model X.prog X.w) X.A (pyIter (.ref s.heap.objs.size)) (FJ X pins σ tg R) E { s with heap:=s.heap.push { cls:=.type "range",data:=.fields #[.int lo t,.int hi u,.int 1 v] },toks:=tk }:=by
 refine wpAny_pyIter_range (IsRange.new ..) (small_one h1 h2 h3 h4) ?_
 have I1:Inv X pins σ H { s with heap:=s.heap.push { cls:=.type "range",data:=.fields #[.int lo t,.int hi u,.int 1 v] },toks:=tk }:=I.kept fun b o e=>Qc _ e
 refine⟨(s.heap.push { cls:=.type "range",data:=.fields #[.int lo t,.int hi u,.int 1 v] }).objs.size,[(s.heap.push { cls:=.type "range",data:=.fields #[.int lo t,.int hi u,.int 1 v] }).objs.size],_,_,H,rfl,
  I1.kept (t':=tk) fun b o e=>Qc _ e,Oc _ lo (hi-lo).toNat,?_,fun b hb=>?_,q⟩
 ·have e1:lo+((0:Nat):Int)*1=lo:=by simp
  have e2:(((hi-lo).toNat:Nat):Int)-((0:Nat):Int)=Builtin.Range.rangeSize lo hi 1:=by rw[rangeSize_one];split<;>omega
  show IsRangeIter _ _ (lo+((0:Nat):Int)*1) ((((hi-lo).toNat:Nat):Int)-((0:Nat):Int)) 1
  rw[e1,e2]
  exact Qs _ rfl
 ·have e:b=(s.heap.push { cls:=.type "range",data:=.fields #[.int lo t,.int hi u,.int 1 v] }).objs.size:=by simpa using hb
  subst e
  exact I1.sj (Qf _) (I1.az.fresh (Qf _))
def Oe (ta:TA):TI:=fun σ H R=>ta σ H fun vs H1=>∃ j:Int,vs=[.int j] /\ -(2 ^ 62)<=j/\j<2 ^ 62/\R (yY 0 j.toNat) H1
theorem Of{a:Expr}{ta:TA}{p pos:Pos}(hg:Gl X "range")(hm:X.mg "range" = none)(ha:PA X [a] ta)(hs:starEach [a] X.env=[(false,eval a X.env)]:=by rfl):PI X tg (.Call (.Name "range" p) [a] [] pos) (Oe ta):=by
 intro pins s σ H R I h
 refine Call_ (sg I hg hm boot_range (Z2 (aU (ha pos pins s σ H _ I h) fun us s1 ⟨vs,H1,I1,r1,q1⟩=>?_) hs rfl))
 obtain⟨j,e,q1,q2,q⟩:=q1
 subst e
 cases r1 with
 | cons r rr=>
  cases rr
  obtain⟨t,rfl⟩:=r
  exact call_range_1 (Od I1 (by omega) (by omega) q1 q2 (by simpa using q))
def Bz (wi:TI)(g:TG)(tb:TS):TS:=fun D σ H=>wi σ H fun J H1=>∃ W:Nat->Nat->St->Hp->Prop,(∃ m,W 0 m σ H1)/\∀ i m σ H,W i m σ H->
 (J.stop i H/\D.nx σ H)\/(J.go i H/\∃ N:St->Hp->Prop,(∀ aP H',N aP H'->∃ m',m'<m/\W (i+1) m' aP H')/\∀ x H',J.qw i H x H'->g x σ H' fun lM H2=>tb { D with nx:=N,ct:=N,bk:=D.nx } lM H2)
def qx (fp:List Addr)(h:Heap):List (Addr×Obj):=fp.filterMap fun b=>(h.get? b).map fun o=>(b,o)
theorem yZ(hb:b∈fp)(e:h.get? b=some o):(b,o)∈qx fp h:=JU.mpr ⟨b,hb,by rw[e];rfl⟩
theorem FK{p:Addr×Obj}(hp:p∈qx fp h):p.1∈fp/\h.get? p.1=some p.2:=by
 obtain⟨b,hb,e⟩:=JU.mp hp
 cases q:h.get? b with
 | none=>rw[q]at e;cases e
 | some o=>
  rw[q]at e
  have e':(b,o)=p:=Qt e
  subst e'
  exact⟨hb,q⟩
theorem Inv.pinned{σ:St}{H:Hp}(I:Inv X pins σ H s)(hf:∀ b∈fp,oA X pins H b)(ho:∀ b∈fp,∃ o,s.heap.get? b=some o/\∀ v,o.data ≠ .cell v):Inv X (pins++qx fp s.heap) σ H s:=
 I.cK fun p hp=>(Q0.mp hp).elim (fun z=>I.pin p (Qh _ z)) fun z=>by
  obtain⟨hb,e⟩:=FK z
  obtain⟨f0,f1,f2,_⟩:=hf p.1 hb
  obtain⟨o,e',d⟩:=ho p.1 hb
  rw[e]at e';cases e'
  exact⟨e,f0,f1,f2,d⟩
theorem Inv.eU{pl:List (Addr×Obj)}{σ:St}{H:Hp}(I:Inv X (pins++pl) σ H s):Inv X pins σ H s:=I.cK fun p hp=>I.pin p (Qh _ (QU _ hp))
theorem FL{iter:Expr}{wi:TI}{g:TG}{tb:TS}{pos:Pos}(hp:PassesOwn (model X.prog X.w) X.A X.env X.xe)(hc:X.calm=true)(hi:PI X tg iter wi)(hg:PG X tg g)(hb:fZ X body tb)
  (hs:∀ x,foldedSetIterable iter X.env x=pure x:=by intro _;rfl):PS X (.For tg iter body [] pos) (Bz wi g tb):=by
 intro pins s σ H D I h
 refine wpAny_For (aU (hi pins s σ H _ I h) fun v s1 h1=>aU h1 fun yX s2 h2=>?_) hs
 obtain⟨it,fp,tn,J,H2,e,I2,T,qy,f2,W,⟨m0,w0⟩,turn⟩:=h2
 subst e
 have j6:∀ {H':Hp},(∀ b∈fp,H' b=none)->∀ b∈fp,oA X pins H' b:=fun hn b hb=>⟨hn b hb,(f2 b hb).2⟩
 refine codeAny_forLoop_any (fun n s'=>∃ i aP H',Inv X pins aP H' s'/\tn i s'.heap/\(∀ b∈fp,H' b=none)/\W i n aP H') ?_ m0 ⟨0,σ,H2,I2,qy,fun b hb=>(f2 b hb).1,w0⟩
 rintro n s3 ⟨i,mH,H3,I3,vM,FN,w3⟩
 rcases turn i n mH H3 w3 with⟨stop,qn⟩|⟨go,N,hN,step⟩
 ·refine ZK hp (aU (T.done X rfl rfl rfl hc i pins s3 mH H3 X.xe I3 (j6 FN) vM stop) fun r s4 ⟨hr,I4⟩=>?_)
  subst hr
  exact Jf ⟨mH,H3,I4,qn⟩
 ·refine ZK hp (aU (T.item X rfl rfl rfl hc i pins s3 mH H3 X.xe I3 (j6 FN) vM go) fun r s4 ⟨u,hr,h4⟩=>?_)
  subst hr
  refine ZK hp (aU h4 fun _ s5 aj=>?_)
  obtain⟨x,H5,I5,r5,y5,sk,BA⟩:=aj
  have BB:=I5.pinned (j6 BA) (T.obj _ _ sk)
  refine ZK hp (aU (hg _ s5 mH H5 x u _ BB r5 (step x H5 y5)) fun _ s6 aj=>?_)
  obtain⟨FO,H6,I6,q6⟩:=aj
  refine ZK hp (aU (hb _ s6 FO H6 _ I6 q6) fun f s7 q7=>?_)
  have again:∀ {nj:St} {H7:Hp},Inv X (pins++qx fp s5.heap) nj H7 s7->N nj H7->∃ m,m<n/\∃ i aP H',Inv X pins aP H' s7/\tn i s7.heap/\(∀ b∈fp,H' b=none)/\W i m aP H':=fun {nj H7} I7 n7=>by
   obtain⟨m',hm,w7⟩:=hN nj H7 n7
   refine⟨m',hm,i+1,nj,H7,I7.eU,T.keep _ _ _ sk fun b hb o e=>(I7.pin (b,o) (Qh _ (Qh _ (yZ hb e)))).1,fun b hb=>?_,w7⟩
   obtain⟨o,e,d⟩:=T.obj _ _ sk b hb
   exact(I7.pin (b,o) (Qh _ (Qh _ (yZ hb e)))).2.1
  cases f with
  | next=>obtain⟨nj,H7,I7,n7⟩:=q7;exact again I7 n7
  | cont=>obtain⟨nj,H7,I7,n7⟩:=q7;exact again I7 n7
  | brk=>obtain⟨nj,H7,I7,q7⟩:=q7;exact⟨nj,H7,I7.eU,q7⟩
  | ret v=>obtain⟨x7,nj,H7,I7,r7,q7⟩:=q7;exact⟨x7,nj,H7,I7.eU,r7,q7⟩
end
abbrev R2:=V->V->Hp->VK->Prop
def cN (X:Cx)(f:Value->Value->Sem Value)(r:R2):Prop:=
 ∀ (pins:List (Addr×Obj)) (s:Shared) (σ:St) (H:Hp) (x y:V) (v u:Value) (Q:VK),Inv X pins σ H s->bh x v->bh y u->r x y H Q->
  wpAny (model X.prog X.w) X.A (f v u) (EP X pins σ Q) X.xe s
def mJ (X:Cx)(f:Value)(r:List V->Hp->VK->Prop):Prop:=
 ∀ (pins:List (Addr×Obj)) (s:Shared) (σ:St) (H:Hp) (xs:List V) (us:List Value) (Q:VK),Inv X pins σ H s->a_ xs us->r xs H Q->
  wpAny (model X.prog X.w) X.A (call f us) (EP X pins σ Q) X.xe s
def Og (X:Cx)(r:V->Hp->(Bool->Hp->Prop)->Prop):Prop:=
 ∀ (pins:List (Addr×Obj)) (s:Shared) (σ:St) (H:Hp) (x:V) (v:Value) (Q:Bool->Hp->Prop),Inv X pins σ H s->bh x v->r x H Q->
  wpAny (model X.prog X.w) X.A (truthy v) (TP X pins σ Q) X.xe s
def jt (r:R2)(ta tb:TE):TE:=fun σ H Q=>ta σ H fun x H1=>tb σ H1 fun y H2=>r x y H2 Q
def rI (C:Int->Int->Prop)(g:Int->Int->V):R2:=fun x y H Q=>∃ i j,x=.int i/\y=.int j/\C i j/\Q (g i j) H
def j7 (g:Int->Int->V):R2:=fun x y H Q=>∃ i j,x=.int i/\y=.int j/\Q (g i j) H
section
variable {X:Cx}{a b c:Expr}{ta tb tc:TE}{pos:Pos}
theorem BC(ha:PE X a ta)(hb:PE X b tb){σ:St}{H:Hp}{R:V->V->Hp->Prop}(I:Inv X pins σ H s)
  (h:ta σ H fun x H1=>tb σ H1 fun y H2=>R x y H2)  
  (hf:∀ v u s2 x y H2,Inv X pins σ H2 s2->bh x v->bh y u->R x y H2->wpAny (model X.prog X.w) X.A (f v u) Q X.xe s2) :
  wpAny (model X.prog X.w) X.A (eval a X.env) (fun v aL=>wpAny (model X.prog X.w) X.A (eval b X.env) (fun u el=>wpAny (model X.prog X.w) X.A (f v u) Q X.xe el) X.xe aL) X.xe s:=by
 refine aU (ha pins s σ H _ I h) fun v s1 aj=>?_
 obtain⟨x,H1,I1,r1,q1⟩:=aj
 refine aU (hb pins s1 σ H1 _ I1 q1) fun u s2 aj=>?_
 obtain⟨y,H2,I2,r2,q2⟩:=aj
 exact hf v u s2 x y H2 I2 r1 r2 q2
theorem o_{op:Operator}{r:R2}(ho:cN X (binaryOp op) r)(ha:PE X a ta)(hb:PE X b tb):PE X (.BinOp a op b pos) (jt r ta tb):=by
 intro pins s σ H Q I h
 exact wpAny_BinOp (BC ha hb I h fun v u s2 x y H2 I2 rx ry q=>ho pins s2 σ H2 x y v u Q I2 rx ry q)
theorem BD{f:Value->Value->Sem Value}{C:Int->Int->Prop}
  (rule:∀ (i j:Int) (t u:Tok) (s:Shared) (Q:Value->Shared->Prop) (E:Value->Shared->Prop),C i j->Q (.int (g i j) s.toks) { s with toks:=s.toks+1 }->wpAny (model X.prog X.w) X.A (f (.int i t) (.int j u)) Q E s) :
  cN X f (rI C fun i j=>.int (g i j)):=by
 intro pins s σ H x y v u Q I rx ry h
 obtain⟨i,j,rfl,rfl,hc,q⟩:=h
 obtain⟨t,rfl⟩:=rx
 obtain⟨t',rfl⟩:=ry
 exact rule i j t t' s _ _ hc ⟨.int (g i j),H,I.tok _,⟨_,rfl⟩,q⟩
theorem FP{f:Value->Value->Sem Value}
  (rule:∀ (i j:Int) (t u:Tok) (s:Shared) (Q:Value->Shared->Prop) (E:Value->Shared->Prop),Q (.int (g i j) s.toks) { s with toks:=s.toks+1 }->wpAny (model X.prog X.w) X.A (f (.int i t) (.int j u)) Q E s) :
  cN X f (j7 fun i j=>.int (g i j)):=by
 intro pins s σ H x y v u Q I rx ry h
 obtain⟨i,j,rfl,rfl,q⟩:=h
 obtain⟨t,rfl⟩:=rx
 obtain⟨t',rfl⟩:=ry
 exact rule i j t t' s _ _ ⟨.int (g i j),H,I.tok _,⟨_,rfl⟩,q⟩
theorem BE{g:Int->Int->Bool}
  (rule:∀ (i j:Int) (t u:Tok) (s:Shared) (Q:Value->Shared->Prop) (E:Value->Shared->Prop),Q (.bool (g i j)) s->wpAny (model X.prog X.w) X.A (f (.int i t) (.int j u)) Q E s) :
  cN X f (j7 fun i j=>.bl (g i j)):=by
 intro pins s σ H x y v u Q I rx ry h
 obtain⟨i,j,rfl,rfl,q⟩:=h
 obtain⟨t,rfl⟩:=rx
 obtain⟨t',rfl⟩:=ry
 exact rule i j t t' s _ _ ⟨.bl (g i j),H,I,rfl,q⟩
def Oh (i j:Int):Prop:=0<j/\j<1073741824
def BF (i j:Int):Prop:=(-(2 ^ 64)<i/\i<2 ^ 64)\/(-(2 ^ 64)<j/\j<2 ^ 64)
theorem BF.ok{i j:Int}(h:BF i j):IntMulOk i j:=by
 rcases h with⟨h1,h2⟩|⟨h1,h2⟩
 ·exact .of_left (intBits_le_64 h1 h2)
 ·exact .of_right (intBits_le_64 h1 h2)
theorem FQ:cN X (binaryOp .Add) (j7 fun i j=>.int (i+j)):=FP fun _ _ _ _ _ _ _ q=>add_int q
theorem Oi:cN X (binaryOp .Sub) (j7 fun i j=>.int (i-j)):=FP fun _ _ _ _ _ _ _ q=>sub_int q
theorem Oj:cN X (binaryOp .Mult) (rI BF fun i j=>.int (i*j)):=BD fun _ _ _ _ _ _ _ hc q=>mul_int q hc.ok
theorem Ol:cN X (binaryOp .FloorDiv) (rI Oh fun i j=>.int (i / j)):=BD fun i j _ _ _ _ _ hc q=>by
 have h1:(0:Int)<j:=hc.1
 have h2:j<1073741824:=hc.2
 exact floordiv_int (by omega) (by rw[Int.fdiv_eq_ediv_of_nonneg i (by omega)];exact q) (.inl (PyProof.noPylong_small (by omega)))
theorem Om:cN X (binaryOp .Mod) (rI (fun _ j=>0<j) fun i j=>.int (i % j)):=BD fun i j _ _ _ _ _ hc q=>by
 have h1:(0:Int)<j:=hc
 exact mod_int' (by omega) (by rw[Int.fmod_eq_emod_of_nonneg i (by omega)];exact q)
theorem Oo{σ:St}{H:Hp}{Q:VK}{k k':Bool}(I:Inv X pins σ H s)(q:Q (.bl k) H)(e:k=k'):EP X pins σ Q (.bool k') s:=by
 subst e
 exact⟨.bl k,H,I,rfl,q⟩
theorem BG:cN X (compareOp .Lt) (j7 fun i j=>.bl (decide (i<j))):=BE fun _ _ _ _ _ _ _ q=>lt_int q
theorem y4:cN X (compareOp .LtE) (j7 fun i j=>.bl (decide (i<=j))):=BE fun _ _ _ _ _ _ _ q=>le_int q
theorem Oq:cN X (compareOp .Gt) (j7 fun i j=>.bl (decide (j<i))):=BE fun _ _ _ _ _ _ _ q=>gt_int q
theorem FR:cN X (compareOp .Is) (fun x y H Q=>y=.au/\Q (.bl (decide (x=.au))) H):=by
 intro pins s σ H x y v u Q I rx ry h
 obtain⟨rfl,q⟩:=h
 cases ry
 refine is_none_gen (Oo I q ?_)
 cases x<;>first
  | (cases rx;rfl)
  | (obtain⟨t,rfl⟩:=rx;rfl)
theorem cN.or{r r':R2}(h:cN X f r)(h':cN X f r'):cN X f (fun x y H Q=>r x y H Q\/r' x y H Q):=by
 intro pins s σ H x y v u Q I rx ry q
 rcases q with q|q
 ·exact h pins s σ H x y v u Q I rx ry q
 ·exact h' pins s σ H x y v u Q I rx ry q
theorem sr(b:Expr)(h:op ≠ .In:=by decide)(h2:op ≠ .NotIn:=by decide):behindInMarks op b=false:=by
 have e1:(op==CmpOp.In)=false:=by cases op<;>first|rfl|exact absurd rfl h
 have e2:(op==CmpOp.NotIn)=false:=by cases op<;>first|rfl|exact absurd rfl h2
 cases b<;>simp[behindInMarks,e1,e2]
theorem Ot{r:R2}(ho:cN X (compareOp op) r)(ha:PE X a ta)(hb:PE X b tb)(hm:behindInMarks op b=false):PE X (.Compare a [op] [b] pos) (jt r ta tb):=by
 intro pins s σ H Q I h
 exact wpAny_Compare1 (BC ha hb I h fun v u s2 x y H2 I2 rx ry q=>ho pins s2 σ H2 x y v u Q I2 rx ry q) hm
def BH (t:TE):TT:=fun σ H Q=>t σ H fun x H'=>∃ k,x=.bl k/\Q k H'
theorem Ou{r:R2}(ho:cN X (compareOp op) r)(ha:PE X a ta)(hb:PE X b tb)(hm:behindInMarks op b=false):PT X (.Compare a [op] [b] pos) (BH (jt r ta tb)):=by
 intro pins s σ H Q I h
 refine wpAny_isTrue_Compare1 (aU (ha pins s σ H _ I h) fun v s1 ⟨x,H1,I1,r1,q1⟩=>aU (hb pins s1 σ H1 _ I1 q1) fun u s2 ⟨y,H2,I2,r2,q2⟩=>
  aU (ho pins s2 σ H2 x y v u _ I2 r1 r2 q2) fun c s3 ⟨z,H3,I3,r3,k,e,q3⟩=>?_) hm
 subst e
 cases r3
 exact Zj ⟨H3,I3,q3⟩
def FT (r r':R2)(ta tb tc:TE):TE:=fun σ H Q=>ta σ H fun x H1=>tb σ H1 fun y H2=>r x y H2 fun z H3=>∃ k,z=.bl k /\
 (if k=true then tc σ H3 fun w' H4=>r' y w' H4 Q else Q (.bl false) H3)
theorem Ov{r r':R2}(ho:cN X (compareOp op) r)(gY:cN X (compareOp lG) r')(ha:PE X a ta)(hb:PE X b tb)(hc:PE X c tc)
  (hm:lastMarks [op,lG] [b,c]=false:=by with_unfolding_all rfl):PE X (.Compare a [op,lG] [b,c] pos) (FT r r' ta tb tc):=by
 intro pins s σ H Q I h
 refine Compare_chain (aU (ha pins s σ H _ I h) fun v s1 ⟨x,H1,I1,r1,q1⟩=>chain_link (aU (hb pins s1 σ H1 _ I1 q1) fun u s2 ⟨y,H2,I2,r2,q2⟩=>
  aU (ho pins s2 σ H2 x y v u _ I2 r1 r2 q2) fun d s3 ⟨z,H3,I3,r3,k,e,q3⟩=>?_)) hm
 subst e
 cases r3
 refine Zj ?_
 cases k with
 | false=>exact ite_ff ⟨.bl false,H3,I3,rfl,q3⟩
 | true=>exact ite_tt (chain_last (aU (hc pins s3 σ H3 _ I3 q3) fun w' s4 ⟨z',H4,I4,r4,q4⟩=>gY pins s4 σ H4 y z' u w' Q I4 r2 r4 q4))
theorem Ox{r r':R2}(ho:cN X (compareOp op) r)(gY:cN X (compareOp lG) r')(ha:PE X a ta)(hb:PE X b tb)(hc:PE X c tc)
  (hm:lastMarks [op,lG] [b,c]=false:=by with_unfolding_all rfl):PT X (.Compare a [op,lG] [b,c] pos) (BH (FT r r' ta tb tc)):=by
 intro pins s σ H Q I h
 refine isTrue_chain (aU (ha pins s σ H _ I h) fun v s1 ⟨x,H1,I1,r1,q1⟩=>test_link (aU (hb pins s1 σ H1 _ I1 q1) fun u s2 ⟨y,H2,I2,r2,q2⟩=>
  aU (ho pins s2 σ H2 x y v u _ I2 r1 r2 q2) fun d s3 ⟨z,H3,I3,r3,k,e,q3⟩=>?_)) hm
 subst e
 cases r3
 refine Zj ?_
 cases k with
 | false=>
  obtain⟨k',e',q'⟩:=q3
  cases e'
  exact ite_ff ⟨H3,I3,q'⟩
 | true=>
  refine ite_tt (test_last (aU (hc pins s3 σ H3 _ I3 q3) fun w' s4 ⟨z',H4,I4,r4,q4⟩=>aU (gY pins s4 σ H4 y z' u w' _ I4 r2 r4 q4) fun d' s5 aj=>?_))
  obtain⟨z2,H5,I5,r5,k2,e2,q5⟩:=aj
  subst e2
  cases r5
  exact Zj ⟨H5,I5,q5⟩
def FU (K:PySem.W.Frag)(x:V)(H:Hp)(k:Bool):Prop:=
 match x with
 | .au=>k=false
 | .bl b=>k=b
 | .int i=>k=(i != 0)
 | .str y=>y.length<=sizeLine/\k=((y.length:Int) != 0)
 | .uA y=>y.size<=sizeLine/\k=((y.size:Int) != 0)
 | .ref p=>(∃ xs,cL K H p xs/\k = !xs.isEmpty)\/(∃ xs,dO K H p xs/\k = !xs.isEmpty)\/∃ ai,H p=some (.dK ai)/\k = !ai.isEmpty
 | _=>False
theorem Oy{κ:Type}{ai:List (κ×V)}{vs:List (κ×Value)}(r:KV ai vs):(!vs.isEmpty) = !ai.isEmpty:=by
 cases r<;>rfl
theorem FV{xs:List V}{aq:List Value}(r:a_ xs aq):(!aq.toArray.isEmpty) = !xs.isEmpty:=by
 cases r<;>simp
theorem uD:(sizeLine:Nat)<2 ^ 63:=by rw[Zp];decide
theorem Oz:Og X (fun x H Q=>∃ k,FU X.K x H k/\Q k H):=by
 intro pins s σ H x v Q I rx h
 obtain⟨k,e,q⟩:=h
 have hl:=uD
 have hs:sizeLine=16777216:=Zp
 cases x with
 | au=>
  cases rx
  have e':k=false:=e
  subst e'
  exact truthy_none ⟨H,I,q⟩
 | bl b=>
  cases rx
  have e':k=b:=e
  subst e'
  exact Zj ⟨H,I,q⟩
 | int i=>
  obtain⟨t,rfl⟩:=rx
  have e':k=(i != 0):=e
  subst e'
  exact PySem.P.truthy_int ⟨H,I,q⟩
 | str y=>
  obtain⟨t,rfl⟩:=rx
  obtain⟨hy,e'⟩:y.length<=sizeLine/\k=((y.length:Int) != 0):=e
  subst e'
  exact PySem.P.truthy_str (by omega) ⟨H,I.tok _,q⟩
 | uA y=>
  obtain⟨t,rfl⟩:=rx
  obtain⟨hy,e'⟩:y.size<=sizeLine/\k=((y.size:Int) != 0):=e
  subst e'
  exact PySem.W.truthy_bytes (by omega) ⟨H,I.tok _,q⟩
 | ref p=>
  cases rx
  have e':(∃ xs,cL X.K H p xs/\k = !xs.isEmpty)\/(∃ xs,dO X.K H p xs/\k = !xs.isEmpty)\/∃ ai,H p=some (.dK ai)/\k = !ai.isEmpty:=e
  rcases e' with⟨xs,hx,e'⟩|⟨xs,hx,e'⟩|⟨ai,hx,e'⟩
  ·subst e'
   obtain⟨aq,r,pl,hz⟩:=I.list hx
   have hlen:=r.length
   exact wpAny_truthy_list pl.isList (by simp only[Qk];omega) ⟨H,I.tok _,by rw[FV r];exact q⟩
  ·subst e'
   obtain⟨aq,r,pl,hz⟩:=I.tuple hx
   have hlen:=r.length
   exact truthy_tuple pl (by simp only[Qk];omega) ⟨H,I.tok _,by rw[FV r];exact q⟩
  ·subst e'
   obtain⟨hz,hS,vs,r,m⟩:ai.length<=sizeLine/\(p==sysModules)=false/\∃ vs,KV ai vs/\s.heap.DictOf (jf X.prog X.w) p vs:=I.az p _ hx
   have hlen:ai.length=vs.length:=Yj r
   exact wpAny_truthy_dict hS m (by omega) ⟨H,I.tok _,by rw[Oy r];exact q⟩
 | _=>exact(show False from e).elim
theorem OA(ha:PE X a ta)(he:∀ whole,isTrue a X.env whole=(do let v <- whole;standAt a.pos;holding [v] (truthy v))) :
  PT X a (fun σ H Q=>ta σ H fun x H'=>∃ k,FU X.K x H' k/\Q k H'):=by
 intro pins s σ H Q I h
 exact isTrue_plain (aU (ha pins s σ H _ I h) fun v s1 ⟨x,H1,I1,r1,q1⟩=>Oz pins s1 σ H1 x v Q I1 r1 q1) (he _)
theorem lN{x:V}(r:a_ [x] us):∃ u,us=[u]/\bh x u:=by
 cases r with
 | cons r1 r2=>cases r2;exact⟨_,rfl,r1⟩
theorem y6{x y:V}(r:a_ [x,y] us):∃ u w',us=[u,w']/\bh x u/\bh y w':=by
 cases r with
 | cons r1 r2=>
  cases r2 with
  | cons r3 r4=>cases r4;exact⟨_,_,rfl,r1,r3⟩
theorem OB(hc:X.calm=true):mJ X (.builtin "max") (fun xs H Q=>∃ i j,xs=[.int i,.int j]/\Q (.int (if j > i then j else i)) H):=by
 intro pins s σ H xs us Q I r h
 obtain⟨i,j,rfl,q⟩:=h
 obtain⟨u,w',rfl,⟨t,rfl⟩,⟨t',rfl⟩⟩:=y6 r
 refine max_two_ints (I.ok.hd hc) fun h' tk k=>⟨_,H,I.kept k,?_,q⟩
 by_cases hj:j > i
 ·rw[Qe hj,Qe hj];exact⟨_,rfl⟩
 ·rw[Qg hj,Qg hj];exact⟨_,rfl⟩
end
structure j8 (h:Heap) (x dx C:Addr) (mA:Str->Option Value):Prop where
 obj:h.get? x=some (PySem.W.instObj C dx)
 ns:h.Ns1 dx mA
 ne:dx≠x
theorem OC(n:h.Ns1 dx mA):∃ od,h.get? dx=some od/\∀ name,PySem.W.lookIn name od=some (mA name):=by
 obtain⟨o,es,ep,ho,hd,hk,_,hm⟩:=n
 refine⟨o,ho,fun name=>?_⟩
 have e:=hm name
 unfold nsFind findBy at e
 rw[<- Array.find?_toList]at e
 unfold PySem.W.lookIn
 rw[hd]
 dsimp only
 split
 next y q=>
  rw[q]at e
  exact Zx some e
 next q=>
  rw[q]at e
  have a:es.toList.any (·.refKey)=false:=by
   rw[List.any_eq_false]
   intro y hy
   obtain⟨z,t,nq⟩:=hk y (Array.mem_toList_iff.mp hy)
   simp[DictEntry.refKey,nq]
  have a':¬ es.toList.any (·.refKey)=true:=by rw[a];exact Zy
  rw[Qg a']
  exact Zx some e
theorem j8.look{x:Addr}(I:j8 h x dx C mA):∃ od,PySem.W.InstAt h x (PySem.W.instObj C dx) C (some od)/\∀ name,PySem.W.lookIn name od=some (mA name):=
 let ⟨od,ho,hl⟩:=OC I.ns
 ⟨od,⟨I.obj,rfl,rfl,ho⟩,hl⟩
section
variable {prog:Program}{w:World}{A:Around}{E:Value->Shared->Prop}{s:Shared}{K:PySem.W.Frag}{x dx C f:Addr}{mA:Str->Option Value}{name:Str}{v:Value}
theorem OE{expr:Bool}(X:K.In s.heap)(I:j8 s.heap x dx C mA)(hg:PySem.W.plainGet K C name=true)(hh:PySem.W.hasDictIn K C=true)
  (ha:PySem.W.findIn K (.ref C) name=some none) (hv:mA name=some v) (vN:PySem.W.handedIn v=true) (h:Q v { s with toks:=s.toks+1 }) :
  wpAny (model prog w) A (getAttr (.ref x) name expr) Q E s:=by
 obtain⟨od,J,hl⟩:=I.look
 exact PySem.W.get_value X J (JM hg).1 (PySem.W.findObj_own hh ha rfl (by rw[hl,hv])) vN h
theorem OF{Q:Value×List Value->Shared->Prop}(X:K.In s.heap)(I:j8 s.heap x dx C mA)(hg:PySem.W.plainGet K C name=true)
  (hf:PySem.W.findIn K (.ref C) name=some (some (.ref f))) (ht:PySem.W.isFn K (.ref f)=true) (hv:mA name=none) (h:Q (.ref f,[.ref x]) s) :
  wpAny (model prog w) A (getMethod (.ref x) name pl) Q E s:=by
 obtain⟨od,J,hl⟩:=I.look
 exact PySem.W.method_fn X J (JM hg).1 (JM hg).2 hf (Zi.mp ht) (by show(PySem.W.lookIn name od).map (·.isSome)=some false;rw[hl,hv];rfl) h
theorem OG{ns:List Str}{Q:Unit->Shared->Prop}(X:K.In s.heap)(I:j8 s.heap x dx C mA)
  (hs:PySem.W.findIn K (.ref C) "__setattr__" = some (some (.builtin "object.__setattr__"))) (hp:PySem.W.plainOver K C=true) (ht:PySem.W.takerIn K C name=some none) (hh:PySem.W.hasDictIn K C=true)
  (hw:PySem.Within mA ns) (hsz:ns.length<=sizeLine)
  (h:∀ h',j8 h' x dx C (fun y=>if y=name then some v else mA y)->Heap.SameBut dx s.heap h'->Q () { s with heap:=h',toks:=s.toks+2 }) :
  wpAny (model prog w) A (setAttr (.ref x) name v) Q E s:=by
 obtain⟨od,J,hl⟩:=I.look
 refine PySem.W.set_plain X J hs (PySem.W.osa_open (s:={ s with toks:=s.toks+1 }) (r:=none) X J hp ht fun b=>?_)
 obtain⟨cd,hc,kR⟩:=PySem.W.any_some hh
 have hx:s.heap.get? x=some ⟨.ref C,some dx,.plain,#[]⟩:=I.obj
 refine Qa (Qj (Qa (Qa (wpAny_loadPart hx (Qa (PySem.W.Looks.here (s:={ s with toks:=s.toks+1 }) (PySem.W.looks_clsIn X hc) ?_))))))
 rw[kR]
 refine Qj (a:=some dx) (Qa (Qj (Qa ?_)))
 refine wpAny_nsSet1 (s:={ s with toks:=s.toks+1 }) I.ns fun h' su FW=>?_
 obtain⟨oD,esD,epD,OH,OI,OJ⟩:=su.count (PySem.Within.cons name v hw)
 refine Qa (wpAny_lookBehind OH (by rw[OI];exact pastItsLine_dict (Qv OJ (by rw[QL];omega))) ?_)
 exact Qj (h _ ⟨(FW.2 _ (ZR I.ne)).trans I.obj,su,I.ne⟩ FW)
theorem OK{R:Result->Shared->Prop}{vs:List Value}(X:K.In s.heap)(hm:PySem.W.makesIn K C=true)
  (hi:PySem.W.findIn K (.ref C) "__init__" = some (some (.ref f))) (hf:PySem.W.typeIn K (.ref f)=some (.type "function"))
  (h:codeAny (model prog w) (A.under (.builtin "type.__call__" ⟨.ref C::vs,kw⟩)) (.call (.ref f) ⟨.ref (s.heap.objs.size+1)::vs,kw⟩) (PySem.W.InitBack (s.heap.objs.size+1) R)
    { s with heap:=(s.heap.push PySem.W.emptyDict).push (PySem.W.instObj C s.heap.objs.size) }) :
  codeAny (model prog w) A (.call (.ref C) ⟨vs,kw⟩) R s:=by
 obtain⟨hh,g,d,t,os⟩:=s
 exact PySem.W.make_core (PySem.W.makes_of X hm) (PySem.W.looks_findIn X hi) (fun self=>PySem.W.bind_fn X self hf) (.inl rfl) h
end
def iI (f:Str)(v:V):List (Str×V)->List (Str×V)
 | []=>[(f,v)]
 | (g,x)::r=>if g=f then(g,v)::r else(g,x)::iI f v r
theorem FX(f g:Str)(v:V):∀ fs:List (Str×V),(iI f v fs).lookup g=if g=f then some v else fs.lookup g
 | []=>by
  show List.lookup g [(f,v)]=_
  by_cases h:g=f
  ·have hb:(g==f)=true:=Zi.mpr h
   simp only[List.lookup,hb,Qe h]
  ·have hb:(g==f)=false:=Zt.mpr h
   simp only[List.lookup,hb,Qg h]
 | (k,x)::r=>by
  have ih:=FX f g v r
  rw[show iI f v ((k,x)::r)=(if k=f then(k,v)::r else(k,x)::iI f v r)from rfl]
  by_cases hk:k=f
  ·rw[Qe hk]
   by_cases h:g=k
   ·have hb:(g==k)=true:=Zi.mpr h
    simp only[List.lookup,hb,Qe (h.trans hk)]
   ·have hb:(g==k)=false:=Zt.mpr h
    simp only[List.lookup,hb,Qg (fun e:g=f=>h (e.trans hk.symm))]
  ·rw[Qg hk]
   by_cases h:g=k
   ·have hb:(g==k)=true:=Zi.mpr h
    simp only[List.lookup,hb,Qg (fun e:g=f=>hk (h.symm.trans e))]
   ·have hb:(g==k)=false:=Zt.mpr h
    simp only[List.lookup,hb]
    exact ih
theorem BI(f:Str)(v:V):∀ fs:List (Str×V),f∈(iI f v fs).map (·.1)/\∀ g,g∈fs.map (·.1)->g∈(iI f v fs).map (·.1)
 | []=>⟨by simp[iI],fun g h=>by simp at h⟩
 | (k,x)::r=>by
  obtain⟨i1,i2⟩:=BI f v r
  rw[show iI f v ((k,x)::r)=(if k=f then(k,v)::r else(k,x)::iI f v r)from rfl]
  by_cases hk:k=f
  ·rw[Qe hk]
   subst hk
   exact⟨by simp,fun g h=>by simpa using h⟩
  ·rw[Qg hk]
   refine⟨?_,fun g h=>?_⟩
   ·rw[QR]
    exact Qb _ i1
   ·rw[QR]at h ⊢
    rcases Qi.mp h with e|e
    ·exact Qi.mpr (.inl e)
    ·exact Qb _ (i2 g e)
theorem FY(f:Str)(v:V):∀ fs:List (Str×V),(iI f v fs).length<=fs.length+1
 | []=>by simp[iI]
 | (k,x)::r=>by
  have ih:=FY f v r
  rw[show iI f v ((k,x)::r)=(if k=f then(k,v)::r else(k,x)::iI f v r)from rfl]
  by_cases hk:k=f
  ·rw[Qe hk,QL,QL];omega
  ·rw[Qg hk,QL,QL];omega
theorem jg.some_of{v:V}{o:Option Value}(r:jg (some v) o):∃ u,o=some u/\bh v u:=by
 cases o with
 | none=>exact(show False from r).elim
 | some u=>exact⟨u,rfl,r⟩
theorem jg.none_of{o:Option Value}(r:jg none o):o=none:=by
 cases o with
 | none=>rfl
 | some u=>exact(show False from r).elim
theorem OL{v:V}(r:bh v u):PySem.W.handedIn u=true:=by
 cases v with
 | au=>cases (show u=Value.none from r);rfl
 | bl b=>cases (show u=Value.bool b from r);rfl
 | int i=>obtain⟨t,e⟩:=(show ∃ t,u=Value.int i t from r);cases e;rfl
 | str x=>obtain⟨t,e⟩:=(show ∃ t,u=Value.str x t from r);cases e;rfl
 | uA b=>obtain⟨t,e⟩:=(show ∃ t,u=Value.bytes b t from r);cases e;rfl
 | rV b=>obtain⟨t,e⟩:=(show ∃ t,u=Value.float b t from r);cases e;rfl
 | ref a=>cases (show u=Value.ref a from r);rfl
 | ty n=>cases (show u=Value.type n from r);rfl
section
variable {P:Program}{w:World}{H H':Hp}{h h':Heap}{a C dx:Addr}{fs cj:List (Str×V)}
theorem vO(az:cX P w H h)(e:H a=some (.ins C dx fs)):∃ mA,j8 h a dx C mA/\(∀ f,jg (fs.lookup f) (mA f))/\PySem.Within mA (fs.map (·.1))/\fs.length<=1000/\H dx=some (.own a):=by
 obtain⟨d,z,ne,ob,mA,n,r,q⟩:=(show cR P w H h a (.ins C dx fs)from az a _ e)
 exact⟨mA,⟨ob,n,ne⟩,r,q,z,d⟩
end
structure mK (K:PySem.W.Frag) (C:Addr):Prop where
 pg:PySem.W.plainGet K C Str.empty=true
 hd:PySem.W.hasDictIn K C=true
 po:PySem.W.plainOver K C=true
 sa:PySem.W.findIn K (.ref C) "__setattr__" = some (some (.builtin "object.__setattr__"))
theorem mK.get(c:mK K C)(f:Str):PySem.W.plainGet K C f=true:=c.pg
def qz (K:PySem.W.Frag)(C:Addr)(f:Str):Prop:=PySem.W.findIn K (.ref C) f=some none
theorem qz.vP{f:Str}(n:qz K C f):PySem.W.takerIn K C f=some none:=by
 unfold PySem.W.takerIn
 rw[show PySem.W.findIn K (.ref C) f=some none from n]
 rfl
structure iJ (K:PySem.W.Frag) (C:Addr) (m:Str) (f:Addr):Prop where
 at_:PySem.W.findIn K (.ref C) m=some (some (.ref f))
 fn:PySem.W.isFn K (.ref f)=true
 kp:PySem.W.keepIn K (.ref f)=true
section
variable {X:Cx}{pins:List (Addr×Obj)}{σ:St}{H:Hp}{s:Shared}{a C dx:Addr}{fs:List (Str×V)}{f:Str}{v:V}{A:Around}{E:Value->Shared->Prop}
theorem OM{b:Bool}(I:Inv X pins σ H s)(e:H a=some (.ins C dx fs))(c:mK X.K C)(n:qz X.K C f)(l:fs.lookup f=some v)
  (h:∀ u s',Inv X pins σ H s'->bh v u->Q u s'):wpAny (model X.prog X.w) A (getAttr (.ref a) f b) Q E s:=by
 obtain⟨mA,O,r,_,_,_⟩:=vO I.az e
 obtain⟨u,hu,ru⟩:=jg.some_of (v:=v) (o:=mA f) (by rw[<- l];exact r f)
 exact OE I.dC O (c.get f) c.hd n hu (OL ru) (h u _ (I.tok _) ru)
theorem y7{g:Addr}{Q:Value×List Value->Shared->Prop}(I:Inv X pins σ H s)(e:H a=some (.ins C dx fs))(c:mK X.K C)(k:iJ X.K C m g)(l:fs.lookup m=none)
  (h:Q (.ref g,[.ref a]) s):wpAny (model X.prog X.w) A (getMethod (.ref a) m pl) Q E s:=by
 obtain⟨mA,O,r,_,_,_⟩:=vO I.az e
 have hn:mA m=none:=jg.none_of (by rw[<- l];exact r m)
 exact OF I.dC O (c.get m) k.at_ k.fn hn h
theorem ON{y:V}{Q:Unit->Shared->Prop}(I:Inv X pins σ H s)(e:H a=some (.ins C dx fs))(c:mK X.K C)(n:qz X.K C f)(hl:fs.length<1000)(ry:bh y u)
  (h:∀ s',Inv X pins σ (upd H a (.ins C dx (iI f y fs))) s'->Q () s'):wpAny (model X.prog X.w) A (setAttr (.ref a) f u) Q E s:=by
 obtain⟨mA,O,r,wi,_,ho⟩:=vO I.az e
 have hz:(fs.map (·.1)).length<=sizeLine:=by rw[Qm,Zp];omega
 refine OG I.dC O c.sa c.po n.vP c.hd wi hz fun h' O' sb=>h _ ?_
 have hd:∃ o,h'.get? dx=some o:=let ⟨o,_,_,e',_⟩:=O'.ns;⟨o,e'⟩
 refine I.write (x:=a) (e:=dx) (by rw[e];exact True.intro) (.inr ho) (fun b q hb z=>(sb.2 b hb).trans z) hd ?_
 refine⟨by rw[aO O.ne];exact ho,?_,O.ne,O'.obj,_,O'.ns,fun g=>?_,fun g hg=>?_⟩
 ·have:=FY f y fs;omega
 ·show jg ((iI f y fs).lookup g) (if g=f then some u else mA g)
  rw[FX]
  by_cases q:g=f
  ·rw[Qe q,Qe q];exact ry
  ·rw[Qg q,Qg q];exact r g
 ·by_cases q:g=f
  ·rw[q];exact(BI f y fs).1
  ·refine(BI f y fs).2 g (wi g fun z=>hg ?_)
   show(if g=f then some u else mA g)=none
   rw[Qg q];exact z
theorem Inv.made(I:Inv X pins σ H s):Inv X pins σ (upd (upd H s.heap.objs.size (.own (s.heap.objs.size+1))) (s.heap.objs.size+1) (.ins C s.heap.objs.size []))
  { s with heap:=(s.heap.push PySem.W.emptyDict).push (PySem.W.instObj C s.heap.objs.size) }:=by
 have e1:(s.heap.push PySem.W.emptyDict).get? s.heap.objs.size=some PySem.W.emptyDict:=Qs s.heap rfl
 have e2:((s.heap.push PySem.W.emptyDict).push (PySem.W.instObj C s.heap.objs.size)).get? (s.heap.objs.size+1)=some (PySem.W.instObj C s.heap.objs.size):=by
  have:=Qs (s.heap.push PySem.W.emptyDict) (o:=PySem.W.instObj C s.heap.objs.size) rfl
  rwa [Zs]at this
 have e3:(s.heap.push PySem.W.emptyDict).Ns s.heap.objs.size (fun _=>none):=⟨PySem.W.emptyDict,#[],_,e1,rfl,(fun e he=>absurd he (by simp)),fun _=>rfl⟩
 have I1:=I.laid (a:=s.heap.objs.size) (o:=.own (s.heap.objs.size+1)) (h':=s.heap.push PySem.W.emptyDict) (t':=s.toks) (fun b u q=>Qc _ q) (Qf _) ⟨_,e1⟩
 refine I1.laid (a:=s.heap.objs.size+1) (o:=.ins C s.heap.objs.size []) (t':=s.toks) (fun b u q=>Qc _ q) (Yw (Zs _ _)) ?_
 have ne:s.heap.objs.size≠s.heap.objs.size+1:=QI (Q2 _)
 refine⟨by rw[aO ne,cT],Q9 _,ne,e2,fun _=>none,(Heap.Ns1.of_empty e3).at fun o q=>Qc _ q,fun _=>True.intro,fun y hy=>absurd rfl hy⟩
theorem OO{prog:Program}{env:Env}{e:Expr}{f:Str}{pos:Pos}{s:Shared}(hb:attributeBase e f env (eval e env)=eval e env)
  (h:wpAny (model prog w) A (eval e env) (fun o aL=>wpAny (model prog w) A (getAttr o f true) Q E aL) E s):wpAny (model prog w) A (eval (.Attribute e f pos) env) Q E s:=
 Attribute_any_ h (by rw[arm_eval_Attribute,hb])
end
def OP (K:PySem.W.Frag)(ta:TE)(f:Str):TE:=fun σ H Q=>ta σ H fun x H1=>∃ a C dx fs v,x=.ref a/\H1 a=some (.ins C dx fs)/\mK K C/\qz K C f/\fs.lookup f=some v/\Q v H1
def OQ (K:PySem.W.Frag)(ta tv:TE)(f:Str):TS:=fun D σ H=>tv σ H fun y H1=>ta σ H1 fun x H2=>∃ a C dx fs,x=.ref a/\H2 a=some (.ins C dx fs)/\mK K C/\qz K C f/\fs.length<1000 /\
 D.nx σ (upd H2 a (.ins C dx (iI f y fs)))
section
variable {X:Cx}{o e value:Expr}{f:Str}{pos pos' lO:Pos}{ta tv:TE}
theorem OR(he:PE X e ta)(hb:attributeBase e f X.env (eval e X.env)=eval e X.env):PE X (.Attribute e f pos) (OP X.K ta f):=by
 intro pins s σ H Q I h
 refine OO hb (aU (he pins s σ H _ I h) fun u s1 aj=>?_)
 obtain⟨x,H1,I1,rx,a,C,dx,fs,v,ex,ea,c,n,l,q⟩:=aj
 subst ex
 obtain rfl:u=Value.ref a:=rx
 exact OM I1 ea c n l fun u' s2 I2 ru=>⟨v,H1,I2,ru,q⟩
theorem OS(ha:PE X o ta)(hv:PE X value tv)(hs:swapsWith value (some (.Attribute o f pos')) pos.line X.env=pure false):PS X (.Assign [.Attribute o f pos'] value pos) (OQ X.K ta tv f):=by
 intro pins s σ H D I h
 refine plainObj_wpAny_Assign_Attribute (aU (hv pins s σ H _ I h) fun u s1 ⟨y,H1,I1,ry,q⟩=>aU (ha pins s1 σ H1 _ I1 q) fun ov s2 ⟨x,H2,I2,rx,a,C,dx,fs,ex,ea,c,n,l,q2⟩=>?_) hs
 subst ex
 obtain rfl:ov=Value.ref a:=rx
 exact ON I2 ea c n l ry fun s3 I3=>⟨σ,_,I3,q2⟩
theorem z9m{apos:Pos}{args:List Expr}{σ:St}{H:Hp}{te:TE}(he:PE X e te)(I:Inv X pins σ H s)
  (h:te σ H fun x H1=>∃ a C dx fs g,x=.ref a/\H1 a=some (.ins C dx fs)/\mK X.K C/\iJ X.K C m g/\fs.lookup m=none /\
    ∀ s1,Inv X pins σ H1 s1->wpAny (model X.prog X.w) X.A (callWith pos (.ref g) [.ref a] (backTo pos (starEach args X.env)) (backToKw pos (keywordEach [] X.env))) Q X.xe s1)
  (ht:eval (.Call (.Attribute e m apos) args [] pos) X.env=(do
    let ov <- eval e X.env
    standAt apos.atName
    let (f,first) <- holding [ov] (getMethod ov m pl)
    callWith pos f first (backTo pos (starEach args X.env)) (backToKw pos (keywordEach [] X.env)))) :
  wpAny (model X.prog X.w) X.A (eval (.Call (.Attribute e m apos) args [] pos) X.env) Q X.xe s:=by
 refine Z0 (pl:=pl) (aU (he pins s σ H _ I h) fun u s1 ⟨x,H1,I1,rx,a,C,dx,fs,g,ex,ea,c,k,l,q⟩=>?_) ht
 subst ex
 obtain rfl:u=Value.ref a:=rx
 exact y7 I1 ea c k l (q s1 I1)
end
section
variable {X:Cx}{pins:List (Addr×Obj)}{σ:St}{H:Hp}{s:Shared}{A:Around}{E:Value->Shared->Prop}{Q:Value->Shared->Prop}{c:Value}{b:Bool}
inductive fS (K:PySem.W.Frag) (H:Hp):V->Value->Prop where
 | au:fS K H .au (.type "NoneType")
 | bl (x:Bool):fS K H (.bl x) (.type "bool")
 | int (i:Int):fS K H (.int i) (.type "int")
 | str (x:Str):fS K H (.str x) (.type "str")
 | rV (x:UInt64):fS K H (.rV x) (.type "float")
 | lst {a:Addr} {xs:List V} (e:H a=some (.lst xs)):fS K H (.ref a) (.type "list")
 | bZ {a:Addr} {o:Obj} {xs:List V} (e:H a=some (.bZ o (.lst xs))):fS K H (.ref a) (.type "list")
 | tup {a:Addr} {xs:List V} (e:H a=some (.tup xs)):fS K H (.ref a) (.type "tuple")
 | dK {a:Addr} {ai:List (Key×V)} (e:H a=some (.dK ai)):fS K H (.ref a) (.type "dict")
 | dT {a:Addr} {ai:List (List Key×V)} (e:H a=some (.dT ai)):fS K H (.ref a) (.type "dict")
 | ins {a C dx:Addr} {fs:List (Str×V)} (e:H a=some (.ins C dx fs)) (cl:mK K C) (ha:PySem.W.findIn K (.ref C) "__class__" = some (some (.builtin "object.__class__")))
   (hn:PySem.W.specialIn K (.builtin "object.__class__") "__get__" = some (some (.builtin "getset_descriptor.__get__"))) (vQ:PySem.W.takesIn K (.builtin "object.__class__")=some true)
   (hm:PySem.W.mroIn K C (.type "object")=some true):fS K H (.ref a) (.ref C)
theorem j9{x:V}{t:Value}(I:Inv X pins σ H s)(rx:bh x u)(ty:fS X.K H x t)(e:PySem.W.kitOne X.K t c=some b)(h:∀ tk,Q (.bool b) { s with toks:=tk }) :
  wpAny (model X.prog X.w) A (call (.builtin "isinstance") [u,c]) Q E s:=by
 cases ty with
 | au=>cases (show u=Value.none from rx);exact Q5 PySem.W.kitx_none I.dC True.intro e (fun z=>nomatch z) h
 | bl y=>cases (show u=Value.bool y from rx);exact Q5 PySem.W.kitx_bool I.dC True.intro e (fun z=>nomatch z) h
 | int i=>obtain⟨t,q⟩:=(show ∃ t,u=Value.int i t from rx);cases q;exact Q5 PySem.W.kitx_int I.dC True.intro e (fun z=>nomatch z) h
 | str y=>obtain⟨t,q⟩:=(show ∃ t,u=Value.str y t from rx);cases q;exact Q5 PySem.W.kitx_str I.dC True.intro e (fun z=>nomatch z) h
 | rV y=>obtain⟨t,q⟩:=(show ∃ t,u=Value.float y t from rx);cases q;exact Q5 PySem.W.kitx_float I.dC True.intro e (fun z=>nomatch z) h
 | @lst a xs ea=>
  cases (show u=Value.ref a from rx)
  obtain⟨_,_,n,_,h1⟩:=(show cR X.prog X.w H s.heap a (.lst xs)from I.az a _ ea)
  exact Q5 Yd I.dC ⟨_,h1,rfl⟩ e (fun z=>nomatch z) h
 | @bZ a ob xs ea=>
  cases (show u=Value.ref a from rx)
  obtain⟨_,_,_,n,_,h1⟩:=(show cR X.prog X.w H s.heap a (.bZ ob (.lst xs))from I.az a _ ea)
  exact Q5 Yd I.dC ⟨_,h1,rfl⟩ e (fun z=>nomatch z) h
 | @tup a xs ea=>
  cases (show u=Value.ref a from rx)
  obtain⟨_,_,_,p⟩:=(show cR X.prog X.w H s.heap a (.tup xs)from I.az a _ ea)
  obtain⟨o,h1,h2,_⟩:=p
  exact Q5 PySem.W.kitx_tuple I.dC ⟨o,h1,h2⟩ e (fun z=>nomatch z) h
 | @dK a ai ea=>
  cases (show u=Value.ref a from rx)
  obtain⟨_,_,vs,_,p⟩:=(show cR X.prog X.w H s.heap a (.dK ai)from I.az a _ ea)
  obtain⟨o,es,ep,h1,h2,_⟩:=p
  exact Q5 PySem.W.kitx_dict I.dC ⟨o,h1,h2.1⟩ e (fun z=>nomatch z) h
 | @dT a ai ea=>
  cases (show u=Value.ref a from rx)
  obtain⟨_,_,xs,_,o,es,ep,h1,h2,_⟩:=(show cR X.prog X.w H s.heap a (.dT ai)from I.az a _ ea)
  exact Q5 PySem.W.kitx_dict I.dC ⟨o,h1,h2.1⟩ e (fun z=>nomatch z) h
 | @ins a C dx fs ea cl ha hn vQ hm=>
  cases (show u=Value.ref a from rx)
  obtain⟨mA,O,_⟩:=vO I.az ea
  obtain⟨od,J,_⟩:=O.look
  exact Q5 (PySem.W.kitx_own (cl.get _) cl.hd ha hn vQ hm) I.dC J e (fun z=>nomatch z) h
end
structure aw (k:Nat) (A:Around):Prop where
 hd:A.handled=none
 dp:A.depth+3*k+5<recursionLimit
 un:A.units+16*k+200<cLine
theorem aw.mono{k:Nat}(r:aw k A)(h:j<=k):aw j A:=⟨r.hd,by have:=r.dp;omega,by have:=r.un;omega⟩
theorem aw.deeper{k:Nat}(r:aw (k+1) A)(env:Env):aw k (A.deeper env):=
 ⟨r.hd,by have:=r.dp;show A.depth+1+3*k+5<_;omega,by have:=r.un;show A.units+3+16*k+200<_;omega⟩
theorem aw.in1{k:Nat}(r:aw (k+1) A):aw k A.in1:=
 ⟨r.hd,by have:=r.dp;show A.depth+3*k+5<_;omega,by have:=r.un;show A.units+1+16*k+200<_;omega⟩
theorem OT:(A.under (.builtin "type.__call__" ⟨.ref C::us,kw⟩)).depth=A.depth+1:=by
 first|rfl|simp[Around.under,Code.weight,Code.isCreation,Code.isGuard,Code.isCaller,Code.frames,Code.isFrame,guardIds]
theorem OU:(A.under (.builtin "type.__call__" ⟨.ref C::us,kw⟩)).units=A.units+1:=by
 first|rfl|simp[Around.under,Code.cUnits,Code.frames,Code.isFrame]
theorem aw.make{k:Nat}(r:aw (k+1) A)(C:Addr)(us:List Value)(kw:List (Str×Value)):aw k (A.under (.builtin "type.__call__" ⟨.ref C::us,kw⟩)):=
 ⟨r.hd,by have:=r.dp;rw[OT];omega,by have:=r.un;rw[OU];omega⟩
theorem aw.depth{k:Nat}(r:aw k A):A.depth<recursionLimit:=by have:=r.dp;omega
theorem aw.units{k:Nat}(r:aw k A):A.units+64<cLine:=by have:=r.un;omega
def pd:TA:=fun _ H Q=>Q [] H
def sv (ta:TE)(tr:TA):TA:=fun σ H Q=>ta σ H fun x H1=>tr σ H1 fun xs H2=>Q (x::xs) H2
section
variable {X:Cx}{e:Expr}{es:List Expr}{te:TE}{t:TA}{pos:Pos}
theorem mL:PA X [] pd:=fun _ _ _ _ H Q I h=>Ye ⟨[],H,I,.nil,h⟩
theorem jU(ha:PE X e te)(hr:PA X es t)(hs:starEach (e::es) X.env=(false,eval e X.env)::starEach es X.env:=by rfl):PA X (e::es) (sv te t):=by
 intro pos pins s σ H Q I h
 rw[hs]
 show wpAny _ _ (spliced ((false,eval e X.env)::backTo pos (starEach es X.env))) _ _ s
 refine Ji (aU (ha pins s σ H _ I h) fun u s1 aj=>?_)
 obtain⟨x,H1,I1,r1,q1⟩:=aj
 exact aU (hr pos pins s1 σ H1 _ I1 q1) fun us s2 ⟨xs,H2,I2,r2,q2⟩=>⟨x::xs,H2,I2,.cons r1 r2,q2⟩
def OV (t:TA):TE:=fun σ H Q=>t σ H fun xs H1=>xs.length<=sizeLine/\∀ p,H1 p=none->Q (.ref p) (upd H1 p (.tup xs))
def OW (t:TA):TE:=fun σ H Q=>t σ H fun xs H1=>xs.length<=sizeLine/\∀ p,H1 p=none->Q (.ref p) (upd H1 p (.lst xs))
theorem OY{x1}(h:PA X es t):PE X (.Tuple es x1 pos) (OV t):=by
 intro pins s σ H Q I hq
 refine wpAny_Tuple_spliced (aU (h pos pins s σ H _ I hq) fun us s1 ⟨xs,H1,I1,r,z,q⟩=>⟨by rw[<- r.length];exact z,?_⟩)
 have hf:H1 s1.heap.objs.size=none:=I1.az.fresh (Qf _)
 refine⟨.ref s1.heap.objs.size,upd H1 s1.heap.objs.size (.tup xs),I1.laid (t':=s1.toks) (fun b u e=>Qc _ e) (Qf _) ?_,rfl,q _ hf⟩
 exact⟨z,us,r,⟨_,Qs _ rfl,rfl,⟨_,rfl⟩,rfl⟩⟩
theorem OZ(h:PA X es t):PE X (.List es pos) (OW t):=by
 intro pins s σ H Q I hq
 refine wpAny_List_spliced (aU (h pos pins s σ H _ I hq) fun us s1 ⟨xs,H1,I1,r,z,q⟩=>⟨by rw[<- r.length];exact z,?_⟩)
 have hf:H1 s1.heap.objs.size=none:=I1.az.fresh (Qf _)
 refine⟨.ref s1.heap.objs.size,upd H1 s1.heap.objs.size (.lst xs),I1.laid (t':=s1.toks) (fun b u e=>Qc _ e) (Qf _) ?_,rfl,q _ hf⟩
 exact⟨z,us,0,r,Qs _ rfl⟩
end
abbrev Sp:=List V->Hp->VK->XK->Prop
abbrev lP:=List Env->Hp->Shared->XK->Value->Shared->Prop
structure iK (P:Program) (w:World) (K:PySem.W.Frag) (mg:Str->Option Value) (base:Heap) (A:Around) (outer:List Env) (s:Shared) (H:Hp):Prop where
 frames:A.frames=some outer
 mod:Mod K mg base
 bs:∀ b o,base.get? b=some o->s.heap.get? b=some o/\H b=none
 lH:base.objs.size<=s.heap.objs.size
 dN:s.heap.FunFrames base outer
 o9:∀ b∈cM outer,H b=none
 az:cX P w H s.heap
 bare:AllBare s.gens
def CE (outer:List Env)(P:Program)(w:World)(H:Hp)(s:Shared)(Q:VK)(u:Value)(s':Shared):Prop:=
 ∃ v H',s'.os=s.os/\AllBare s'.gens/\Un (cM outer) [] H H' s.heap s'.heap/\cX P w H' s'.heap/\bh v u/\Q v H'
def CR (CX:lP)(outer:List Env)(P:Program)(w:World)(H:Hp)(s:Shared)(Q:VK)(E:XK)(r:Result)(s':Shared):Prop:=
 match r with
 | .ok (.ret u)=>CE outer P w H s Q u s'
 | .ok _=>False
 | .error e=>CX outer H s E e s'
structure bW (P:Program) (w:World) (K:PySem.W.Frag) (mg:Str->Option Value) (base:Heap) (CX:lP) (k:Nat) (f:Addr) (fd:FuncData) (ps:List Str) (sp:Sp):Prop where
 len:∀ vs H Q E,sp vs H Q E->vs.length=ps.length
 run:∀ (A:Around) (outer:List Env) (s:Shared) (H:Hp) (args:Args) (us:List Value) (vs:List V) (Q:VK) (E:XK),aw k A->iK P w K mg base A outer s H->BindsTo s fd args (ps.zip us)->a_ vs us->sp vs H Q E->
  codeAny (model P w) A (.call (.ref f) args) (CR CX outer P w H s Q E) s
theorem iK.make{H:Hp}(e:iK P w K mg base A outer s H)(C:Addr)(us:List Value)(kw:List (Str×Value)) :
  iK P w K mg base (A.under (.builtin "type.__call__" ⟨.ref C::us,kw⟩)) outer s H:=⟨by first|exact e.frames|(simpa [Around.under,Code.envs,Code.isFrame,pushEnvs]using e.frames),e.mod,e.bs,e.lH,e.dN,e.o9,e.az,e.bare⟩
section
variable {X:Cx}{pins:List (Addr×Obj)}{σ:St}{H:Hp}{s s':Shared}
theorem Inv.sx(I:Inv X pins σ H s):iK X.prog X.w X.K X.mg X.base X.A X.stack s H:=
 ⟨I.ok.frames,I.ok.mod,I.bs,Qv I.ok.lH I.sz,I.stack,I.dH,I.az,I.bare⟩
theorem Inv.after{Q:VK}(I:Inv X pins σ H s)(h:CE X.stack X.prog X.w H s Q u s'):EP X pins σ Q u s':=by
 obtain⟨v,H',os,bare,un,az,r,q⟩:=h
 obtain⟨hh,g,d,t,O0⟩:=s'
 obtain rfl:O0=s.os:=os
 exact⟨v,H',I.call (h':=hh) (g':=g) (d':=d) (t':=t) (ch:=[]) un az bare (fun b z=>absurd z (by simp)),r,q⟩
end
def O1 (sp:Sp)(dvs:List V)(E:XK)(t:TA):TE:=fun σ H Q=>t σ H fun vs H1=>sp (vs++dvs) H1 Q E
def FZ (C:Addr)(m:Str)(sp:Sp)(dvs:List V)(E:XK)(ta:TE)(t:TA):TE:=fun σ H Q=>ta σ H fun x H1=>∃ a dx fs,x=.ref a/\H1 a=some (.ins C dx fs)/\fs.lookup m=none /\
 t σ H1 fun vs H2=>sp (x::(vs++dvs)) H2 Q E
def O2 (C:Addr)(sp:Sp)(dvs:List V)(E:XK)(t:TA):TE:=fun σ H Q=>t σ H fun vs H1=>∀ x dx,H1 x=none->H1 dx=none->dx≠x->
 sp (.ref x::(vs++dvs)) (upd (upd H1 dx (.own x)) x (.ins C dx [])) (fun v H2=>v=.au/\Q (.ref x) H2) E
def iL (K:PySem.W.Frag)(fd:FuncData)(ps:List Str)(ds:List Value):Prop:=
 ∀ (s:Shared) (us:List Value),K.In s.heap->(us++ds).length=ps.length->BindsTo s fd ⟨us,[]⟩ (ps.zip (us++ds))
theorem iL.all{fd:FuncData}(h:∀ us:List Value,us.length=ps.length->bindArgs fd ⟨us,[]⟩=pure (ps.zip us)):iL K fd ps []:=fun s us _ hl=>by
 rw[Za]at hl ⊢
 exact .of_eq (h us hl)
def qA (CX:lP)(X:Cx)(E:XK):Prop:=∀ (pins:List (Addr×Obj)) (σ:St) (H:Hp) (s:Shared) (e:Value) (s':Shared),Inv X pins σ H s->CX X.stack H s E e s'->X.xe e s'
section
variable {X:Cx}{CX:lP}{k:Nat}{f C:Addr}{fd:FuncData}{ps:List Str}{sp:Sp}{dvs:List V}{ds:List Value}{E:XK}{x m:Str}{p pos apos:Pos}{e o:Expr}{es:List Expr}{ta:TE}{t:TA}
theorem BJ{σ:St}{H:Hp}{Q:VK}{vs:List V}(F:bW X.prog X.w X.K X.mg X.base CX k f fd ps sp)(hr:aw k X.A)(hb:iL X.K fd ps ds)(hd:a_ dvs ds)(hx:qA CX X E)
  (I:Inv X pins σ H s) (r:a_ vs us) (h:sp (vs++dvs) H Q E):wpAny (model X.prog X.w) X.A (call (.ref f) us) (EP X pins σ Q) X.xe s:=by
 have r2:a_ (vs++dvs) (us++ds):=r.append hd
 have hl:(us++ds).length=ps.length:=by rw[<- r2.length];exact F.len _ _ _ _ h
 refine JV (Z8 (F.run X.A X.stack s H ⟨us,[]⟩ (us++ds) (vs++dvs) Q E hr I.sx (hb s us I.dC hl) r2 h) fun r s' hq=>?_)
 cases r with
 | error e=>exact hx pins σ H s e s' I hq
 | ok fl=>
  cases fl with
  | ret u=>exact I.after hq
  | next=>exact False.elim hq
  | brk=>exact False.elim hq
  | cont=>exact False.elim hq
theorem BK(F:bW X.prog X.w X.K X.mg X.base CX k f fd ps sp)(hr:aw k X.A)(hg:Gl X x)(hm:X.mg x=some (.ref f))(hk:PySem.W.keepIn X.K (.ref f)=true)(hb:iL X.K fd ps ds)(hd:a_ dvs ds)(hx:qA CX X E)
  (ha:PA X (e::es) t) (fT:(x==("__debug__":Str))=false:=by decide) (he:starEach (e::es) X.env=(false,eval e X.env)::starEach es X.env:=by rfl) (bG:(backTo pos (starEach es X.env)).any (·.1)=false:=by rfl) :
  PE X (.Call (.Name x p) (e::es) [] pos) (O1 sp dvs E t):=by
 intro pins s σ H Q I h
 refine ZH (vJ I hg hm ?_ fT)
 refine Jj (h₀:=X.base) I.ok.mod.rX hk (aU (ha pos pins s σ H _ I h) fun us s1 ⟨vs,H1,I1,r,q⟩=>⟨I1.dC,?_⟩) he bG
 exact BJ F hr hb hd hx I1 r q
theorem O3{pl:Sem Bool}(he:PE X o ta)(c:mK X.K C)(hm:iJ X.K C m f)(F:bW X.prog X.w X.K X.mg X.base CX k f fd ps sp)(hr:aw k X.A)(hb:iL X.K fd ps ds)(hd:a_ dvs ds)(hx:qA CX X E)(ha:PA X (e::es) t)
  (ju:starEach (e::es) X.env=(false,eval e X.env)::starEach es X.env:=by rfl) (bG:(backTo pos (starEach es X.env)).any (·.1)=false:=by rfl)
  (ht:eval (.Call (.Attribute o m apos) (e::es) [] pos) X.env=(do
    let ov <- eval o X.env
    standAt apos.atName
    let (f,first) <- holding [ov] (getMethod ov m pl)
    callWith pos f first (backTo pos (starEach (e::es) X.env)) (backToKw pos (keywordEach [] X.env))):=by rfl) :
  PE X (.Call (.Attribute o m apos) (e::es) [] pos) (FZ C m sp dvs E ta t):=by
 intro pins s σ H Q I h
 refine Z0 (pl:=pl) (aU (he pins s σ H _ I h) fun u s1 ⟨x,H1,I1,rx,a,dx,fs,ex,ea,l,q⟩=>?_) ht
 subst ex
 obtain rfl:u=Value.ref a:=rx
 refine y7 I1 ea c hm l ?_
 refine Jj (first:=[.ref a]) (h₀:=X.base) I.ok.mod.rX hm.kp (aU (ha pos pins s1 σ H1 _ I1 q) fun us s2 ⟨vs,H2,I2,r,q2⟩=>⟨I2.dC,?_⟩) ju bG
 exact BJ (us:=.ref a::us) (vs:=.ref a::vs) F hr hb hd hx I2 (.cons rfl r) q2
theorem F0(he:PE X o ta)(c:mK X.K C)(hm:iJ X.K C m f)(F:bW X.prog X.w X.K X.mg X.base CX k f fd ps sp)(hr:aw k X.A)(hb:iL X.K fd ps ds)(hd:a_ dvs ds)(hx:qA CX X E)
  (ht:eval (.Call (.Attribute o m apos) [] [] pos) X.env=(do
    let ov <- eval o X.env
    standAt apos.atName
    let (f,first) <- holding [ov] (getMethod ov m pl)
    callWith pos f first (backTo pos (starEach [] X.env)) (backToKw pos (keywordEach [] X.env))):=by rfl) :
  PE X (.Call (.Attribute o m apos) [] [] pos) (FZ C m sp dvs E ta pd):=by
 intro pins s σ H Q I h
 refine Z0 (pl:=pl) (aU (he pins s σ H _ I h) fun u s1 ⟨x,H1,I1,rx,a,dx,fs,ex,ea,l,q⟩=>?_) ht
 subst ex
 obtain rfl:u=Value.ref a:=rx
 refine y7 I1 ea c hm l ?_
 exact PySem.W.callWith_K0 (first:=[.ref a]) I1.dC hm.kp (BJ (us:=[.ref a]) (vs:=[.ref a]) F hr hb hd hx I1 (.cons rfl .nil) q)
structure Mk (K:PySem.W.Frag) (C f:Addr):Prop where
 makes:PySem.W.makesIn K C=true
 init:PySem.W.findIn K (.ref C) "__init__" = some (some (.ref f))
 fn:PySem.W.isFn K (.ref f)=true
 kp:PySem.W.keepIn K (.ref C)=true
theorem O4{σ:St}{H:Hp}{Q:VK}{vs:List V}(M:Mk X.K C f)(F:bW X.prog X.w X.K X.mg X.base CX k f fd ps sp)(hr:aw (k+1) X.A)(hb:iL X.K fd ps ds)(hd:a_ dvs ds)
  (hx:qA CX X E) (I:Inv X pins σ H s) (r:a_ vs us)
  (h:∀ x dx,H x=none->H dx=none->dx≠x->sp (.ref x::(vs++dvs)) (upd (upd H dx (.own x)) x (.ins C dx [])) (fun v H2=>v=.au/\Q (.ref x) H2) E) :
  wpAny (model X.prog X.w) X.A (call (.ref C) us) (EP X pins σ Q) X.xe s:=by
 have hq:=h (s.heap.objs.size+1) s.heap.objs.size (I.az.fresh (Z6 _)) (I.az.fresh (Qf _)) (QI (Q2 _))
 have I2:=Inv.made (C:=C) I
 have r2:a_ (V.ref (s.heap.objs.size+1)::(vs++dvs)) (Value.ref (s.heap.objs.size+1)::(us++ds)):=.cons rfl (r.append hd)
 have hl:(Value.ref (s.heap.objs.size+1)::us++ds).length=ps.length:=by
  have e:=r2.length
  rw[F.len _ _ _ _ hq]at e
  exact e.symm
 refine JV (OK (f:=f) I.dC M.makes M.init (Zi.mp M.fn) (Z8 (F.run _ X.stack _ _ ⟨Value.ref (s.heap.objs.size+1)::us,[]⟩ (Value.ref (s.heap.objs.size+1)::(us++ds)) _ _ E (hr.make C us [])
  (I2.sx.make C us []) (hb _ (Value.ref (s.heap.objs.size+1)::us) I2.dC hl) r2 hq) fun r s' vR=>?_))
 cases r with
 | error e=>exact hx pins σ _ _ e s' I2 vR
 | ok fl=>
  cases fl with
  | ret u=>
   obtain⟨v,H',I3,rv,ev,q3⟩:=I2.after vR
   subst ev
   exact⟨rv,⟨V.ref (s.heap.objs.size+1),H',I3,rfl,q3⟩⟩
  | next=>exact False.elim vR
  | brk=>exact False.elim vR
  | cont=>exact False.elim vR
theorem O5(M:Mk X.K C f)(F:bW X.prog X.w X.K X.mg X.base CX k f fd ps sp)(hr:aw (k+1) X.A)(hg:Gl X x)(hm:X.mg x=some (.ref C))(hb:iL X.K fd ps ds)(hd:a_ dvs ds)(hx:qA CX X E)
  (ha:PA X (e::es) t) (fT:(x==("__debug__":Str))=false:=by decide) (he:starEach (e::es) X.env=(false,eval e X.env)::starEach es X.env:=by rfl) (bG:(backTo pos (starEach es X.env)).any (·.1)=false:=by rfl) :
  PE X (.Call (.Name x p) (e::es) [] pos) (O2 C sp dvs E t):=by
 intro pins s σ H Q I h
 refine ZH (vJ I hg hm ?_ fT)
 refine Jj (h₀:=X.base) I.ok.mod.rX M.kp (aU (ha pos pins s σ H _ I h) fun us s1 ⟨vs,H1,I1,r,q⟩=>⟨I1.dC,?_⟩) he bG
 exact O4 M F hr hb hd hx I1 r q
end
def PK (X:Cx)(vS:List Keyword)(t:TA):Prop:=
 ∀ (pos:Pos) (pins:List (Addr×Obj)) (s:Shared) (σ:St) (H:Hp) (Q:List V->Hp->Prop),Inv X pins σ H s->t σ H Q->wpAny (model X.prog X.w) X.A (evalAll ((backToKw pos (keywordEach vS X.env)).map (·.2))) (AP X pins σ Q) X.xe s
section
variable {X:Cx}{CX:lP}{k:Nat}{f C:Addr}{fd:FuncData}{ps ks:List Str}{sp:Sp}{E:XK}{x m:Str}{p pos apos kpos:Pos}{e o:Expr}{es:List Expr}{vS:List Keyword}{te ta:TE}{t tk:TA}{nm:Option Str}
theorem F5:PK X [] pd:=fun _ _ _ _ H Q I h=>wpAny_evalAll_nil ⟨[],H,I,.nil,h⟩
theorem F7(ha:PE X e te)(hr:PK X vS t):PK X (⟨nm,e,kpos⟩::vS) (sv te t):=by
 intro pos pins s σ H Q I h
 show wpAny _ _ (evalAll ((do let v <- eval e X.env;standAt pos;pure v)::(backToKw pos (keywordEach vS X.env)).map (·.2))) _ _ s
 refine wpAny_evalAll_cons (Qa (aU (ha pins s σ H _ I h) fun u s1 ⟨x,H1,I1,r1,q1⟩=>Qa (Yk (Qj ?_))))
 exact aU (hr pos pins s1 σ H1 _ I1 q1) fun us s2 ⟨xs,H2,I2,r2,q2⟩=>⟨x::xs,H2,I2,.cons r1 r2,q2⟩
variable {g:List Value->List Value->List Value}{gV:List V->List V->List V}
end
structure af (N P:List Str) (sc:Scope):Prop where
 kind:sc.kind=.function
 co:sc.isCoroutine=false
 gen:sc.isGenerator=false
 nd:N.Nodup
 pre:N.take P.length=P
 par:∀ x∈P,sc.names.lookup x=some .local\/sc.names.lookup x=some .cell
 sy:∀ y∈sc.names,y.2 ≠ .free
theorem ck{P:List Str}(h:N.Nodup/\(∀ x∈P,sc.names.lookup x=some .local\/sc.names.lookup x=some .cell)/\∀ y∈sc.names,y.2 ≠ .free)(a:sc.kind=.function:=by rfl)(b:sc.isCoroutine=false:=by rfl)(c:sc.isGenerator=false:=by rfl)(d:N.take P.length=P:=by rfl):af N P sc:=⟨a,b,c,h.1,d,h.2.1,h.2.2⟩
theorem F8:∀ {binds:List (Str×Value)} {m:Str->Option Value},(∀ v,(x,v) ∉ binds)->bindL kindOf binds m x=m x
 | [],_,_=>rfl
 | (n,v)::r,m,h=>by
  unfold bindL
  rw[F8 fun w hw=>h w (Qb _ hw)]
  split
  ·have:x≠n:=by rintro rfl;exact h v Qd
   simp[this]
  ·rfl
theorem F9:∀ {binds:List (Str×Value)} {m:Str->Option Value},(∀ v,(x,v) ∉ binds)->bindC kindOf binds m x=m x
 | [],_,_=>rfl
 | (n,v)::r,m,h=>by
  unfold bindC
  rw[F9 fun w hw=>h w (Qb _ hw)]
  split
  ·rfl
  ·have:x≠n:=by rintro rfl;exact h v Qd
   simp[this]
theorem F_:∀ {P:List Str} {vs:List Value} {i:Nat} {m:Str->Option Value},P.Nodup->P[i]? = some x->vs[i]? = some v->kindOf x=some .local->
  bindL kindOf (P.zip vs) m x=some v
 | [],_,_,_,_,h,_,_=>by simp at h
 | _::_,[],_,_,_,_,h,_=>by simp at h
 | p::P,w::vs,0,m,nd,h1,h2,hk=>by
  simp at h1 h2;subst h1;subst h2
  show bindL kindOf ((p,w)::P.zip vs) m p=_
  unfold bindL
  rw[F8 fun v hv=>(Zv.mp nd).1 (Jg hv).1,Qe hk]
  simp
 | p::P,w::vs,i+1,m,nd,h1,h2,hk=>by
  show bindL kindOf ((p,w)::P.zip vs) m x=_
  unfold bindL
  exact F_ (i:=i) (Zv.mp nd).2 (by simpa using h1) (by simpa using h2) hk
theorem Ga:∀ {P:List Str} {vs:List Value} {i:Nat} {m:Str->Option Value},P.Nodup->P[i]? = some x->vs[i]? = some v->kindOf x≠some .local->
  bindC kindOf (P.zip vs) m x=some v
 | [],_,_,_,_,h,_,_=>by simp at h
 | _::_,[],_,_,_,_,h,_=>by simp at h
 | p::P,w::vs,0,m,nd,h1,h2,hk=>by
  simp at h1 h2;subst h1;subst h2
  show bindC kindOf ((p,w)::P.zip vs) m p=_
  unfold bindC
  rw[F9 fun v hv=>(Zv.mp nd).1 (Jg hv).1,Qg hk]
  simp
 | p::P,w::vs,i+1,m,nd,h1,h2,hk=>by
  show bindC kindOf ((p,w)::P.zip vs) m x=_
  unfold bindC
  exact Ga (i:=i) (Zv.mp nd).2 (by simpa using h1) (by simpa using h2) hk
def start (N:List Str)(vs:List V):St:=vs.map some++List.replicate (N.length-vs.length) none
def fw (CX:lP)(P:Program)(w:World)(K:PySem.W.Frag)(mg:Str->Option Value)(base:Heap)(N:List Str)(qual:Str)(scope:Scope)(f:Addr)(cd:Value)(A:Around)(outer:List Env)(s:Shared)(H:Hp)(E:XK):Cx where
 prog:=P
 w:=w
 K:=K
 mg:=mg
 base:=base
 A:=A.deeper (envOfC qual scope s.heap.objs.size f cd)
 N:=N
 ax:=s
 bE:=H
 env:=envOfC qual scope s.heap.objs.size f cd
 outer:=outer
 stack:=envOfC qual scope s.heap.objs.size f cd::outer
 ex:=[]
 calm:=true
 fn:=fun _=>true
 pn:=[]
 xe:=fun e s'=>wpAny (model P w) (A.deeper (envOfC qual scope s.heap.objs.size f cd)) (leaving (envOfC qual scope s.heap.objs.size f cd) e) (fun _ lQ=>CX outer H s E e lQ) (fun e' lQ=>CX outer H s E e' lQ) s'
theorem Gb{n:Nat}(h:sc.names.lookup x=some .cell):∃ c,(cellsFrom n sc.names []).lookup x=some c:=by
 have q:=ZU sc.names n [] (.inl h)
 exact Zm.mp q
theorem O6{CX:lP}{f:Addr}{cd:Value}{s1:Shared}{H:Hp}{E:XK}{vs:List V}
  (S:af N ps scope) (hd:A.handled=none) (e0:iK P w K mg base A outer s H) (hl:vs.length=ps.length) (r:a_ vs us)
  (x:InCallC s s.heap.objs.size (bindL (envOfC qual scope s.heap.objs.size f cd).kindOf (ps.zip us) fun _=>none) (cellsFrom (s.heap.objs.size+1) scope.names []) (bindC (envOfC qual scope s.heap.objs.size f cd).kindOf (ps.zip us) fun _=>none) s1) :
  Inv (fw CX P w K mg base N qual scope f cd A outer s H E) [] (start N vs) H s1:=by
 have bG:ps.length<=N.length:=by have:=Zx List.length S.pre;rw[Q3]at this;omega
 obtain⟨h1,tk,rfl,hk⟩:=x.done
 have oB:∀ b:Addr,b ∉ (fw CX P w K mg base N qual scope f cd A outer s H E).ex:=fun b z=>absurd (show b∈([]:List Addr)from z) (by simp)
 refine⟨⟨e0.mod,S.kind,rfl,rfl,Qf _,fun y z c h1 h2=>?_,fun y hy=>?_,fun y c _ h=>?_,fun _=>hd,Around.frames_deeper e0.frames,.inr ⟨rfl,rfl⟩,fun b z=>absurd z (oB b),e0.bs,e0.lH,fun b _ _=>oB b,fun b z=>absurd z (oB b),e0.dN,e0.o9⟩,
  rfl,e0.bare,Un.kept hk,⟨_,x.toInCall.ns,fun i y v h1 h2 h3=>?_⟩,fun y c h=>⟨_,x.cell y c h⟩,e0.az.fresh (Qf _),fun y c h=>?_,fun p hp=>absurd (show p∈([]:List (Addr×Obj))from hp) (by simp),e0.az.kept hk,?_⟩
 ·exact name_of_addr x.apart (QG h1) (QG h2)
 ·have hy:scope.names.lookup y=some .cell\/scope.names.lookup y=some .free:=hy
  rcases hy with hy|hy
  ·exact Gb hy
  ·exact absurd rfl (S.sy _ (QG hy))
 ·exact ZF (x.above y c (QG h))
 ·have hi:i<vs.length:=by
   unfold start at h2
   by_cases hi:i<vs.length
   ·exact hi
   ·rw[QO (by simpa using hi)]at h2
    rw[Zq]at h2
    split at h2<;>cases h2
  have ha:vs[i]? = some v:=by
   unfold start at h2
   rw[QA (by simpa using hi),QH]at h2
   cases e:vs[i]? with
   | none=>rw[e]at h2;cases h2
   | some a=>rw[e]at h2;cases h2;rfl
  obtain⟨u,hu,rv⟩:=r.get ha
  have hp:ps[i]? = some y:=by
   rw[<- S.pre,ZP (by omega)];exact h1
  have Gc:ps.Nodup:=by rw[<- S.pre];exact S.nd.sublist (List.take_sublist _ _)
  refine⟨u,rv,?_⟩
  rcases S.par y (ZM hp)with k|k
  ·exact .inl ⟨k,F_ Gc hp hu k⟩
  ·obtain⟨c,e⟩:=Gb (n:=s.heap.objs.size+1) k
   refine .inr ⟨.inl k,c,e,?_⟩
   have q:=x.cell y c e
   rw[Ga Gc hp hu (by show scope.names.lookup y≠_;rw[k];decide)]at q
   exact q
 ·exact e0.az.fresh (ZF (x.above y c (QG h)))
 ·unfold start
  show _=N.length
  rw[Qo,Qm,Zd]
  omega
theorem y8{CX:lP}{k:Nat}{f:Addr}{name:Str}{params:Arguments}{dV kV doc pm aN ct oc:Value}{an od:Option Addr}
  {nr:Array (Option Value)}  {sp:Sp} (lk:K.lookup f=some ⟨oc,od,.func (PySem.W.fnOf name qual params body scope dV kV doc pm an aN ct),nr⟩) (fR:PySem.W.codeIn K aN qual=true) (S:af N ps scope)
  (len:∀ vs H Q E,sp vs H Q E->vs.length=ps.length)
  (dF:∀ (A:Around) (outer:List Env) (s:Shared) (H:Hp) (vs:List V) (Q:VK) (E:XK),aw k (A.deeper (envOfC qual scope s.heap.objs.size f aN))->sp vs H Q E->
    ∃ t,fZ (fw CX P w K mg base N qual scope f aN A outer s H E) body t/\t { nx:=fun _ H'=>Q .au H',rt:=Q } (start N vs) H) :
  bW P w K mg base CX (k+1) f (PySem.W.fnOf name qual params body scope dV kV doc pm an aN ct) ps sp:=by
 refine⟨len,fun A outer s H args us vs Q E hr e0 hb r fz=>?_⟩
 have hl:=len _ _ _ _ fz
 have KX:K.In s.heap:=e0.mod.rX.keeps fun b o e=>(e0.bs b o e).1
 have lim:s.heap.NoLimit:=e0.mod.nolimit.keeps fun b o e=>(e0.bs b o e).1
 have vT:∀ y∈ps.zip us,scope.names.lookup y.1=some .local\/(scope.names.lookup y.1=some .cell/\((cellsFrom (s.heap.objs.size+1) scope.names []).lookup y.1).isSome=true):=fun⟨n,v⟩ hy=>by
  rcases S.par n (Jg hy).1 with q|q
  ·exact .inl q
  ·exact .inr ⟨q,ZU _ _ _ (.inl q)⟩
 refine codeAny_call_function hr.depth (KX _ _ lk) rfl S.co S.gen rfl (PySem.W.codeRec_of KX fR) (hb _ _ _ _ ?_)
 refine wpAny_newFunctionEnv_cells S.kind vT fun env he s1 x=>?_
 subst he
 refine⟨lim.keeps x.toInCall.keep,codeAny_func ?_⟩
 obtain⟨t,ht,hq⟩:=dF A outer s H vs Q E (hr.deeper _) fz
 have I:Inv (fw CX P w K mg base N qual scope f aN A outer s H E) [] (start N vs) H s1:=O6 S hr.hd e0 hl r x
 refine QV (ht [] s1 (start N vs) H _ I hq) (fun fl s' hs=>?_) fun e s' hs=>hs
 have fin:∀ {aP:St} {H':Hp} {v:V} {u:Value},Inv (fw CX P w K mg base N qual scope f aN A outer s H E) [] aP H' s'->bh v u->Q v H'->CE outer P w H s Q u s':=
  fun {aP H' v u} J rv q=>⟨v,H',J.os,J.bare,J.base,J.az,rv,q⟩
 cases fl with
 | ret u=>
  obtain⟨v,aP,H',J,rv,q⟩:=hs
  exact fin J rv q
 | next=>
  obtain⟨aP,H',J,q⟩:=hs
  exact fin (v:=V.au) (u:=Value.none) J rfl q
 | brk=>
  obtain⟨_,_,_,q⟩:=hs
  exact False.elim q
 | cont=>
  obtain⟨_,_,_,q⟩:=hs
  exact False.elim q
section
variable {X:Cx}{x:Str}{p pos:Pos}{e:Expr}{es:List Expr}{t:TA}{id T:String}{r:List V->Hp->VK->Prop}
def y9 (r:List V->Hp->VK->Prop)(t:TA):TE:=fun σ H Q=>t σ H fun vs H1=>r vs H1 Q
theorem qB(hc:mJ X (.builtin id) r)(hg:Gl X x)(hm:X.mg x=none)(hv:bootBuiltins x=some (.builtin id))(ha:PA X (e::es) t)(hn:x ≠ "__name__":=by decide)(fT:(x==("__debug__":Str))=false:=by decide)
  (he:starEach (e::es) X.env=(false,eval e X.env)::starEach es X.env:=by rfl) (bG:(backTo pos (starEach es X.env)).any (·.1)=false:=by rfl):PE X (.Call (.Name x p) (e::es) [] pos) (y9 r t):=by
 intro pins s σ H Q I h
 refine ZH (sg I hg hm hv ?_ hn fT)
 exact PyProof.Rows.callWith_builtin1 (aU (ha pos pins s σ H _ I h) fun us s1 ⟨vs,H1,I1,r1,q1⟩=>hc pins s1 σ H1 vs us Q I1 r1 q1) he bG
theorem vU(hc:mJ X (.type T) r)(hg:Gl X x)(hm:X.mg x=none)(hv:bootBuiltins x=some (.type T))(ha:PA X (e::es) t)(hn:x ≠ "__name__":=by decide)(fT:(x==("__debug__":Str))=false:=by decide)
  (he:starEach (e::es) X.env=(false,eval e X.env)::starEach es X.env:=by rfl) (bG:(backTo pos (starEach es X.env)).any (·.1)=false:=by rfl):PE X (.Call (.Name x p) (e::es) [] pos) (y9 r t):=by
 intro pins s σ H Q I h
 refine ZH (sg I hg hm hv ?_ hn fT)
 exact Z2 (aU (ha pos pins s σ H _ I h) fun us s1 ⟨vs,H1,I1,r1,q1⟩=>hc pins s1 σ H1 vs us Q I1 r1 q1) he bG
end
end L2
namespace HT
open PySem PyProof.Rows
variable {Q:Value->Shared->Prop}{hi lo:Option Int}{sl t:Addr}{vl vu:Value}
section
open PySem.SeqAt
open PySem.AutoSeq1 (wpAny_loadPart')
open PySem.MeetsSeq PySem.MeetsSeq2 PySem.MeetsSeq3
end
section
variable {prog:Program}{w:World}{A:Around}{E:Value->Shared->Prop}{s:Shared}
theorem O7{b:Addr}{vs ws:List Value}(ht:IsTup s.heap t vs.toArray)(hb:IsTup s.heap b ws.toArray)(hv:vs ≠ [])
  (h1:ws=[]->Q (.ref t) s) (h2:ws ≠ []->Q (.ref s.heap.objs.size) { s with heap:=s.heap.push { cls:=.type "tuple",data:=.seq (vs++ws).toArray } })
  (hsz:vs.length+ws.length<=sizeLine):wpAny (model prog w) A (binaryOp .Add (.ref t) (.ref b)) Q E s:=by
 obtain⟨⟨cls,dd,data,sl⟩,ho,hc,n,hd⟩:=id ht
 obtain⟨⟨BL,y_,data2,uE⟩,sA,ji,n2,hd2⟩:=id hb
 simp only at hc hd ji hd2
 subst hc hd ji hd2
 have e:vs.toArray++ws.toArray=(vs++ws).toArray:=by simp
 by_cases hw:ws=[]
 ·exact Yx ⟨_,ho,rfl⟩ ⟨_,sA,rfl⟩ Yn seq_tuple_add Jq Jl (Je _ _)
   (tuple_addW1 t b vs.toArray ws.toArray n n2 dd y_ sl uE (by simpa using hv) (by simp[hw])) ⟨ho,sA,h1 hw⟩
 ·refine Yx ⟨_,ho,rfl⟩ ⟨_,sA,rfl⟩ Yn seq_tuple_add Jq Jl (Je _ _)
   (tuple_addW2 t b vs.toArray ws.toArray n n2 dd y_ sl uE (by simpa using hv) (by simpa using hw) (by rw[Qk,Qk];exact hsz)) ⟨ho,sA,?_⟩
  rw[e]
  exact h2 hw
def bo (n d:Nat):Option Int->Nat
 | none=>d
 | some v=>if v<0 then(v+(n:Int)).toNat else min v.toNat n
theorem O8(n d:Nat)(hd:d<=n)(o:Option Int):bo n d o<=n:=by
 cases o with
 | none=>exact hd
 | some v=>
  show(if v<0 then(v+(n:Int)).toNat else min v.toNat n)<=n
  by_cases hv:v<0
  ·rw[Qe hv];omega
  ·rw[Qg hv];exact Nat.min_le_right _ _
theorem Gd(v:Int)(n d:Nat):(if v<0 then max (v+(n:Int)) 0 else min v (n:Int))=((bo n d (some v):Nat):Int):=by
 show(if v<0 then max (v+(n:Int)) 0 else min v (n:Int))=(((if v<0 then(v+(n:Int)).toNat else min v.toNat n):Nat):Int)
 by_cases hv:v<0
 ·simp only[Qe hv];omega
 ·simp only[Qg hv];omega
theorem O9(lo hi:Option Int)(n:Nat):Builtin.Slice.sliceAdjust lo hi 1 (n:Int)=(((bo n 0 lo:Nat):Int),((bo n n hi:Nat):Int)):=by
 have h1:¬ ((1:Int)<0):=by omega
 unfold Builtin.Slice.sliceAdjust
 simp only[h1,JF]
 refine Prod.ext ?_ ?_
 ·cases lo with
  | none=>rfl
  | some v=>exact Gd v n 0
 ·cases hi with
  | none=>rfl
  | some v=>exact Gd v n n
theorem O_(i j:Nat):Builtin.Slice.slicePlaces (i:Int) (j:Int) 1=j-i:=by
 unfold Builtin.Slice.slicePlaces
 have h1:(1:Int) > 0:=by omega
 simp only[h1,Z9,Int.ediv_one]
 split<;>omega
theorem Ge{v:Value}{o:Option Int}{Q:Option Int->Shared->Prop}(p:IsPart v o)(h:Q o s):wpAny (model prog w) A (Builtin.Slice.slicePartIndex v) Q E s:=by
 cases p with
 | none=>exact slicePart_none h
 | int i t=>exact slicePart_int h
theorem Gf{n:Nat}{Q:Int×Int×Nat->Shared->Prop}(hs:s.heap.IsSliceOf sl vl vu .none)(pl:IsPart vl lo)(pu:IsPart vu hi)
  (h:Q (((bo n 0 lo:Nat):Int),1,bo n n hi-bo n 0 lo) s):wpAny (model prog w) A (Builtin.Slice.sliceApplied (.ref sl) (pure (n:Int))) Q E s:=by
 obtain⟨os,sC,sD,vV⟩:=id hs
 unfold Builtin.Slice.sliceApplied Builtin.Slice.sliceFields
 refine Qa (Qa (YJ sC vV (x:=vl) rfl (Qa (YJ sC vV (x:=vu) rfl (Qa (YJ sC vV (x:=.none) rfl (Qj ?_)))))))
 refine Qa (slicePart_none ?_)
 show wpAny _ _ (if((1:Int)==0)=true then _ else _) _ _ s
 rw[Qg (by decide)]
 refine Qa (Ge pl (Qa (Ge pu (Qa (Qj ?_)))))
 show wpAny _ _ (match Builtin.Slice.sliceAdjust lo hi 1 (n:Int)with|(lo,hi)=>pure (lo,(1:Int),Builtin.Slice.slicePlaces lo hi 1)) _ _ s
 rw[O9 lo hi n]
 show wpAny _ _ (pure (((bo n 0 lo:Nat):Int),(1:Int),Builtin.Slice.slicePlaces ((bo n 0 lo:Nat):Int) ((bo n n hi:Nat):Int) 1)) _ _ s
 rw[O_]
 exact Qj h
theorem Pa(xs:Array Value)(i k:Nat):((List.range k).filterMap fun(m:Nat)=>xs[((i:Int)+(m:Int)*1).toNat]?).toArray=((xs.toList.drop i).take k).toArray:=by
 have e:(fun(m:Nat)=>xs[((i:Int)+(m:Int)*1).toNat]?)=fun m=>xs[i+m]?:=by
  funext m
  have:((i:Int)+(m:Int)*1).toNat=i+m:=by omega
  rw[this]
 rw[e]
 have:=pick_run xs i k
 rw[List.filterMap_map]at this
 have e2:((fun x=>xs[x]?) ∘ fun x=>i+x)=fun m=>xs[i+m]?:=rfl
 rw[e2]at this
 rw[this]
theorem Pb{items:Array Value}(ht:IsTup s.heap t items)(hs:s.heap.IsSliceOf sl vl vu .none)(pl:IsPart vl lo)(pu:IsPart vu hi)
  (hw:¬ (bo items.size 0 lo=0/\bo items.size items.size hi=items.size))
  (h:Q (.ref s.heap.objs.size) { s with heap:=s.heap.push { cls:=.type "tuple",data:=.seq ((items.toList.drop (bo items.size 0 lo)).take (bo items.size items.size hi-bo items.size 0 lo)).toArray } })
  (hsz:items.size<=sizeLine):wpAny (model prog w) A (getItem (.ref t) (.ref sl)) Q E s:=by
 have kX:sizeOk (.seq ((items.toList.drop (bo items.size 0 lo)).take (bo items.size items.size hi-bo items.size 0 lo)).toArray):=by
  show((items.toList.drop (bo items.size 0 lo)).take (bo items.size items.size hi-bo items.size 0 lo)).toArray.size<=sizeLine
  rw[Qk,Q3,ZS,Zb]
  omega
 have hj:bo items.size items.size hi<=items.size:=O8 _ _ (Qf _) hi
 obtain⟨os,sC,sD,vV⟩:=id hs
 have Pc:s.TypeIs (.ref sl) "slice":=⟨os,sC,sD⟩
 unfold getItem
 try with_reducible refine Zl ?_
 first|refine Qa (Qj ?_)|skip
 refine Qa (wpAny_sequenceKey ht.typeIs (by decide) ?_)
 refine Qa (wpAny_callSpecial?_slot (name:=Str.ofString "__getitem__") ht.typeIs Q4
  (wpAny_call_entry Q4 ht.typeIs entry_tuple_getitem ?_ (args_tuple_getitem _ _)))
 show wpAny _ _ (Builtin.Tuple.tupleItemsOf (.ref t) >>= _) _ _ s
 refine Qa (tupleItemsOf_ ht ?_)
 refine Qa (Yy Pc ?_)
 rw[Qe (by decide)]
 refine Qa (Gf hs pl pu ?_)
 have BM:¬ ((((bo items.size 0 lo:Nat):Int)==0&&(1:Int)==1&&(bo items.size items.size hi-bo items.size 0 lo)==items.size)=true):=by
  intro q
  rw[Zg,Zg]at q
  have q1:((bo items.size 0 lo:Nat):Int)=0:=eq_of_beq q.1.1
  have q2:bo items.size items.size hi-bo items.size 0 lo=items.size:=eq_of_beq q.2
  exact hw ⟨by omega,by omega⟩
 show wpAny _ _ (if(((bo items.size 0 lo:Nat):Int)==0&&(1:Int)==1&&(bo items.size items.size hi-bo items.size 0 lo)==items.size)=true then _ else _) _ _ s
 rw[Qg BM,Pa]
 first
  | exact Qa (m:=Builtin.Tuple.tupleExact _) (ZA (Qj ⟨_,rfl,Qj h⟩) kX)
  | exact Qa (m:=Builtin.Tuple.tupleExact _) (ZA (Qa (Qj (Qj ⟨_,rfl,Qj h⟩))) kX)
  | exact Qa (Qa (m:=Builtin.Tuple.tupleExact _) (ZA (Qj (Qj ⟨_,rfl,Qj h⟩)) kX))
  | exact Qa (Qa (m:=Builtin.Tuple.tupleExact _) (ZA (Qj ⟨_,rfl,Qj h⟩) kX))
end
end HT
namespace L2
open PySem PySem.Spec PyProof.Rows
variable {H:Hp}{i:Int}{n:Nat}{pins:List (Addr×Obj)}{r:V->Option Int->Option Int->Hp->VK->Prop}{s:Shared}{us:List Value}{xs:List V}{σ:St}
abbrev TO:=St->Hp->(Option Int->Hp->Prop)->Prop
def PO (X:Cx)(e:Option Expr)(t:TO):Prop:=
 ∀ (pins:List (Addr×Obj)) (s:Shared) (σ:St) (H:Hp) (Q:Option Int->Hp->Prop),Inv X pins σ H s->t σ H Q->
  wpAny (model X.prog X.w) X.A (evalPart e X.env) (fun u s'=>∃ o H',Inv X pins σ H' s'/\IsPart u o/\Q o H') X.xe s
def Pd:TO:=fun _ H Q=>Q none H
def Pe (t:TE):TO:=fun σ H Q=>t σ H fun x H1=>∃ i,x=.int i/\Q (some i) H1
section
variable {X:Cx}{e:Expr}{te:TE}{lo hi:Option Expr}{tl th:TO}{pos p2:Pos}
theorem Pf:PO X none Pd:=by
 intro pins s σ H Q I h
 rw[evalPart_none]
 exact Qj ⟨none,H,I,.none,h⟩
theorem Pg(h:PE X e te):PO X (some e) (Pe te):=by
 intro pins s σ H Q I hw
 rw[evalPart_some]
 refine aU (h pins s σ H _ I hw) fun u s1 aj=>?_
 obtain⟨x,H1,I1,r1,q1⟩:=aj
 obtain⟨i,rfl,q⟩:=q1
 obtain⟨t,rfl⟩:=r1
 exact⟨some i,H1,I1,.int i t,q⟩
def qC (X:Cx)(r:V->Option Int->Option Int->Hp->VK->Prop):Prop:=
 ∀ (pins:List (Addr×Obj)) (s:Shared) (σ:St) (H:Hp) (x:V) (v vl vu:Value) (lo hi:Option Int) (sl:Addr) (Q:VK),Inv X pins σ H s->bh x v->s.heap.IsSliceOf sl vl vu .none->IsPart vl lo->IsPart vu hi->r x lo hi H Q->
  ∃ T id,typeLookup (.type T) "__getitem__" = pure (some (.builtin id))/\s.TypeIs v T/\wpAny (model X.prog X.w) X.A (getItem v (.ref sl)) (EP X pins σ Q) X.xe s
theorem qC.or{r':V->Option Int->Option Int->Hp->VK->Prop}(h:qC X r)(h':qC X r'):qC X (fun x lo hi H Q=>r x lo hi H Q\/r' x lo hi H Q):=by
 intro pins s σ H x v vl vu lo hi sl Q I rx hs pl pu q
 rcases q with q|q
 ·exact h pins s σ H x v vl vu lo hi sl Q I rx hs pl pu q
 ·exact h' pins s σ H x v vl vu lo hi sl Q I rx hs pl pu q
def Ph (r:V->Option Int->Option Int->Hp->VK->Prop)(te:TE)(tl th:TO):TE:=fun σ H Q=>te σ H fun x H1=>tl σ H1 fun l H2=>th σ H2 fun u H3=>r x l u H3 Q
theorem Pj(hr:qC X r)(he:PE X e te)(hl:PO X lo tl)(hu:PO X hi th):PE X (.Subscript e (.Slice lo hi none p2) pos) (Ph r te tl th):=by
 intro pins s σ H Q I h
 refine Subscript_ (aU (he pins s σ H _ I h) fun v s1 aj=>?_)
 obtain⟨x,H1,I1,r1,q1⟩:=aj
 refine wpAny_Slice (aU (hl pins s1 σ H1 _ I1 q1) fun vl s2 ⟨l,H2,I2,pl,q2⟩=>aU (hu pins s2 σ H2 _ I2 q2) fun vu s3 aj=>?_)
 obtain⟨u,H3,I3,pu,q3⟩:=aj
 rw[evalPart_none]
 refine Qj ?_
 have I4:Inv X pins σ H3 { s3 with heap:=s3.heap.push { cls:=.type "slice",data:=.fields #[vl,vu,.none] } }:=I3.kept (t':=s3.toks) fun b ob q=>Qc _ q
 obtain⟨T,id,hT,ht,hg⟩:=hr pins { s3 with heap:=s3.heap.push { cls:=.type "slice",data:=.fields #[vl,vu,.none] } } σ H3 x v vl vu l u s3.heap.objs.size Q I4 r1 (Heap.IsSliceOf.new ..) pl pu q3
 show wpAny (model X.prog X.w) X.A (subscriptTail e (.Slice lo hi none p2) v (.ref s3.heap.objs.size)) (EP X pins σ Q) X.xe { s3 with heap:=s3.heap.push { cls:=.type "slice",data:=.fields #[vl,vu,.none] } }
 exact tail_any (ops:=[.ref s3.heap.objs.size,v]) ht hT hg (by with_unfolding_all rfl)
def qD (xs:List V)(lo hi:Option Int):List V:=(xs.drop (HT.bo xs.length 0 lo)).take (HT.bo xs.length xs.length hi-HT.bo xs.length 0 lo)
theorem Gg(xs:List V)(lo hi:Option Int):(qD xs lo hi).length<=xs.length:=by
 unfold qD
 rw[Q3,ZS]
 omega
def Pk (K:PySem.W.Frag):V->Option Int->Option Int->Hp->VK->Prop:=fun x lo hi H Q=>∃ a xs,x=.ref a/\dO K H a xs /\
 ¬ (HT.bo xs.length 0 lo=0/\HT.bo xs.length xs.length hi=xs.length)/\∀ p,H p=none->Q (.ref p) (upd H p (.tup (qD xs lo hi)))
theorem Pl:qC X (Pk X.K):=by
 intro pins s σ H x v vl vu lo hi sl Q I rx hs pl pu h
 obtain⟨a,xs,rfl,hx,hw,q⟩:=h
 cases rx
 obtain⟨aq,r,ht,hz⟩:=I.tuple hx
 have hlen:aq.toArray.size=xs.length:=by rw[Qk];exact r.length.symm
 refine⟨"tuple",_,Q4.lookup,ht.typeIs,?_⟩
 refine HT.Pb ht hs pl pu (by rw[hlen];exact hw) ?_ (by rw[hlen];exact hz)
 rw[hlen]
 refine⟨.ref s.heap.objs.size,_,I.laid (t':=s.toks) (o:=.tup (qD xs lo hi)) (fun b ob q=>Qc _ q) (Qf _) ?_,rfl,q _ (I.az.fresh (Qf _))⟩
 exact⟨Qv (Gg xs lo hi) hz,_,(r.drop (HT.bo xs.length 0 lo)).take (HT.bo xs.length xs.length hi-HT.bo xs.length 0 lo),m9.new _ _⟩
def Pm (K:PySem.W.Frag):R2:=fun x y H Q=>∃ a b xs ys,x=.ref a/\y=.ref b/\dO K H a xs/\dO K H b ys/\xs ≠ []/\xs.length+ys.length<=sizeLine /\
 (ys=[]->Q (.ref a) H)/\(ys ≠ []->∀ p,H p=none->Q (.ref p) (upd H p (.tup (xs++ys))))
theorem a_.iM(r:a_ xs us):us=[] ↔ xs=[]:=by
 cases r with
 | nil=>simp
 | cons _ _=>simp
theorem Pn:cN X (binaryOp .Add) (Pm X.K):=by
 intro pins s σ H x y v u Q I rx ry h
 obtain⟨a,b,xs,ys,rfl,rfl,ha,hb,hx,hz,q1,q2⟩:=h
 cases rx
 cases ry
 obtain⟨aq,r1,p1,_⟩:=I.tuple ha
 obtain⟨g8,r2,p2,_⟩:=I.tuple hb
 refine HT.O7 p1 p2 (fun z=>hx (r1.iM.mp z)) (fun z=>⟨.ref a,H,I,rfl,q1 (r2.iM.mp z)⟩) (fun z=>?_) (by rw[<- r1.length,<- r2.length];exact hz)
 refine⟨.ref s.heap.objs.size,_,I.laid (t':=s.toks) (o:=.tup (xs++ys)) (fun b ob q=>Qc _ q) (Qf _) ?_,rfl,q2 (fun w=>z (r2.iM.mpr w)) _ (I.az.fresh (Qf _))⟩
 exact⟨by rw[Qo];exact hz,_,r1.append r2,m9.new _ _⟩
end
def jj (n:Nat)(i:Int):Option Nat:=if 0<=i then(if i<n then some i.toNat else none)else if -(n:Int)<=i then some (i+n).toNat else none
def dP {α:Type}(xs:List α)(i:Int):Option α:=(jj xs.length i).bind fun j=>xs[j]?
theorem BN{j:Nat}(h:jj n i=some j):seqIndex? i n=some j/\j<n /\ -(n:Int)<=i/\i<n:=by
 unfold jj at h
 by_cases h0:0<=i
 ·rw[Qe h0]at h
  by_cases h1:i<n
  ·rw[Qe h1]at h
   have e:i.toNat=j:=Qt h
   exact⟨by rw[seqIndex_of h0 h1,e],by omega,by omega,h1⟩
  ·rw[Qg h1]at h;cases h
 ·rw[Qg h0]at h
  by_cases h1:-(n:Int)<=i
  ·rw[Qe h1]at h
   have e:(i+n).toNat=j:=Qt h
   exact⟨by rw[seqIndex_neg (by omega) h1,e],by omega,h1,by omega⟩
  ·rw[Qg h1]at h;cases h
theorem BO{α:Type}{xs:List α}{v:α}(h:dP xs i=some v):∃ j,seqIndex? i xs.length=some j/\xs[j]? = some v/\j<xs.length /\ -(xs.length:Int)<=i/\i<xs.length:=by
 unfold dP at h
 cases e:jj xs.length i with
 | none=>rw[e]at h;cases h
 | some j=>
  rw[e]at h
  obtain⟨h1,h2,h3,h4⟩:=BN e
  exact⟨j,h1,h,h2,h3,h4⟩
def uF (b:Expr):Prop:=∀ o i,subscripted b false o i=operate [o,i] (getItem o i)
def pe (X:Cx)(r:R2):Prop:=
 ∀ (value slice:Expr) (pins:List (Addr×Obj)) (s:Shared) (σ:St) (H:Hp) (x y:V) (v u:Value) (Q:VK),Inv X pins σ H s->bh x v->bh y u->r x y H Q->
  subscripted slice false v u=operate [v,u] (getItem v u)->wpAny (model X.prog X.w) X.A (subscriptTail value slice v u) (EP X pins σ Q) X.xe s
def za (X:Cx)(id:String)(r:V->List V->Hp->VK->Prop):Prop:=
 ∀ (pins:List (Addr×Obj)) (s:Shared) (σ:St) (H:Hp) (x:V) (xs:List V) (v:Value) (us:List Value) (Q:VK),Inv X pins σ H s->bh x v->a_ xs us->r x xs H Q->
  wpAny (model X.prog X.w) X.A (call (.builtin id) (v::us)) (EP X pins σ Q) X.xe s
section
variable {X:Cx}{a b:Expr}{ta tb:TE}{pos:Pos}
theorem pe.or{r r':R2}(h:pe X r)(h':pe X r'):pe X (fun x y H Q=>r x y H Q\/r' x y H Q):=by
 intro value slice pins s σ H x y v u Q I rx ry q hs
 rcases q with q|q
 ·exact h value slice pins s σ H x y v u Q I rx ry q hs
 ·exact h' value slice pins s σ H x y v u Q I rx ry q hs
theorem vW{r:R2}(hr:pe X r)(ha:PE X a ta)(hb:PE X b tb)(hs:uF b):PE X (.Subscript a b pos) (jt r ta tb):=by
 intro pins s σ H Q I h
 exact Subscript_ (BC ha hb I h fun v u s2 x y H2 I2 rx ry q=>hr a b pins s2 σ H2 x y v u Q I2 rx ry q (hs _ _))
def Gh (K:PySem.W.Frag):R2:=fun x y H Q=>∃ p xs i v,x=.ref p/\y=.int i/\cL K H p xs/\dP xs i=some v/\Q v H
def Gi (K:PySem.W.Frag):R2:=fun x y H Q=>∃ p xs i v,x=.ref p/\y=.int i/\dO K H p xs/\dP xs i=some v/\Q v H
def Gj:R2:=fun x y H Q=>∃ z i c,x=.str z/\y=.int i/\z.length<=sizeLine/\dP z.cps.toList i=some c/\Q (.str ⟨#[c]⟩) H
theorem Po:pe X (Gh X.K):=by
 intro value slice pins s σ H x y v u Q I rx ry h hs
 obtain⟨p,xs,i,z,rfl,rfl,hq,he,q⟩:=h
 cases rx
 obtain⟨t,rfl⟩:=ry
 obtain⟨aq,r,pl,hz⟩:=I.list hq
 obtain⟨j,h1,h2,h3,h4,h5⟩:=BO he
 obtain⟨w,ew,lR⟩:=r.get h2
 have hl:=r.length
 have hn:=uD
 have fin:EP X pins σ Q w s:=⟨z,H,I,lR,q⟩
 by_cases h0:0<=i
 ·have hj:i.toNat=j:=by
   rw[seqIndex_of h0 h5]at h1
   exact Qt h1
  exact item_listR pl.isList h0 (by omega) (by rw[hj];simpa using ew) fin hs
 ·have hj:(i+(aq.toArray.size:Int)).toNat=j:=by
   rw[seqIndex_neg (by omega) h4]at h1
   rw[Qk,<- hl]
   exact Qt h1
  exact subscriptTail_builtinR (x:=w) pl.isList.typeIs slot_list_getitem.lookup
   (wpAny_getItem_list_neg (Q:=fun r s'=>r=w/\EP X pins σ Q r s') pl.isList (by omega) (by rw[Qk]<;>omega) (by omega) (by rw[hj];simpa using ew) ⟨rfl,fin⟩) hs
theorem Pp:pe X (Gi X.K):=by
 intro value slice pins s σ H x y v u Q I rx ry h hs
 obtain⟨p,xs,i,z,rfl,rfl,hq,he,q⟩:=h
 cases rx
 obtain⟨t,rfl⟩:=ry
 obtain⟨aq,r,pl,hz⟩:=I.tuple hq
 obtain⟨j,h1,h2,h3,h4,h5⟩:=BO he
 obtain⟨w,ew,lR⟩:=r.get h2
 have hl:=r.length
 have hn:=uD
 have fin:EP X pins σ Q w s:=⟨z,H,I,lR,q⟩
 exact subscriptTail_builtinR (x:=w) pl.typeIs slot_tuple_getitem.lookup
  (getItem_tuple (j:=j) (Q:=fun r s'=>r=w/\EP X pins σ Q r s') pl (by omega) (by omega) (by rw[Qk,<- hl];exact h1) (by simpa using ew) ⟨rfl,fin⟩) hs
theorem Pq:pe X Gj:=by
 intro value slice pins s σ H x y v u Q I rx ry h hs
 obtain⟨z,i,c,rfl,rfl,hz,he,q⟩:=h
 obtain⟨t,rfl⟩:=rx
 obtain⟨t',rfl⟩:=ry
 obtain⟨j,h1,h2,h3,h4,h5⟩:=BO he
 have hl:z.cps.toList.length=z.length:=by simp[Str.length]
 rw[hl]at h1 h4 h5
 have hn:=uD
 exact tail_any (typeIs_str s z t) slot_str_getitem.lookup (getItem_str (c:=c) (by
  have e1:decide (i < -(2 ^ 63:Int))=false:=QJ (by omega)
  have e2:decide (i ≥ 2 ^ 63)=false:=QJ (by omega)
  rw[e1,e2,Bool.or_false]) (by rw[h1];simpa using h2) ⟨.str ⟨#[c]⟩,H,I.tok _,⟨_,rfl⟩,q⟩) hs
def Pr (K:PySem.W.Frag):R2:=fun x y H Q=>Gh K x y H Q\/Gi K x y H Q\/Gj x y H Q
theorem vX:pe X (Pr X.K):=Po.or (Pp.or Pq)
theorem Pu(aq:List Value)(n j:Nat)(u:Value):Obj.mapSeq (·.setIfInBounds j u) { cls:=.type "list",data:=.seq aq.toArray n }={ cls:=.type "list",data:=.seq (aq.set j u).toArray n }:=by
 simp[Obj.mapSeq]
theorem Inv.lst{pins:List (Addr×Obj)}{σ:St}{H:Hp}{s:Shared}{p:Addr}{xs:List V}(I:Inv X pins σ H s)(h:H p=some (.lst xs)) :
  ∃ (aq:List Value) (n:Nat),a_ xs aq/\s.heap.get? p=some { cls:=.type "list",data:=.seq aq.toArray n }/\xs.length<=sizeLine:=by
 obtain⟨z,aq,n,r,e⟩:=I.az p _ h
 exact⟨aq,n,r,e,z⟩
theorem Inv.sE{p:Addr}{xs ys:List V}{aq its':List Value}{n n':Nat}{f:Obj->Obj}(I:Inv X pins σ H s)(h:H p=some (.lst xs))
  (ho:s.heap.get? p=some { cls:=.type "list",data:=.seq aq.toArray n }) (hf:f { cls:=.type "list",data:=.seq aq.toArray n }={ cls:=.type "list",data:=.seq its'.toArray n' }) (r:a_ ys its') (hz:ys.length<=sizeLine) (t:Nat) :
  Inv X pins σ (upd H p (.lst ys)) { s with heap:=s.heap.update p f,toks:=t }:=by
 have e:(s.heap.update p f).get? p=some { cls:=.type "list",data:=.seq its'.toArray n' }:=by
  rw[Jy f ho (by rw[hf]<;>rfl),hf]
 refine I.write (x:=p) (e:=p) (by rw[h];trivial) (.inl rfl) (fun b u hb q=>(QY _ _ (ZR hb)).trans q) ⟨_,e⟩ ?_
 exact⟨hz,its',n',r,e⟩
def Pw:V->V->V->Hp->(Hp->Prop)->Prop:=fun o i v H Q=>∃ p xs k j,o=.ref p/\i=.int k/\H p=some (.lst xs)/\jj xs.length k=some j/\Q (upd H p (.lst (xs.set j v)))
theorem Px:FI X Pw:=by
 intro pins s σ H o i v ov iv u Q I ro ri rv h
 obtain⟨p,xs,k,j,rfl,rfl,hp,hj,q⟩:=h
 cases ro
 obtain⟨t,rfl⟩:=ri
 obtain⟨aq,n,r,ho,hz⟩:=I.lst hp
 obtain⟨h1,h2,h3,h4⟩:=BN hj
 have hl:=r.length
 have hn:=uD
 have I':Inv X pins σ (upd H p (.lst (xs.set j v))) { s with heap:=s.heap.update p (Obj.mapSeq (·.setIfInBounds j u)) }:=
  I.sE hp ho (Pu aq n j u) (r.set rv j) (by rw[Qu];exact hz) s.toks
 by_cases h0:0<=k
 ·have hk:k.toNat=j:=by
   rw[seqIndex_of h0 h4]at h1
   exact Qt h1
  exact PySem.W.ki_setAt ho h0 (by omega) (by rw[Qk,<- hl];exact h4) (by rw[hk];exact⟨_,I',q⟩)
 ·have hk:(k+(aq.toArray.size:Int)).toNat=j:=by
   rw[seqIndex_neg (by omega) h3]at h1
   rw[Qk,<- hl]
   exact Qt h1
  exact PySem.W.ki_setBack ho (by omega) (by rw[Qk,<- hl];exact h3) (by omega) (by rw[hk];exact⟨_,I',q⟩)
theorem Py(lo hi:Option Int)(n:Nat):(sliceBounds lo hi none n).1=((HT.bo n 0 lo:Nat):Int)/\(sliceBounds lo hi none n).2.1=((HT.bo n n hi:Nat):Int)/\(sliceBounds lo hi none n).2.2=1:=by
 refine⟨?_,?_,rfl⟩
 ·cases lo with
  | none=>simp[sliceBounds,HT.bo]
  | some i=>
   simp only[sliceBounds,HT.bo,Option.getD_none,show(1:Int) > 0 by decide,Z9]
   by_cases h:i<0
   ·simp only[h,Z9]<;>omega
   ·simp only[h,JF]<;>omega
 ·cases hi with
  | none=>simp[sliceBounds,HT.bo]
  | some i=>
   simp only[sliceBounds,HT.bo,Option.getD_none,show(1:Int) > 0 by decide,Z9]
   by_cases h:i<0
   ·simp only[h,Z9]<;>omega
   ·simp only[h,JF]<;>omega
theorem Pz(aq:List Value)(lo hi:Option Int):slicePick aq.toArray lo hi none=((aq.drop (HT.bo aq.length 0 lo)).take (HT.bo aq.length aq.length hi-HT.bo aq.length 0 lo)).toArray:=by
 obtain⟨h1,h2,h3⟩:=Py lo hi aq.toArray.size
 unfold slicePick
 rw[h1,h2,h3]
 simp only[sliceRange_one,pick_run,Qk]<;>rfl
def PB (K:PySem.W.Frag):V->Option Int->Option Int->Hp->VK->Prop:=fun x lo hi H Q=>∃ a xs,x=.ref a/\cL K H a xs/\∀ p,H p=none->Q (.ref p) (upd H p (.lst (qD xs lo hi)))
theorem j77:qC X (PB X.K):=by
 intro pins s σ H x v vl vu lo hi sl Q I rx hs pl pu h
 obtain⟨a,xs,rfl,hx,q⟩:=h
 cases rx
 obtain⟨aq,r,ht,hz⟩:=I.list hx
 have hlen:=r.length
 refine⟨"list",_,slot_list_getitem.lookup,ht.isList.typeIs,?_⟩
 refine wpAny_getItem_list_slice ht.isList hs pl pu .none (by simp) ?_ (by rw[Qk]<;>omega)
 rw[Pz,<- hlen]
 refine⟨.ref s.heap.objs.size,_,I.laid (t':=s.toks) (o:=.lst (qD xs lo hi)) (fun b ob q=>Qc _ q) (Qf _) ?_,rfl,q _ (I.az.fresh (Qf _))⟩
 exact⟨Qv (Gg xs lo hi) hz,_,0,(r.drop (HT.bo xs.length 0 lo)).take (HT.bo xs.length xs.length hi-HT.bo xs.length 0 lo),Qs _ rfl⟩
theorem BP:mJ X (.builtin "len") (fun xs H Q=>∃ p ys,xs=[.ref p]/\(cL X.K H p ys\/dO X.K H p ys)/\Q (.int ys.length) H):=by
 intro pins s σ H xs us Q I r h
 obtain⟨p,ys,rfl,hq,q⟩:=h
 obtain⟨u,rfl,rx⟩:=lN r
 cases rx
 have hn:=uD
 rcases hq with hq|hq
 ·obtain⟨aq,r',pl,hz⟩:=I.list hq
  have hlen:=r'.length
  exact Calls.call_len_list pl.isList (by simp only[Qk]<;>omega) ⟨.int ys.length,H,I.tok _,⟨s.toks+1,by rw[Qk,hlen]⟩,q⟩
 ·obtain⟨aq,r',pl,hz⟩:=I.tuple hq
  have hlen:=r'.length
  exact len_tuple pl (by simp only[Qk]<;>omega) ⟨.int ys.length,H,I.tok _,⟨s.toks+1,by rw[Qk,hlen]⟩,q⟩
theorem PC:mJ X (.type "list") (fun xs H Q=>∃ p ys,xs=[.ref p]/\(cL X.K H p ys\/dO X.K H p ys)/\∀ l,H l=none->Q (.ref l) (upd H l (.lst ys))):=by
 intro pins s σ H xs us Q I r h
 obtain⟨p,ys,rfl,hq,q⟩:=h
 obtain⟨u,rfl,rx⟩:=lN r
 cases rx
 have fin:∀ (aq:List Value),a_ ys aq->ys.length<=sizeLine->∀ (h':Heap) (c':Nat),(∀ b o',s.heap.get? b=some o'->h'.get? b=some o')->
   h'.get? s.heap.objs.size=some { cls:=.type "list",dict:=none,data:=.seq aq.toArray c',slots:=#[] }->EP X pins σ Q (.ref s.heap.objs.size) { s with heap:=h' }:=fun aq r' hz h' c' kp e=>
  ⟨.ref s.heap.objs.size,_,I.laid (t':=s.toks) kp (Qf _) (show cR X.prog X.w _ h' _ (.lst ys)from⟨hz,aq,c',r',e⟩),rfl,q _ (I.az.fresh (Qf _))⟩
 rcases hq with hq|hq
 ·obtain⟨aq,r',pl,hz⟩:=I.list hq
  have hlen:=r'.length
  obtain⟨o,ho,hc,n,hd⟩:=pl.isList
  exact call_list_seq p (.inl rfl) ho hc hd (fun h' c' kp e=>fin aq r' hz h' c' kp e) (by simp only[Qk]<;>omega)
 ·obtain⟨aq,r',pl,hz⟩:=I.tuple hq
  have hlen:=r'.length
  obtain⟨o,ho,hc,n,hd⟩:=pl
  exact call_list_seq p (.inr rfl) ho hc hd (fun h' c' kp e=>fin aq r' hz h' c' kp e) (by simp only[Qk]<;>omega)
theorem Gk:mJ X (.type "tuple") (fun xs H Q=>∃ p ys,xs=[.ref p]/\((cL X.K H p ys/\∀ l,H l=none->Q (.ref l) (upd H l (.tup ys)))\/(dO X.K H p ys/\Q (.ref p) H))):=by
 intro pins s σ H xs us Q I r h
 obtain⟨p,ys,rfl,h⟩:=h
 obtain⟨u,rfl,rx⟩:=lN r
 cases rx
 rcases h with⟨hq,q⟩|⟨hq,q⟩
 ·obtain⟨aq,r',pl,hz⟩:=I.list hq
  have hlen:=r'.length
  refine call_tuple_list pl.isList (fun h' kp=>?_) (by simp only[Qk]<;>omega)
  have I1:Inv X pins σ H { s with heap:=h' }:=I.kept (t':=s.toks) kp
  have I2:Inv X pins σ (upd H h'.objs.size (.tup ys)) { s with heap:=h'.push { cls:=.type "tuple",data:=.seq aq.toArray } }:=
   I1.laid (t':=s.toks) (fun b o e=>Qc _ e) (Qf _) (show cR X.prog X.w _ _ _ (.tup ys)from⟨hz,aq,r',m9.new _ _⟩)
  exact⟨.ref h'.objs.size,_,I2,rfl,q _ (I1.az.fresh (Qf _))⟩
 ·obtain⟨aq,r',pl,hz⟩:=I.tuple hq
  exact call_tuple_same pl ⟨.ref p,H,I,rfl,q⟩
def Gm (K:PySem.W.Frag)(T:String)(x:V)(H:Hp):Prop:=match x with
 | .str _=>T = "str"
 | .int _=>T = "int"
 | .ref p=>(T = "list" /\ ∃ xs,cL K H p xs)\/(T = "tuple" /\ ((∃ o,K.lookup p=some o/\o.cls=.type "tuple" /\ o.dict=none)\/∃ xs,H p=some (.tup xs))) \/
   (T = "dict" /\ ((∃ ai,H p=some (.dK ai))\/∃ ai,H p=some (.dT ai)))\/(T = "set" /\ ∃ S n,H p=some (.set S n))
 | _=>False
theorem PF{T:String}{x:V}{v:Value}(I:Inv X pins σ H s)(r:bh x v)(ty:Gm X.K T x H) :
  s.TypeIs v T/\∀ a,v=.ref a->∃ ob,s.heap.get? a=some ob/\ob.dict=none:=by
 cases x with
 | str z=>
  obtain⟨t,rfl⟩:=r
  cases (show T = "str" from ty)
  exact⟨typeIs_str s z t,fun _ e=>nomatch e⟩
 | int i=>
  obtain⟨t,rfl⟩:=r
  cases (show T = "int" from ty)
  exact⟨typeIs_int s i t,fun _ e=>nomatch e⟩
 | ref p=>
  cases r
  rcases ty with⟨rfl,xs,hq⟩|⟨rfl,⟨o,hk,hc,hd⟩|⟨xs,hk⟩⟩|⟨rfl,hk⟩|⟨rfl,S,n,hk⟩
  ·obtain⟨aq,_,pl,_⟩:=I.list hq
   refine⟨pl.isList.typeIs,fun a e=>?_⟩
   cases e
   obtain⟨o,n,e,c,hd,_⟩:=pl
   exact⟨o,e,hd⟩
  ·refine⟨⟨o,I.dC p o hk,hc⟩,fun a e=>?_⟩
   cases e
   exact⟨o,I.dC _ o hk,hd⟩
  ·obtain⟨_,aq,_,o,e,c,_,hd⟩:=(show cR X.prog X.w H s.heap p (.tup xs)from I.az p _ hk)
   refine⟨⟨o,e,c⟩,fun a e2=>?_⟩
   cases e2
   exact⟨o,e,hd⟩
  ·have z:∃ o,s.heap.get? p=some o/\o.ExactDict:=by
    rcases hk with⟨ai,hk⟩|⟨ai,hk⟩
    ·obtain⟨_,_,_,_,o,_,_,e,ex,_⟩:=I.az p _ hk
     exact⟨o,e,ex⟩
    ·obtain⟨_,_,_,_,o,_,_,e,ex,_⟩:=I.az p _ hk
     exact⟨o,e,ex⟩
   obtain⟨o,e,ex⟩:=z
   refine⟨⟨o,e,ex.1⟩,fun a e2=>?_⟩
   cases e2
   exact⟨o,e,ex.2.1⟩
  ·obtain⟨o,_,_,_,e,ex,_⟩:=I.az p _ hk
   refine⟨⟨o,e,ex.1⟩,fun a e2=>?_⟩
   cases e2
   exact⟨o,e,ex.2.1⟩
 | _=>exact False.elim ty
def PH (K:PySem.W.Frag)(T:String)(r:V->List V->Hp->VK->Prop)(to:TE)(t:TA):TE:=fun σ H Q=>to σ H fun x H1=>Gm K T x H1/\t σ H1 fun xs H2=>r x xs H2 Q
variable {o e:Expr}{es:List Expr}{to:TE}{t:TA}{name:Str}{apos ar:Pos}{T id:String}{r:V->List V->Hp->VK->Prop}
theorem uG(pa:PlainAttrs T)(slot:Slot T name id)(pf:typeOf (.builtin id)=pure (.type "method_descriptor"))(hm:za X id r)(ho:PE X o to)(ha:PA X (e::es) t)
  (cy:attributeBase o name X.env (eval o X.env)=eval o X.env:=by rfl)
  (eu:((backTo ar (starEach (e::es) X.env)).all (fun x=>!x.1)&&(backToKw ar (keywordEach [] X.env)).all (fun x=>x.1.isSome)
    && decide ((e::es).length+([]:List Keyword).length+(if([]:List Keyword).isEmpty then 0 else 1)<30))=true:=by rfl)
  (cz:(apos.endLine==ar.line)=true:=by rfl) (hs:starEach (e::es) X.env=(false,eval e X.env)::starEach es X.env:=by rfl) (bT:(backTo ar (starEach es X.env)).any (·.1)=false:=by rfl) :
  PE X (.Call (.Attribute o name apos) (e::es) [] ar) (PH X.K T r to t):=by
 intro pins s σ H Q I h
 refine wpAny_Call_method_late cy eu cz rfl (aU (ho pins s σ H _ I h) fun v s1 aj=>?_)
 obtain⟨x,H1,I1,r1,ty,q1⟩:=aj
 obtain⟨h1,h2⟩:=PF I1 r1 ty
 refine⟨T,id,pa,slot,pf,h1,h2,?_⟩
 have hA:=ha ar pins s1 σ H1 _ I1 q1
 rw[hs]at hA ⊢
 refine Calls.callWith_builtin (by show(false||(backTo ar (starEach es X.env)).any (·.1))=false;rw[bT]<;>rfl) (JG ?_)
 exact aU hA fun us s2 ⟨vs,H2,I2,r2,q2⟩=>hm pins s2 σ H2 x vs v us Q I2 r1 r2 q2
end
def BQ (X:Cx)(id:String)(r:V->List V->Hp->VK->Prop):Prop:=
 ∀ (pins:List (Addr×Obj)) (s:Shared) (σ:St) (H:Hp) (x:V) (xs:List V) (v:Value) (us:List Value) (Q:VK),Inv X pins σ H s->bh x v->a_ xs us->r x xs H Q->
  wpAny (model X.prog X.w) X.A (call (.builtin id) (v::us)) (EP X pins σ Q) X.xe s
theorem a_.one:∀ {x:V} {us:List Value},a_ [x] us->∃ u,us=[u]/\bh x u
 | _,_,.cons r .nil=>⟨_,rfl,r⟩
theorem a_.eraseIdx:∀ {xs:List V} {us:List Value} (i:Nat),a_ xs us->a_ (xs.eraseIdx i) (us.eraseIdx i)
 | _,_,_,.nil=>.nil
 | _,_,0,.cons _ t=>t
 | _,_,i+1,.cons r t=>.cons r (a_.eraseIdx i t)
theorem a_.rep(h:a_ xs us):∀ k:Nat,a_ (List.replicate k xs).flatten (List.replicate k us).flatten
 | 0=>.nil
 | k+1=>by
  rw[Zu,Zu,ZN,ZN]
  exact a_.append h (a_.rep h k)
theorem Gn{α:Type}:∀ (l:List α) (i:Nat),(l.eraseIdx i).length<=l.length
 | [],_=>Qf _
 | _::_,0=>Z6 _
 | _::r,i+1=>Yo (Gn r i)
theorem Gp(aq:List Value):∀ (k:Nat) (acc:List Value),
  List.foldl (fun x1 x2=>x1++x2) acc.toArray (List.replicate k aq.toArray)=(acc++(List.replicate k aq).flatten).toArray
 | 0,acc=>by simp
 | k+1,acc=>by
  have e:acc.toArray++aq.toArray=(acc++aq).toArray:=by simp
  have e2:(acc++aq)++(List.replicate k aq).flatten=acc++(List.replicate (k+1) aq).flatten:=by
   rw[Zu,ZN,Jr]
  rw[<- e2,<- Gp aq k (acc++aq),<- e,Zu,List.foldl_cons]
section
variable {X:Cx}{pins:List (Addr×Obj)}{σ:St}{H:Hp}{s:Shared}{l b:Addr}{xs ys zs:List V}
theorem Inv.sF{aq its':List Value}{n:Nat}{f:Array Value->Array Value}{t':Nat}(I:Inv X pins σ H s)(hH:H l=some (.lst xs))
  (e:s.heap.get? l=some { cls:=.type "list",data:=.seq aq.toArray n }) (hf:f aq.toArray=its'.toArray) (hv:a_ ys its') (hz:ys.length<=sizeLine) :
  Inv X pins σ (upd H l (.lst ys)) { s with heap:=s.heap.update l (Obj.mapSeq f),toks:=t' }:=by
 have q:=PySem.IsL.update e f
 rw[hf]at q
 refine I.write (x:=l) (e:=l) (by rw[hH];exact trivial) (.inl rfl) (fun b' u hb hu=>(QY s.heap (Obj.mapSeq f) (ZR hb)).trans hu) ⟨_,q⟩ ?_
 exact⟨hz,its',_,hv,q⟩
theorem Inv.vY{aq:List Value}{t':Nat}(I:Inv X pins σ H s)(hv:a_ ys aq)(hz:ys.length<=sizeLine) :
  Inv X pins σ (upd H s.heap.objs.size (.lst ys)) { s with heap:=s.heap.push { cls:=.type "list",data:=.seq aq.toArray },toks:=t' }:=
 I.laid (fun _ _ q=>Qc _ q) (Qf _) ⟨hz,aq,0,hv,Qs _ rfl⟩
theorem Inv.fresh(I:Inv X pins σ H s):H s.heap.objs.size=none:=I.az.fresh (Qf _)
theorem Inv.nu(I:Inv X pins σ H s)(hH:H l=some (.lst xs)):xs.length<=sizeLine/\∃ (aq:List Value) (n:Nat),a_ xs aq/\xs.length=aq.length/\s.heap.get? l=some { cls:=.type "list",data:=.seq aq.toArray n }:=by
 obtain⟨z,aq,n,r,e⟩:=I.az l _ hH
 exact⟨z,aq,n,r,r.length,e⟩
theorem Gq(h:n<=sizeLine):Builtin.List.listTooLong n=false:=by
 unfold Builtin.List.listTooLong
 exact QJ (by omega)
end
section
variable {X:Cx}
def PJ:V->List V->Hp->VK->Prop:=fun x vs H Q=>∃ l xs y,x=.ref l/\vs=[y]/\H l=some (.lst xs)/\xs.length<sizeLine/\Q .au (upd H l (.lst (xs++[y])))
theorem PL:BQ X "list.append" PJ:=by
 intro pins s σ H x vs v us Q I rx rv h
 obtain⟨l,xs,y,rfl,rfl,hH,hz,q⟩:=h
 cases rx
 obtain⟨u,rfl,ru⟩:=rv.one
 obtain⟨z,aq,n,r,hl,e⟩:=I.nu hH
 refine Jk F.slot_list_append ⟨_,e,rfl⟩ F.entry_list_append (F.args_list_append_2 _ _) (PySem.list_append l aq.toArray n u (by rw[Qk];omega)) ⟨e,?_⟩
 refine⟨.au,_,I.sF (its':=aq++[u]) hH e (by simp) (r.append (.cons ru .nil)) ?_,rfl,q⟩
 rw[Qo,List.length_singleton]
 omega
def PM:V->List V->Hp->VK->Prop:=fun x vs H Q=>∃ l b xs zs,x=.ref l/\vs=[.ref b]/\H l=some (.lst xs)/\H b=some (.lst zs)/\xs.length+zs.length<=sizeLine/\Q .au (upd H l (.lst (xs++zs)))
theorem PN:BQ X "list.extend" PM:=by
 intro pins s σ H x vs v us Q I rx rv h
 obtain⟨l,b,xs,zs,rfl,rfl,hH,hB,hz,q⟩:=h
 cases rx
 obtain⟨u,rfl,ru⟩:=rv.one
 cases ru
 obtain⟨z,aq,n,r,hl,e⟩:=I.nu hH
 obtain⟨z2,g8,n2,r2,Gr,e2⟩:=I.nu hB
 have hsz:aq.toArray.size+g8.toArray.size<=sizeLine:=by rw[Qk,Qk];omega
 have nv:¬ (!aq.toArray.isEmpty&&Builtin.List.listTooLong (aq.toArray.size+g8.toArray.size))=true:=by
  rw[Gq hsz,Bool.and_false]
  exact Zy
 refine Jk F.slot_list_extend ⟨_,e,rfl⟩ F.entry_list_extend (F.args_list_extend_2 _ _)
  (AutoSeq1.list_extend_list_list_0 l aq.toArray n b g8.toArray n2 nv (by rw[Qk];omega) (by omega)) ⟨e,e2,?_⟩
 refine⟨.au,_,I.sF (its':=aq++g8) hH e (by simp) (r.append r2) ?_,rfl,q⟩
 rw[Qo]
 omega
def PR:V->List V->Hp->VK->Prop:=fun x vs H Q=>∃ l xs i k y,x=.ref l/\vs=[.int i]/\H l=some (.lst xs) /\ -(2 ^ 63)<=i/\i<2 ^ 63/\seqIndex? i xs.length=some k/\xs[k]? = some y/\Q y (upd H l (.lst (xs.eraseIdx k)))
theorem PU:BQ X "list.pop" PR:=by
 intro pins s σ H x vs v us Q I rx rv h
 obtain⟨l,xs,i,k,y,rfl,rfl,hH,h1,h2,hk,hy,q⟩:=h
 cases rx
 obtain⟨u,rfl,ru⟩:=rv.one
 obtain⟨t,rfl⟩:=ru
 obtain⟨z,aq,n,r,hl,e⟩:=I.nu hH
 obtain⟨w,hw,lR⟩:=r.get hy
 refine Jk F.slot_list_pop ⟨_,e,rfl⟩ F.entry_list_pop (F.args_list_pop_2 _ _)
  (MeetsSeq.list_pop_at l aq.toArray n i t k w (fitsIndex_both h1 h2) (by rw[Qk,<- hl];exact hk) (by rw[<- Z1];exact hw) (by rw[Qk];omega)) ⟨e,?_⟩
 refine⟨y,_,I.sF (its':=aq.eraseIdx k) hH e ?_ (r.eraseIdx k) ?_,lR,q⟩
 ·show aq.toArray.eraseIdxIfInBounds k=(aq.eraseIdx k).toArray
  rw[List.eraseIdxIfInBounds_toArray]
 ·have:=Gn xs k
  omega
def PV:R2:=fun x y H Q=>∃ l k xs,x=.ref l/\y=.int k/\H l=some (.lst xs) /\ -(2 ^ 63)<=k/\k<2 ^ 63/\xs.length*k.toNat<=sizeLine /\
 ∀ p,H p=none->Q (.ref p) (upd H p (.lst (List.replicate k.toNat xs).flatten))
theorem PX{α:Type}(xs:List α)(k:Nat):(List.replicate k xs).flatten.length=k*xs.length:=by
 induction k with
 | zero=>simp
 | succ k ih=>rw[Zu,ZN,Qo,ih,YS,Nat.add_comm]
theorem PY:cN X (binaryOp .Mult) PV:=by
 intro pins s σ H x y v u Q I rx ry h
 obtain⟨l,k,xs,rfl,rfl,hH,h1,h2,hz,q⟩:=h
 cases rx
 obtain⟨t,rfl⟩:=ry
 obtain⟨z,aq,n,r,hl,e⟩:=I.nu hH
 have hlen:aq.toArray.size*k.toNat<=sizeLine:=by rw[Qk,<- hl];exact hz
 have ny:¬ aq.toArray.size*k.toNat > (2 ^ 63-1) / 8:=by
  have:(sizeLine:Nat)<=(2 ^ 63-1) / 8:=by decide
  omega
 have BR:¬ (!Builtin.List.listFitsIndex k)=true:=by
  rw[fitsIndex_both h1 h2]
  exact Zy
 have nv:¬ Builtin.List.listTooLong (aq.toArray.size*k.toNat)=true:=by
  rw[Gq hlen]
  exact Zy
 have ph:List.foldl (fun x1 x2=>x1++x2) #[] (List.replicate (if aq.toArray.isEmpty=true then 0 else k.toNat) aq.toArray)=(List.replicate k.toNat aq).flatten.toArray:=by
  have f0:∀ m:Nat,List.foldl (fun x1 x2=>x1++x2) #[] (List.replicate m aq.toArray)=(List.replicate m aq).flatten.toArray:=fun m=>by
   have:=Gp aq m []
   rw[List.nil_append]at this
   exact this
  rw[f0]
  cases aq with
  | nil=>simp
  | cons a r'=>rw[Qg (by simp)]
 refine wpAny_binaryOp_repeat_ref (T:="list") (U:="int") (by decide) ⟨_,e,rfl⟩ (fun s'=>typeIs_int s' k t) noFill_list_mul F.fills_int_mul F.slot_int_rmul repeat_list F.slot_int_index.lookup
  (Jk F.slot_int_rmul (typeIs_int s k t) F.entry_int_rmul (F.args_int_rmul_2 _ _) (int___rmul___int_list k t l aq.toArray n)
    ⟨e,rfl,⟨_,e,rfl⟩,Jk F.slot_list_mul ⟨_,e,rfl⟩ F.entry_list_mul (F.args_list_mul_2 _ _) (AutoListH.list___mul___list_int_3 l aq.toArray n k t BR ny nv) ⟨e,?_⟩⟩)
 rw[ph]
 exact⟨.ref _,_,I.vY (t':=s.toks) (r.rep k.toNat) (by rw[PX,Nat.mul_comm];exact hz),rfl,q _ I.fresh⟩
end
end L2
namespace Gs
open PySem PySem.W PySem.Calls PyProof.Rows
variable {P:Params}{h:Heap}{l:OpenLaw}{n:Nat}
theorem PZ:∀ (ns:List Int) (vs:List Value),WellAll P h vs (ns.map WData.int)->IntsAre vs ns:=by
 intro ns
 induction ns with
 | nil=>
  intro vs w
  rw[JQ]at w
  cases w
  exact .nil
 | cons n ns ih=>
  intro vs w
  rw[QR]at w
  cases w with
  | cons a b=>
   cases a
   exact .cons _ _ (ih _ b)
theorem P0(hn:l.most=some n){args:List WData}{vals:List Value}
  (pj:l.row.toRowW.claim.pre args=true) (BS:WellAll P h vals args) :
  ∃ a vs ns,vals=[Value.ref a]/\args=[WData.list (ns.map WData.int)]/\h.get? a=some { cls:=.type "list",data:=.seq vs.toArray }/\IntsAre vs ns/\ns.length<=n:=by
 have P1:WShape.hasAll [] args [.list .int]=true:=(pre_splitW pj).1
 have hc:l.pre.holds [] { args:=args }=true:=(pre_splitW pj).2
 obtain⟨d,r,rfl,h1,h2⟩:=hasAllW_cons P1
 obtain rfl:=hasAllW_nil h2
 obtain⟨xs,rfl,h3⟩:=hasW_list h1
 obtain⟨ns,rfl⟩:=items_int h3
 have hlen:ns.length<=n:=by
  unfold OpenLaw.pre at hc
  have h4:(WTm.not (.lt (.lit (.int (n:Int))) (.len (.arg 0)))).holds [] { args:=[.list (ns.map .int)] }=true:=by
   have h4:=(holds_andW hc).1
   rw[hn]at h4
   exact h4
  have h5:=condW_of h4 (w_not (w_lt w_lit (w_len_list (w_arg rfl))))
  rw[Qm]at h5
  refine Yp fun q=>?_
  have q':(n:Int)<((ns.length:Nat):Int):=by omega
  first
   | (rw[QF q']at h5;exact absurd h5 (by decide))
   | (simp at h5;omega)
 cases BS with
 | cons w1 w2=>
  cases w2
  cases w1 with
  | list ho j_=>exact⟨_,_,ns,rfl,rfl,ho,PZ ns _ j_,hlen⟩
theorem P2(l:OpenLaw)(args:List WData):l.row.toRowW.claim.post args (.bool true) args=true:=
 postW_of (r:=l.row.toRowW) (X:=(true==true))
  (show WShape.has [] (.bool true) .bool=true by first|rfl|decide|simp[WShape.has,WShape.arms,WShape.armsAll])
  (show(WTm.eq .res (.lit (.bool true))).value [] { args:=args,res:=some (.bool true),after:=args }=some (.bool (true==true))from w_eq_bool (w_res rfl) w_lit) rfl
theorem P4{q:Program}{loose:List Str}{XP:(Str->Option Value)->Heap->Prop}{YP:World->Heap->Prop}{d:DefRec}
  (hn:l.most=some n) (pq:d.params.defaults=[])
  (call:∀ (w:World) (ax aL:Shared) (mg mb:Str->Option Value) (fa:Addr) (o:Obj) (pm cd doc:Value) (a:Addr) (vs:List Value) (ns:List Int),
    Ground q loose [] XP w ax mg mb aL.heap->YP w aL.heap->
    aL.heap.get? fa=some o->o.data=.func (docDef d.name d.params d.body d.scope pm cd doc)->aL.heap.CodeRec cd d.name->mg d.name=some (.ref fa)->
    aL.heap.get? a=some { cls:=.type "list",data:=.seq vs.toArray }->IntsAre vs ns->ns.length<=n->aL.gens = #[]->
    codeAny (model l.prog w) callerA (.call (.ref fa) ⟨[.ref a],[]⟩) (fun r s'=>r=.ok (.ret (.bool true))/\OldK aL.heap s'.heap/\s'.os=aL.os/\AllBare s'.gens) aL) :
  WalkO q loose XP YP l.row.toRowW d [] (fun f vs=>PySem.call f vs):=by
 intro w ax aL mg mb G Y fa o pm cd doc dV kV ho hd fR hD hmg hg args vals as pj P5 hrd BS hlo
 obtain rfl:dV=.none:=Dflts.none hD pq
 obtain rfl:kV=.none:=Dflts.noKw hD
 obtain⟨a,vs,ns,rfl,rfl,sG,hints,hlen⟩:=P0 hn pj BS
 refine enter_call (Z8 (call w ax aL mg mb fa o pm cd doc a vs ns G Y ho (fd_plain hd) fR hmg sG hints hlen hg) fun r s' hq=>?_)
 obtain⟨rfl,h2,h3,h4⟩:=hq
 exact⟨.inl ⟨.bool true,.bool true,[],rfl,fun _=>rfl,.bool true,P2 l _,fun _=>⟨List.Pairwise.nil,fun _ hm=>(nomatch hm)⟩⟩,h2,h3,h4⟩
end Gs
namespace L2
open PySem PySem.Spec PyProof.Rows
theorem zb:∀ {vs:List Value} {ns:List Int},IntsAre vs ns->a_ (ns.map V.int) vs
 | _,_,.nil=>.nil
 | _,_,.cons n t h=>.cons ⟨t,rfl⟩ (zb h)
end L2
namespace L2
open PySem PySem.Spec PyProof.Rows
end L2
namespace L2
open PySem PySem.Spec PyProof.Rows
variable {A:Around}{C a c f:Addr}{H H':Hp}{N' ps:List Str}{P prog:Program}{Q:Value->Shared->Prop}{X:Cx}{cells:List (Str×Addr)}{elt iter:Expr}{env:Env}{fd:FuncData}{h h':Heap}{i lo n:Nat}{ifs:List Expr}{ai:List (List Key×V)}{o:Option V}{pins:List (Addr×Obj)}{pos:Pos}{qual x y:Str}{s:Shared}{scope:Scope}{st:Stmt}{qE:List (TE×TE)}{u:Value}{w:World}{xs:List (List Key×Addr×Value)}{σ:St}
def gu (s:Stmt)(j:Nat):Stmt:=match s with
 | .ClassDef _ _ _ body _ _ _ _ _ _ _=>body.getD j (.Pass ⟨0,0,0,0⟩)
 | _=>.Pass ⟨0,0,0,0⟩
def oC (s:Stmt):Arguments:=match s with
 | .FunctionDef _ a _ _ _ _ _ _ _ _=>a
 | _=>{ posonlyargs:=[],args:=[],vararg:=none,kwonlyargs:=[],kw_defaults:=[],kwarg:=none,defaults:=[] }
def eP (s:Stmt):List Stmt:=match s with
 | .FunctionDef _ _ b _ _ _ _ _ _ _=>b
 | _=>[]
def aJ (s:Stmt):Scope:=match s with
 | .FunctionDef _ _ _ _ _ _ sc _ _ _=>sc
 | _=>{ kind:=.function,names:=[],isGenerator:=false,isCoroutine:=false }
abbrev dh:lP:=fun _ _ _ _ _ _=>False
abbrev E0:XK:=fun _ _ _=>False
theorem uH:qA dh X E0:=fun _ _ _ _ _ _ _ h=>h.elim
structure kY (K:PySem.W.Frag) (x qual:Str) (st:Stmt) (f:Addr) (fd:FuncData):Prop where
 ex:∃ (oc:Value) (od:Option Addr) (kV doc pm:Value) (an:Option Addr) (aN ct:Value) (nr:Array (Option Value)),
  fd=PySem.W.fnOf x qual (oC st) (eP st) (aJ st) .none kV doc pm an aN ct/\K.lookup f=some ⟨oc,od,.func fd,nr⟩/\PySem.W.codeIn K aN qual=true
 kp:PySem.W.keepIn K (.ref f)=true
section
variable {P:Program}{w:World}{K:PySem.W.Frag}{mg:Str->Option Value}{base:Heap}
theorem kY.ok{N:List Str}{k:Nat}{sp:Sp}(F:kY K x qual st f fd)(S:af N ps (aJ st))(len:∀ vs H Q E,sp vs H Q E->vs.length=ps.length)
  (dF:∀ (aN:Value) (A:Around) (outer:List Env) (s:Shared) (H:Hp) (vs:List V) (Q:VK) (E:XK),aw k (A.deeper (envOfC qual (aJ st) s.heap.objs.size f aN))->sp vs H Q E->
    ∃ t,fZ (fw dh P w K mg base N qual (aJ st) f aN A outer s H E).cU (eP st) t/\t { nx:=fun _ H'=>Q .au H',rt:=Q } (start N vs) H):bW P w K mg base dh (k+1) f fd ps sp:=by
 obtain⟨oc,od,kV,doc,pm,an,aN,ct,nr,rfl,lk,fR⟩:=F.ex
 refine y8 lk fR S len fun A outer s H vs Q E hr fz=>?_
 obtain⟨t,h,q⟩:=dF aN A outer s H vs Q E hr fz
 exact⟨t,h.cU,q⟩
theorem kY.binds(F:kY K x qual st f fd)
  (h:∀ (kV doc pm:Value) (an:Option Addr) (aN ct:Value) (us:List Value),us.length=ps.length->bindArgs (PySem.W.fnOf x qual (oC st) (eP st) (aJ st) .none kV doc pm an aN ct) ⟨us,[]⟩=pure (ps.zip us)):iL K fd ps []:=by
 obtain⟨oc,od,kV,doc,pm,an,aN,ct,nr,rfl,lk,fR⟩:=F.ex
 exact .all (h kV doc pm an aN ct)
theorem BU{oc:Value}{od an:Option Addr}{nr:Array (Option Value)}{kV doc pm aN ct:Value}(l:K.lookup f=some ⟨oc,od,.func (PySem.W.fnOf x qual (oC st) (eP st) (aJ st) .none kV doc pm an aN ct),nr⟩)
  (c:PySem.W.codeIn K aN qual=true) (k:PySem.W.keepIn K (.ref f)=true):kY K x qual st f (PySem.W.fnOf x qual (oC st) (eP st) (aJ st) .none kV doc pm an aN ct):=⟨⟨oc,od,kV,doc,pm,an,aN,ct,nr,rfl,l,c⟩,k⟩
end
theorem P6{k:Nat}(hr:aw k A):A.units+1<cLine:=Nat.lt_of_le_of_lt (Nat.add_le_add_left (by decide:1<=64) _) hr.units
theorem sH(h:n<=1000):n<sizeLine:=Nat.lt_of_le_of_lt h (by decide)
section
variable {X:Cx}
theorem pv(i:Nat){pos:Pos}(hN:X.N[i]? = some x:=by rfl)(hv:uC X.env.scope x:=by first|exact Or.inl rfl|exact Or.inr (Or.inl rfl)|exact Or.inr (Or.inr rfl))(hd:(x==("__debug__":Str))=false:=by decide)
  (fR:(x==("__classdict__":Str))=false:=by decide):PE X (.Name x pos) (eh i):=NC hN hv hd fR
end
section
variable {κ:Type}[DecidableEq κ]
def fA (ai:List (κ×V))(k:κ):Option V:=(ai.find? fun kv=>decide (kv.1=k)).map (·.2)
def jk (ai:List (κ×V))(k:κ)(v:V):List (κ×V):=
 if(ai.any fun kv=>decide (kv.1=k))=true then ai.map (fun kv=>if kv.1=k then(kv.1,v)else kv)else ai++[(k,v)]
theorem qF{p:κ×V}{r:List (κ×V)}{k:κ}(e:p.1=k):fA (p::r) k=some p.2:=by simp[fA,ZX,e]
theorem qG{p:κ×V}{r:List (κ×V)}{k:κ}(e:¬ p.1=k):fA (p::r) k=fA r k:=by simp[fA,ZX,e]
theorem zc(k:κ):∀ ai:List (κ×V),(ai.any fun kv=>decide (kv.1=k))=(fA ai k).isSome
 | []=>rfl
 | p::r=>by
  rw[YO]
  by_cases e:p.1=k
  ·simp only[qF e,QF e,Bool.true_or,Option.isSome_some]
  ·rw[qG e,QJ e,Bool.false_or];exact zc k r
theorem Gu(k j:κ)(y:V):∀ ai:List (κ×V),fA ai k=none->fA (ai++[(k,y)]) j=if j=k then some y else fA ai j
 | [],_=>by
  by_cases e:k=j
  ·rw[Qe e.symm];exact qF (p:=(k,y)) e
  ·rw[Qg (fun z=>e z.symm)];exact qG (p:=(k,y)) e
 | p::r,hn=>by
  rw[Yq]
  have hk:¬ p.1=k:=fun z=>by rw[qF z]at hn;cases hn
  rw[qG hk]at hn
  have ih:=Gu k j y r hn
  by_cases e:p.1=j
  ·rw[qF e,qF e,Qg (fun z=>hk (e.trans z))]
  ·rw[qG e,qG e,ih]
theorem BV(ai:List (κ×V))(k:κ)(v:V):(jk ai k v).length<=ai.length+1:=by
 unfold jk
 split
 ·rw[Qm];omega
 ·rw[Qo,QL,YC];omega
theorem P7{ai:List (κ×V)}{k:κ}(v:V)(h:fA ai k=none):jk ai k v=ai++[(k,v)]:=by
 unfold jk
 rw[zc,h]
 exact Qg (by decide)
theorem jg.lS{u:Option Value}(r:jg o u):o.isSome=u.isSome:=by
 cases o with
 | none=>cases u with
  | none=>rfl
  | some _=>exact(show False from r).elim
 | some _=>cases u with
  | none=>exact(show False from r).elim
  | some _=>rfl
theorem jg.getD{u:Option Value}{d:V}{d':Value}(r:jg o u)(rd:bh d d'):bh (o.getD d) (u.getD d'):=by
 cases o with
 | none=>cases u with
  | none=>exact rd
  | some _=>exact(show False from r).elim
 | some _=>cases u with
  | none=>exact(show False from r).elim
  | some _=>exact r
theorem KV.val{ai:List (κ×V)}{vs:List (κ×Value)}(r:KV ai vs)(k:κ):jg (fA ai k) (valueAt vs k):=by
 unfold KV at r
 induction r with
 | nil=>exact True.intro
 | @cons p q ps qs h t ih=>
  obtain⟨h1,h2⟩:=h
  by_cases e:p.1=k
  ·have e':q.1=k:=h1.symm.trans e
   have b:valueAt (q::qs) k=some q.2:=by simp[valueAt,ZX,e']
   rw[qF e,b];exact h2
  ·have e':¬ q.1=k:=fun z=>e (h1.trans z)
   have b:valueAt (q::qs) k=valueAt qs k:=by simp[valueAt,ZX,e']
   rw[qG e,b];exact ih
theorem KV.any{ai:List (κ×V)}{vs:List (κ×Value)}(r:KV ai vs)(k:κ):(ai.any fun kv=>decide (kv.1=k))=vs.any fun kv=>decide (kv.1=k):=by
 unfold KV at r
 induction r with
 | nil=>rfl
 | cons h t ih=>rw[YO,YO,ih,h.1]
theorem KV.sI{ai:List (κ×V)}{vs:List (κ×Value)}(r:KV ai vs)(k:κ){y:V}(ry:bh y u) :
  KV (ai.map fun kv=>if kv.1=k then(kv.1,y)else kv) (vs.map fun kv=>if kv.1=k then(kv.1,u)else kv):=by
 unfold KV at r ⊢
 induction r with
 | nil=>exact .nil
 | @cons p q ps qs h t ih=>
  rw[QR,QR]
  refine .cons ?_ ih
  obtain⟨h1,h2⟩:=h
  by_cases e:p.1=k
  ·rw[Qe e,Qe (h1.symm.trans e)];exact⟨h1,ry⟩
  ·rw[Qg e,Qg (fun z=>e (h1.trans z))];exact⟨h1,h2⟩
theorem KV.put{ai:List (κ×V)}{vs:List (κ×Value)}(r:KV ai vs)(k:κ){y:V}(ry:bh y u):KV (jk ai k y) (stored vs k u):=by
 unfold jk stored
 rw[r.any k]
 by_cases e:(vs.any fun kv=>decide (kv.1=k))=true
 ·rw[Qe e,Qe e];exact r.sI k ry
 ·rw[Qg e,Qg e];exact Paired.snoc r ⟨rfl,ry⟩
theorem KV.length{ai:List (κ×V)}{vs:List (κ×Value)}(r:KV ai vs):ai.length=vs.length:=Yj r
end
theorem vZ{k:Key}(r:bh (kV k) u):(jf P w).is k u=true:=by
 cases k with
 | inl i=>obtain⟨t,e⟩:=(show ∃ t,u=Value.int i t from r);subst e;exact Nt P w i t
 | inr x=>obtain⟨t,e⟩:=(show ∃ t,u=Value.str x t from r);subst e;exact Nu P w x t
theorem Gv:∀ {ks:List Key} {us:List Value},a_ (ks.map kV) us->ItemsAre (jf P w) ks us
 | [],_,r=>by rw[JQ]at r;cases r;exact .nil
 | k::ks,_,r=>by
  rw[QR]at r
  cases r with
  | cons h t=>exact .cons (vZ h) (Gv t)
abbrev KT (H:Hp):List (List Key×V)->List (List Key×Addr×Value)->Prop:=Paired fun p q=>p.1=q.1/\H q.2.1=some (.tup (p.1.map kV))/\bh p.2 q.2.2
theorem KT.val(r:KT H ai xs)(k:List Key):jg (fA ai k) ((atKey xs k).map (·.2)):=by
 induction r with
 | nil=>exact True.intro
 | @cons p q ps qs h t ih=>
  obtain⟨h1,_,h2⟩:=h
  by_cases e:p.1=k
  ·have e':q.1=k:=h1.symm.trans e
   have b:atKey (q::qs) k=some q.2:=by simp[atKey,ZX,e']
   rw[qF e,b];exact h2
  ·have e':¬ q.1=k:=fun z=>e (h1.trans z)
   have b:atKey (q::qs) k=atKey qs k:=by simp[atKey,ZX,e']
   rw[qG e,b];exact ih
theorem KT.sI(r:KT H ai xs)(k:List Key){y:V}(ry:bh y u) :
  KT H (ai.map fun kv=>if kv.1=k then(kv.1,y)else kv) (xs.map (putAt k u)):=by
 induction r with
 | nil=>exact .nil
 | @cons p q ps qs h t ih=>
  rw[QR,QR]
  refine .cons ?_ ih
  obtain⟨h1,h2,h3⟩:=h
  unfold putAt
  by_cases e:p.1=k
  ·rw[Qe e,Qe (h1.symm.trans e)];exact⟨h1,h2,ry⟩
  ·rw[Qg e,Qg (fun z=>e (h1.trans z))];exact⟨h1,h2,h3⟩
theorem KT.put(r:KT H ai xs)(k:List Key){b:Addr}{y:V}(hb:H b=some (.tup (k.map kV)))(ry:bh y u) :
  KT H (jk ai k y) (storedH xs k b u):=by
 have e:(ai.any fun kv=>decide (kv.1=k))=(atKey xs k).isSome:=by
  rw[zc,(r.val k).lS,Option.isSome_map]
 unfold jk storedH
 rw[e]
 by_cases q:(atKey xs k).isSome=true
 ·rw[Qe q,Qe q];exact r.sI k ry
 ·rw[Qg q,Qg q];exact Paired.snoc r ⟨rfl,hb,ry⟩
theorem KT.keeps(r:KT H ai xs)(ht:∀ b ys,H b=some (.tup ys)->H' b=some (.tup ys)):KT H' ai xs:=
 Paired.rW r fun _ _ z=>⟨z.1,ht _ _ z.2.1,z.2.2⟩
section
variable {P:Program}{w:World}{H:Hp}{h:Heap}{a:Addr}
theorem Gw{u:HO}(ok:cX P w H h)(e:Rd H a u):cR P w H h a u:=e.ok ok
theorem v_{ai:List (Key×V)}(ok:cX P w H h)(e:Rd H a (.dK ai)):ai.length<=sizeLine/\(a==sysModules)=false/\∃ vs,KV ai vs/\h.DictOf (jf P w) a vs:=
 show cR P w H h a (.dK ai)from Gw ok e
theorem Gx{ai:List (Key×V)}(ok:cX P w H h)(e:H a=some (.dK ai)):ai.length<=sizeLine/\(a==sysModules)=false/\∃ vs,KV ai vs/\h.DictOf (jf P w) a vs:=v_ ok (.inl e)
theorem zd{ks:List Key}(ok:cX P w H h)(e:H a=some (.tup (ks.map kV))):(tupleKind (jf P w)).is h ks a:=by
 obtain⟨_,aq,r,o,h1,h2,⟨n,h3⟩,_⟩:=(show cR P w H h a (.tup (ks.map kV))from ok a _ e)
 exact⟨o,aq.toArray,n,h1,h2,h3,by simpa using Gv r⟩
theorem wa(ok:cX P w H h)(e:Rd H a (.dT ai)):ai.length<=sizeLine/\(a==sysModules)=false /\
  ∃ xs,KT H ai xs/\h.DictOfH (tupleKind (jf P w)) a xs:=by
 obtain⟨z,y,xs,r,o,es,ep,h1,h2,h3,h4,h5⟩:=(show cR P w H h a (.dT ai)from Gw ok e)
 refine⟨z,y,xs,r,o,es,ep,h1,h2,h3,h4,fun x hx=>?_,h5⟩
 have all:∀ {l:List (List Key×V)} {m:List (List Key×Addr×Value)},KT H l m->∀ x∈m,(tupleKind (jf P w)).is h x.1 x.2.1:=by
  intro l m q
  induction q with
  | nil=>intro x hx;exact nomatch hx
  | @cons p q ps qs hq t ih=>
   intro x hx
   rcases Qi.mp hx with e|hx
   ·subst e
    exact zd ok (by rw[<- hq.1];exact hq.2.1)
   ·exact ih x hx
 exact all r x hx
theorem P8(ok:cX P w H h)(e:H a=some (.dT ai)):ai.length<=sizeLine/\(a==sysModules)=false /\
  ∃ xs,KT H ai xs/\h.DictOfH (tupleKind (jf P w)) a xs:=wa ok (.inl e)
end
def oE (H:Hp)(a:Addr)(y:V)(r:Option V):Prop:=
 (∃ ai k,Rd H a (.dK ai)/\y=kV k/\r=fA ai k)\/∃ ai k b,Rd H a (.dT ai)/\y=.ref b/\H b=some (.tup (k.map kV))/\r=fA ai k
def wb (H:Hp)(a:Addr)(y v:V)(H':Hp):Prop:=
 (∃ ai k,H a=some (.dK ai)/\y=kV k/\ai.length<sizeLine/\H'=upd H a (.dK (jk ai k v))) \/
 ∃ ai k b,H a=some (.dT ai)/\y=.ref b/\H b=some (.tup (k.map kV))/\ai.length<sizeLine/\H'=upd H a (.dT (jk ai k v))
theorem oE.k{ai:List (Key×V)}{k:Key}(e:H a=some (.dK ai)):oE H a (kV k) (fA ai k):=.inl ⟨ai,k,.inl e,rfl,rfl⟩
theorem wb.k{ai:List (Key×V)}{k:Key}{v:V}(e:H a=some (.dK ai))(hl:ai.length<sizeLine):wb H a (kV k) v (upd H a (.dK (jk ai k v))):=.inl ⟨ai,k,e,rfl,hl,rfl⟩
section
variable {X:Cx}{pins:List (Addr×Obj)}{σ:St}{H:Hp}{s:Shared}{a:Addr}{y v:V}{u r:Value}{o:Option V}{A:Around}{E:Value->Shared->Prop}
theorem Inv.wc(I:Inv X pins σ H s):sysModules<s.heap.objs.size:=by
 have h:mainGlobals<s.heap.objs.size:=(I.mod.glob.keeps I.bk).lt
 exact Ja (by decide) h
theorem P9(hu:A.units+1<cLine)(I:Inv X pins σ H s)(g:oE H a y (some v))(ry:bh y u)(h:∀ w' s',Inv X pins σ H s'->bh v w'->Q w' s') :
  wpAny (model X.prog X.w) A (getItem (.ref a) u) Q E s:=by
 rcases g with⟨ai,k,e,ey,l⟩|⟨ai,k,b,e,ey,eb,l⟩
 ·subst ey
  obtain⟨z,hd,vs,rel,dd⟩:=v_ I.az e
  obtain⟨w',hw,lR⟩:=jg.some_of (v:=v) (o:=valueAt vs k) (by rw[l];exact rel.val k)
  exact wpAny_getItem_of (vZ ry) dd.mapOf hw (h w' _ (I.tok _) lR)
 ·subst ey
  cases (show u=Value.ref b from ry)
  obtain⟨z,hd,xs,rel,dd⟩:=wa I.az e
  obtain⟨w',hw,lR⟩:=jg.some_of (v:=v) (o:=(atKey xs k).map (·.2)) (by rw[l];exact rel.val k)
  obtain⟨p,hp,P_⟩:=Yz.mp hw
  refine wpAny_getItem_heap (JW hu) (zd I.az eb) dd hp ?_
  rw[P_]
  exact h w' _ (I.tok _) lR
theorem BW{t':Nat}{ob:HO}(I:Inv X pins σ H s)(mu:vF (H a))(hs:Heap.SameBut a s.heap h')(he:∃ q,h'.get? a=some q)(new:cR X.prog X.w (upd H a ob) h' a ob) :
  Inv X pins σ (upd H a ob) { s with heap:=h',toks:=t' }:=
 I.write (x:=a) (e:=a) mu (.inl rfl) (fun b q hb z=>(hs.2 b hb).trans z) he new
theorem Gy{ai:List (Key×V)}{vs:List (Key×Value)}(z:ai.length<=sizeLine)(hd:(a==sysModules)=false)(rel:KV ai vs)(dd:h'.DictOf (jf P w) a vs) :
  cR P w H' h' a (.dK ai):=⟨z,hd,vs,rel,dd⟩
theorem Q_{Q:Unit->Shared->Prop}(hu:A.units+1<cLine)(I:Inv X pins σ H s)(g:wb H a y v H')(ry:bh y u)(rv:bh v r)(h:∀ s',Inv X pins σ H' s'->Q () s') :
  wpAny (model X.prog X.w) A (setItem (.ref a) u r) Q E s:=by
 rcases g with⟨ai,k,e,ey,l,eH⟩|⟨ai,k,b,e,ey,eb,l,eH⟩
 ·subst ey eH
  obtain⟨z,hd,vs,rel,dd⟩:=Gx I.az e
  have hz:vs.length<=sizeLine:=by rw[<- rel.length];exact z
  have hl:(jk ai k v).length<=sizeLine:=by have:=BV ai k v;omega
  refine wpAny_setItem_pairs (hsz:=hz) (vZ ry) dd fun h' sJ hs=>h _ ?_
  have he:∃ q,h'.get? a=some q:=let ⟨q,_,_,hq,_⟩:=sJ;⟨q,hq⟩
  exact BW I (by rw[e];exact True.intro) hs he (Gy hl hd (rel.put k rv) sJ)
 ·subst ey eH
  cases (show u=Value.ref b from ry)
  obtain⟨z,hd,xs,rel,dd⟩:=P8 I.az e
  have hz:xs.length<=sizeLine:=by rw[<- Yj rel];exact z
  have hl:(jk ai k v).length<=sizeLine:=by have:=BV ai k v;omega
  refine wpAny_setItem_heap (hsz:=hz) (JW hu) (zd I.az eb) dd fun h' sJ hs=>h _ ?_
  obtain⟨q,es,ep,hq,h2,h3,h4,_,h5⟩:=sJ
  refine BW I (by rw[e];exact True.intro) hs ⟨q,hq⟩ ⟨hl,hd,_,(rel.put k eb rv).keeps fun c ys ec=>?_,q,es,ep,hq,h2,h3,h4,h5⟩
  rw[aO (Nw ec e (fun z=>nomatch z))]
  exact ec
end
def Gz (i:Expr):Prop:=∀ ov iv,subscripted i false ov iv=operate [ov,iv] (getItem ov iv)
theorem Ra{E:Value->Shared->Prop}{value slice:Expr}{T id:String}
  (hl:typeLookup (.type T) "__getitem__" = pure (some (.builtin id))) (hs:Gz slice)
  (h:wpAny (model prog w) A (eval value env) (fun o aL=>wpAny (model prog w) A (eval slice env) (fun i el=>el.TypeIs o T/\wpAny (model prog w) A (getItem o i) Q E el) E aL) E s) :
  wpAny (model prog w) A (eval (.Subscript value slice pos) env) Q E s:=by
 refine Subscript_ (QV h (fun o aL lT=>QV lT (fun i el jv=>?_) fun _ _ x=>x) fun _ _ x=>x)
 obtain⟨hT,jv⟩:=jv
 unfold subscriptTail
 refine Qa ?_
 rw[getitemInPython_of_ne hT.not_modules]
 refine Qa (wpAny_specialOf hT hl ?_)
 have fin:wpAny (model prog w) A (subscripted slice false o i) (fun r g9=>wpAny (model prog w) A (letTemporaryGo value o r >>= fun _=>pure r) Q E g9) E el:=by
  rw[hs o i]
  exact wpAny_operating (QV jv (fun r g9 pw=>Qa (wpAny_letTemporaryGo (Qj pw))) fun _ _ x=>x)
 first
  | exact Qj (Qa fin)
  | exact Qa (Qj (Qa fin))
  | exact Qa fin
theorem Rb{y:V}(I:Inv X pins σ H s)(g:oE H a y o):s.TypeIs (.ref a) "dict":=by
 rcases g with⟨ai,k,e,_,_⟩|⟨ai,k,b,e,_,_,_⟩
 ·obtain⟨_,_,vs,_,dd⟩:=v_ I.az e
  exact dd.typeIs
 ·obtain⟨_,_,xs,_,dd⟩:=wa I.az e
  exact dd.typeIs
def BX (td ty:TE):TE:=fun σ H Q=>td σ H fun x H1=>ty σ H1 fun y H2=>∃ a v,x=.ref a/\oE H2 a y (some v)/\Q v H2
def BY (td ty tv:TE):TS:=fun D σ H=>tv σ H fun v H1=>td σ H1 fun x H2=>ty σ H2 fun y H3=>∃ a H4,x=.ref a/\wb H3 a y v H4/\D.nx σ H4
section
variable {X:Cx}{o i e value:Expr}{pos pos' lO:Pos}{td ty tv:TE}
theorem GA(hu:X.A.units+1<cLine)(ho:PE X o td)(hi:PE X i ty)(hs:Gz i):PE X (.Subscript o i pos) (BX td ty):=by
 intro pins s σ H Q I h
 refine Ra PySem.F.slot_dict_getitem.lookup hs (aU (ho pins s σ H _ I h) fun u s1 ⟨x,H1,I1,rx,q1⟩=>aU (hi pins s1 σ H1 _ I1 q1) fun iv s2 aj=>?_)
 obtain⟨y,H2,I2,ry,a,v,ex,g,q2⟩:=aj
 subst ex
 obtain rfl:u=Value.ref a:=rx
 exact⟨Rb I2 g,P9 hu I2 g ry fun w' s3 I3 lR=>⟨v,H2,I3,lR,q2⟩⟩
theorem Rc(hu:X.A.units+1<cLine)(ho:PE X o td)(hi:PE X i ty)(hv:PE X value tv)(hs:swapsWith value (some (.Subscript o i pos')) pos.line X.env=pure false) :
  PS X (.Assign [.Subscript o i pos'] value pos) (BY td ty tv):=by
 intro pins s σ H D I h
 refine wpAny_Assign_Subscript (aU (hv pins s σ H _ I h) fun r s1 ⟨v,H1,I1,rv,q1⟩=>aU (ho pins s1 σ H1 _ I1 q1) fun u s2 ⟨x,H2,I2,rx,q2⟩=>aU (hi pins s2 σ H2 _ I2 q2) fun iv s3 ⟨y,H3,I3,ry,a,H4,ex,g,q3⟩=>?_) hs
 subst ex
 obtain rfl:u=Value.ref a:=rx
 exact Q_ hu I3 g ry rv fun s4 I4=>⟨σ,H4,I4,q3⟩
end
theorem GB(h:Heap)(hb:sysModules<h.objs.size):cR P w H (h.push { cls:=.type "dict",data:=.dict #[] }) h.objs.size (.dK []):=
 ⟨Q9 _,Zt.mpr (ZR (QI hb)),[],.nil,Heap.DictOf.new h⟩
def GC:TE:=fun _ H Q=>∀ p,H p=none->Q (.ref p) (upd H p (.dK []))
section
variable {X:Cx}{pos:Pos}
theorem Rf:PE X (.Dict [] [] pos) GC:=fun pins s σ H Q I h=>
 wpAny_Dict_empty ⟨.ref s.heap.objs.size,_,I.laid (a:=s.heap.objs.size) (o:=.dK []) (t':=s.toks) (fun _ _ q=>Qc _ q) (Qf _) (GB s.heap I.wc),rfl,h _ (I.az.fresh (Qf _))⟩
end
def BZ:List (TE×TE)->St->Hp->(List (V×V)->Hp->Prop)->Prop
 | [],_,H,Q=>Q [] H
 | (tk,tv)::r,σ,H,Q=>tk σ H fun x H1=>tv σ H1 fun y H2=>BZ r σ H2 fun ps H3=>Q ((x,y)::ps) H3
abbrev VV:List (V×V)->List (Value×Value)->Prop:=Paired fun p q=>bh p.1 q.1/\bh p.2 q.2
def ze (X:Cx)(pos:Pos)(keys:List (Option Expr))(values:List Expr)(qE:List (TE×TE)):Prop:=
 ∀ (pins:List (Addr×Obj)) (s:Shared) (σ:St) (H:Hp) (Q:List (V×V)->Hp->Prop),Inv X pins σ H s->BZ qE σ H Q->
  wpAny (model X.prog X.w) X.A (evalPairs (pairTrees keys values X.env pos)) (fun vs s'=>∃ ps H',Inv X pins σ H' s'/\VV ps vs/\Q ps H') X.xe s
theorem Rg:ze X pos [] [] []:=fun pins s σ H Q I h=>pairTrees_nil_walk ⟨[],H,I,.nil,h⟩
theorem GD{k v:Expr}{ks:List (Option Expr)}{vs:List Expr}{tk tv:TE}(hk:PE X k tk)(hv:PE X v tv)(hr:ze X pos ks vs qE) :
  ze X pos (some k::ks) (v::vs) ((tk,tv)::qE):=fun pins s σ H Q I h=>
 pairTrees_cons_walk (aU (hk pins s σ H _ I h) fun u s1 ⟨x,H1,I1,rx,q1⟩=>aU (hv pins s1 σ H1 _ I1 q1) fun w2 s2 ⟨y,H2,I2,ry,q2⟩=>
  aU (hr pins s2 σ H2 _ I2 q2) fun ws s3 ⟨ps,H3,I3,rel,q3⟩=>⟨(x,y)::ps,H3,I3,.cons ⟨rx,ry⟩ rel,q3⟩)
def sL (ai more:List (Key×V)):List (Key×V):=more.foldl (fun acc kv=>jk acc kv.1 kv.2) ai
theorem KV.merge:∀ {more:List (Key×V)} {rs:List (Key×Value)} {ai:List (Key×V)} {vs:List (Key×Value)},KV more rs->KV ai vs->KV (sL ai more) (merged vs rs):=by
 intro more rs ai vs r
 unfold KV at r
 induction r generalizing ai vs with
 | nil=>intro q;exact q
 | @cons p q ps qs h t ih=>
  intro r0
  have e:KV (jk ai p.1 p.2) (stored vs q.1 q.2):=by
   have:=r0.put p.1 h.2
   rw[<- h.1];exact this
  exact ih e
theorem GF:∀ (more ai:List (Key×V)),(sL ai more).length<=ai.length+more.length
 | [],ai=>by show ai.length<=ai.length+0;omega
 | p::r,ai=>by
  have h1:=GF r (jk ai p.1 p.2)
  have h2:=BV ai p.1 p.2
  show(sL (jk ai p.1 p.2) r).length<=_
  rw[QL];omega
theorem GG{P:Program}{w:World}:∀ {ai:List (Key×V)} {ws:List (Value×Value)},VV (ai.map fun kv=>(kV kv.1,kv.2)) ws->∃ rs,Carries (jf P w) ws rs/\KV ai rs
 | [],_,r=>by rw[JQ]at r;cases r;exact⟨[],True.intro,.nil⟩
 | p::ai,_,r=>by
  rw[QR]at r
  cases r with
  | @cons a b as bs h t=>
   obtain⟨rs,c,q⟩:=GG (P:=P) (w:=w) t
   obtain⟨b1,b2⟩:=b
   exact⟨(p.1,b2)::rs,⟨vZ h.1,rfl,c⟩,.cons ⟨rfl,h.2⟩ q⟩
def Rh (qE:List (TE×TE)):TE:=fun σ H Q=>∀ p,H p=none->BZ qE σ (upd H p (.dK [])) fun ps H2=>H2 p=some (.dK [])/\∃ ai:List (Key×V),ps=ai.map (fun kv=>(kV kv.1,kv.2))/\ai.length<=15/\Q (.ref p) (upd H2 p (.dK (sL [] ai)))
theorem Ri{keys:List (Option Expr)}{values:List Expr}(h:ze X pos keys values qE)(j_:keys.all (·.isSome)=true)(hl:keys.length=values.length)(h0:keys ≠ [])
  (Rj:keys.length<=15):PE X (.Dict keys values pos) (Rh qE):=by
 intro pins s σ H Q I q
 have hn:=I.az.fresh (Qf s.heap.objs.size)
 have I1:=I.laid (a:=s.heap.objs.size) (o:=.dK []) (h':=s.heap.push { cls:=.type "dict",data:=.dict #[] }) (t':=s.toks) (fun _ _ q=>Qc _ q) (Qf _) (GB s.heap I.wc)
 refine wpAny_Dict_walk (knd:=jf X.prog X.w) j_ hl h0 Rj (aU (h pins _ σ _ _ I1 (q _ hn)) fun ws s2 aj=>?_)
 obtain⟨ps,H2,I2,rel,e,ai,ep,lk,q2⟩:=aj
 subst ep
 obtain⟨rs,c,rk⟩:=GG (P:=X.prog) (w:=X.w) rel
 obtain⟨z,hd,we,r0,dd⟩:=Gx I2.az e
 cases r0
 refine⟨rs,c,dd,fun h' sJ hs=>⟨.ref s.heap.objs.size,_,?_,rfl,q2⟩⟩
 have hz:(sL [] ai).length<=sizeLine:=by
  have h1:=GF ai []
  rw[YC]at h1
  rw[Zp];omega
 have he:∃ q,h'.get? s.heap.objs.size=some q:=let ⟨q,_,_,hq,_⟩:=sJ;⟨q,hq⟩
 exact BW I2 (by rw[e];exact True.intro) hs he (Gy hz hd (rk.merge .nil) sJ)
structure M2 (X:Cx) (o:Expr) (m:Str) (apos:Pos) (e f:Expr) (ar:Pos):Prop where
 base:attributeBase o m X.env (eval o X.env)=eval o X.env
 qH:((backTo ar (starEach [e,f] X.env)).all (fun x=>!x.1)&&(backToKw ar (keywordEach [] X.env)).all (fun x=>x.1.isSome)
  && decide (([e,f]:List Expr).length+([]:List Keyword).length+(if([]:List Keyword).isEmpty then 0 else 1)<30))=true
 line:(apos.endLine==ar.line)=true
 trees:backTo ar (starEach [e,f] X.env)=[(false,eval e X.env),(false,eval f X.env)]
def GH (H:Hp)(a:Addr):Prop:=(∃ ai,Rd H a (.dK ai))\/∃ ai,Rd H a (.dT ai)
theorem Rk(I:Inv X pins σ H s)(d:GH H a) :
  s.TypeIs (.ref a) "dict" /\ (∀ b,Value.ref a=.ref b->∃ ob,s.heap.get? b=some ob/\ob.dict=none)/\(a==sysModules)=false:=by
 rcases d with⟨ai,e⟩|⟨ai,e⟩
 ·obtain⟨_,hd,vs,_,dd⟩:=v_ I.az e
  refine⟨dd.typeIs,fun b q=>?_,hd⟩
  cases q
  obtain⟨ob,_,_,h1,h2,_⟩:=dd
  exact⟨ob,h1,h2.2.1⟩
 ·obtain⟨_,hd,xs,_,dd⟩:=wa I.az e
  refine⟨dd.typeIs,fun b q=>?_,hd⟩
  cases q
  obtain⟨ob,_,_,h1,h2,_⟩:=dd
  exact⟨ob,h1,h2.2.1⟩
section
variable {X:Cx}{pins:List (Addr×Obj)}{σ:St}{H:Hp}{s:Shared}{a:Addr}{y d:V}{u r:Value}{o:Option V}{A:Around}{E:Value->Shared->Prop}
theorem Rl(hu:A.units+1<cLine)(I:Inv X pins σ H s)(g:oE H a y o)(ry:bh y u)(rd:bh d r)(h:∀ w' s',Inv X pins σ H s'->bh (o.getD d) w'->Q w' s') :
  wpAny (model X.prog X.w) A (call (.builtin "dict.get") [.ref a,u,r]) Q E s:=by
 rcases g with⟨ai,k,e,ey,l⟩|⟨ai,k,b,e,ey,eb,l⟩
 ·subst ey
  obtain⟨z,hd,vs,rel,dd⟩:=v_ I.az e
  refine call_meetsIn Jz dd.typeIs YA (Yr _ _ _) (meets_dict_get_default (jf X.prog X.w) a (vZ ry) hd r) ⟨_,dd.mapOf,h _ _ (I.tok _) ?_⟩
  rw[l]
  exact(rel.val k).getD rd
 ·subst ey
  cases (show u=Value.ref b from ry)
  obtain⟨z,hd,xs,rel,dd⟩:=wa I.az e
  refine call_meetsIn Jz dd.typeIs YA (Yr _ _ _) (meetsH_dict_get_default (tupleKind (jf X.prog X.w)) a b hd r) ⟨JW hu,k,xs,zd I.az eb,dd,h _ _ (I.tok _) ?_⟩
  rw[l]
  exact(rel.val k).getD rd
end
def Rm (td ty tx:TE):TE:=fun σ H Q=>td σ H fun x H1=>∃ a,x=.ref a/\GH H1 a/\ty σ H1 fun y H2=>tx σ H2 fun z H3=>∃ o,oE H3 a y o/\Q (o.getD z) H3
section
variable {X:Cx}{o e f:Expr}{apos ar:Pos}{td ty tx:TE}
theorem Rn(hu:X.A.units+1<cLine)(ho:PE X o td)(he:PE X e ty)(hf:PE X f tx)(m:M2 X o "get" apos e f ar):PE X (.Call (.Attribute o "get" apos) [e,f] [] ar) (Rm td ty tx):=by
 intro pins s σ H Q I h
 refine wpAny_Call_method m.base m.qH m.line PySem.F.plainAttrs_dict Jz PySem.F.type_dict_get (aU (ho pins s σ H _ I h) fun u s1 aj=>?_)
 obtain⟨x,H1,I1,rx,a,ex,d,q1⟩:=aj
 subst ex
 obtain rfl:u=Value.ref a:=rx
 obtain⟨t1,t2,_⟩:=Rk I1 d
 refine⟨t1,t2,?_⟩
 rw[m.trees]
 refine Calls.callWith_builtin rfl (JG (Ji (aU (he pins s1 σ H1 _ I1 q1) fun iv s2 ⟨y,H2,I2,ry,q2⟩=>
  Ji (aU (hf pins s2 σ H2 _ I2 q2) fun fv s3 ⟨z,H3,I3,rz,ov,g,q3⟩=>Ye ?_))))
 exact Rl hu I3 g ry rz fun w' s4 I4 lR=>⟨_,H3,I4,lR,q3⟩
end
theorem Ro{R:Result->Shared->Prop}{target:Expr}{it acc:Value}(I:Nat->Shared->Prop)
  (turn:∀ n s,I n s->wpAny (model prog w) A (pyNext it) (fun r aL=>match r with
    | none=>R (.ok .next) aL
    | some v=>wpAny (model prog w) A (letOwnedTupleGo target it v) (fun _ qI=>wpAny (model prog w) A (assign target env v) (fun _ el=>
      wpAny (model prog w) A (forIn ifs true fun c r=>if r=true then do let ok <- isTrue c env (eval c env);pure (ForInStep.yield ok)else pure (ForInStep.yield r)) (fun ok g9=>
       if ok=true then wpAny (model prog w) A (eval elt env) (fun x px=>
        wpAny (model prog w) A (call (.builtin "list.append") [acc,x]) (fun _ wg=>∃ m,m<n/\I m wg) (fun _ _=>False) px) (fun _ _=>False) g9
       else ∃ m,m<n/\I m g9) (fun _ _=>False) el) (fun _ _=>False) qI) (fun _ _=>False) aL) (fun _ _=>False) s)
  (n:Nat) (h:I n s):codeAny (model prog w) A (.compLoop (.ListComp elt [⟨target,iter,ifs,0⟩] scope pos) 0 it acc env) R s:=by
 refine codeAny_loop rfl I (fun n s hI=>?_) n h
 show wpAny _ A ((compTurn (.ListComp elt [⟨target,iter,ifs,0⟩] scope pos) 0 it acc env).onRaise (fun x=>do noteFrame x env;theTreesLotGoes x)) _ _ s
 refine wpAny_noted ?_
 rw[compTurn_list]
 refine Qa (Yk (Qa (QV (turn n s hI) (fun r aL lT=>?_) fun _ _ h'=>h'.elim)))
 cases r with
 | none=>exact Qj lT
 | some v=>
  refine Qa (QV lT (fun _ qI wj=>?_) fun _ _ h'=>h'.elim)
  refine Qa (QV wj (fun _ el jv=>Qa (QV jv (fun ok g9 pw=>?_) fun _ _ h'=>h'.elim)) fun _ _ h'=>h'.elim)
  cases ok with
  | false=>exact Qj ⟨rfl,pw⟩
  | true=>
   exact Qa (Qa (QV pw (fun x px wk=>Qa (QV wk (fun _ wg wm=>Qj (Qj ⟨rfl,wm⟩)) fun _ _ h'=>h'.elim)) fun _ _ h'=>h'.elim))
theorem Rp{M:Model}{A:Around}{E:Value->Shared->Prop}{globals:Addr}{cl:List (Str×Addr)}{outer:Env}{Q:Env->Shared->Prop}
  (hQ:Q (newEnv scope s.heap.objs.size globals (cellsFrom (s.heap.objs.size+1) scope.names cl) qual none .none (some outer) builtinsNs)
    { s with heap:=pushCells (s.heap.push { cls:=.type "dict",data:=.dict #[] }) scope.names }) :
  wpAny M A (newFunctionEnv scope globals cl [] qual none .none (some outer)) Q E s:=by
 simp only[newFunctionEnv,Option.isSome_some,Z9]
 refine Qa (wpAny_alloc ?_)
 refine Qa (wpAny_layCells _ (fun name kind cells=>by cases Rq:kind==NameKind.cell<;>simp[Rq]) _ _ _ _ ?_)
 rw[show({ s with heap:=s.heap.push { cls:=.type "dict",data:=.dict #[] } }:Shared).heap.objs.size=s.heap.objs.size+1 from Zs ..]
 refine Qa ?_
 rw[List.forIn_nil]
 exact Qj (Qj hQ)
def iu (cells:List (Str×Addr)):List (Str×NameKind)->List (Str×Addr)->List (Str×Addr)
 | [],acc=>acc
 | (n,k)::r,acc=>if k == .free then(match cells.lookup n with
   | some c=>iu cells r ((n,c)::acc)
   | none=>iu cells r acc)else iu cells r acc
theorem GI(h:∀ y∈scope.names,y.2=.free->∃ c,env.cells.lookup y.1=some c):closureFor scope env=pure (iu env.cells scope.names []):=by
 unfold closureFor
 have key:∀ (names:List (Str×NameKind)) (acc:List (Str×Addr)),(∀ y∈names,y.2=.free->∃ c,env.cells.lookup y.1=some c)->
   (forIn names acc (fun(x:Str×NameKind) (r:List (Str×Addr))=>(match x with
     | (name,kind)=>if(kind==NameKind.free)=true then do
       let c <- cellOf env name
       pure (ForInStep.yield ((name,c)::r))
      else pure (ForInStep.yield r):Sem (ForInStep (List (Str×Addr))))))=(pure (iu env.cells names acc):Sem (List (Str×Addr))):=by
  intro names
  induction names with
  | nil=>intro acc _;rfl
  | cons y r ih=>
   intro acc hh
   obtain⟨n,kd⟩:=y
   rw[List.forIn_cons]
   unfold iu
   by_cases hk:(kd==NameKind.free)=true
   ·obtain⟨c,hc⟩:=hh (n,kd) Qd (by simpa using hk)
    have js:env.cells.lookup n=some c:=hc
    simp only[hk,Z9,js]
    have e:cellOf env n=pure c:=by unfold cellOf;rw[js]
    rw[e]
    exact ih ((n,c)::acc) fun z hz=>hh z (Qb _ hz)
   ·simp only[hk]
    exact ih acc fun z hz=>hh z (Qb _ hz)
 exact(Zx (fun m=>m >>= fun cs=>(pure cs:Sem (List (Str×Addr)))) (key scope.names [] h)).trans rfl
theorem zf:∀ {names:List (Str×NameKind)} {acc:List (Str×Addr)},(∀ y c,(y,c)∈acc->cells.lookup y=some c)->∀ y c,(y,c)∈iu cells names acc->cells.lookup y=some c
 | [],_,h,y,c,m=>h y c m
 | (n,k)::r,acc,h,y,c,m=>by
  unfold iu at m
  split at m
  ·split at m
   next c' e=>
    refine zf (acc:=(n,c')::acc) (fun z d hz=>?_) y c m
    rcases Qi.mp hz with q|q
    ·cases q;exact e
    ·exact h z d q
   ·exact zf h y c m
  ·exact zf h y c m
theorem zg:∀ {names:List (Str×NameKind)} {acc:List (Str×Addr)} {y:Str},(acc.lookup y).isSome=true->((iu cells names acc).lookup y).isSome=true
 | [],_,_,h=>h
 | (n,k)::r,acc,y,h=>by
  unfold iu
  split
  ·split
   ·refine zg ?_
    rw[QW]
    split
    ·rfl
    ·exact h
   ·exact zg h
  ·exact zg h
theorem wo(hc:cells.lookup y=some c):∀ {names:List (Str×NameKind)} {acc:List (Str×Addr)},(y,NameKind.free)∈names->((iu cells names acc).lookup y).isSome=true
 | (n,k)::r,acc,h=>by
  unfold iu
  rcases Qi.mp h with q|q
  ·cases q
   simp only[hc]
   rw[Qe (by rfl)]
   refine zg ?_
   rw[QW,ZG]
   rfl
  ·split
   ·split
    ·exact wo hc q
    ·exact wo hc q
   ·exact wo hc q
theorem B0:∀ {names:List (Str×NameKind)} {h:Heap} {acc:List (Str×Addr)} {y:Str} {c:Addr},(y,c)∈cellsFrom h.objs.size names acc->(y,c)∈acc\/(h.objs.size<=c/\(pushCells h names).IsCell c none)
 | [],_,_,_,_,m=>.inl m
 | (n,k)::r,h,acc,y,c,m=>by
  unfold cellsFrom at m
  unfold pushCells
  split at m
  next hk=>
   rw[Qe hk]
   have m':(y,c)∈cellsFrom (h.push { cls:=.type "cell",data:=.cell none }).objs.size r ((n,h.objs.size)::acc):=by rw[Zs];exact m
   rcases B0 m' with q|⟨q1,q2⟩
   ·rcases Qi.mp q with e|q
    ·cases e
     refine .inr ⟨Qf _,_,Jh _ _ _ _ (Qs _ rfl),rfl⟩
    ·exact .inl q
   ·rw[Zs]at q1
    exact .inr ⟨by omega,q2⟩
  next hk=>
   rw[Qg hk]
   exact B0 m
theorem B1:∀ {names:List (Str×NameKind)} {n:Nat} {acc:List (Str×Addr)},(∀ y c,(y,c)∈acc->c<n)->(∀ x y c,(x,c)∈acc->(y,c)∈acc->x=y)->∀ x y c,(x,c)∈cellsFrom n names acc->(y,c)∈cellsFrom n names acc->x=y
 | [],_,_,_,h=>h
 | (nm,k)::r,n,acc,dZ,h=>by
  unfold cellsFrom
  split
  ·refine B1 (n:=n+1) (acc:=(nm,n)::acc) (fun y c m=>?_) (fun x y c m1 m2=>?_)
   ·rcases Qi.mp m with e|m
    ·cases e;exact Q2 _
    ·exact Q7 (dZ y c m)
   ·rcases Qi.mp m1 with e1|m1<;>rcases Qi.mp m2 with e2|m2
    ·cases e1;cases e2;rfl
    ·cases e1;exact absurd (dZ y _ m2) (QN _)
    ·cases e2;exact absurd (dZ x _ m1) (QN _)
    ·exact h x y c m1 m2
  ·exact B1 dZ h
theorem B2:∀ {names:List (Str×NameKind)} {n:Nat} {acc:List (Str×Addr)},lo<=n->(∀ c,acc.lookup y=some c->lo<=c)->∀ c,(cellsFrom n names acc).lookup y=some c->lo<=c
 | [],_,_,_,h=>h
 | (nm,k)::r,n,acc,hn,h=>by
  unfold cellsFrom
  split
  ·refine B2 (n:=n+1) (by omega) fun c e=>?_
   rw[QW]at e
   split at e
   ·cases e;exact hn
   ·exact h c e
  ·exact B2 hn h
theorem B3:∀ {names:List (Str×NameKind)} {n:Nat} {acc:List (Str×Addr)},lo<=n->(y,NameKind.cell)∈names->∀ c,(cellsFrom n names acc).lookup y=some c->lo<=c
 | (nm,k)::r,n,acc,hn,h=>by
  unfold cellsFrom
  rcases Qi.mp h with q|q
  ·cases q
   rw[Qe (by rfl)]
   refine B2 (n:=n+1) (by omega) fun c e=>?_
   rw[QW,ZG]at e
   cases e;exact hn
  ·split
   ·exact B3 (n:=n+1) (by omega) q
   ·exact B3 hn q
theorem B4:∀ {names:List (Str×NameKind)} {n:Nat} {acc:List (Str×Addr)},(y,NameKind.cell) ∉ names->(cellsFrom n names acc).lookup y=acc.lookup y
 | [],_,_,_=>rfl
 | (nm,k)::r,n,acc,h=>by
  unfold cellsFrom
  split
  next hk=>
   rw[B4 (fun z=>h (Qb _ z)),QW]
   have fI:(y==nm)=false:=by
    cases e:y==nm with
    | false=>rfl
    | true=>
     have e1:y=nm:=Zi.mp e
     have e2:k=NameKind.cell:=by simpa using hk
     exact absurd (by rw[e1,<- e2];exact Qd) h
   rw[fI]
  ·exact B4 fun z=>h (Qb _ z)
def qJ (env:Env)(y:Str)(k:NameKind):NameKind:=if(k==NameKind.free&&env.scope.kind == .function&&env.kindOf y==some .cell)then .cell else k
theorem B5{env:Env}{y:Str}:∀ (names:List (Str×NameKind)),(names.map fun(n,k)=>if(k==NameKind.free&&env.scope.kind == .function&&env.kindOf n==some .cell)then(n,NameKind.cell)else(n,k)).lookup y=(names.lookup y).map (qJ env y)
 | []=>rfl
 | (n,k)::r=>by
  have ih:=B5 (env:=env) (y:=y) r
  show List.lookup y ((if(k==NameKind.free&&env.scope.kind == .function&&env.kindOf n==some .cell)=true then(n,NameKind.cell)else(n,k))::_)=_
  cases hx:y==n with
  | true=>
   have e:=Zi.mp hx
   subst e
   rw[QW,QW]
   by_cases hc:(k==NameKind.free&&env.scope.kind == .function&&env.kindOf y==some .cell)=true
   ·simp only[qJ,hc,Z9,ZG,Zw]
   ·simp only[qJ,hc,ZG,Zw]
    simp
  | false=>
   by_cases hc:(k==NameKind.free&&env.scope.kind == .function&&env.kindOf n==some .cell)=true
   ·rw[Qe hc,QW,QW];simp only[hx];exact ih
   ·rw[Qg hc,QW,QW];simp only[hx];exact ih
theorem GJ{l:List (Str×NameKind)}(hn:(l.map (·.1)).Nodup){k:NameKind}(h:(y,k)∈l):l.lookup y=some k:=by
 induction l with
 | nil=>cases h
 | cons p r ih=>
  rw[QW]
  rcases Qi.mp h with e|h
  ·rw[<- e,ZG]
  ·have fI:y≠p.1:=fun e=>by
    have:=(Zv.mp hn).1
    exact this (by show p.1∈_;rw[<- e];exact Qy.mpr ⟨(y,k),h,rfl⟩)
   have:(y==p.1)=false:=by simpa using fI
   rw[this]
   exact ih (Zv.mp hn).2 h
def GK (scope:Scope)(env:Env)(C:Addr):Env:=
 { newEnv scope C env.globals (cellsFrom (C+1) scope.names (iu env.cells scope.names [])) env.qual none .none (some env) builtinsNs with scope:=relabel scope env }
def gw (X:Cx)(N':List Str)(scope:Scope)(C:Addr)(s:Shared)(H:Hp)(fp:List Addr):Cx where
 prog:=X.prog
 w:=X.w
 K:=X.K
 mg:=X.mg
 base:=X.base
 A:=X.A
 N:=N'
 ax:=s
 bE:=H
 env:=GK scope X.env C
 outer:=X.stack
 stack:=X.stack
 ex:=fp
 fn:=fun y=>scope.names.lookup y==some .cell
 calm:=X.calm
 pn:=[]
 xe:=fun _ _=>False
structure b8 (X:Cx) (k:Nat) (N':List Str) (scope:Scope):Prop where
 kind:scope.kind=.function
 names:(scope.names.map (·.1)).Nodup
 len:N'.length=X.N.length+k
 frees:(scope.names.all fun y=>y.2 != .free||X.env.kindOf y.1==some .cell||X.env.kindOf y.1==some .free)=true
 outs:((N'.zip X.N).all fun p=>(p.1==p.2&&scope.names.lookup p.1==some .free)||scope.names.lookup p.1==none||scope.names.lookup p.1==some .globalImplicit)=true
theorem b8.free{k:Nat}(S:b8 X k N' scope)(h:(y,NameKind.free)∈scope.names):X.env.kindOf y=some .cell\/X.env.kindOf y=some .free:=by
 have:=Zz.mp S.frees (y,NameKind.free) h
 simp only[Bool.or_eq_true,bne_iff_ne,ne_eq,Zi]at this
 rcases this with(h1|h1)|h1
 ·exact absurd trivial h1
 ·exact .inl h1
 ·exact .inr h1
theorem b8.out{k:Nat}(S:b8 X k N' scope)(eE:i<X.N.length)(h:N'[i]? = some y)(hv:uC (relabel scope X.env) y):X.N[i]? = some y/\scope.names.lookup y=some .free:=by
 have e2:X.N[i]? = some X.N[i]:=by simp[eE]
 have m:(y,X.N[i])∈N'.zip X.N:=ZM (i:=i) (by rw[Yb];exact⟨h,e2⟩)
 have:=Zz.mp S.outs _ m
 simp only[Bool.or_eq_true,Zg,Zi]at this
 have hl:(relabel scope X.env).names.lookup y=(scope.names.lookup y).map (qJ X.env y):=B5 _
 rcases this with(⟨h1,h2⟩|h1)|h1
 ·exact⟨by rw[e2,<- h1],h2⟩
 ·rw[h1]at hl
  rcases hv with z|z|z<;>(rw[hl]at z;cases z)
 ·rw[h1]at hl
  have hr:qJ X.env y .globalImplicit=.globalImplicit:=rfl
  rw[Zw,hr]at hl
  rcases hv with z|z|z<;>(rw[hl]at z;cases z)
theorem Un.sM{fs ex:List Addr}{D:Addr}{o:HO}(u:Un fs ex H H' h h')(az:cX P w H h)(hD:h.objs.size<=D):Un fs ex H (upd H' D o) h h':=by
 have ne:∀ b ob,h.get? b=some ob->b≠D:=fun b ob e z=>absurd (Qn (Ql e) hD) (by rw[z];exact QN _)
 have ne':∀ b x,H b=some x->b≠D:=fun b x e z=>absurd (Qn (az.lt e) hD) (by rw[z];exact QN _)
 refine⟨u.keep,u.slot,fun b ob e n hx=>?_,u.there,fun b xs e=>?_,fun b ob x e=>?_,fun b ps e=>?_⟩
 ·rw[aO (ne b ob e)];exact u.free b ob e n hx
 ·rw[aO (ne' b _ e)];exact u.d_ b xs e
 ·rw[aO (ne' b _ e)];exact u.dJ b ob x e
 ·rw[aO (ne' b _ e)];exact u.dM b ps e
theorem cX.add{D:Addr}{o:HO}(x:cX P w H h)(hn:H D=none)(new:cR P w (upd H D o) h D o):cX P w (upd H D o) h:=fun b u e=>by
 by_cases hb:b=D
 ·subst hb;rw[cT]at e;cases e;exact new
 ·rw[aO hb]at e
  exact(x b u e).gX (fun c v _ q=>q) (fun c q=>by rw[aO (dY q hn)];exact q) fun c xs q=>by rw[aO (dY q hn)];exact q
def uI (X:Cx)(ifs:List Expr)(t:TT):Prop:=
 ∀ (pins:List (Addr×Obj)) (s:Shared) (σ:St) (H:Hp) (Q:Bool->Hp->Prop),Inv X pins σ H s->t σ H Q->
  wpAny (model X.prog X.w) X.A (forIn ifs true fun c r=>if r=true then do let ok <- isTrue c X.env (eval c X.env);pure (ForInStep.yield ok)else pure (ForInStep.yield r)) (TP X pins σ Q) X.xe s
def B6:TT:=fun _ H Q=>Q true H
theorem GL:uI X [] B6:=fun pins s σ H Q I h=>wpAny_tests_nil ⟨H,I,h⟩
theorem Rr{c:Expr}{t:TT}(h:PT X c t):uI X [c] t:=fun pins s σ H Q I q=>wpAny_tests_one (h pins s σ H Q I q)
def GN (k:Nat)(g:TG)(tt:TT)(te:TE)(σ:St)(J:It)(H:Hp)(Fin:List V->Hp->Prop):Prop:=
 ∃ W:Nat->Nat->List V->Hp->Prop,(∃ m,W 0 m [] H)/\∀ i m ys H2,W i m ys H2->ys.length<=sizeLine /\
  ((J.stop i H2/\Fin ys H2)\/(J.go i H2/\ys.length<sizeLine/\∀ x H3,J.qw i H2 x H3->g x (σ++List.replicate k none) H3 fun uJ H4=>(∃ τ,uJ=σ++τ/\τ.length=k) /\
    tt uJ H4 fun b H5=>if b=true then te uJ H5 fun v H6=>∃ m',m'<m/\W (i+1) m' (ys++[v]) H6 else ∃ m',m'<m/\W (i+1) m' ys H5))
def wq (k:Nat)(wi:TI)(g:TG)(tt:TT)(te:TE):TE:=fun σ H Q=>wi σ H fun J H1=>GN k g tt te σ J H1 fun ys H2=>∀ p,H2 p=none->Q (.ref p) (upd H2 p (.lst ys))
def g_ (us:List Value)(n:Nat):Obj:={ cls:=.type "list",data:=.seq us.toArray n }
theorem GO{τ:St}(I:Inv X pins (σ++τ) H s):Inv X pins (σ++List.replicate τ.length none) H s:=
 I.weak (by simp) fun i v e=>by
  by_cases hi:i<σ.length
  ·rw[QA hi]at e ⊢
   exact e
  ·rw[QO (by omega),Zq]at e
   split at e<;>cases e
section
variable {X:Cx}{k:Nat}{N':List Str}{scope:Scope}{pins:List (Addr×Obj)}{σ:St}{H2:Hp}{s2:Shared}{fp:List Addr}
abbrev wu (scope:Scope)(s2:Shared):Heap:=pushCells ((s2.heap.push (g_ [] 0)).push { cls:=.type "dict",data:=.dict #[] }) scope.names
theorem Rt(S:b8 X k N' scope)(I2:Inv X pins σ H2 s2)(f2:∀ b∈fp,oA X pins H2 b)(sN:∀ b∈fp,b<s2.heap.objs.size) :
  Inv (gw X N' scope (s2.heap.objs.size+1) s2 H2 fp) [(s2.heap.objs.size,g_ [] 0)] (σ++List.replicate k none) H2 { s2 with heap:=wu scope s2 }:=by
 have e1:(s2.heap.push (g_ [] 0)).objs.size=s2.heap.objs.size+1:=Zs ..
 have e2:((s2.heap.push (g_ [] 0)).push { cls:=.type "dict",data:=.dict #[] }).objs.size=s2.heap.objs.size+1+1:=by rw[Zs,e1]
 have keep:∀ b o,s2.heap.get? b=some o->(wu scope s2).get? b=some o:=fun b o e=>Jh _ _ b o (Qc _ (Qc _ e))
 have c_:∀ y c,(y,c)∈iu X.env.cells scope.names []->X.env.cells.lookup y=some c:=zf (fun _ _ m=>nomatch m)
 have sO:∀ y c,(y,c)∈cellsFrom (s2.heap.objs.size+1+1) scope.names (iu X.env.cells scope.names [])->X.env.cells.lookup y=some c\/(s2.heap.objs.size+1+1<=c/\(wu scope s2).IsCell c none):=fun y c m=>by
  have m':(y,c)∈cellsFrom ((s2.heap.push (g_ [] 0)).push { cls:=.type "dict",data:=.dict #[] }).objs.size scope.names (iu X.env.cells scope.names []):=by rw[e2];exact m
  rcases B0 m' with q|⟨q1,q2⟩
  ·exact .inl (c_ y c q)
  ·rw[e2]at q1;exact .inr ⟨q1,q2⟩
 have Ru:∀ y c,X.env.cells.lookup y=some c->c<s2.heap.objs.size:=fun y c e=>by obtain⟨v,z⟩:=I2.cell y c e;exact z.lt
 have hl:∀ y,(relabel scope X.env).names.lookup y=(scope.names.lookup y).map (qJ X.env y):=fun y=>B5 _
 have ok:(gw X N' scope (s2.heap.objs.size+1) s2 H2 fp).Ok:=by
  refine⟨I2.ok.mod,S.kind,I2.ok.glob,I2.ok.blt,Z6 _,fun x y c h1 h2=>?_,fun x hx=>?_,fun x c hf h=>?_,I2.ok.hd,I2.ok.frames,.inl rfl,fun b hb=>⟨?_,fun x c h z=>?_⟩,I2.bs,Qv I2.ok.lH I2.sz,fun b o e hb=>?_,fun b hb z=>?_,I2.stack,I2.dH⟩
  ·refine B1 (n:=s2.heap.objs.size+1+1) (names:=scope.names) (acc:=iu X.env.cells scope.names []) (fun y c m=>?_) (fun x y c m1 m2=>?_) x y c (QG h1) (QG h2)
   ·exact Qn (Ru y c (c_ y c m)) (by omega)
   ·exact I2.ok.inj x y c (c_ x c m1) (c_ y c m2)
  ·have jV:(relabel scope X.env).names.lookup x=some .cell\/(relabel scope X.env).names.lookup x=some .free:=hx
   rw[hl x]at jV
   have:scope.names.lookup x=some .cell\/scope.names.lookup x=some .free:=by
    cases e:scope.names.lookup x with
    | none=>rw[e]at jV;rcases jV with z|z<;>cases z
    | some kd=>
     rw[e,Zw]at jV
     cases kd<;>first
      | exact .inl rfl
      | exact .inr rfl
      | (rcases jV with z|z<;>(have z':=Qt z;unfold qJ at z';simp at z'))
   rcases this with q|q
   ·exact Zm.mp (ZU scope.names (s2.heap.objs.size+1+1) _ (.inl q))
   ·have qm:=QG q
    have hk:=S.free qm
    obtain⟨c,hc⟩:=I2.ok.has x hk
    exact Zm.mp (ZU scope.names (s2.heap.objs.size+1+1) _ (.inr (wo hc qm)))
  ·have Rv:(scope.names.lookup x==some .cell)=true:=hf
   have:=B3 (lo:=s2.heap.objs.size) (n:=s2.heap.objs.size+1+1) (acc:=iu X.env.cells scope.names []) (by omega) (QG (Zi.mp Rv)) c h
   exact this
  ·have:=sN b hb
   show b≠s2.heap.objs.size+1
   exact QI (Qn this (Z6 _))
  ·have q:=sN b hb
   rcases sO x c (QG h)with w|⟨w,_⟩
   ·exact(f2 b hb).2.2.2.2.1 x c w z
   ·subst z;exact absurd (Qn q (Qv (by omega) w)) (QN _)
  ·rcases(f2 b hb).2.2.2.1 with z|z
   ·exact I2.ok.lI b o e z
   ·have:=Ql e
    have:=I2.ok.lH
    exact absurd (Qn (Ql e) (Qv I2.ok.lH z)) (QN _)
  ·rcases Qi.mp (I2.gq b z)with q|q
   ·exact(f2 b hb).2.1 q
   ·exact(f2 b hb).2.2.1 q
 obtain⟨m,hn,B7⟩:=id I2.loc
 refine⟨ok,rfl,I2.bare,Un.kept keep,⟨fun _=>none,?_,fun i y v h1 h2 h3=>?_⟩,fun y c h=>?_,I2.az.fresh (Z6 _),fun y c h=>?_,fun p hp=>?_,I2.az.kept keep,?_⟩
 ·have:=(Heap.Ns.new (s2.heap.push (g_ [] 0)) (.type "dict")).keeps (Jh scope.names _)
  rw[e1]at this
  exact this
 ·by_cases hi:i<σ.length
  ·have wx:uC (relabel scope X.env) y:=h3
   obtain⟨o1,o2⟩:=S.out (by rw[<- I2.len];exact hi) h1 wx
   have hk:=S.free (QG o2)
   have hs:σ[i]? = some (some v):=by
    rw[QA hi]at h2
    exact h2
   obtain⟨u,r,l⟩:=B7 i y v o1 hs (.inr hk)
   refine⟨u,r,?_⟩
   rcases l with⟨l,_⟩|⟨_,c,hc,kW⟩
   ·rcases hk with z|z<;>(rw[l]at z;cases z)
   ·refine .inr ⟨?_,c,?_,kW.keeps keep⟩
    ·show(relabel scope X.env).names.lookup y=some .cell\/(relabel scope X.env).names.lookup y=some .free
     rw[hl y,o2,Zw]
     unfold qJ
     split
     ·exact .inl rfl
     ·exact .inr rfl
    ·show(cellsFrom (s2.heap.objs.size+1+1) scope.names (iu X.env.cells scope.names [])).lookup y=some c
     rw[B4 (fun z=>by have:=GJ S.names z;rw[o2]at this;cases this)]
     obtain⟨c',js⟩:=Zm.mp (wo (acc:=[]) hc (QG o2))
     have:=c_ y c' (QG js)
     rw[hc]at this;cases this
     exact js
  ·rw[QO (by omega),Zq]at h2
   split at h2<;>cases h2
 ·rcases sO y c (QG h)with w|⟨_,w⟩
  ·obtain⟨v,z⟩:=I2.cell y c w
   exact⟨v,z.keeps keep⟩
  ·exact⟨_,w⟩
 ·rcases sO y c (QG h)with w|⟨w,_⟩
  ·exact I2.cw y c w
  ·exact I2.az.fresh (by omega)
 ·have e:p=(s2.heap.objs.size,g_ [] 0):=by
   have:p ∈ [(s2.heap.objs.size,g_ [] 0)]:=hp
   simpa using this
  subst e
  refine⟨Jh _ _ _ _ (Qc _ (Qs _ rfl)),I2.az.fresh (Qf _),?_,fun z=>?_,fun v z=>nomatch z⟩
  ·show s2.heap.objs.size≠s2.heap.objs.size+1
   omega
  ·have z':s2.heap.objs.size∈cM X.stack:=z
   rcases Qi.mp (I2.gq _ z')with q|q
   ·exact absurd I2.lt (by rw[<- q];exact QN _)
   ·exact I2.rZ (Qf _) q
 ·rw[Qo,Zd,I2.len]
  exact S.len.symm
theorem Rw{us:List Value}{ys:List V}{s':Shared}{aP:St}(I2:Inv X pins σ H2 s2)(f2:∀ b∈fp,oA X pins H2 b)
  (I3:Inv (gw X N' scope C s2 H2 fp) [(s2.heap.objs.size,g_ us n)] aP H' s') (r:a_ ys us) (hz:ys.length<=sizeLine):Inv X pins σ (upd H' s2.heap.objs.size (.lst ys)) s':=by
 obtain⟨e,hn,_⟩:=I3.pin (s2.heap.objs.size,g_ us n) (Qh _ (QC.mpr rfl))
 have u:Un (cM X.stack) fp H2 H' s2.heap s'.heap:=I3.base
 exact I2.kU (ch:=fp) I3.os (u.sM I2.az (Qf _)) (I3.az.add hn ⟨hz,us,n,r,e⟩) I3.bare fun b hb=>⟨(f2 b hb).2.2.2.1,(f2 b hb).2.1,(f2 b hb).2.2.2.2⟩
end
theorem GP{k:Nat}{H2:Hp}{s2:Shared}{fp:List Addr}{tg:Expr}{it:Addr}{tn:Nat->Heap->Prop}{J:It}{g:TG}{tt:TT}{te:TE}{Fin:List V->Hp->Prop}{E:Value->Shared->Prop}{RR:Value->Addr->Result->Shared->Prop}
  (hc:X.calm=true) (S:b8 X k N' scope) (hg:∀ C s H fp,PG (gw X N' scope C s H fp) tg g) (ht:∀ C s H fp,uI (gw X N' scope C s H fp) ifs tt) (he:∀ C s H fp,PE (gw X N' scope C s H fp) elt te)
  (I2:Inv X pins σ H2 s2) (T:Turn X.prog X.w X.K tg J fp it tn) (qy:tn 0 s2.heap) (f2:∀ b∈fp,oA X pins H2 b) (R:GN k g tt te σ J H2 Fin)
  (Rx:∀ C ys H' s' m',Inv X pins σ (upd H' s2.heap.objs.size (.lst ys)) s'->s'.heap.Ns C m'->H' s2.heap.objs.size=none->upd H' s2.heap.objs.size (.lst ys) C=none->C≠X.env.locals->X.ax.heap.objs.size<=C->s2.heap.objs.size<C->
    Fin ys H'->RR (.ref s2.heap.objs.size) C (.ok .next) s') :
  wpAny (model X.prog X.w) X.A (newList []) (fun acc g9=>wpAny (model X.prog X.w) X.A (newFunctionEnv scope X.env.globals (iu X.env.cells scope.names []) [] X.env.qual none .none (some X.env)) (fun wy px=>
   codeAny (model X.prog X.w) X.A (.compStart (.ListComp elt [⟨tg,iter,ifs,0⟩] scope pos) 0 (.ref it) acc { wy with scope:=relabel scope X.env }) (RR acc wy.locals) px) E g9) E s2:=by
 refine ZA (Rp ?_)
 have e1:(s2.heap.push (g_ [] 0)).objs.size=s2.heap.objs.size+1:=Zs ..
 have sN:∀ b∈fp,b<s2.heap.objs.size:=fun b hb=>by obtain⟨o,e,_⟩:=T.obj _ _ qy b hb;exact Ql e
 obtain⟨W,⟨m0,w0⟩,turn⟩:=R
 have I3:=Rt S I2 f2 sN
 have vM:tn 0 (wu scope s2):=T.keep _ _ _ qy fun b hb o e=>Jh _ _ b o (Qc _ (Qc _ e))
 have Ry:s2.heap.objs.size≠s2.heap.objs.size+1:=by omega
 have j6:∀ {H':Hp} {us:List Value} {n:Nat},(∀ b∈fp,H' b=none)->∀ b∈fp,oA (gw X N' scope (s2.heap.objs.size+1) s2 H2 fp) [(s2.heap.objs.size,g_ us n)] H' b:=fun {H' us n} hn b hb=>by
  have q:=I3.ok.yP b hb
  refine⟨hn b hb,q.1,I3.ok.lJ b hb,.inl hb,q.2,fun p hp z=>?_⟩
  have sP:p ∈ [(s2.heap.objs.size,g_ us n)]:=hp
  have e:p=(s2.heap.objs.size,g_ us n):=by simpa using sP
  subst e
  have:=sN b hb
  have z':s2.heap.objs.size=b:=z
  exact absurd this (by rw[z'];exact QN _)
 have loop:∀ GQ,GQ=Value.ref it->codeAny (model X.prog X.w) X.A (.compLoop (.ListComp elt [⟨tg,iter,ifs,0⟩] scope pos) 0 GQ (.ref s2.heap.objs.size) (GK scope X.env (s2.heap.objs.size+1))) (RR (.ref s2.heap.objs.size) (s2.heap.objs.size+1)) { s2 with heap:=wu scope s2 }:=by
  rintro _ rfl
  refine Ro (fun n s'=>∃ i ys us cnt H',Inv (gw X N' scope (s2.heap.objs.size+1) s2 H2 fp) [(s2.heap.objs.size,g_ us cnt)] (σ++List.replicate k none) H' s'/\tn i s'.heap/\(∀ b∈fp,H' b=none)/\a_ ys us/\W i n ys H') ?_ m0
   ⟨0,[],[],0,H2,I3,vM,fun b hb=>(f2 b hb).1,.nil,w0⟩
  rintro n s3 ⟨i,ys,us,cnt,H3,J3,st,fr,r3,w3⟩
  obtain⟨hz,hw⟩:=turn i n ys H3 w3
  rcases hw with⟨stop,fin⟩|⟨go,dZ,step⟩
  ·refine aU (T.done (gw X N' scope (s2.heap.objs.size+1) s2 H2 fp) rfl rfl rfl hc i _ s3 _ H3 _ J3 (j6 fr) st stop) fun rr s4 ⟨hr,I4⟩=>?_
   subst hr
   obtain⟨m',nh,_⟩:=id I4.loc
   obtain⟨eD,nD,_⟩:=I4.pin (s2.heap.objs.size,g_ us cnt) (Qh _ (QC.mpr rfl))
   refine Rx (s2.heap.objs.size+1) ys H3 s4 m' (Rw I2 f2 I4 r3 hz) nh nD ?_ ?_ ?_ (Q2 _) fin
   ·rw[aO (ZR Ry)];exact I4.free
   ·exact ZR (QI (Qn I2.lt (Z6 _)))
   ·have:=I2.sz;omega
  ·refine aU (T.item (gw X N' scope (s2.heap.objs.size+1) s2 H2 fp) rfl rfl rfl hc i _ s3 _ H3 _ J3 (j6 fr) st go) fun rr s4 ⟨u,hr,h4⟩=>?_
   subst hr
   refine aU h4 fun _ s5 aj=>?_
   obtain⟨x,H5,I5,r5,y5,sk,BA⟩:=aj
   have BB:=I5.pinned (j6 BA) (T.obj _ _ sk)
   refine aU (hg _ _ _ _ _ s5 _ H5 x u _ BB r5 (step x H5 y5)) fun _ s6 ⟨FO,H6,I6,⟨τ,e6,l6⟩,q6⟩=>?_
   subst e6
   refine aU (ht _ _ _ _ _ s6 _ H6 _ I6 q6) fun ok s7 aj=>?_
   obtain⟨H7,I7,q7⟩:=aj
   have kept:∀ {s':Shared} {H':Hp} {aP:St},Inv (gw X N' scope (s2.heap.objs.size+1) s2 H2 fp) ([(s2.heap.objs.size,g_ us cnt)]++qx fp s5.heap) aP H' s'->tn (i+1) s'.heap/\∀ b∈fp,H' b=none:=fun {s' H' aP} I'=>by
    refine⟨T.keep _ _ _ sk fun b hb o e=>(I'.pin (b,o) (Qh _ (Qh _ (yZ hb e)))).1,fun b hb=>?_⟩
    obtain⟨o,e,d⟩:=T.obj _ _ sk b hb
    exact(I'.pin (b,o) (Qh _ (Qh _ (yZ hb e)))).2.1
   cases ok with
   | false=>
    rw[Qg (by decide)]at q7 ⊢
    obtain⟨m',hm,w7⟩:=q7
    have:=GO I7.eU
    rw[l6]at this
    exact⟨m',hm,i+1,ys,us,cnt,H7,this,(kept I7).1,(kept I7).2,r3,w7⟩
   | true=>
    rw[Qe rfl]at q7 ⊢
    refine aU (he _ _ _ _ _ s7 _ H7 _ I7 q7) fun u8 s8 aj=>?_
    obtain⟨v,H8,I8,r8,m',hm,w8⟩:=aj
    obtain⟨eD,nD,GR,RC,dD⟩:=I8.pin (s2.heap.objs.size,g_ us cnt) (Qh _ (QU _ (QC.mpr rfl)))
    refine append_at eD (fun h9 GS RD=>?_) (hsz:=by rw[Qk,<- r3.length];exact ZF dZ)
    have Ia:=I8.cK (pins':=qx fp s5.heap) fun p hp=>I8.pin p (Qh _ (Qh _ hp))
    have RE:∀ p∈qx fp s5.heap,p.1≠s2.heap.objs.size:=fun p hp z=>by
     have:=sN p.1 (FK hp).1
     exact absurd this (by rw[z];exact QN _)
    have Ib:=Ia.turned (h':=h9) (t':=s8.toks) (it:=s2.heap.objs.size) (fun b o hb e=>GS.extBut b o hb e) nD GR (.inr (Qf _)) (fun y c h z=>by
      obtain⟨vv,o,ho,hd⟩:=I8.cell y c h
      rw[z,eD]at ho
      cases ho
      cases hd) (fun p hp=>RE p (by
      have sP:p ∈ []++qx fp s5.heap:=hp
      simpa using sP))
    have Ic:=Ib.cK (pins':=[(s2.heap.objs.size,g_ (us++[u8]) (cnt+1))]) fun p hp=>by
     have e:p=(s2.heap.objs.size,g_ (us++[u8]) (cnt+1)):=by simpa using hp
     subst e
     refine⟨?_,nD,GR,RC,fun v z=>nomatch z⟩
     show h9.get? s2.heap.objs.size=_
     rw[RD]
     unfold g_
     simp
    have Id:=GO Ic
    rw[l6]at Id
    have kp:=kept I8
    refine⟨m',hm,i+1,ys++[v],us++[u8],cnt+1,H8,Id,T.keep _ _ _ kp.1 fun b hb o e=>GS.extBut b o (fun z=>by
     have:=sN b hb
     have z':b=s2.heap.objs.size:=z
     exact absurd this (by rw[z'];exact QN _)) e,kp.2,a_.append r3 (.cons r8 .nil),w8⟩
 have hC:(s2.heap.push { cls:=.type "list",dict:=none,data:=.seq ([]:List Value).toArray }).objs.size=s2.heap.objs.size+1:=Zs ..
 have fin:=codeAny_compStart_list (loop _ rfl) (T.self X.A 0 _ _ _ vM (loop _ rfl))
 dsimp only at fin ⊢
 rw[hC]
 exact fin
theorem b8.locs{k:Nat}(S:b8 X k N' scope):∀ y∈scope.names,y.2=.local->scope.names.lookup y.1=some .local:=fun y hy e=>by
 obtain⟨n,kd⟩:=y
 have e':kd=.local:=e
 subst e'
 exact GJ S.names hy
theorem B8{m:Str->Option Value}{v:Option Value}(hn:h.Ns C m)(hc:h.IsCell c v):c≠C:=fun z=>by
 obtain⟨o,es,ep,ho,hd,_⟩:=hn
 obtain⟨o',gY,kR⟩:=hc
 rw[z,ho]at gY
 cases gY
 rw[hd]at kR
 cases kR
section
variable {X:Cx}{k:Nat}{N':List Str}{scope:Scope}{elt tg iter:Expr}{ifs:List Expr}{pos:Pos}{wi:TI}{g:TG}{tt:TT}{te:TE}
theorem GU(hc:X.calm=true)(S:b8 X k N' scope)(hi:PI X tg iter wi)(hg:∀ C s H fp,PG (gw X N' scope C s H fp) tg g)(ht:∀ C s H fp,uI (gw X N' scope C s H fp) ifs tt)(he:∀ C s H fp,PE (gw X N' scope C s H fp) elt te)
  (hs:∀ x,foldedSetIterable iter X.env x=pure x:=by intro _;rfl):PE X (.ListComp elt [⟨tg,iter,ifs,0⟩] scope pos) (wq k wi g tt te):=by
 intro pins s σ H Q I h
 rw[eval_ListComp]
 refine wpAny_comprehension_free (use:=none) rfl hs (GI fun y hy e=>?_) S.kind S.locs (aU (hi pins s σ H _ I h) fun v s1 h1=>aU h1 fun yX s2 h2=>?_)
 ·obtain⟨n,kd⟩:=y
  have e':kd=.free:=e
  subst e'
  exact I.ok.has n (S.free hy)
 ·obtain⟨it,fp,tn,J,H2,e,I2,T,qy,f2,R⟩:=h2
  subst e
  refine GP hc S hg ht he I2 T qy f2 R ?_
  intro C ys H' s' m' I' hn hD B9 zh B_ Ca fin
  refine⟨m',hn,fun h' sQ=>⟨.ref s2.heap.objs.size,_,I'.turned (h':=h') (t':=s'.toks) (it:=C) (fun b o hb e=>sQ.extBut b o hb e) B9 zh (.inr B_) (fun x c h=>?_) (fun p hp z=>?_),rfl,fin _ hD⟩⟩
  ·obtain⟨v,q⟩:=I'.cell x c h
   exact B8 hn q
  ·have:=Ql (I2.pin p hp).1
   exact absurd (Ja this Ca) (by rw[z];exact QN _)
theorem RF{py jw:Pos}(hN:X.N.Nodup)(hy:X.N[i]? = some y)(hx:Loc X.env.scope y)(sR:swapsWith (.ListComp elt [⟨tg,iter,ifs,0⟩] scope pos) (some (.Name y py)) jw.line X.env=pure true)
  (hc:X.calm=true) (S:b8 X k N' scope) (hi:PI X tg iter wi) (hg:∀ C s H fp,PG (gw X N' scope C s H fp) tg g) (ht:∀ C s H fp,uI (gw X N' scope C s H fp) ifs tt) (he:∀ C s H fp,PE (gw X N' scope C s H fp) elt te)
  (hs:∀ x,foldedSetIterable iter X.env x=pure x:=by intro _;rfl) (hf:X.fn y=true\/X.env.scope.names.lookup y=some .local:=by first|exact .inl rfl|exact .inr rfl|assumption) :
  PS X (.Assign [.Name y py] (.ListComp elt [⟨tg,iter,ifs,0⟩] scope pos) jw) (yW (wq k wi g tt te) (si i)):=by
 intro pins s σ H D I h
 rw[exec_Assign_Name_used _ _ _ _ sR]
 refine Qa (Yk (Qa ?_))
 show wpAny _ X.A (do let _ <- comprehension (.ListComp elt [⟨tg,iter,ifs,0⟩] scope pos) scope X.env _ (newList []) false (eval iter X.env) (some (assign (.Name y py) X.env))) _ _ s
 refine Qa (QV (wpAny_comprehension_free (use:=some (assign (.Name y py) X.env)) (Q:=fun _ s'=>SP X pins D .next s') rfl hs (GI fun z hz e=>?_) S.kind S.locs
  (aU (hi pins s σ H _ I h) fun v s1 h1=>aU h1 fun yX s2 h2=>?_)) (fun _ s' hq=>Qj (Qj hq)) fun _ _ e=>e)
 ·obtain⟨n,kd⟩:=z
  have e':kd=.free:=e
  subst e'
  exact I.ok.has n (S.free hz)
 ·obtain⟨it,fp,tn,J,H2,e,I2,T,qy,f2,R⟩:=h2
  subst e
  refine GP hc S hg ht he I2 T qy f2 R ?_
  intro C ys H' s' m' I' hn hD B9 zh B_ Ca fin
  show wpAny _ X.A (assign (.Name y py) X.env (.ref s2.heap.objs.size)) _ _ _
  refine wpAny_assign_Name (FA I' hN hy hx (v:=.ref s2.heap.objs.size) rfl (fun lQ GV ⟨a,sb,ha⟩=>?_) hf)
  have RG:C≠a:=fun z=>by
   rcases ha with q|q
   ·exact zh (z.trans q)
   ·obtain⟨v,w⟩:=I'.cell y a q
    exact B8 hn w z.symm
  have su:=hn.sameBut sb RG
  refine⟨m',su,fun h' sQ=>⟨_,_,GV.turned (h':=h') (t':=lQ.toks) (it:=C) (fun b o hb e=>sQ.extBut b o hb e) B9 zh (.inr B_) (fun x c h=>?_) (fun p hp z=>?_),fin _ hD⟩⟩
  ·obtain⟨v,q⟩:=GV.cell x c h
   exact B8 su q
  ·have:=Ql (I2.pin p hp).1
   exact absurd (Ja this Ca) (by rw[z];exact QN _)
end
end L2
namespace L3
open PySem PySem.Spec PyProof.Rows PySem.W L2
variable {M:Model}{Q:Value->Shared->Prop}{R:Result->Shared->Prop}{T:String}{h:Heap}
section
variable {prog:Program}{w:World}{A:Around}{E:Value->Shared->Prop}{s:Shared}{K:Frag}{x C:Addr}{ox:Obj}
structure jW (h:Heap) (x:Addr) (ox:Obj) (C:Addr):Prop where
 at_:h.get? x=some ox
 cls:ox.cls=.ref C
theorem jW.type(I:jW h x ox C):Looks M h (typeOf (.ref x)) (.ref C):=I.cls ▸ (Looks.ld I.at_).andThen .now
structure fB (K:Frag) (C:Addr):Prop where
 ci:(clsIn K C).isSome=true
 ga:findIn K (.ref C) "__getattribute__" = some (some (.builtin "BaseException.__getattribute__"))
 gt:findIn K (.ref C) "__getattr__" = some none
 cl:findIn K (.ref C) "__class__" = some (some (.builtin "object.__class__"))
 cg:specialIn K (.builtin "object.__class__") "__get__" = some (some (.builtin "getset_descriptor.__get__"))
 ct:takesIn K (.builtin "object.__class__")=some true
 mo:mroIn K C (.type "object")=some true
 mb:mroIn K C (.type "BaseException")=some true
theorem RH(X:K.In h)(I:jW h x ox C)(XC:fB K C):Looks M h (Builtin.ObjectAttr.find (.ref x) (.ref C) "__class__") (.bind (.builtin "getset_descriptor.__get__") (.builtin "object.__class__")):=by
 have L1:=looks_findIn (M:=M) X XC.cl
 have L2:Looks M h (Builtin.ObjectAttr.getOf (some (.builtin "object.__class__"))) _:=looks_specialIn (M:=M) X XC.cg
 have L3:=looks_takesIn (M:=M) X XC.ct
 exact L1.andThen (L2.andThen ((show Looks M h (Builtin.ObjectAttr.dataDescriptor? (some (.builtin "object.__class__")) (some (.builtin "getset_descriptor.__get__"))) (some ((.builtin "getset_descriptor.__get__"),(.builtin "object.__class__")))from L3.andThen .now).andThen (Looks.tag .now)))
theorem RI{tp:Value}(X:K.In s.heap)(I:jW s.heap x ox C)(hm:mroIn K C (.type "object")=some true)
  (h:R (.ok (.ret (.ref C))) s):codeAny (model prog w) A (.call (.builtin "getset_descriptor.__get__") ⟨[.builtin "object.__class__",.ref x,tp],[]⟩) R s:=by
 obtain⟨hh,g,dr,t,os⟩:=s
 have L0:=I.type (M:=model prog w)
 have L1:=looks_mroIn (M:=model prog w) X hm
 refine Z7 KF.slot_gs.plain KF.entry_gs (KF.slot_gs.check _ _ _ _ _ _ _ _ KF.type_class (KF.args_gs _ _ _) ?_)
 unfold Builtin.«getset_descriptor.__get__» Builtin.Getset_descriptor.descrGet
 rw[dga_obj]
 refine Qa (Qj ?_)
 unfold Builtin.Getset_descriptor.descrGetter Builtin.Getset_descriptor.descrCheckInstance Builtin.Getset_descriptor.descrNameAndClass isInstance
 simp only[KF.owner_class]
 repeat lk
 refine⟨Code.quiet_builtin _ (by decide +kernel),ZL KF.entry_class ?_⟩
 unfold Builtin.«object.__class__» shownTypeOf
 repeat lk
 exact h
theorem RJ{qK:Value}{Q:Unit->Shared->Prop}(X:K.In s.heap)(I:jW s.heap x ox C)(XC:fB K C)(hq:Q () s):wpAny M A (checkBuiltinCall "BaseException.__getattribute__" ⟨[.ref x,qK],[]⟩) Q E s:=by
 obtain⟨hh,g,d,t,os⟩:=s
 have L0:=I.type (M:=M)
 have L1:=looks_mroIn (M:=M) X XC.mb
 have hk:builtinKind "BaseException.__getattribute__" = some .slot:=by decide +kernel
 have sS:splitId "BaseException.__getattribute__" = some ("BaseException","__getattribute__"):=by decide +kernel
 have ha:=PySem.F.args_bexc_ga (.ref x) qK
 simp only[checkBuiltinCall,hk,sS]
 unfold isInstance
 repeat lk
 exact hq
theorem RK{tk:Tok}(X:K.In s.heap)(I:jW s.heap x ox C)(XC:fB K C)(h:R (.ok (.ret (.ref C))) s) :
  codeAny (model prog w) A (.call (.builtin "BaseException.__getattribute__") ⟨[.ref x,.str "__class__" tk],[]⟩) R s:=by
 refine Z7 JX.ga.plain PySem.F.entry_bexc_ga (RJ X I XC ?_)
 obtain⟨hh,g,d,t,os⟩:=s
 have L0:=I.type (M:=model prog w)
 have L1:=RH (M:=model prog w) X I XC
 show wpAny _ _ (Builtin.«object.__getattribute__» ⟨[.ref x,.str "__class__" tk],[]⟩) _ _ _
 refine Qa (Qj ?_)
 refine Qa (Qj ?_)
 refine Qa (L0.at (Qa (L1.at ?_)))
 show wpAny _ _ (holding [.builtin "object.__class__"] (call (.builtin "getset_descriptor.__get__") [.builtin "object.__class__",.ref x,.ref C]) >>= ret) _ _ _
 exact Qa (Zl (JV (RI X I XC.mo (Qj h))))
theorem RL{Q:Option Value->Shared->Prop}(X:K.In s.heap)(I:jW s.heap x ox C)(XC:fB K C)(h:Q (some (.ref C)) { s with toks:=s.toks+1 }):wpAny (model prog w) A (getAttr? (.ref x) "__class__") Q E s:=by
 obtain⟨hh,g,d,t,os⟩:=s
 have L0:=I.type (M:=model prog w)
 have L1:=looks_findIn (M:=model prog w) X XC.ga
 have L2:=looks_findIn (M:=model prog w) X XC.gt
 have f3:=JX.ga.bind (.ref x)
 unfold getAttr? getAttrBy? getAttrBy
 refine Qa (wpAny_mkText (Qa (wpAny_attempt (Zl (Qa (L0.at (Qa (L1.at ?_))))))))
 show wpAny _ _ (getAttrByItsOwn _ _ _ _ _ _) _ _ _
 unfold getAttrByItsOwn
 refine Qa (L2.at ?_)
 refine Qa (wpAny_attempt (Zl ?_))
 show wpAny _ _ (boundAndCalled _ _ _) _ _ _
 unfold boundAndCalled
 rw[f3]
 refine Qa (Qj ?_)
 show wpAny _ _ (call (.builtin "BaseException.__getattribute__") [.ref x,.str "__class__" t]) _ _ _
 refine JV (RK (s:=⟨hh,g,d,t+1,os⟩) X I XC ?_)
 exact handed_on rfl (Qj h)
theorem Cb{D:Addr}(X:K.In h)(e:(clsIn K D).isSome=true):Looks M h (isType (.ref D)) true:=by
 unfold clsIn at e
 split at e
 next c' d' cd' oz ho=>
  intro A' Q' E' s' k q
  unfold isType loadHead
  exact Qa (wpAny_loadPart (k _ _ (X _ _ ho)) (Qj q))
 ·cases e
theorem GW{c:Value}{ka:Int}{tk:Tok}{Q:Fin->Shared->Prop}(X:K.In s.heap)(I:jW s.heap x ox C)(XC:fB K C)(pf:Looks (model prog w) s.heap (typeOf c) (.type "type"))(gS:Looks (model prog w) s.heap (isType c) true)
  (fI:(Value.ref C==c)=false) (c_:Looks (model prog w) s.heap (isSubtype (.ref C) c) false) (h:Q (.done (.ret (.bool false))) { s with toks:=s.toks+1 }) :
  wpAny (model prog w) A (Builtin.«isinstance.nested» ⟨[.ref x,c,.int ka tk],[]⟩) Q E s:=by
 have Cc:=Cb (M:=model prog w) X XC.ci
 obtain⟨h0,g,d,tt,os⟩:=s
 have L0:=I.type (M:=model prog w)
 have LI:Looks (model prog w) h0 (isInstance (.ref x) c) false:=L0.andThen c_
 unfold Builtin.«isinstance.nested»
 refine Qa (L0.at ?_)
 rw[Qg (fun q=>by rw[fI]at q;exact Bool.noConfusion q)]
 refine Qa (pf.at ?_)
 rw[Qe (by decide)]
 k_delta "plainIsInstance"
 refine Qa (Qa (gS.at ?_))
 simp only[YQ,ZI,JF]
 refine Qa (LI.at ?_)
 simp only[ZI,JF]
 refine Qa (RL X I XC ?_)
 refine Qa (Cc.at ?_)
 simp only[YQ,ZI,JF]
 refine Qa (wpAny_rule ?_)
 refine c_.at ?_
 first
  | exact Qj h
  | exact Qj (Qj h)
  | exact Qa (Qj (Qj h))
theorem RM{D:Addr}(X:K.In s.heap)(I:jW s.heap x ox C)(XC:fB K C)(e:kin_not K C D=true)(h:Q (.bool false) { s with toks:=s.toks+1 }):wpAny (model prog w) A (call (.builtin "isinstance") [.ref x,.ref D]) Q E s:=by
 unfold kin_not at e
 rw[Zg,Zg,Zg]at e
 obtain⟨⟨⟨e0,e1⟩,e2⟩,e3⟩:=e
 have fI:(Value.ref C==Value.ref D)=false:=Bool.eq_false_iff.mpr fun q=>Ze e0 (Value.ref.inj (Zi.mp q))
 exact YD (S:=fun _ R s=>(K.In s.heap/\jW s.heap x ox C)/\R (.ok (.ret (.bool false))) { s with toks:=s.toks+1 })
  (fun _ _ _ _ _ hs=>Ys (GW hs.1.1 hs.1.2 XC (looks_typeIn hs.1.1 (Zi.mp e2)) (Cb hs.1.1 e1) fI (YK hs.1.1 (Zi.mp e3)) hs.2) (by intro q;cases q)) ⟨⟨X,I⟩,h⟩
theorem RN{D:Addr}(X:K.In s.heap)(I:jW s.heap x ox C)(e:isIn K (.ref C) D=true)(h:Q (.bool true) s):wpAny (model prog w) A (call (.builtin "isinstance") [.ref x,.ref D]) Q E s:=
 isi_call X (fun M=>I.type) e (by intro q;cases q) h
theorem RO(X:K.In s.heap)(I:jW s.heap x ox C)(pf:typeOf (.type T)=pure (.type "type"))(e:subIn K (.ref C) (.type T)=some true)(h:Q (.bool true) s):wpAny (model prog w) A (call (.builtin "isinstance") [.ref x,.type T]) Q E s:=
 YD (S:=fun _ R s=>(K.In s.heap/\jW s.heap x ox C)/\R (.ok (.ret (.bool true))) s) (fun prog w A R s hs=>Ys (by
  obtain⟨⟨X,I⟩,h⟩:=hs
  obtain⟨h0,g,d,tt,os⟩:=s
  have L0:=I.type (M:=model prog w)
  have LI:Looks (model prog w) h0 (isInstance (.ref x) (.type T)) true:=L0.andThen (YK X e)
  have hT:Looks (model prog w) h0 (typeOf (.type T)) (.type "type"):=JC pf
  have hI:Looks (model prog w) h0 (isType (.type T)) true:=JC rfl
  unfold Builtin.«isinstance.nested»
  refine Qa (L0.at ?_)
  rw[Qg (fun q=>by cases Zi.mp q)]
  refine Qa (hT.at ?_)
  rw[Qe (by decide)]
  k_delta "plainIsInstance"
  refine Qa (Qa (hI.at ?_))
  simp only[YQ,ZI,JF]
  refine Qa (LI.at ?_)
  simp only[Z9]
  exact Qj (Qj h)) (by intro q;cases q)) ⟨⟨X,I⟩,h⟩
theorem RP(X:K.In s.heap)(I:jW s.heap x ox C)(XC:fB K C)(pf:typeOf (.type T)=pure (.type "type"))(e:subIn K (.ref C) (.type T)=some false)(h:Q (.bool false) { s with toks:=s.toks+1 }):wpAny (model prog w) A (call (.builtin "isinstance") [.ref x,.type T]) Q E s:=
 YD (S:=fun _ R s=>(K.In s.heap/\jW s.heap x ox C)/\R (.ok (.ret (.bool false))) { s with toks:=s.toks+1 })
  (fun _ _ _ _ _ hs=>Ys (GW hs.1.1 hs.1.2 XC (JC pf) (JC rfl) (Bool.eq_false_iff.mpr fun q=>by cases Zi.mp q) (YK hs.1.1 e) hs.2) (by intro q;cases q)) ⟨⟨X,I⟩,h⟩
end
def zi:List Value:=[.type "ValueError",.type "Exception",.type "BaseException",.type "object"]
structure hJ (K:Frag) (nm:Str) (C:Addr):Prop where
 ns:nsIn K mainGlobals nm=some (some (.ref C))
 xc:fB K C
 ex:excIn K C zi "ValueError.__new__" = true
 ve:subIn K (.ref C) (.type "ValueError")=some true
 no:∀ T ∈ ["int","bool","tuple","list","str"],subIn K (.ref C) (.type T)=some false
def XO (K:Frag)(nm:Str)(ob:Obj):Prop:=∃ C,ob.cls=.ref C/\hJ K nm C
end L3
namespace L3
open PySem PySem.Spec PyProof.Rows L2
variable {A:Around}{E:XK}{F:List Addr}{H H' H1 H2:Hp}{K:PySem.W.Frag}{N ps:List Str}{X:Cx}{a p:Addr}{b c:Int}{deep:Bool}{es:List Expr}{fd:FuncData}{h:Int->Int->V}{i n t t':Nat}{op:CmpOp}{r:R2}{te:TE}{tg:Expr}{u:Tok}{v:V}{vs xs:List V}{x:HO}{y:Option HO}
theorem zj:Slot "function" "__getattribute__" "object.__getattribute__" :=
 .of (owner:="object") (n:="__getattribute__") (by rw[typeLookup_type,builtinLookup_eq_fast];kernel_rfl) (by decide +kernel) (by decide +kernel) (by decide +kernel)
  (by first|exact .inl (by decide +kernel)|exact .inr (by decide +kernel)) (by rw[isSubtype_type];kernel_rfl)
theorem RQ:typeLookup (.type "function") "__class__" = pure (some (.builtin "object.__class__")):=by rw[typeLookup_type,builtinLookup_eq_fast];kernel_rfl
theorem RS:isSubtype (.type "function") (.type (".".intercalate ("object.__class__".cutAt '.').dropLast))=pure true:=by
 rw[PySem.F.owner_object_class,isSubtype_type];kernel_rfl
theorem RT:entryFor table "object.__getattribute__" = some Builtin.«object.__getattribute__»:=entryFor_of_tree (by kernel_rfl)
theorem RU(a b:Value):argsOk "object.__getattribute__" ⟨[a,b],[]⟩:=by unfold argsOk;kernel_rfl
section
variable {prog:Program}{w:World}{A:Around}{E:Value->Shared->Prop}{s:Shared}{a:Addr}
theorem RV{R:Result->Shared->Prop}(hT:s.TypeIs (.ref a) "function")(hq:R (.ok (.ret (.type "function"))) s) :
  codeAny (model prog w) A (.call (.builtin "getset_descriptor.__get__") ⟨[.builtin "object.__class__",.ref a,.type "function"],[]⟩) R s:=by
 obtain⟨h,g,d,t,os⟩:=s
 have h5:(⟨h,g,d,t,os⟩:Shared).TypeIs (.builtin "object.__class__") "getset_descriptor":=Z3
 have f8:=RS
 refine Z7 JN.plain PySem.F.entry_gs_get (JN.check _ _ _ _ _ _ _ _ h5 (PySem.F.args_gs_get _ _ _) ?_)
 repeat (any_goals (first|assumption|wp_step))
 refine⟨Code.quiet_builtin _ (by decide +kernel),ZL PySem.F.entry_object_class ?_⟩
 repeat (any_goals (first|assumption|wp_step))
theorem RW{Q:Option Value->Shared->Prop}(hT:s.TypeIs (.ref a) "function")(hq:Q (some (.type "function")) { s with toks:=s.toks+1 }):wpAny (model prog w) A (getAttr? (.ref a) "__class__") Q E s:=by
 obtain⟨h,g,d,t,os⟩:=s
 have GX:∀ t',(⟨h,g,d,t',os⟩:Shared).TypeIs (.ref a) "function":=fun _=>hT
 have en:∀ {tk:Tok} {t':Nat} {Q:Fin->Shared->Prop} {E:Value->Shared->Prop} {A:Around},Q (.done (.ret (.type "function"))) ⟨h,g,d,t',os⟩->
   wpAny (model prog w) A (Builtin.«object.__getattribute__» ⟨[.ref a,.str "__class__" tk],[]⟩) Q E ⟨h,g,d,t',os⟩:=by
  intro tk t' Q E A hq
  have hT:=GX t'
  have h5:(⟨h,g,d,t',os⟩:Shared).TypeIs (.builtin "object.__class__") "getset_descriptor":=Z3
  have f4:=RQ
  have f5:=Z3
  have f6:=JN.lookup
  have f7:=PySem.F.slot_gs_set.lookup
  repeat (any_goals (first|assumption|wp_step))
  refine RV hT ?_
  repeat (any_goals (first|assumption|wp_step))
 have RX:∀ {tk:Tok} {t':Nat} {Q:Value->Shared->Prop} {E:Value->Shared->Prop} {A:Around},Q (.type "function") ⟨h,g,d,t',os⟩->wpAny (model prog w) A (getAttrBy (.ref a) (.str "__class__" tk) false) Q E ⟨h,g,d,t',os⟩:=by
  intro tk t' Q E A hq
  have hT:=GX t'
  have f2:=zj.lookup
  have f3:=zj.bind (.ref a)
  repeat (any_goals (first|assumption|wp_step))
  refine Z7 zj.plain RT (zj.check _ _ _ _ _ _ _ _ hT (RU _ _) (en ?_))
  repeat (any_goals (first|assumption|wp_step))
 unfold getAttr? getAttrBy?
 repeat (any_goals (first|assumption|with_reducible apply RX | wp_step))
theorem RY:PySem.W.KitX K (.ref a) (.type "function") (PySem.W.KitAt a "function"):=PySem.W.kitx_of PySem.W.kitAt_ty (fun {_ _ _ _ _ s} p k=>RW (by obtain⟨o,h1,h2⟩:=p;exact⟨o,h1,h2⟩) k)
end
theorem nM{α:Type}{P:α->Prop}(a:α)(z:a∈([]:List α)):P a:=nomatch z
inductive MK where
 | t (ks:List (List Key))
 | k (ks:List Key)
 | i (nm:Str) (fs:List Str) (p:Option Addr)
def MK.len:MK->Nat
 | .t ks=>ks.length
 | .k ks=>ks.length
 | .i _ fs _=>fs.length
inductive D where
 | au|bl (b:Bool)|int (i:Int)|str (x:Str)|tup (ds:List D)|lst (ds:List D)
 | gy (ks:List Str) (ds:List D)
 | exc (nm:Str)
 | ob (f:Addr) (fo:Obj) (vs:List V) (ds:List D)
 | mp (k:MK) (ds:List D)
abbrev St:=L2.St
inductive Ow where
 | s (i:Nat)|t (i:Nat)|f
 deriving DecidableEq
abbrev Wn:=Addr->Option Ow
def KL (K:PySem.W.Frag)(a:Addr)(xs:List V):Prop:=
 ∃ (o:Obj) (aq:Array Value) (n:Nat),K.lookup a=some o/\o.cls=.type "list" /\ o.dict=none/\o.data=.seq aq n/\aq.size<=sizeLine/\a_ xs aq.toList
theorem cL.cases(h:cL K H a xs):Rd H a (.lst xs)\/KL K a xs:=h
theorem KL.sq(h:KL K a xs):cL K H a xs:=.inr h
def nz (ks:List Str)(vs:List V):List (Key×V):=(ks.map fun x=>(Sum.inr x:Key)).zip vs
def wz (fo:Obj)(c:Addr)(oc:Obj):Prop:=fo.cls=.type "function" /\ (∃ fd,fo.data=.func fd/\fd.code=.ref c)/\∃ fs q t,oc.data=.fields fs/\fs[1]? = some (.str q t)
structure hV (K:PySem.W.Frag) (C:Addr):Prop where
 cl:L2.mK K C
 ha:PySem.W.findIn K (.ref C) "__class__" = some (some (.builtin "object.__class__"))
 hn:PySem.W.specialIn K (.builtin "object.__class__") "__get__" = some (some (.builtin "getset_descriptor.__get__"))
 vQ:PySem.W.takesIn K (.builtin "object.__class__")=some true
 hm:PySem.W.mroIn K C (.type "object")=some true
 no:∀ t∈(["bool","int","tuple","list","str"]:List String),PySem.W.kitOne K (.ref C) (.type t)=some false
def MK.Is (K:PySem.W.Frag)(a:Addr):MK->List V->HO->Prop
 | .t ks,vs,x=>x=.dT (ks.zip vs)
 | .k ks,vs,x=>x=.dK (ks.zip vs)
 | .i nm fs p,vs,x=>∃ C dx,PySem.W.nsIn K mainGlobals nm=some (some (.ref C))/\x=.ins C dx (fs.zip vs)/\hV K C/\(∀ f∈fs,L2.qz K C f)/\∀ d,p=some d->a=d
mutual
inductive Rep (K:PySem.W.Frag) (H:Hp) (w:Wn) (o:Ow):Nat->D->V->List Addr->Prop
 | au {q}:Rep K H w o q .au .au []
 | bl {q} (b:Bool):Rep K H w o q (.bl b) (.bl b) []
 | int {q} (i:Int):Rep K H w o q (.int i) (.int i) []
 | str {q} (x:Str):Rep K H w o q (.str x) (.str x) []
 | tup {q} {a:Addr} {vs:List V} {ds:List D}:H a=some (.tup vs)->ag K H w o 0 ds vs []->Rep K H w o q (.tup ds) (.ref a) []
 | gy {q} {a:Addr} {ks:List Str} {vs:List V} {ds:List D}:H a=some (.dK (nz ks vs))->w a=none->ag K H w o 0 ds vs []->Rep K H w o q (.gy ks ds) (.ref a) []
 | exc {q} {a:Addr} {nm:Str} {ob:Obj} {u:HO}:H a=some (.bZ ob u)->XO K nm ob->(∀ xs,u ≠ .lst xs)->Rep K H w o q (.exc nm) (.ref a) []
 | ob {q} {f c:Addr} {fo oc:Obj} {u u':HO} {vs:List V} {ds:List D}:H f=some (.bZ fo u)->H c=some (.bZ oc u')->wz fo c oc->ag K H w o 0 ds vs []->Rep K H w o q (.ob f fo vs ds) (.ref f) []
 | kl {a:Addr} {vs:List V} {ds:List D}:KL K a vs->ag K H w o 0 ds vs []->Rep K H w o 0 (.lst ds) (.ref a) []
 | shr {a:Addr} {vs:List V} {ds:List D}:Rd H a (.lst vs)->w a=none->ag K H w o 0 ds vs []->Rep K H w o 0 (.lst ds) (.ref a) []
 | own {q} {a:Addr} {vs:List V} {ds:List D} {F:List Addr}:H a=some (.lst vs)->w a=some o->ag K H w o q ds vs F->a ∉ F->Rep K H w o (q+1) (.lst ds) (.ref a) (a::F)
 | oF {a:Addr} {vs:List V} {ds:List D} {k:MK} {x:HO}:H a=some x->k.Is K a vs x->w a=none->k.len=ds.length->ag K H w o 0 ds vs []->Rep K H w o 0 (.mp k ds) (.ref a) []
 | gz {q} {a:Addr} {vs:List V} {ds:List D} {k:MK} {x:HO}:H a=some x->k.Is K a vs x->w a=some o->k.len=ds.length->ag K H w o 0 ds vs []->Rep K H w o (q+1) (.mp k ds) (.ref a) [a]
inductive ag (K:PySem.W.Frag) (H:Hp) (w:Wn) (o:Ow):Nat->List D->List V->List Addr->Prop
 | nil {q}:ag K H w o q [] [] []
 | cons {q} {d:D} {v:V} {ds:List D} {vs:List V} {F G:List Addr}:Rep K H w o q d v F->ag K H w o q ds vs G->(∀ a∈F,a ∉ G)->ag K H w o q (d::ds) (v::vs) (F++G)
end
def zk:HO->Bool
 | .lst _=>true
 | .dK _=>true
 | .dT _=>true
 | .ins _ _ _=>true
 | _=>false
inductive OX where
 | l (vs:List V)|t (ai:List (List Key×V))|k (ai:List (Key×V))|i (C dx:Addr) (fs:List (Str×V))
def OX.ho:OX->HO
 | .l vs=>.lst vs
 | .t ai=>.dT ai
 | .k ai=>.dK ai
 | .i C dx fs=>.ins C dx fs
theorem OX.is(v:OX):zk v.ho=true:=by cases v<;>rfl
theorem MK.ox{k:MK}(h:k.Is K a vs x):∃ v:OX,x=v.ho:=by
 cases k with
 | t ks=>exact⟨.t _,h⟩
 | k ks=>exact⟨.k _,h⟩
 | i nm fs p=>obtain⟨C,dx,_,h,_⟩:=h;exact⟨.i _ _ _,h⟩
def oG:HO->Bool
 | .dB _=>true
 | _=>false
def Sm (x:HO)(y:Option HO):Prop:=match x with
 | .dB _=>∃ ps,y=some (.dB ps)
 | x=>y=some x
theorem sm(h:y=some x):Sm x y:=by cases x<;>first|exact h|exact⟨_,h⟩
theorem Sm.is(h:Sm x y):∃ z,y=some z/\oG z=oG x:=by
 cases x<;>first|exact⟨_,h,rfl⟩|(obtain⟨ps,e⟩:=h;exact⟨_,e,rfl⟩)
theorem Sm.eq(h:Sm x y)(n:oG x=false):y=some x:=by cases x<;>first|exact h|cases n
def pz:List Str:=["turned","chain_ladder","flat_ladder","paired","height_of","_law_high"]
structure TB (K:PySem.W.Frag) (H:Hp):Prop where
 tr:∀ P ps,H P=some (.dB ps)->PySem.TriplesOk ps.toList
 cd:∀ P ps,H P=some (.dB ps)->∀ pos cv,PySem.codeAmong pos ps.toList=some cv->∃ c oc u vs q t,cv=.ref c/\H c=some (.bZ oc u)/\oc.data=.fields vs/\vs[1]? = some (.str q t)/\∀ xs,u ≠ .lst xs
 is:∀ x∈pz,∀ c P,PySem.W.tabIn K x=some (c,P)->∃ ps,H P=some (.dB ps)
structure WL (K:PySem.W.Frag) (w:Wn) (H:Hp):Prop where
 own:∀ a o,w a=some o->∃ vs:OX,H a=some vs.ho
 tb:TB K H
instance {K:PySem.W.Frag} {w:Wn} {H:Hp}:CoeFun (WL K w H) (fun _=>∀ a o,w a=some o->∃ vs:OX,H a=some vs.ho):=⟨WL.own⟩
theorem TB.upd(t:TB K H)(hx:oG x=false)(hp:H p=none\/∃ vs:OX,H p=some vs.ho):TB K (L2.upd H p x):=by
 have ne:∀ a y,H a=some y->zk y=false->a≠p:=fun a y e h z=>by
  subst z
  rcases hp with q|⟨vs,q⟩
  ·rw[e]at q;cases q
  ·rw[e]at q
   rw[Qt q,vs.is]at h
   cases h
 refine⟨fun P ps e=>?_,fun P ps e pos cv hc=>?_,fun x hx c P hP=>by
  obtain⟨ps,e⟩:=t.is x hx c P hP
  exact⟨ps,by rw[aO (ne P _ e rfl)];exact e⟩⟩
 ·by_cases hP:P=p
  ·subst hP;rw[cT]at e;cases e;cases hx
  ·rw[aO hP]at e;exact t.tr P ps e
 ·by_cases hP:P=p
  ·subst hP;rw[cT]at e;cases e;cases hx
  ·rw[aO hP]at e
   obtain⟨c,oc,u,vs,q,tt,h1,h2,h3,h4,h5⟩:=t.cd P ps e pos cv hc
   exact⟨c,oc,u,vs,q,tt,h1,by rw[aO (ne c _ h2 rfl)];exact h2,h3,h4,h5⟩
def cY (H:Hp)(w:Wn)(H':Hp)(w':Wn):Prop:=∀ a x,H a=some x->w a=none->Sm x (H' a)/\w' a=none
theorem cY.trans{w w1 w2:Wn}(a:cY H w H1 w1)(b:cY H1 w1 H2 w2):cY H w H2 w2:=fun c x h n=>by
 obtain⟨s1,n1⟩:=a c x h n
 cases ht:oG x with
 | false=>exact b c x (s1.eq ht) n1
 | true=>
  obtain⟨y,e,hy⟩:=s1.is
  obtain⟨s2,n2⟩:=b c y e n1
  refine⟨?_,n2⟩
  rw[ht]at hy
  cases x with
  | dB ps=>
   cases y with
   | dB ps'=>exact s2
   | _=>cases hy
  | _=>cases ht
theorem WL.uK{w:Wn}(wl:WL K w H)(e:H a=some x)(h:zk x=false):w a=none:=by
 cases q:w a with
 | none=>rfl
 | some o=>
  obtain⟨vs,e'⟩:=wl a o q
  rw[e]at e'
  rw[Qt e',vs.is]at h
  cases h
theorem dO.go{w w':Wn}(wl:WL K w H)(st:cY H w H' w')(h:dO K H a vs):dO K H' a vs:=by
 rcases h with(h|⟨o,h⟩)|h
 ·exact .inl (.inl (st a _ h (wl.uK h rfl)).1)
 ·exact .inl (.inr ⟨o,(st a _ h (wl.uK h rfl)).1⟩)
 ·exact .inr h
theorem Cd.go{w w':Wn}(st:cY H w H' w')(n:w a=none)(h:Rd H a (.lst vs)):Rd H' a (.lst vs)/\w' a=none:=by
 rcases h with h|⟨o,h⟩
 ·exact⟨.inl (st a _ h n).1,(st a _ h n).2⟩
 ·exact⟨.inr ⟨o,(st a _ h n).1⟩,(st a _ h n).2⟩
theorem Rep.go{w w':Wn}{o o':Ow}(wl:WL K w H)(st:cY H w H' w'):∀ {q:Nat} {d:D} {v:V} {F:List Addr},Rep K H w o q d v F->(∀ a∈F,H' a=H a/\w' a=some o')->Rep K H' w' o' q d v F:=by
 intro q d v F r
 refine Rep.rec (motive_1:=fun q d v F _=>(∀ a∈F,H' a=H a/\w' a=some o')->Rep K H' w' o' q d v F) (motive_2:=fun q ds vs F _=>(∀ a∈F,H' a=H a/\w' a=some o')->ag K H' w' o' q ds vs F) ?_ ?_ ?_ ?_ ?_ ?_ ?_ ?_ ?_ ?_ ?_ ?_ ?_ ?_ ?_ r
 ·intro q _;exact .au
 ·intro q b _;exact .bl b
 ·intro q i _;exact .int i
 ·intro q x _;exact .str x
 ·intro q a vs ds h r ih _;exact .tup (st _ _ h (wl.uK h rfl)).1 (ih nM)
 ·intro q a ks vs ds h n r ih _;exact .gy (st _ _ h n).1 (st _ _ h n).2 (ih nM)
 ·intro q a nm ob u h x n _;exact .exc (st _ _ h (wl.uK h rfl)).1 x n
 ·intro q f c fo oc u u' vs ds h1 h2 x r ih _;exact .ob (st _ _ h1 (wl.uK h1 rfl)).1 (st _ _ h2 (wl.uK h2 rfl)).1 x (ih nM)
 ·intro a vs ds h r ih _;exact .kl h (ih nM)
 ·intro a vs ds h n r ih _;exact .shr (Cd.go st n h).1 (Cd.go st n h).2 (ih nM)
 ·intro q a vs ds F h e r ne ih k;exact .own ((k _ Qd).1.trans h) (k _ Qd).2 (ih fun a m=>k a (Qb _ m)) ne
 ·intro a vs ds k x h i n l r ih _
  have nt:oG x=false:=by
   obtain⟨v,rfl⟩:=MK.ox i
   cases v<;>rfl
  exact .oF ((st _ _ h n).1.eq nt) i (st _ _ h n).2 l (ih nM)
 ·intro q a vs ds k x h i e l r ih kk;exact .gz ((kk _ Qd).1.trans h) i (kk _ Qd).2 l (ih nM)
 ·intro q _;exact .nil
 ·intro q d v ds vs F G r s ne nA nB k;exact .cons (nA fun a m=>k a (QU _ m)) (nB fun a m=>k a (Qh _ m)) ne
theorem ag.go{w w':Wn}{o o':Ow}(wl:WL K w H)(st:cY H w H' w'):∀ {q:Nat} {ds:List D} {vs:List V} {F:List Addr},ag K H w o q ds vs F->(∀ a∈F,H' a=H a/\w' a=some o')->ag K H' w' o' q ds vs F
 | _,_,_,_,.nil,_=>.nil
 | _,_,_,_,.cons r s ne,k=>.cons (Rep.go wl st r fun a m=>k a (QU _ m)) (ag.go wl st s fun a m=>k a (Qh _ m)) ne
theorem Rep.freeze{w w':Wn}{o o':Ow}(n:∀ a,w a=none->w' a=none):∀ {q:Nat} {d:D} {v:V} {F:List Addr},Rep K H w o q d v F->(∀ a∈F,w' a=none)->Rep K H w' o' 0 d v []:=by
 intro q d v F r
 refine Rep.rec (motive_1:=fun q d v F _=>(∀ a∈F,w' a=none)->Rep K H w' o' 0 d v []) (motive_2:=fun q ds vs F _=>(∀ a∈F,w' a=none)->ag K H w' o' 0 ds vs []) ?_ ?_ ?_ ?_ ?_ ?_ ?_ ?_ ?_ ?_ ?_ ?_ ?_ ?_ ?_ r
 ·intro q _;exact .au
 ·intro q b _;exact .bl b
 ·intro q i _;exact .int i
 ·intro q x _;exact .str x
 ·intro q a vs ds h r ih _;exact .tup h (ih nM)
 ·intro q a ks vs ds h e r ih _;exact .gy h (n _ e) (ih nM)
 ·intro q a nm ob u h x n _;exact .exc h x n
 ·intro q f c fo oc u u' vs ds h1 h2 x r ih _;exact .ob h1 h2 x (ih nM)
 ·intro a vs ds h r ih _;exact .kl h (ih nM)
 ·intro a vs ds h e r ih _;exact .shr h (n _ e) (ih nM)
 ·intro q a vs ds F h e r ne ih k;exact .shr (Rd.of h) (k _ Qd) (ih fun a m=>k a (Qb _ m))
 ·intro a vs ds k x h i e l r ih _;exact .oF h i (n _ e) l (ih nM)
 ·intro q a vs ds k x h i e l r ih kk;exact .oF h i (kk _ Qd) l (ih nM)
 ·intro q _;exact .nil
 ·intro q d v ds vs F G r s ne nA nB k;exact .cons (F:=[]) (G:=[]) (nA fun a m=>k a (QU _ m)) (nB fun a m=>k a (Qh _ m)) nM
theorem ag.freeze{w w':Wn}{o o':Ow}(n:∀ a,w a=none->w' a=none):∀ {q:Nat} {ds:List D} {vs:List V} {F:List Addr},ag K H w o q ds vs F->(∀ a∈F,w' a=none)->ag K H w' o' 0 ds vs []
 | _,_,_,_,.nil,_=>.nil
 | _,_,_,_,.cons r s ne,k=>.cons (F:=[]) (G:=[]) (Rep.freeze n r fun a m=>k a (QU _ m)) (ag.freeze n s fun a m=>k a (Qh _ m)) nM
theorem Rep.aA{w:Wn}{o:Ow}:∀ {q:Nat} {d:D} {v:V} {F:List Addr},Rep K H w o q d v F->∀ a∈F,w a=some o:=by
 intro q d v F r
 refine Rep.rec (motive_1:=fun q d v F _=>∀ a∈F,w a=some o) (motive_2:=fun q ds vs F _=>∀ a∈F,w a=some o) ?_ ?_ ?_ ?_ ?_ ?_ ?_ ?_ ?_ ?_ ?_ ?_ ?_ ?_ ?_ r
 ·intro q a m;exact(QS m).elim
 ·intro q b a m;exact(QS m).elim
 ·intro q i a m;exact(QS m).elim
 ·intro q x a m;exact(QS m).elim
 ·intro q a vs ds h r ih b m;exact(QS m).elim
 ·intro q a ks vs ds h e r ih b m;exact(QS m).elim
 ·intro q a nm ob u h x n b m;exact(QS m).elim
 ·intro q f c fo oc u u' vs ds h1 h2 x r ih b m;exact(QS m).elim
 ·intro a vs ds h r ih b m;exact(QS m).elim
 ·intro a vs ds h e r ih b m;exact(QS m).elim
 ·intro q a vs ds F h e r ne ih b m
  rcases Qi.mp m with z|z
  ·rw[z];exact e
  ·exact ih b z
 ·intro a vs ds k x h i e l r ih b m;exact(QS m).elim
 ·intro q a vs ds k x h i e l r ih b m
  rw[QC.mp m];exact e
 ·intro q a m;exact(QS m).elim
 ·intro q d v ds vs F G r s ne nA nB a m
  rcases Q0.mp m with z|z
  ·exact nA a z
  ·exact nB a z
theorem ag.aA{w:Wn}{o:Ow}:∀ {q:Nat} {ds:List D} {vs:List V} {F:List Addr},ag K H w o q ds vs F->∀ a∈F,w a=some o
 | _,_,_,_,.nil,a,m=>(QS m).elim
 | _,_,_,_,.cons r s ne,a,m=>(Q0.mp m).elim (r.aA a) (s.aA a)
def D.bM:D->Bool
 | .lst _=>true
 | .mp _ _=>true
 | _=>false
@[simp] theorem D.zl:D.bM .au=false:=rfl
@[simp] theorem D.Ce(b:Bool):D.bM (.bl b)=false:=rfl
@[simp] theorem D.zm(i:Int):D.bM (.int i)=false:=rfl
@[simp] theorem D.zo(x:Str):D.bM (.str x)=false:=rfl
@[simp] theorem D.zp(ds:List D):D.bM (.tup ds)=false:=rfl
@[simp] theorem D.zq(ks:List Str)(ds:List D):D.bM (.gy ks ds)=false:=rfl
@[simp] theorem D.zr(nm:Str):D.bM (.exc nm)=false:=rfl
@[simp] theorem D.Cf(f:Addr)(fo:Obj)(vs:List V)(ds:List D):D.bM (.ob f fo vs ds)=false:=rfl
@[simp] theorem D.Cg(k:MK)(ds:List D):D.bM (.mp k ds)=true:=rfl
@[simp] theorem D.zt(ds:List D):D.bM (.lst ds)=true:=rfl
theorem Rep.b_{w:Wn}{o:Ow}{q:Nat}{d:D}(r:Rep K H w o q d v F)(h:d.bM=false):F=[]/\∀ q',Rep K H w o q' d v []:=by
 cases r with
 | au=>exact⟨rfl,fun _=>.au⟩
 | bl b=>exact⟨rfl,fun _=>.bl b⟩
 | int i=>exact⟨rfl,fun _=>.int i⟩
 | str x=>exact⟨rfl,fun _=>.str x⟩
 | tup h' r'=>exact⟨rfl,fun _=>.tup h' r'⟩
 | gy h' e' r'=>exact⟨rfl,fun _=>.gy h' e' r'⟩
 | exc h' x n=>exact⟨rfl,fun _=>.exc h' x n⟩
 | ob h1 h2 x r=>exact⟨rfl,fun _=>.ob h1 h2 x r⟩
 | kl=>cases h
 | shr=>cases h
 | own=>cases h
 | oF=>cases h
 | gz=>cases h
theorem Rep.zero{w:Wn}{o:Ow}{d:D}(r:Rep K H w o 0 d v F):F=[]:=by
 cases r<;>rfl
theorem ag.zero{w:Wn}{o:Ow}:∀ {ds:List D} {vs:List V} {F:List Addr},ag K H w o 0 ds vs F->F=[]
 | _,_,_,.nil=>rfl
 | _,_,_,.cons r s _=>by rw[r.zero,s.zero];rfl
theorem ag.length{w:Wn}{o:Ow}{q:Nat}:∀ {ds:List D} {vs:List V} {F:List Addr},ag K H w o q ds vs F->ds.length=vs.length
 | _,_,_,.nil=>rfl
 | _,_,_,.cons _ s _=>by simp[s.length]
theorem Rep.any{w:Wn}{o o':Ow}{q:Nat}{d:D}(r:Rep K H w o q d v [])(wl:WL K w H):Rep K H w o' q d v []:=
 Rep.go wl (fun a x h n=>⟨sm h,n⟩) r nM
theorem ag.any{w:Wn}{o o':Ow}{q:Nat}{d:List D}{v:List V}(r:ag K H w o q d v [])(wl:WL K w H):ag K H w o' q d v []:=
 ag.go wl (fun a x h n=>⟨sm h,n⟩) r nM
theorem ag.get{w:Wn}{o:Ow}:∀ {ds:List D} {vs:List V} {i:Nat} {d:D},ag K H w o 0 ds vs []->ds[i]? = some d->∃ v,vs[i]? = some v/\Rep K H w o 0 d v []
 | ds,vs,i,d,r,e=>by
  generalize hF:([]:List Addr)=F at r
  cases r with
  | nil=>simp at e
  | @cons _ d' v' br iw F' G' r s _=>
   have h1:F'=[]:=r.zero
   have h2:G'=[]:=s.zero
   subst h1 h2
   cases i with
   | zero=>simp at e;subst e;exact⟨v',rfl,r⟩
   | succ j=>
    obtain⟨v,h1,h2⟩:=ag.get (i:=j) (d:=d) s (by simpa using e)
    exact⟨v,by simpa using h1,h2⟩
theorem ag.snoc{w:Wn}{o:Ow}{q:Nat}{d:D}{G:List Addr}(r':Rep K H w o q d v G):∀ {ds:List D} {vs:List V} {F:List Addr},ag K H w o q ds vs F->(∀ a∈F,a ∉ G)->ag K H w o q (ds++[d]) (vs++[v]) (F++G)
 | _,_,_,.nil,_=>by
  have:ag K H w o q [d] [v] (G++[]):=.cons r' .nil (fun a _ z=>nomatch z)
  simpa using this
 | _,_,_,.cons (F:=F) (G:=F') r s ne,k=>by
  rw[Jr]
  refine .cons r (ag.snoc r' s fun a m=>k a (Qh _ m)) fun a m z=>?_
  rcases Q0.mp z with z|z
  ·exact ne a m z
  ·exact k a (QU _ m) z
abbrev OD:=Option (D×Nat)
abbrev aS:=List (OD)
structure Good (K:PySem.W.Frag) (ρ:aS) (σ:St) (H:Hp) (w:Wn) (t:Nat):Prop where
 wl:WL K w H
 ws:∀ a i,w a=some (.s i)->i<σ.length
 wt:∀ a i,w a=some (.t i)->i<t
 len:ρ.length=σ.length
 slot:∀ (i:Nat) d q,ρ[i]? = some (some (d,q))->∃ v F,σ[i]? = some (some v)/\Rep K H w (.s i) q d v F
structure Go (H:Hp) (w:Wn) (H':Hp) (w':Wn):Prop where
 ba:cY H w H' w'
 keep:∀ a o,w a=some o->(∀ i,o ≠ .s i)->H' a=H a/\w' a=some o
theorem Go.refl{w:Wn}:Go H w H w:=⟨fun a x h n=>⟨sm h,n⟩,fun a o e _=>⟨rfl,e⟩⟩
theorem Go.trans{w w1 w2:Wn}(a:Go H w H1 w1)(b:Go H1 w1 H2 w2):Go H w H2 w2:=
 ⟨a.ba.trans b.ba,fun c o e h=>by
   obtain⟨h1,w1⟩:=a.keep c o e h
   obtain⟨h2,w2⟩:=b.keep c o w1 h
   exact⟨h2.trans h1,w2⟩⟩
theorem Rep.gone{w w':Wn}{q:Nat}{d:D}(r:Rep K H w (.t i) q d v F)(wl:WL K w H)(g:Go H w H' w'):Rep K H' w' (.t i) q d v F:=
 Rep.go wl g.ba r fun a m=>g.keep a _ (r.aA a m) (fun _ z=>nomatch z)
theorem ag.gone{w w':Wn}{q:Nat}{d:List D}{v:List V}(r:ag K H w (.t i) q d v F)(wl:WL K w H)(g:Go H w H' w'):ag K H' w' (.t i) q d v F:=
 ag.go wl g.ba r fun a m=>g.keep a _ (r.aA a m) (fun _ z=>nomatch z)
def cA (t:Nat)(w:Wn):Wn:=fun a=>match w a with
 | some (.t i)=>if t<=i then none else some (.t i)
 | x=>x
theorem zu{w:Wn}(h:w a=none):cA t w a=none:=by unfold cA;rw[h]
theorem RZ{w:Wn}(h:w a=some (.s i)):cA t w a=some (.s i):=by unfold cA;rw[h]
theorem R0{w:Wn}(h:w a=some .f):cA t w a=some .f:=by unfold cA;rw[h]
theorem R1{w:Wn}(h:w a=some (.t i))(hi:i<t):cA t w a=some (.t i):=by unfold cA;rw[h];exact Qg (by omega)
theorem R3{w:Wn}(h:w a=some (.t i))(hi:t<=i):cA t w a=none:=by unfold cA;rw[h];exact Qe hi
theorem Ci{w:Wn}{o:Ow}(h:cA t w a=some o):w a=some o/\∀ i,o=.t i->i<t:=by
 unfold cA at h
 cases e:w a with
 | none=>rw[e]at h;cases h
 | some o'=>
  rw[e]at h
  cases o' with
  | s i=>cases h;exact⟨rfl,fun i z=>nomatch z⟩
  | f=>cases h;exact⟨rfl,fun i z=>nomatch z⟩
  | t i=>
   dsimp only at h
   split at h
   ·cases h
   ·cases h;exact⟨rfl,fun j z=>by cases z;omega⟩
theorem Good.drop{ρ:aS}{σ:St}{w:Wn}(g:Good K ρ σ H w t):Good K ρ σ H (cA t' w) t':=by
 refine⟨⟨fun a o e=>g.wl a o (Ci e).1,g.wl.tb⟩,fun a i e=>g.ws a i (Ci e).1,fun a i e=>(Ci e).2 i rfl,g.len,fun i d q e=>?_⟩
 obtain⟨v,F,h1,h2⟩:=g.slot i d q e
 exact⟨v,F,h1,Rep.go g.wl (fun a x h n=>⟨sm h,zu n⟩) h2 fun a m=>⟨rfl,RZ (h2.aA a m)⟩⟩
theorem Go.drop{w w':Wn}(g:Go H w H' w')(wt:∀ a i,w a=some (.t i)->i<t):Go H w H' (cA t w'):=
 ⟨fun a x h n=>⟨(g.ba a x h n).1,zu (g.ba a x h n).2⟩,fun a o e h=>by
   obtain⟨h1,h2⟩:=g.keep a o e h
   refine⟨h1,?_⟩
   cases o with
   | s i=>exact absurd rfl (h i)
   | f=>exact R0 h2
   | t i=>exact R1 h2 (wt a i e)⟩
theorem Rep.drop{w:Wn}{q:Nat}{d:D}{o:Ow}(r:Rep K H w (.t t) q d v F)(h:t'<=t):Rep K H (cA t' w) o 0 d v []:=
 Rep.freeze (fun a n=>zu n) r fun a m=>R3 (r.aA a m) h
abbrev aF:=aS->Option (D×Nat×aS)
def tD (K:PySem.W.Frag)(f:aF):TE:=fun σ H Q=>∃ ρ w t r q ρ',Good K ρ σ H w t/\f ρ=some (r,q,ρ')/\∀ v H' w' F,Good K ρ' σ H' w' (t+1)->Go H w H' w'->Rep K H' w' (.t t) q r v F->Q v H'
theorem PE.imp{e:Expr}{t t':TE}(h:PE X e t)(i:∀ σ H Q,t' σ H Q->t σ H Q):PE X e t':=fun pins s σ H Q I q=>h pins s σ H Q I (i σ H Q q)
abbrev PD (X:Cx)(e:Expr)(f:aF):Prop:=PE X e (tD X.K f)
structure QD (X:Cx) (e:Expr) (f:aF):Prop where mk::o:PD X e f
theorem Good.up{ρ:aS}{σ:St}{w:Wn}(g:Good K ρ σ H w t):Good K ρ σ H w (t+1):=⟨g.wl,g.ws,fun a i e=>Q7 (g.wt a i e),g.len,g.slot⟩
@[simp] def cH (d:D):Nat:=if d.bM then 0 else 9
theorem Rep.ka{w:Wn}{o:Ow}{d:D}(r:Rep K H w o 0 d v []):Rep K H w o (cH d) d v []:=by
 unfold cH
 cases e:d.bM with
 | true=>exact r
 | false=>exact(r.b_ e).2 9
section
variable {K:PySem.W.Frag}{σ:St}{H:Hp}{ρ ρ' ρ1 ρ2:aS}{w:Wn}{t:Nat}{Q:VK}
theorem sT{fa fb:aF}{R:V->V->Hp->Prop}(g:Good K ρ σ H w t){d1 d2:D}{q1 q2:Nat}(e1:fa ρ=some (d1,q1,ρ1))(e2:fb ρ1=some (d2,q2,ρ2))
  (k:∀ x y H2 w2 F1 F2,Good K ρ2 σ H2 w2 (t+2)->Go H w H2 w2->Rep K H2 w2 (.t t) q1 d1 x F1->Rep K H2 w2 (.t (t+1)) q2 d2 y F2->R x y H2) :
  tD K fa σ H fun x H1=>tD K fb σ H1 fun y H2=>R x y H2:=
 ⟨ρ,w,t,d1,q1,ρ1,g,e1,fun x H1 w1 F1 g1 aD r1=>⟨ρ1,w1,t+1,d2,q2,ρ2,g1,e2,fun y H2 w2 F2 g2 bb r2=>k x y H2 w2 F1 F2 g2 (aD.trans bb) (r1.gone g1.wl bb) r2⟩⟩
theorem pA{r:D}{q:Nat}{w2:Wn}{t2:Nat}(k:∀ v H' w' F,Good K ρ' σ H' w' (t+1)->Go H w H' w'->Rep K H' w' (.t t) q r v F->Q v H')(g:Good K ρ σ H w t)(g2:Good K ρ' σ H2 w2 t2)(go:Go H w H2 w2)
  (rr:Rep K H2 (cA t w2) (.t t) q r v []):Q v H2:=k v H2 (cA t w2) [] g2.drop.up (go.drop g.wt) rr
def gA (p:Addr)(o:Ow)(w:Wn):Wn:=fun a=>if a=p then some o else w a
theorem lU{o:Ow}{w:Wn}:gA p o w p=some o:=Qe rfl
theorem eQ{o:Ow}{w:Wn}(h:a≠p):gA p o w a=w a:=Qg h
theorem alloc{ds:List D}{w1:Wn}(g:Good K ρ σ H1 w1 t)(hp:H1 p=none)(r:ag K H1 w1 .f 0 ds vs []) :
  Good K ρ σ (upd H1 p (.lst vs)) (gA p (.t t) w1) (t+1)/\Go H1 w1 (upd H1 p (.lst vs)) (gA p (.t t) w1)/\Rep K (upd H1 p (.lst vs)) (gA p (.t t) w1) (.t t) 1 (.lst ds) (.ref p) [p]:=by
 have ne:∀ a x,H1 a=some x->a≠p:=fun a x e=>dY e hp
 have nw:∀ a o,w1 a=some o->a≠p:=fun a o e=>by obtain⟨vs,q⟩:=g.wl a o e;exact ne a _ q
 have st:cY H1 w1 (upd H1 p (.lst vs)) (gA p (.t t) w1):=fun a x e n=>⟨sm (by rw[aO (ne a x e)];exact e),by rw[eQ (ne a x e)];exact n⟩
 refine⟨⟨⟨fun a o e=>?_,g.wl.tb.upd rfl (.inl hp)⟩,fun a i e=>?_,fun a i e=>?_,g.len,fun i d q e=>?_⟩,⟨st,fun a o e _=>⟨aO (nw a o e),(eQ (nw a o e)).trans e⟩⟩,?_⟩
 ·by_cases h:a=p
  ·subst h;exact⟨.l vs,cT⟩
  ·rw[eQ h]at e
   obtain⟨us,q⟩:=g.wl a o e
   exact⟨us,by rw[aO h];exact q⟩
 ·by_cases h:a=p
  ·subst h;rw[lU]at e;cases e
  ·rw[eQ h]at e;exact g.ws a i e
 ·by_cases h:a=p
  ·subst h;rw[lU]at e;cases e;exact Q2 _
  ·rw[eQ h]at e;exact Q7 (g.wt a i e)
 ·obtain⟨v,F,h1,h2⟩:=g.slot i d q e
  exact⟨v,F,h1,Rep.go g.wl st h2 fun a m=>⟨aO (nw a _ (h2.aA a m)),(eQ (nw a _ (h2.aA a m))).trans (h2.aA a m)⟩⟩
 ·exact .own cT lU (ag.go g.wl st r nM) (fun z=>nomatch z)
theorem uM{ds:List D}{w1:Wn}(g:Good K ρ σ H1 w1 t)(hp:H1 p=none)(r:ag K H1 w1 .f 0 ds vs []) :
  Good K ρ σ (upd H1 p (.tup vs)) w1 (t+1)/\Go H1 w1 (upd H1 p (.tup vs)) w1/\Rep K (upd H1 p (.tup vs)) w1 (.t t) 9 (.tup ds) (.ref p) []:=by
 have ne:∀ a x,H1 a=some x->a≠p:=fun a x e=>dY e hp
 have nw:∀ a o,w1 a=some o->a≠p:=fun a o e=>by obtain⟨vs,q⟩:=g.wl a o e;exact ne a _ q
 have st:cY H1 w1 (upd H1 p (.tup vs)) w1:=fun a x e n=>⟨sm (by rw[aO (ne a x e)];exact e),n⟩
 refine⟨⟨⟨fun a o e=>?_,g.wl.tb.upd rfl (.inl hp)⟩,g.ws,fun a i e=>Q7 (g.wt a i e),g.len,fun i d q e=>?_⟩,⟨st,fun a o e _=>⟨aO (nw a o e),e⟩⟩,?_⟩
 ·obtain⟨us,q⟩:=g.wl a o e
  exact⟨us,by rw[aO (nw a o e)];exact q⟩
 ·obtain⟨v,F,h1,h2⟩:=g.slot i d q e
  exact⟨v,F,h1,Rep.go g.wl st h2 fun a m=>⟨aO (nw a _ (h2.aA a m)),h2.aA a m⟩⟩
 ·exact .tup cT (ag.go g.wl st r nM)
end
@[simp] def eC (d:D):aF:=fun ρ=>some (d,9,ρ)
@[simp] def aa (i:Nat):aF:=fun ρ=>match ρ[i]? with
 | some (some (d,q))=>if d.bM=false then some (d,9,ρ)else if q=0 then some (d,0,ρ)else some (d,0,ρ.set i (some (d,0)))
 | _=>none
section
variable {X:Cx}{a b c e:Expr}{fa fb fc f:aF}{pos:Pos}
theorem zw{d:D}(h:PE X e (tC v))(r:∀ K H w o q,Rep K H w o q d v []):PD X e (eC d):=PE.imp h fun σ H Q aj=>by
 obtain⟨ρ,w,t,r',q,ρ',g,ee,k⟩:=aj
 cases ee
 exact k v H w [] g.up Go.refl (r _ _ _ _ _)
theorem bp{i j}:QD X (.Constant (.int i) j pos) (eC (.int i)):=⟨zw yR fun _ _ _ _ _=>.int i⟩
theorem oH{i j}:QD X (.Constant (.bool i) j pos) (eC (.bl i)):=⟨zw ND fun _ _ _ _ _=>.bl i⟩
theorem sU{j}:QD X (.Constant .none j pos) (eC .au):=⟨zw NF fun _ _ _ _ _=>.au⟩
theorem mM{x j}:QD X (.Constant (.str x) j pos) (eC (.str x)):=⟨zw yS fun _ _ _ _ _=>.str x⟩
def iN (i:Nat)(w:Wn):Wn:=fun a=>if w a=some (.s i)then none else w a
theorem wA{w:Wn}{a:Addr}(h:w a=none):iN i w a=none:=by unfold iN;rw[h];rfl
theorem GY{w:Wn}{a:Addr}(h:w a=some (.s i)):iN i w a=none:=by unfold iN;rw[Qe h]
theorem uN{w:Wn}{a:Addr}{o:Ow}(h:w a=some o)(n:o ≠ .s i):iN i w a=some o:=by unfold iN;rw[Qg (by rw[h];exact fun z=>n (Qt z))];exact h
theorem pB{w:Wn}{a:Addr}{o:Ow}(h:iN i w a=some o):w a=some o/\o ≠ .s i:=by
 unfold iN at h
 split at h
 ·cases h
 ·rename_i n;exact⟨h,fun z=>n (by rw[h,z])⟩
theorem Good.give{ρ:aS}{σ:St}{w:Wn}{d:D}{q:Nat}(g:Good K ρ σ H w t)(e:ρ[i]? = some (some (d,q))):Good K (ρ.set i (some (d,0))) σ H (iN i w) t/\Go H w H (iN i w):=by
 have st:cY H w H (iN i w):=fun a x h n=>⟨sm h,wA n⟩
 refine⟨⟨⟨fun a o h=>g.wl a o (pB h).1,g.wl.tb⟩,fun a j h=>g.ws a j (pB h).1,fun a j h=>g.wt a j (pB h).1,by rw[Qu];exact g.len,fun j d' q' e'=>?_⟩,⟨st,fun a o h n=>⟨rfl,uN h (n i)⟩⟩⟩
 by_cases hj:i=j
 ·subst hj
  rw[Qw (Qp.mp e).1]at e'
  cases e'
  obtain⟨v,F,h1,h2⟩:=g.slot i d q e
  exact⟨v,[],h1,Rep.freeze (fun a n=>wA n) h2 fun a m=>GY (h2.aA a m)⟩
 ·rw[Qr hj]at e'
  obtain⟨v,F,h1,h2⟩:=g.slot j d' q' e'
  exact⟨v,F,h1,Rep.go g.wl st h2 fun a m=>⟨rfl,uN (h2.aA a m) (fun z=>hj (by cases z;rfl))⟩⟩
theorem cI{x:Str}(h:QE X (.Name x pos) (eh i)):QD X (.Name x pos) (aa i):=⟨have h:=h.o;PE.imp h fun σ H Q aj=>by
 obtain⟨ρ,w,t,r',q,ρ',g,ee,k⟩:=aj
 unfold aa at ee
 split at ee
 next d q0 e0=>
  obtain⟨v,F,h1,h2⟩:=g.slot i d q0 e0
  refine⟨v,h1,?_⟩
  split at ee
  next hl=>
   cases ee
   obtain⟨hF,hr⟩:=h2.b_ hl
   exact k v H w [] g.up Go.refl ((hr 9).any g.wl)
  ·split at ee
   next hq=>
    subst hq
    cases ee
    have:=h2.zero
    subst this
    exact k v H w [] g.up Go.refl (h2.any g.wl)
   ·cases ee
    obtain⟨g',di⟩:=g.give e0
    refine k v H (iN i w) [] g'.up di ?_
    exact Rep.freeze (fun a n=>wA n) h2 fun a m=>GY (h2.aA a m)
 ·cases ee⟩
def jx:D->Option V
 | .au=>some .au
 | .bl b=>some (.bl b)
 | .int i=>some (.int i)
 | .str x=>some (.str x)
 | _=>none
theorem Rep.Cj{w:Wn}{o:Ow}{q:Nat}{d:D}{v':V}(r:Rep K H w o q d v F)(h:jx d=some v'):v=v':=by
 cases r<;>cases h<;>rfl
theorem wB{w:Wn}{o:Ow}{q:Nat}{d:D}(h:jx d=some v):Rep K H w o q d v []:=by
 cases d<;>cases h
 ·exact .au
 ·exact .bl _
 ·exact .int _
 ·exact .str _
@[simp] def e2 (g:D->D->Option D)(fa fb:aF):aF:=fun ρ=>match fa ρ with
 | some (x,_,ρ1)=>match fb ρ1 with
  | some (y,_,ρ2)=>match g x y with
   | some d=>some (d,9,ρ2)
   | none=>none
  | none=>none
 | none=>none
theorem R4{g:D->D->Option D}{ρ ρ':aS}{r:D}{q:Nat}(h:e2 g fa fb ρ=some (r,q,ρ')):∃ x q1 ρ1 y q2,fa ρ=some (x,q1,ρ1)/\fb ρ1=some (y,q2,ρ')/\g x y=some r/\q=9:=by
 unfold e2 at h
 split at h
 next x q1 ρ1 h1=>
  split at h
  next y q2 ρ2 h2=>
   split at h
   next d hd=>
    cases h
    exact⟨x,q1,ρ1,y,q2,h1,h2,hd,rfl⟩
   ·cases h
  ·cases h
 ·cases h
theorem uO{g:D->D->Option D}(hg:∀ x y d,g x y=some d->∃ v,jx d=some v/\∀ H w o o' q q' u u' F F',Rep K H w o q x u F->Rep K H w o' q' y u' F'->WL K w H->∀ Q:VK,Q v H->r u u' H Q) :
  ∀ σ H Q,tD K (e2 g fa fb) σ H Q->jt r (tD K fa) (tD K fb) σ H Q:=fun σ H Q aj=>by
 obtain⟨ρ,w,t,r',q,ρ',gd,ee,k⟩:=aj
 obtain⟨x,q1,ρ1,y,q2,h1,h2,h3,rfl⟩:=R4 ee
 obtain⟨v,hv,hr⟩:=hg x y r' h3
 exact sT gd h1 h2 fun u u' H2 w2 F1 F2 g2 go r1 r2=>hr H2 w2 _ _ _ _ u u' F1 F2 r1 r2 g2.wl Q (pA k gd g2 go (wB hv))
@[simp] def gI (f:Int->Int->Option D):D->D->Option D
 | .int i,.int j=>f i j
 | _,_=>none
theorem qL{f:Int->Int->Option D}{x y d:D}(h:gI f x y=some d):∃ i j,x=.int i/\y=.int j/\f i j=some d:=by
 unfold gI at h
 split at h
 ·exact⟨_,_,rfl,rfl,h⟩
 ·cases h
theorem fx{w:Wn}{o:Ow}{q:Nat}{i:Int}(r:Rep K H w o q (.int i) v F):v=.int i:=by cases r;rfl
theorem Ck{f:Int->Int->Option D}{C:Int->Int->Prop}(hf:∀ i j d,f i j=some d->C i j/\jx d=some (h i j)) :
  ∀ σ H Q,tD K (e2 (gI f) fa fb) σ H Q->jt (rI C h) (tD K fa) (tD K fb) σ H Q:=
 uO fun x y d e=>by
  obtain⟨i,j,rfl,rfl,e⟩:=qL e
  obtain⟨c,s⟩:=hf i j d e
  exact⟨_,s,fun H w o o' q q' u u' F F' r1 r2 _ Q hq=>⟨i,j,fx r1,fx r2,c,hq⟩⟩
theorem zx{f:Int->Int->Option D}(hf:∀ i j d,f i j=some d->jx d=some (h i j)) :
  ∀ σ H Q,tD K (e2 (gI f) fa fb) σ H Q->jt (j7 h) (tD K fa) (tD K fb) σ H Q:=
 uO fun x y d e=>by
  obtain⟨i,j,rfl,rfl,e⟩:=qL e
  exact⟨_,hf i j d e,fun H w o o' q q' u u' F F' r1 r2 _ Q hq=>⟨i,j,fx r1,fx r2,hq⟩⟩
@[simp] def bB:D->D->Option D:=gI fun i j=>some (.int (i+j))
@[simp] def zy:D->D->Option D:=gI fun i j=>some (.int (i-j))
@[simp] def iy:D->D->Option D:=gI fun i j=>if(-(2 ^ 64)<i/\i<2 ^ 64)\/(-(2 ^ 64)<j/\j<2 ^ 64)then some (.int (i*j))else none
@[simp] def zz:D->D->Option D:=gI fun i j=>if 0<j/\j<1073741824 then some (.int (i / j))else none
@[simp] def sV:D->D->Option D:=gI fun i j=>if 0<j then some (.int (i % j))else none
theorem eF(ha:QD X a fa)(hb:QD X b fb):QD X (.BinOp a .Add b pos) (e2 bB fa fb):=⟨have ha:=ha.o;have hb:=hb.o;PE.imp (o_ FQ ha hb) (zx fun i j d h=>by cases h;rfl)⟩
theorem R5(ha:QD X a fa)(hb:QD X b fb):QD X (.BinOp a .Sub b pos) (e2 zy fa fb):=⟨have ha:=ha.o;have hb:=hb.o;PE.imp (o_ Oi ha hb) (zx fun i j d h=>by cases h;rfl)⟩
theorem oI(ha:QD X a fa)(hb:QD X b fb):QD X (.BinOp a .Mult b pos) (e2 iy fa fb):=⟨have ha:=ha.o;have hb:=hb.o;PE.imp (o_ Oj ha hb) (Ck fun i j d h=>by
 split at h
 ·cases h;exact⟨by assumption,rfl⟩
 ·cases h)⟩
theorem Cn(ha:QD X a fa)(hb:QD X b fb):QD X (.BinOp a .FloorDiv b pos) (e2 zz fa fb):=⟨have ha:=ha.o;have hb:=hb.o;PE.imp (o_ Ol ha hb) (Ck fun i j d h=>by
 split at h
 ·cases h;exact⟨by assumption,rfl⟩
 ·cases h)⟩
theorem uP(ha:QD X a fa)(hb:QD X b fb):QD X (.BinOp a .Mod b pos) (e2 sV fa fb):=⟨have ha:=ha.o;have hb:=hb.o;PE.imp (o_ Om ha hb) (Ck fun i j d h=>by
 split at h
 ·cases h;exact⟨by assumption,rfl⟩
 ·cases h)⟩
def cO:D->Int->Option D
 | .lst ds,i=>dP ds i
 | .tup ds,i=>dP ds i
 | _,_=>none
@[simp] def fJ (fa fb:aF):aF:=fun ρ=>match fa ρ with
 | some (x,_,ρ1)=>match fb ρ1 with
  | some (.int i,_,ρ2)=>match cO x i with
   | some d=>some (d,cH d,ρ2)
   | none=>none
  | _=>none
 | none=>none
theorem Rep.pC{w:Wn}{o:Ow}{q:Nat}{ds:List D}(r:Rep K H w o q (.lst ds) v F):∃ a vs q' G,v=.ref a/\cL K H a vs/\ag K H w o q' ds vs G:=by
 cases r with
 | kl h r=>exact⟨_,_,_,_,rfl,h.sq,r⟩
 | shr h n r=>exact⟨_,_,_,_,rfl,.inl h,r⟩
 | own h n r _=>exact⟨_,_,_,_,rfl,cL.of h,r⟩
theorem Rep.gB{w:Wn}{o:Ow}{ds:List D}(r:Rep K H w o 0 (.lst ds) v F):∃ a vs,v=.ref a/\cL K H a vs/\ag K H w o 0 ds vs []:=by
 cases r with
 | kl h r=>exact⟨_,_,rfl,h.sq,r⟩
 | shr h n r=>exact⟨_,_,rfl,.inl h,r⟩
theorem Rep.hZ{w:Wn}{o:Ow}{q:Nat}{ds:List D}(r:Rep K H w o q (.tup ds) v F):∃ a vs,v=.ref a/\dO K H a vs/\ag K H w o 0 ds vs []:=by
 cases r with
 | tup h r=>exact⟨_,_,rfl,dO.of h,r⟩
theorem Rep.wC{w:Wn}{o:Ow}{q:Nat}{ds:List D}(r:Rep K H w o q (.tup ds) v F):∃ a vs,v=.ref a/\H a=some (.tup vs)/\ag K H w o 0 ds vs []:=by
 cases r with
 | tup h r=>exact⟨_,_,rfl,h,r⟩
theorem ag.dP{w:Wn}{o:Ow}{ds:List D}{i:Int}{d:D}(r:ag K H w o 0 ds vs [])(h:L2.dP ds i=some d):∃ v,L2.dP vs i=some v/\Rep K H w o 0 d v []:=by
 unfold L2.dP at h ⊢
 rw[<- r.length]
 cases e:jj ds.length i with
 | none=>rw[e]at h;cases h
 | some j=>
  rw[e]at h
  exact r.get h
theorem jX(ha:QD X a fa)(hb:QD X b fb)(hs:uF b:=by exact fun _ _=>rfl):QD X (.Subscript a b pos) (fJ fa fb):=⟨have ha:=ha.o;have hb:=hb.o;PE.imp (vW vX ha hb hs) fun σ H Q aj=>by
 obtain⟨ρ,w,t,r',q,ρ',gd,ee,k⟩:=aj
 unfold fJ at ee
 split at ee
 next x q1 ρ1 h1=>
  split at ee
  next i q2 ρ2 h2=>
   split at ee
   next d hd=>
    cases ee
    refine sT gd h1 h2 fun u u' H2 w2 F1 F2 g2 go r1 r2=>?_
    have Co:=fx r2
    subst Co
    have r0:=r1.drop (o:=.t t) (Qf t)
    cases x with
    | lst ds=>
     obtain⟨p,vs,rfl,hq,rs⟩:=r0.gB
     obtain⟨v,hv,rv⟩:=rs.dP hd
     exact .inl ⟨p,vs,i,v,rfl,rfl,hq,hv,pA k gd g2 go rv.ka⟩
    | tup ds=>
     obtain⟨p,vs,rfl,hq,rs⟩:=r0.hZ
     obtain⟨v,hv,rv⟩:=rs.dP hd
     exact .inr (.inl ⟨p,vs,i,v,rfl,rfl,hq,hv,pA k gd g2 go rv.ka⟩)
    | _=>cases hd
   ·cases ee
  ·cases ee
 ·cases ee⟩
abbrev bN:=aS->Option (List D×aS)
def zA (K:PySem.W.Frag)(f:bN):TA:=fun σ H Q=>∃ ρ w t ds ρ',Good K ρ σ H w t/\f ρ=some (ds,ρ')/\∀ vs H' w',Good K ρ' σ H' w' t->Go H w H' w'->ag K H' w' .f 0 ds vs []->Q vs H'
abbrev Cp (X:Cx)(es:List Expr)(f:bN):Prop:=PA X es (zA X.K f)
structure eV (X:Cx) (e:List Expr) (f:bN):Prop where mk::o:Cp X e f
theorem PA.imp{X:Cx}{e:List Expr}{t t':TA}(h:PA X e t)(i:∀ σ H Q,t' σ H Q->t σ H Q):PA X e t':=fun pos pins s σ H Q I q=>h pos pins s σ H Q I (i σ H Q q)
@[simp] def ah:bN:=fun ρ=>some ([],ρ)
@[simp] def ae (f:aF)(g:bN):bN:=fun ρ=>match f ρ with
 | some (d,_,ρ1)=>match g ρ1 with
  | some (ds,ρ2)=>some (d::ds,ρ2)
  | none=>none
 | none=>none
theorem ak:eV X [] ah:=⟨PA.imp mL fun σ H Q aj=>by
 obtain⟨ρ,w,t,ds,ρ',gd,ee,k⟩:=aj
 cases ee
 exact k [] H w gd Go.refl .nil⟩
theorem av{g:bN}(ha:QD X e f)(hr:eV X es g)(hs:starEach (e::es) X.env=(false,eval e X.env)::starEach es X.env:=by rfl):eV X (e::es) (ae f g):=⟨have ha:=ha.o;have hr:=hr.o;PA.imp (jU ha hr hs) fun σ H Q aj=>by
 obtain⟨ρ,w,t,ds,ρ',gd,ee,k⟩:=aj
 unfold ae at ee
 split at ee
 next d q ρ1 h1=>
  split at ee
  next br ρ2 h2=>
   cases ee
   refine⟨ρ,w,t,d,q,ρ1,gd,h1,fun x H1 w1 F1 g1 aD r1=>⟨ρ1,cA t w1,t,br,_,g1.drop,h2,fun vs H2 w2 g2 bb r2=>?_⟩⟩
   have gl:=(g1.drop (t':=t)).wl
   have r0:Rep X.K H2 w2 .f 0 d x []:=Rep.go gl bb.ba (r1.drop (o:=.f) (Qf t)) nM
   exact k (x::vs) H2 w2 g2 ((aD.drop gd.wt).trans bb) (.cons (F:=[]) (G:=[]) r0 r2 nM)
  ·cases ee
 ·cases ee⟩
@[simp] def eG (g:bN):aF:=fun ρ=>match g ρ with
 | some (ds,ρ1)=>if ds.length<=1000 then some (.lst ds,1,ρ1)else none
 | none=>none
@[simp] def da (g:bN):aF:=fun ρ=>match g ρ with
 | some (ds,ρ1)=>if ds.length<=1000 then some (.tup ds,9,ρ1)else none
 | none=>none
theorem uQ(h:n<=1000):n<=sizeLine:=ZF (sH h)
theorem f9{g:bN}(h:eV X es g):QD X (.List es pos) (eG g):=⟨have h:=h.o;PE.imp (OZ h) fun σ H Q aj=>by
 obtain⟨ρ,w,t,r',q,ρ',gd,ee,k⟩:=aj
 unfold eG at ee
 split at ee
 next ds ρ1 h1=>
  split at ee
  next hl=>
   cases ee
   refine⟨ρ,w,t,ds,_,gd,h1,fun vs H1 w1 g1 aD r1=>⟨by rw[<- r1.length];exact uQ hl,fun p hp=>?_⟩⟩
   obtain⟨a1,a2,a3⟩:=alloc g1 hp r1
   exact k _ _ _ _ a1 (aD.trans a2) a3
  ·cases ee
 ·cases ee⟩
theorem iz{g:bN}{x1}(h:eV X es g):QD X (.Tuple es x1 pos) (da g):=⟨have h:=h.o;PE.imp (OY h) fun σ H Q aj=>by
 obtain⟨ρ,w,t,r',q,ρ',gd,ee,k⟩:=aj
 unfold da at ee
 split at ee
 next ds ρ1 h1=>
  split at ee
  next hl=>
   cases ee
   refine⟨ρ,w,t,ds,_,gd,h1,fun vs H1 w1 g1 aD r1=>⟨by rw[<- r1.length];exact uQ hl,fun p hp=>?_⟩⟩
   obtain⟨a1,a2,a3⟩:=uM g1 hp r1
   exact k _ _ _ _ a1 (aD.trans a2) a3
  ·cases ee
 ·cases ee⟩
def lV (K:PySem.W.Frag)(n:Nat)(F:List D->OD):Sp:=fun vs H Q _=>vs.length=n/\∃ ds w r q,(∀ a o,w a=some o->o=.f)/\WL K w H/\ag K H w .f 0 ds vs []/\F ds=some (r,q) /\
 ∀ v H' w' Fo,Go H w H' w'->WL K w' H'->Rep K H' w' (.t 0) q r v Fo->Q v H'
@[simp] def aK (F:List D->OD)(n:Nat)(g:bN):aF:=fun ρ=>match g ρ with
 | some (ds,ρ1)=>if ds.length=n then match F ds with
  | some (r,q)=>some (r,q,ρ1)
  | none=>none
  else none
 | none=>none
theorem nC{ρ:aS}{σ:St}{w w':Wn}{q:Nat}{d:D}{Fo:List Addr}(g:Good K ρ σ H w t)
  (go:Go H (fun a=>(w a).map fun _=>Ow.f) H' w') (jY:WL K w' H') (r:Rep K H' w' (.t 0) q d v Fo) :
  Good K ρ σ H' (fun a=>if a∈Fo then some (.t t)else w a) (t+1)/\Go H w H' (fun a=>if a∈Fo then some (.t t)else w a)/\Rep K H' (fun a=>if a∈Fo then some (.t t)else w a) (.t t) q d v Fo:=by
 have kf:∀ a o,w a=some o->H' a=H a/\w' a=some .f:=fun a o e=>go.keep a .f (by show(w a).map _=_;rw[e];rfl) (fun _ z=>nomatch z)
 have nf:∀ a x,H a=some x->a ∉ Fo:=fun a x e m=>by
  have h1:=r.aA a m
  cases ew:w a with
  | none=>
   have:=(go.ba a x e (by show(w a).map _=_;rw[ew];rfl)).2
   rw[h1]at this;cases this
  | some o=>rw[(kf a o ew).2]at h1;cases h1
 have nw:∀ a o,w a=some o->a ∉ Fo:=fun a o e=>by obtain⟨vs,q⟩:=g.wl a o e;exact nf a _ q
 have st:cY H w H' (fun a=>if a∈Fo then some (.t t)else w a):=fun a x e n=>⟨(go.ba a x e (by show(w a).map _=_;rw[n];rfl)).1,by show(if a∈Fo then _ else _)=_;rw[Qg (nf a x e)];exact n⟩
 have wv:∀ a o,(if a∈Fo then some (Ow.t t)else w a)=some o->(a∈Fo/\o=.t t)\/w a=some o:=fun a o e=>by
  split at e
  ·cases e;exact .inl ⟨by assumption,rfl⟩
  ·exact .inr e
 refine⟨⟨⟨fun a o e=>?_,jY.tb⟩,fun a i e=>?_,fun a i e=>?_,g.len,fun i d q e=>?_⟩,⟨st,fun a o e _=>⟨(kf a o e).1,by show(if a∈Fo then _ else _)=_;rw[Qg (nw a o e)];exact e⟩⟩,?_⟩
 ·rcases wv a o e with⟨m,_⟩|z
  ·exact jY a _ (r.aA a m)
  ·obtain⟨vs,h⟩:=g.wl a o z
   exact⟨vs,(kf a o z).1.trans h⟩
 ·rcases wv a _ e with⟨_,z⟩|z
  ·cases z
  ·exact g.ws a i z
 ·rcases wv a _ e with⟨_,z⟩|z
  ·cases z;exact Q2 _
  ·exact Q7 (g.wt a i z)
 ·obtain⟨v,F,h1,h2⟩:=g.slot i d q e
  refine⟨v,F,h1,Rep.go g.wl st h2 fun a m=>⟨(kf a _ (h2.aA a m)).1,?_⟩⟩
  show(if a∈Fo then _ else _)=_
  rw[Qg (nw a _ (h2.aA a m))]
  exact h2.aA a m
 ·refine Rep.go jY (fun a x e n=>⟨sm e,?_⟩) r fun a m=>⟨rfl,Qe m⟩
  show(if a∈Fo then _ else _)=_
  rw[Qg (fun m=>by have:=r.aA a m;rw[n]at this;cases this)]
  cases ew:w a with
  | none=>rfl
  | some o=>have:=(kf a o ew).2;rw[n]at this;cases this
theorem R6{CX:lP}{k:Nat}{fn:Addr}{x:Str}{p:Pos}{F:List D->OD}{g:bN}(Fk:bW X.prog X.w X.K X.mg X.base CX k fn fd ps (lV X.K n F))(hr:aw k X.A)(hm:X.mg x=some (.ref fn))(hk:PySem.W.keepIn X.K (.ref fn)=true)(hb:iL X.K fd ps [])
  (hx:qA CX X E) (ha:Cp X (e::es) g) (hg:Gl X x:=by rfl) (fT:(x==("__debug__":Str))=false:=by decide) (he:starEach (e::es) X.env=(false,eval e X.env)::starEach es X.env:=by rfl) (bG:(backTo pos (starEach es X.env)).any (·.1)=false:=by rfl) :
  PD X (.Call (.Name x p) (e::es) [] pos) (aK F n g):=PE.imp (BK Fk hr hg hm hk hb .nil hx ha fT he bG) fun σ H Q aj=>by
 obtain⟨ρ,w,t,r',q,ρ',gd,ee,k⟩:=aj
 unfold aK at ee
 split at ee
 next ds ρ1 h1=>
  split at ee
  next hn=>
   split at ee
   next r0 q0 h2=>
    cases ee
    refine⟨ρ,w,t,ds,_,gd,h1,fun vs H1 w1 g1 aD r1=>?_⟩
    show lV X.K n F (vs++[]) H1 Q E
    rw[Za]
    refine⟨by rw[<- r1.length];exact hn,ds,fun a=>(w1 a).map fun _=>Ow.f,r',q,fun a o e=>?_,⟨fun a o e=>?_,g1.wl.tb⟩,?_,h2,fun v H2 w2 Fo bb ke rr=>?_⟩
    ·dsimp only at e
     cases ew:w1 a with
     | none=>rw[ew]at e;cases e
     | some o'=>rw[ew]at e;cases e;rfl
    ·try dsimp only at e
     cases ew:w1 a with
     | none=>rw[ew]at e;cases e
     | some o'=>exact g1.wl a o' ew
    ·exact ag.freeze (fun a n=>by show(w1 a).map _=_;rw[n];rfl) r1 nM
    ·obtain⟨b1,b2,b3⟩:=nC g1 bb ke rr
     exact k _ _ _ _ b1 (aD.trans b2) b3
   ·cases ee
  ·cases ee
 ·cases ee
end
abbrev cf:=aS->Option (Bool×aS)
def sW (K:PySem.W.Frag)(f:cf):TT:=fun σ H Q=>∃ ρ w t b ρ',Good K ρ σ H w t/\f ρ=some (b,ρ')/\∀ H' w',Good K ρ' σ H' w' t->Go H w H' w'->Q b H'
theorem PT.imp{e:Expr}{t t':TT}(h:PT X e t)(i:∀ σ H Q,t' σ H Q->t σ H Q):PT X e t':=fun pins s σ H Q I q=>h pins s σ H Q I (i σ H Q q)
theorem PW.imp{e:Expr}{t t':TT}(h:PW X e t)(i:∀ σ H Q,t' σ H Q->t σ H Q):PW X e t':=fun whole pins s σ H Q I q=>h whole pins s σ H Q I (i σ H Q q)
abbrev Cq (X:Cx)(e:Expr)(f:cf):Prop:=PT X e (sW X.K f)
structure h_ (X:Cx) (e:Expr) (f:cf):Prop where mk::o:Cq X e f
abbrev R7 (X:Cx)(e:Expr)(f:cf):Prop:=PW X e (sW X.K f)
structure sX (X:Cx) (e:Expr) (f:cf):Prop where mk::o:R7 X e f
@[simp] def R8:D->Option Bool
 | .au=>some false
 | .bl b=>some b
 | .int i=>some (i != 0)
 | .tup ds=>some (!ds.isEmpty)
 | .lst ds=>some (!ds.isEmpty)
 | .str _=>none
 | .gy _ _=>none
 | .exc _=>none
 | .ob _ _ _ _=>none
 | .mp _ _=>none
@[simp] def f_ (f:aF):cf:=fun ρ=>match f ρ with
 | some (d,_,ρ1)=>match R8 d with
  | some b=>some (b,ρ1)
  | none=>none
 | none=>none
section
variable {X:Cx}{a b c e:Expr}{fa fb fc f:aF}{ga gb gc:cf}{pos:Pos}
theorem zB{α β:Type}{l:List α}{l':List β}(h:l.length=l'.length):(!l.isEmpty) = !l'.isEmpty:=by
 cases l<;>cases l'<;>first|rfl|cases h
theorem lX(ha:QD X a fa)(he:∀ whole,isTrue a X.env whole=(do let v <- whole;standAt a.pos;holding [v] (truthy v)):=by exact fun _=>rfl):h_ X a (f_ fa):=⟨have ha:=ha.o;PT.imp (OA ha he) fun σ H Q aj=>by
 obtain⟨ρ,w,t,b,ρ',gd,ee,k⟩:=aj
 unfold f_ at ee
 split at ee
 next d q ρ1 h1=>
  split at ee
  next b' hb=>
   cases ee
   refine⟨ρ,w,t,d,q,_,gd,h1,fun v H1 w1 F g1 aD r1=>⟨b,?_,k H1 (cA t w1) g1.drop (aD.drop gd.wt)⟩⟩
   cases r1 with
   | au=>cases hb;rfl
   | bl x=>cases hb;rfl
   | int i=>cases hb;rfl
   | str x=>cases hb
   | tup h r=>cases hb;exact .inr (.inl ⟨_,dO.of h,zB r.length⟩)
   | gy h e r=>cases hb
   | exc h x n=>cases hb
   | ob h1 h2 x r=>cases hb
   | kl h r=>cases hb;exact .inl ⟨_,h.sq,zB r.length⟩
   | shr h _ r=>cases hb;exact .inl ⟨_,.inl h,zB r.length⟩
   | own h _ r _=>cases hb;exact .inl ⟨_,cL.of h,zB r.length⟩
   | oF h _ _ _ _=>cases hb
   | gz h _ _ _ _=>cases hb
  ·cases ee
 ·cases ee⟩
@[simp] def bj (f:aF):cf:=fun ρ=>match f ρ with
 | some (.bl b,_,ρ1)=>some (b,ρ1)
 | _=>none
theorem GZ(h:∀ σ H Q,tD K f σ H Q->te σ H Q):∀ σ H Q,sW K (bj f) σ H Q->BH te σ H Q:=fun σ H Q aj=>by
 obtain⟨ρ,w,t,b,ρ',gd,ee,k⟩:=aj
 unfold bj at ee
 split at ee
 next b' q ρ1 h1=>
  cases ee
  refine h σ H _ ⟨ρ,w,t,.bl b,q,_,gd,h1,fun v H1 w1 F g1 aD r1=>?_⟩
  cases r1
  exact⟨b,rfl,k H1 (cA t w1) g1.drop (aD.drop gd.wt)⟩
 ·cases ee
theorem wD{g:D->D->Option D}(ho:cN X (compareOp op) r)(hr:∀ σ H Q,tD X.K (e2 g fa fb) σ H Q->jt r (tD X.K fa) (tD X.K fb) σ H Q)(ha:PD X a fa)(hb:PD X b fb)(hm:behindInMarks op b=false) :
  Cq X (.Compare a [op] [b] pos) (bj (e2 g fa fb)):=PT.imp (Ou ho ha hb hm) (GZ hr)
theorem Cr{g:D->D->Option D}(ho:cN X (compareOp op) r)(hr:∀ σ H Q,tD X.K (e2 g fa fb) σ H Q->jt r (tD X.K fa) (tD X.K fb) σ H Q)(ha:PD X a fa)(hb:PD X b fb)(hm:behindInMarks op b=false) :
  PD X (.Compare a [op] [b] pos) (e2 g fa fb):=PE.imp (Ot ho ha hb hm) hr
@[simp] def iO:D->D->Option D:=gI fun i j=>some (.bl (decide (i<j)))
@[simp] def iP:D->D->Option D:=gI fun i j=>some (.bl (decide (i<=j)))
@[simp] def wF:D->D->Option D:=gI fun i j=>some (.bl (decide (j<i)))
theorem R9:∀ σ H Q,tD K (e2 iO fa fb) σ H Q->jt (j7 fun i j=>.bl (decide (i<j))) (tD K fa) (tD K fb) σ H Q:=zx fun i j d h=>by cases h;rfl
theorem R_:∀ σ H Q,tD K (e2 wF fa fb) σ H Q->jt (j7 fun i j=>.bl (decide (j<i))) (tD K fa) (tD K fb) σ H Q:=zx fun i j d h=>by cases h;rfl
theorem wG(ha:QD X a fa)(hb:QD X b fb):h_ X (.Compare a [.Lt] [b] pos) (bj (e2 iO fa fb)):=⟨have ha:=ha.o;have hb:=hb.o;wD BG R9 ha hb (sr _)⟩
@[simp] def gC (g:cf):cf:=fun ρ=>match g ρ with
 | some (b,ρ1)=>some (!b,ρ1)
 | none=>none
theorem mO(ha:h_ X a ga):h_ X (.UnaryOp .Not a pos) (gC ga):=⟨have ha:=ha.o;PT.imp (NP ha) fun σ H Q aj=>by
 obtain⟨ρ,w,t,b,ρ',gd,ee,k⟩:=aj
 unfold gC at ee
 split at ee
 next b' ρ1 h1=>
  cases ee
  exact⟨ρ,w,t,b',_,gd,h1,fun H1 w1 g1 aD=>k H1 w1 g1 aD⟩
 ·cases ee⟩
@[simp] def uR (g h:cf):cf:=fun ρ=>match g ρ with
 | some (b,ρ1)=>if b=true then h ρ1 else some (false,ρ1)
 | none=>none
@[simp] def jl (g h:cf):cf:=fun ρ=>match g ρ with
 | some (b,ρ1)=>if b=true then some (true,ρ1)else h ρ1
 | none=>none
variable {bw:List Expr}
theorem Sa(ha:h_ X a ga):sX X (.BoolOp .And [a] pos) ga:=⟨have ha:=ha.o;NL ha⟩
theorem uS(ha:h_ X a ga):sX X (.BoolOp .Or [a] pos) ga:=⟨have ha:=ha.o;NM ha⟩
theorem Sb(ha:h_ X a ga)(hb:sX X (.BoolOp .And (b::bw) pos) gb):sX X (.BoolOp .And (a::b::bw) pos) (uR ga gb):=⟨have ha:=ha.o;have hb:=hb.o;PW.imp (NN ha hb) fun σ H Q aj=>by
 obtain⟨ρ,w,t,b,ρ',gd,ee,k⟩:=aj
 unfold uR at ee
 split at ee
 next b' ρ1 h1=>
  refine⟨ρ,w,t,b',ρ1,gd,h1,fun H1 w1 g1 aD=>?_⟩
  split at ee
  ·rename_i hb;rw[Qe hb]
   exact⟨ρ1,w1,t,b,ρ',g1,ee,fun H2 w2 g2 bb=>k H2 w2 g2 (aD.trans bb)⟩
  ·rename_i hb;rw[Qg hb]
   cases ee
   exact k H1 w1 g1 aD
 ·cases ee⟩
theorem qM(ha:h_ X a ga)(hb:sX X (.BoolOp .Or (b::bw) pos) gb):sX X (.BoolOp .Or (a::b::bw) pos) (jl ga gb):=⟨have ha:=ha.o;have hb:=hb.o;PW.imp (NO ha hb) fun σ H Q aj=>by
 obtain⟨ρ,w,t,b,ρ',gd,ee,k⟩:=aj
 unfold jl at ee
 split at ee
 next b' ρ1 h1=>
  refine⟨ρ,w,t,b',ρ1,gd,h1,fun H1 w1 g1 aD=>?_⟩
  split at ee
  ·rename_i hb;rw[Qe hb]
   cases ee
   exact k H1 w1 g1 aD
  ·rename_i hb;rw[Qg hb]
   exact⟨ρ1,w1,t,b,ρ',g1,ee,fun H2 w2 g2 bb=>k H2 w2 g2 (aD.trans bb)⟩
 ·cases ee⟩
@[simp] def oJ (g:cf)(fa fb:aF):aF:=fun ρ=>match g ρ with
 | some (b,ρ1)=>if b=true then fa ρ1 else fb ρ1
 | none=>none
theorem Cs(hc:h_ X c gc)(ha:QD X a fa)(hb:QD X b fb):QD X (.IfExp c a b pos) (oJ gc fa fb):=⟨have hc:=hc.o;have ha:=ha.o;have hb:=hb.o;PE.imp (NW hc ha hb) fun σ H Q aj=>by
 obtain⟨ρ,w,t,r',q,ρ',gd,ee,k⟩:=aj
 unfold oJ at ee
 split at ee
 next b' ρ1 h1=>
  refine⟨ρ,w,t,b',ρ1,gd,h1,fun H1 w1 g1 aD=>?_⟩
  split at ee
  ·rename_i hb;rw[Qe hb]
   exact⟨ρ1,w1,t,r',q,ρ',g1,ee,fun v H2 w2 F g2 bb=>k v H2 w2 F g2 (aD.trans bb)⟩
  ·rename_i hb;rw[Qg hb]
   exact⟨ρ1,w1,t,r',q,ρ',g1,ee,fun v H2 w2 F g2 bb=>k v H2 w2 F g2 (aD.trans bb)⟩
 ·cases ee⟩
end
inductive Out where
 | nx (ρ:aS)|rt (d:D) (q:Nat)|bk (ρ:aS)|ct (ρ:aS)
abbrev aI:=aS->Option Out
def oK (K:PySem.W.Frag)(Dn:Ends)(n:Nat)(H:Hp)(w:Wn):Out->Prop
 | .nx ρ'=>∀ aP H' w',aP.length=n->Good K ρ' aP H' w' 0->Go H w H' w'->Dn.nx aP H'
 | .bk ρ'=>∀ aP H' w',aP.length=n->Good K ρ' aP H' w' 0->Go H w H' w'->Dn.bk aP H'
 | .ct ρ'=>∀ aP H' w',aP.length=n->Good K ρ' aP H' w' 0->Go H w H' w'->Dn.ct aP H'
 | .rt d q=>∀ v H' w' F,WL K w' H'->Go H w H' w'->Rep K H' w' (.t 0) q d v F->Dn.rt v H'
def pD (K:PySem.W.Frag)(f:aI):TS:=fun Dn σ H=>∃ ρ w o,Good K ρ σ H w 0/\f ρ=some o/\oK K Dn σ.length H w o
theorem PS.imp{e:Stmt}{t t':TS}(h:PS X e t)(i:∀ D σ H,t' D σ H->t D σ H):PS X e t':=fun pins s σ H D I q=>h pins s σ H D I (i D σ H q)
theorem fZ.imp{e:List Stmt}{t t':TS}(h:fZ X e t)(i:∀ D σ H,t' D σ H->t D σ H):fZ X e t':=fun pins s σ H D I q=>h pins s σ H D I (i D σ H q)
abbrev zC (X:Cx)(st:Stmt)(f:aI):Prop:=PS X st (pD X.K f)
structure jm (X:Cx) (e:Stmt) (f:aI):Prop where mk::o:zC X e f
abbrev oM (X:Cx)(st:List Stmt)(f:aI):Prop:=fZ X st (pD X.K f)
structure dQ (X:Cx) (e:List Stmt) (f:aI):Prop where mk::o:oM X e f
@[simp] def dR:aI:=fun ρ=>some (.nx ρ)
@[simp] def aB (f g:aI):aI:=fun ρ=>match f ρ with
 | some (.nx ρ1)=>g ρ1
 | o=>o
theorem oK.trans{Dn:Ends}{w w1:Wn}(go:Go H w H1 w1):∀ {o:Out},oK K Dn n H w o->oK K Dn n H1 w1 o
 | .nx _,h=>fun aP H' w' e g di=>h aP H' w' e g (go.trans di)
 | .bk _,h=>fun aP H' w' e g di=>h aP H' w' e g (go.trans di)
 | .ct _,h=>fun aP H' w' e g di=>h aP H' w' e g (go.trans di)
 | .rt _ _,h=>fun v H' w' F wl di=>h v H' w' F wl (go.trans di)
section
variable {X:Cx}{a b c e:Expr}{fa fb fc f:aF}{ga gb gc:cf}{pos:Pos}{st:Stmt}{bw sa sb:List Stmt}{s s':aI}
theorem gf:dQ X [] dR:=⟨fZ.imp NZ fun D σ H aj=>by
 obtain⟨ρ,w,o,g,ee,k⟩:=aj
 cases ee
 exact k σ H w rfl g Go.refl⟩
theorem aV(h1:jm X st s)(h2:dQ X bw s'):dQ X (st::bw) (aB s s'):=⟨have h1:=h1.o;have h2:=h2.o;fZ.imp (sh h1 h2) fun D σ H aj=>by
 obtain⟨ρ,w,o,g,ee,k⟩:=aj
 unfold aB at ee
 split at ee
 next ρ1 h1=>
  exact⟨ρ,w,.nx ρ1,g,h1,fun aP H' w' e g' di=>⟨ρ1,w',o,g',ee,by rw[e];exact k.trans di⟩⟩
 next fI=>
  refine⟨ρ,w,o,g,ee,?_⟩
  cases o with
  | nx ρ1=>exact absurd ee (fI ρ1)
  | bk ρ1=>exact k
  | ct ρ1=>exact k
  | rt d q=>exact k⟩
theorem aX(h1:jm X st s):dQ X [st] s:=⟨have h1:=h1.o;yV h1⟩
@[simp] def bF (f:aF):aI:=fun ρ=>match f ρ with
 | some (d,q,_)=>some (.rt d q)
 | none=>none
theorem bO(h:QD X e f):jm X (.Return (some e) pos) (bF f):=⟨have h:=h.o;PS.imp (FG h) fun D σ H aj=>by
 obtain⟨ρ,w,o,g,ee,k⟩:=aj
 unfold bF at ee
 split at ee
 next d q ρ1 h1=>
  cases ee
  exact⟨ρ,w,0,d,q,ρ1,g,h1,fun v H' w' F g' di r=>k v H' w' F g'.wl di r⟩
 ·cases ee⟩
@[simp] def cS (g:cf)(s s':aI):aI:=fun ρ=>match g ρ with
 | some (b,ρ1)=>if b=true then s ρ1 else s' ρ1
 | none=>none
theorem fU(hc:h_ X c gc)(ha:dQ X sa s)(hb:dQ X sb s'):jm X (.If c sa sb pos) (cS gc s s'):=⟨have hc:=hc.o;have ha:=ha.o;have hb:=hb.o;PS.imp (FH hc ha hb) fun D σ H aj=>by
 obtain⟨ρ,w,o,g,ee,k⟩:=aj
 unfold cS at ee
 split at ee
 next b' ρ1 h1=>
  refine⟨ρ,w,0,b',ρ1,g,h1,fun H1 w1 g1 aD=>?_⟩
  split at ee
  ·rename_i hb;rw[Qe hb]
   exact⟨ρ1,w1,o,g1,ee,k.trans aD⟩
  ·rename_i hb;rw[Qg hb]
   exact⟨ρ1,w1,o,g1,ee,k.trans aD⟩
 ·cases ee⟩
@[simp] def G0:aI:=fun ρ=>some (.bk ρ)
theorem Sd:jm X (.Break pos) G0:=⟨PS.imp N1 fun D σ H aj=>by
 obtain⟨ρ,w,o,g,ee,k⟩:=aj
 cases ee
 exact k σ H w rfl g Go.refl⟩
def lY (t i:Nat)(w:Wn):Wn:=fun a=>if w a=some (.t t)then some (.s i)else if w a=some (.s i)then none else w a
theorem Good.set{ρ:aS}{σ:St}{w:Wn}{q:Nat}{d:D}(g:Good K ρ σ H w 1)(hi:i<σ.length)(r:Rep K H w (.t 0) q d v F) :
  Good K (ρ.set i (some (d,q))) (σ.set i (some v)) H (lY 0 i w) 0/\∀ bE pE,Go bE pE H w->(∀ a j,pE a=some (.t j)->j<0)->Go bE pE H (lY 0 i w):=by
 have mN:∀ a,w a=none->lY 0 i w a=none:=fun a e=>by unfold lY;rw[e];rfl
 have mT:∀ a,w a=some (.t 0)->lY 0 i w a=some (.s i):=fun a e=>by unfold lY;rw[Qe e]
 have mS:∀ a j,w a=some (.s j)->j≠i->lY 0 i w a=some (.s j):=fun a j e n=>by
  unfold lY
  rw[Qg (by rw[e];exact fun z=>nomatch z),Qg (by rw[e];intro z;cases z;exact n rfl)]
  exact e
 have mF:∀ a,w a=some .f->lY 0 i w a=some .f:=fun a e=>by
  unfold lY
  rw[Qg (by rw[e];exact fun z=>nomatch z),Qg (by rw[e];exact fun z=>nomatch z)]
  exact e
 have mI:∀ a o,lY 0 i w a=some o->(w a=some (.t 0)/\o=.s i)\/(w a=some o/\o ≠ .s i/\o ≠ .t 0):=fun a o e=>by
  unfold lY at e
  split at e
  ·cases e;exact .inl ⟨by assumption,rfl⟩
  next n1=>
   split at e
   ·cases e
   ·rename_i n2;exact .inr ⟨e,fun z=>n2 (by rw[e,z]),fun z=>n1 (by rw[e,z])⟩
 have st:cY H w H (lY 0 i w):=fun a x h n=>⟨sm h,mN a n⟩
 refine⟨⟨⟨fun a o e=>?_,g.wl.tb⟩,fun a j e=>?_,fun a j e=>?_,by rw[Qu,Qu];exact g.len,fun j d' q' e'=>?_⟩,fun bE pE go hw=>⟨fun a x h n=>⟨(go.ba a x h n).1,mN a (go.ba a x h n).2⟩,fun a o e n=>?_⟩⟩
 ·rcases mI a o e with⟨z,_⟩|⟨z,_⟩
  ·exact g.wl a _ z
  ·exact g.wl a _ z
 ·rw[Qu]
  rcases mI a _ e with⟨_,z⟩|⟨z,_⟩
  ·cases z;exact hi
  ·exact g.ws a j z
 ·rcases mI a _ e with⟨_,z⟩|⟨z,_,n⟩
  ·cases z
  ·have:=g.wt a j z
   have:j=0:=by omega
   subst this
   exact absurd rfl n
 ·by_cases hj:i=j
  ·subst hj
   rw[Qw (by rw[g.len];exact hi)]at e'
   cases e'
   exact⟨v,F,Qw hi,Rep.go g.wl st r fun a m=>⟨rfl,mT a (r.aA a m)⟩⟩
  ·rw[Qr hj]at e'
   obtain⟨v',F',h1,h2⟩:=g.slot j d' q' e'
   exact⟨v',F',by rw[Qr hj];exact h1,Rep.go g.wl st h2 fun a m=>⟨rfl,mS a j (h2.aA a m) (fun z=>hj z.symm)⟩⟩
 ·obtain⟨h1,h2⟩:=go.keep a o e n
  refine⟨h1,?_⟩
  cases o with
  | s j=>exact absurd rfl (n j)
  | f=>exact mF a h2
  | t j=>exact absurd (hw a j e) (JI _)
@[simp] def aY (i:Nat)(f:aF):aI:=fun ρ=>match f ρ with
 | some (d,q,ρ1)=>some (.nx (ρ1.set i (some (d,q))))
 | none=>none
theorem G1{D:Ends}{σ:St}(hi:i<σ.length)(he:∀ Q,tD K f σ H Q->te σ H Q)(h:pD K (aY i f) D σ H):te σ H fun x H1=>D.nx (σ.set i (some x)) H1:=by
 obtain⟨ρ,w,o,g,ee,k⟩:=h
 unfold aY at ee
 split at ee
 next d q ρ1 h1=>
  cases ee
  refine he _ ⟨ρ,w,0,d,q,ρ1,g,h1,fun v H' w' F g' di r=>?_⟩
  obtain⟨a1,a2⟩:=g'.set hi r
  exact k _ _ _ (by rw[Qu]) a1 (a2 _ _ di g.wt)
 ·cases ee
theorem bS{x:Str}{pos':Pos}(hN:X.N.Nodup)(hi:X.N[i]? = some x)(hx:Loc X.env.scope x)(he:QD X e f)(hs:swapsWith e (some (.Name x pos')) pos.line X.env=pure false:=by rfl)(hf:X.fn x=true\/X.env.scope.names.lookup x=some .local:=by first|exact .inl rfl|exact .inr rfl):jm X (.Assign [.Name x pos'] e pos) (aY i f):=⟨have he:=he.o;by
 intro pins s σ H D I h
 have hl:i<σ.length:=by rw[I.len];exact(Qp.mp hi).1
 exact Bv (te:=tD X.K f) hN hi hx he hs hf pins s σ H D I (G1 hl (fun _ z=>z) h)⟩
@[simp] def eI (f:aF):aI:=fun ρ=>match f ρ with
 | some (_,_,ρ1)=>some (.nx ρ1)
 | none=>none
theorem iQ(he:QD X e f)(hs:swapsWith e none pos.line X.env=pure false:=by rfl):jm X (.Expr e pos) (eI f):=⟨have he:=he.o;PS.imp (FE he hs) fun D σ H aj=>by
 obtain⟨ρ,w,o,g,ee,k⟩:=aj
 unfold eI at ee
 split at ee
 next d q ρ1 h1=>
  cases ee
  exact⟨ρ,w,0,d,q,ρ1,g,h1,fun v H' w' F g' di r=>k σ H' (cA 0 w') rfl g'.drop (di.drop g.wt)⟩
 ·cases ee⟩
end
structure Mo (K:PySem.W.Frag) (H H':Hp):Prop where
 mo:∀ a o,H a=some o->H' a=some o
 tb:TB K H->TB K H'
theorem Mo.sY:Mo K H H:=⟨fun _ _ e=>e,fun t=>t⟩
structure pF (K:PySem.W.Frag) (J:It) (ds:List D) (P:Hp->Wn->Prop):Prop where
 go:∀ i H w,P H w->i<ds.length->J.go i H
 qw:∀ i H w x H' d,P H w->WL K w H->ds[i]? = some d->J.qw i H x H'->Mo K H H'/\Rep K H' w .f 0 d x []/\P H' w
 stop:∀ H w,P H w->J.stop ds.length H
 st:∀ H w H' w',P H w->WL K w H->cY H w H' w'->P H' w'
abbrev lZ:=aS->Option (List D×aS)
def wH (K:PySem.W.Frag)(f:lZ):TI:=fun σ H R=>∃ ρ w t ds ρ',Good K ρ σ H w t/\f ρ=some (ds,ρ') /\
 ∀ J P H' w',Good K ρ' σ H' w' t->Go H w H' w'->pF K J ds P->P H' w'->ds.length<sizeLine->R J H'
theorem PI.imp{e:Expr}{t t':TI}(h:PI X tg e t)(i:∀ σ H R,t' σ H R->t σ H R):PI X tg e t':=fun pins s σ H R I q=>h pins s σ H R I (i σ H R q)
abbrev Se (X:Cx)(tg e:Expr)(f:lZ):Prop:=PI X tg e (wH X.K f)
structure wI (X:Cx) (tg e:Expr) (f:lZ):Prop where mk::o:Se X tg e f
theorem It.list{K:PySem.W.Frag}{a:Addr}{vs:List V}{ds:List D}(hl:ds.length=vs.length):pF K (Bx K a) ds fun H w=>(KL K a vs\/(Rd H a (.lst vs)/\w a=none))/\ag K H w .f 0 ds vs []:=by
 have sq:∀ {H:Hp} {w:Wn},KL K a vs\/(Rd H a (.lst vs)/\w a=none)->cL K H a vs:=fun h=>h.elim (fun z=>z.sq) fun z=>.inl z.1
 refine⟨fun i H w p hi=>⟨vs,vs[i],sq p.1,by simp[hl ▸ hi]⟩,fun i H w x H' d p wl hd y=>?_,fun H w p=>⟨vs,sq p.1,by omega⟩,fun H w H' w' p wl st=>?_⟩
 ·obtain⟨rfl,hx⟩:=y
  obtain⟨v,hv,rv⟩:=p.2.get hd
  have:=hx vs (sq p.1)
  rw[hv]at this
  cases this
  exact⟨Mo.sY,rv,p⟩
 ·refine⟨?_,ag.go wl st p.2 nM⟩
  rcases p.1 with p|⟨p,n⟩
  ·exact .inl p
  ·exact .inr (Cd.go st n p)
theorem It.tup{K:PySem.W.Frag}{a:Addr}{vs:List V}{ds:List D}(hl:ds.length=vs.length):pF K (By K a) ds fun H w=>dO K H a vs/\ag K H w .f 0 ds vs []:=
 ⟨fun i H w p hi=>⟨vs,vs[i],p.1,by simp[hl ▸ hi]⟩,fun i H w x H' d p wl hd y=>by
   obtain⟨rfl,hx⟩:=y
   obtain⟨v,hv,rv⟩:=p.2.get hd
   have:=hx vs p.1
   rw[hv]at this
   cases this
   exact⟨Mo.sY,rv,p⟩,fun H w p=>⟨vs,p.1,by omega⟩,fun H w H' w' p wl st=>⟨dO.go wl st p.1,ag.go wl st p.2 nM⟩⟩
def pG (n:Nat):List V:=(List.range n).map fun i=>.int (Int.ofNat i)
def cV (n:Nat):List D:=(List.range n).map fun i=>.int (Int.ofNat i)
theorem iA(n:Nat):(cV n).length=n:=by simp[cV]
theorem G2(n:Nat):(pG n).length=n:=by simp[pG]
theorem It.range:pF K (yY 0 n) (cV n) fun _ _=>True:=by
 refine⟨fun i H w _ hi=>by rw[iA]at hi;exact hi,fun i H w x H' d _ _ hd y=>?_,fun H w _=>by rw[iA];exact Qf _,fun _ _ _ _ _ _ _=>trivial⟩
 have hi:i<n:=by have:=(Qp.mp hd).1;rw[iA]at this;exact this
 have e:x=.int (0+(i:Int)):=y.2
 have ed:d=.int (Int.ofNat i):=by
  have:(cV n)[i]? = some (.int (Int.ofNat i)):=by simp[cV,hi]
  rw[hd]at this
  exact Qt this
 obtain⟨rfl,_⟩:=y
 subst ed
 rw[e,Int.zero_add]
 exact⟨Mo.sY,.int _,trivial⟩
theorem zD{w:Wn}{o:Ow}:∀ (ns:List Int),ag K H w o 0 (ns.map D.int) (ns.map V.int) []
 | []=>.nil
 | n::r=>.cons (F:=[]) (G:=[]) (.int n) (zD r) nM
theorem Sf{w:Wn}{o:Ow}(n:Nat):ag K H w o 0 (cV n) (pG n) []:=by
 have:=zD (K:=K) (H:=H) (w:=w) (o:=o) ((List.range n).map Int.ofNat)
 rw[Zn,Zn]at this
 exact this
section
variable {X:Cx}{tg a b c e:Expr}{fa fb fc f:aF}{ga gb gc:cf}{pos p:Pos}
@[simp] def dj (g:bN):lZ:=fun ρ=>match g ρ with
 | some ([.int n],ρ1)=>if -1000<=n/\n<=1000 then some (cV n.toNat,ρ1)else none
 | _=>none
theorem iB{g:bN}(hm:X.mg "range" = none)(ha:eV X [a] g)(hg:Gl X "range":=by rfl)(hs:starEach [a] X.env=[(false,eval a X.env)]:=by rfl):wI X tg (.Call (.Name "range" p) [a] [] pos) (dj g):=⟨have ha:=ha.o;PI.imp (Of hg hm ha hs) fun σ H R aj=>by
 obtain⟨ρ,w,t,ds,ρ',gd,ee,k⟩:=aj
 unfold dj at ee
 split at ee
 next n ρ1 h1=>
  split at ee
  next hn=>
   cases ee
   refine⟨ρ,w,t,[.int n],_,gd,h1,fun vs H1 w1 g1 aD r1=>?_⟩
   have hv:vs=[.int n]:=by
    have l:=r1.length
    match vs,l with
    | [v],_=>
     obtain⟨v',h1,h2⟩:=r1.get (i:=0) rfl
     cases h1
     rw[fx h2]
   subst hv
   refine⟨n,rfl,by omega,by omega,k _ _ H1 w1 g1 aD It.range trivial ?_⟩
   rw[iA]
   exact sH (by omega)
  ·cases ee
 ·cases ee⟩
def Ct (K:PySem.W.Frag)(tl:TE):TI:=fun σ H R=>tl σ H fun x H1=>∃ a,x=.ref a/\(((∃ xs,cL K H1 a xs)/\R (Bx K a) H1)\/((∃ xs,dO K H1 a xs)/\R (By K a) H1))
theorem G3{l:Expr}{tl:TE}(hl:PE X l tl):PI X tg l (Ct X.K tl):=by
 intro pins s σ H R I h
 refine aU (hl pins s σ H _ I h) fun v s1 ⟨x,H1,I1,r1,q1⟩=>?_
 obtain⟨a,e,q⟩:=q1
 subst e
 cases r1
 rcases q with⟨⟨xs,hq⟩,q⟩|⟨⟨xs,hq⟩,q⟩
 ·obtain⟨aq,rv,p,hz⟩:=I1.list hq
  refine Yf p.isList ?_
  refine⟨s1.heap.objs.size,[s1.heap.objs.size],_,_,H1,rfl,I1.kept (t':=s1.toks) fun b o e=>Qc _ e,Oa a _,⟨_,Qs _ rfl,rfl,rfl⟩,fun b hb=>?_,q⟩
  have e:b=s1.heap.objs.size:=by simpa using hb
  subst e
  exact I1.sj (Qf _) (I1.az.fresh (Qf _))
 ·obtain⟨aq,rv,p,hz⟩:=I1.tuple hq
  refine wpAny_pyIter_tuple (show s1.heap.IsTuple a aq.toArray from p) ?_
  refine⟨s1.heap.objs.size,[s1.heap.objs.size],_,_,H1,rfl,I1.kept (t':=s1.toks) fun b o e=>Qc _ e,Ob a _,⟨_,Qs _ rfl,rfl,rfl⟩,fun b hb=>?_,q⟩
  have e:b=s1.heap.objs.size:=by simpa using hb
  subst e
  exact I1.sj (Qf _) (I1.az.fresh (Qf _))
@[simp] def fK (f:aF):lZ:=fun ρ=>match f ρ with
 | some (.lst ds,_,ρ1)=>if ds.length<=1000 then some (ds,ρ1)else none
 | some (.tup ds,_,ρ1)=>if ds.length<=1000 then some (ds,ρ1)else none
 | _=>none
theorem mP(ha:QD X a fa):wI X tg a (fK fa):=⟨have ha:=ha.o;PI.imp (G3 ha) fun σ H R aj=>by
 obtain⟨ρ,w,t,ds,ρ',gd,ee,k⟩:=aj
 unfold fK at ee
 split at ee
 next br q ρ1 h1=>
  split at ee
  next hl=>
   cases ee
   refine⟨ρ,w,t,.lst ds,q,ρ',gd,h1,fun v H1 w1 F g1 aD r1=>?_⟩
   have r0:=r1.drop (o:=.f) (Qf t)
   cases r0 with
   | kl h r=>exact⟨_,rfl,.inl ⟨⟨_,h.sq⟩,k _ _ H1 (cA t w1) g1.drop (aD.drop gd.wt) (It.list r.length) ⟨.inl h,r⟩ (sH hl)⟩⟩
   | shr h n r=>exact⟨_,rfl,.inl ⟨⟨_,.inl h⟩,k _ _ H1 (cA t w1) g1.drop (aD.drop gd.wt) (It.list r.length) ⟨.inr ⟨h,n⟩,r⟩ (sH hl)⟩⟩
  ·cases ee
 next br q ρ1 h1=>
  split at ee
  next hl=>
   cases ee
   refine⟨ρ,w,t,.tup ds,q,ρ',gd,h1,fun v H1 w1 F g1 aD r1=>?_⟩
   have r0:=r1.drop (o:=.f) (Qf t)
   cases r0 with
   | tup h r=>exact⟨_,rfl,.inr ⟨⟨_,dO.of h⟩,k _ _ H1 (cA t w1) g1.drop (aD.drop gd.wt) (It.tup r.length) ⟨dO.of h,r⟩ (sH hl)⟩⟩
  ·cases ee
 ·cases ee⟩
end
abbrev iR:=D->aS->Option aS
def zE (K:PySem.W.Frag)(b:Nat)(pt:iR):TG:=fun v σ H Q=>∃ d ρ w t ρ',Good K ρ σ H w t/\Rep K H w .f 0 d v []/\pt d ρ=some ρ'/\∀ aP H' w',aP.length=σ.length->(∀ i,i<b->aP[i]? = σ[i]?)->Good K ρ' aP H' w' t->Go H w H' w'->Q aP H'
theorem PG.imp{t t':TG}(h:PG X tg t)(i:∀ v σ H Q,t' v σ H Q->t v σ H Q):PG X tg t':=fun pins s σ H v u Q I r q=>h pins s σ H v u Q I r (i v σ H Q q)
abbrev Sg (X:Cx)(b:Nat)(tg:Expr)(pt:iR):Prop:=PG X tg (zE X.K b pt)
structure zG (X:Cx) (b:Nat) (e:Expr) (f:iR):Prop where mk::o:Sg X b e f
@[simp] def bg (i:Nat):iR:=fun d ρ=>if i<ρ.length then some (ρ.set i (some (d,cH d)))else none
theorem Good.sZ{ρ:aS}{σ:St}{w:Wn}{d:D}(g:Good K ρ σ H w t)(hi:i<σ.length)(r:Rep K H w .f 0 d v []) :
  Good K (ρ.set i (some (d,cH d))) (σ.set i (some v)) H (iN i w) t/\Go H w H (iN i w):=by
 have st:cY H w H (iN i w):=fun a x h n=>⟨sm h,wA n⟩
 refine⟨⟨⟨fun a o h=>g.wl a o (pB h).1,g.wl.tb⟩,fun a j h=>by rw[Qu];exact g.ws a j (pB h).1,fun a j h=>g.wt a j (pB h).1,by rw[Qu,Qu];exact g.len,fun j d' q' e'=>?_⟩,⟨st,fun a o h n=>⟨rfl,uN h (n i)⟩⟩⟩
 by_cases hj:i=j
 ·subst hj
  rw[Qw (by rw[g.len];exact hi)]at e'
  cases e'
  exact⟨v,[],Qw hi,(Rep.go g.wl st r nM:Rep K H (iN i w) (.s i) 0 d v []).ka⟩
 ·rw[Qr hj]at e'
  obtain⟨v',F,h1,h2⟩:=g.slot j d' q' e'
  exact⟨v',F,by rw[Qr hj];exact h1,Rep.go g.wl st h2 fun a m=>⟨rfl,uN (h2.aA a m) (fun z=>hj (by cases z;rfl))⟩⟩
theorem eJ{b:Nat}{x:Str}{pos:Pos}(hb:b<=i)(hN:X.N.Nodup)(hi:X.N[i]? = some x)(hx:Loc X.env.scope x)(hf:X.fn x=true\/X.env.scope.names.lookup x=some .local:=by first|exact .inl rfl|exact .inr rfl):zG X b (.Name x pos) (bg i):=⟨PG.imp (Bu hN hi hx hf) fun v σ H Q aj=>by
 obtain⟨d,ρ,w,t,ρ',g,r,e,k⟩:=aj
 unfold bg at e
 split at e
 next hl=>
  cases e
  obtain⟨a1,a2⟩:=g.sZ (by rw[<- g.len];exact hl) r
  exact k _ _ _ (by rw[Qu]) (fun j hj=>Qr (by omega)) a1 a2
 ·cases e⟩
def gh (pt:iR)(body:aI):List D->aS->Option Out
 | [],ρ=>some (.nx ρ)
 | d::ds,ρ=>match pt d ρ with
  | none=>none
  | some ρ1=>match body ρ1 with
   | some (.nx ρ2)=>gh pt body ds ρ2
   | some (.ct ρ2)=>gh pt body ds ρ2
   | some (.bk ρ2)=>some (.nx ρ2)
   | o=>o
@[simp] def gi (it:lZ)(pt:iR)(body:aI):aI:=fun ρ=>match it ρ with
 | some (ds,ρ1)=>gh pt body ds ρ1
 | none=>none
theorem Rep.kg{w w':Wn}{ds:D}{vs:V}(r:Rep K H w .f 0 ds vs [])(wl:WL K w H)(st:cY H w H' w'):Rep K H' w' .f 0 ds vs []:=Rep.go wl st r nM
theorem ag.qN{w:Wn}:∀ {ds:List D} {vs:List V} (i:Nat),ag K H w .f 0 ds vs []->ag K H w .f 0 (ds.drop i) (vs.drop i) []
 | _,_,0,r=>r
 | ds,vs,i+1,r=>by
  generalize hF:([]:List Addr)=F at r
  cases r with
  | nil=>exact .nil
  | cons r s _=>
   have h2:=s.zero
   have h1:=r.zero
   subst h2
   subst h1
   exact ag.qN i s
theorem Good.more{ρ:aS}{σ:St}{w:Wn}(g:Good K ρ σ H w t)(hm:Mo K H H'):Good K ρ σ H' w t/\Go H w H' w:=by
 have h:=hm.mo
 have st:cY H w H' w:=fun a x e n=>⟨sm (h a x e),n⟩
 have kp:∀ a o,w a=some o->H' a=H a:=fun a o e=>by
  obtain⟨vs,q⟩:=g.wl a o e
  rw[q,h a _ q]
 refine⟨⟨⟨fun a o e=>?_,hm.tb g.wl.tb⟩,g.ws,g.wt,g.len,fun i d q e=>?_⟩,st,fun a o e _=>⟨kp a o e,e⟩⟩
 ·obtain⟨vs,q⟩:=g.wl a o e
  exact⟨vs,h a _ q⟩
 ·obtain⟨v,F,h1,h2⟩:=g.slot i d q e
  exact⟨v,F,h1,Rep.go g.wl st h2 fun a m=>⟨kp a _ (h2.aA a m),h2.aA a m⟩⟩
theorem kh{iter:Expr}{body:List Stmt}{it:lZ}{pt:iR}{s:aI}{pos:Pos}(hp:PassesOwn (model X.prog X.w) X.A X.env X.xe)(hc:X.calm=true)(hi:wI X tg iter it)(hg:zG X 0 tg pt)(hb:dQ X body s)(hs:∀ x,foldedSetIterable iter X.env x=pure x:=by intro _;rfl):jm X (.For tg iter body [] pos) (gi it pt s):=⟨have hi:=hi.o;have hg:=hg.o;have hb:=hb.o;PS.imp (FL hp hc hi hg hb hs) fun D σ H aj=>by
 obtain⟨ρ,w,o,g,ee,k⟩:=aj
 unfold gi at ee
 split at ee
 next ds ρ1 h1=>
  refine⟨ρ,w,0,ds,ρ1,g,h1,fun J P H1 w1 g1 aD ok p1 hl=>?_⟩
  refine⟨fun i m aP H'=>m=ds.length-i/\i<=ds.length/\aP.length=σ.length/\∃ ρ' w',Good X.K ρ' aP H' w' 0/\P H' w'/\gh pt s (ds.drop i) ρ'=some o/\oK X.K D σ.length H' w' o,
   ⟨ds.length,by simp,Q9 _,rfl,ρ1,w1,g1,p1,ee,k.trans aD⟩,?_⟩
  rintro i m aP H' ⟨rfl,ki,gD,ρ',w',g',p',e',k'⟩
  by_cases dZ:i<ds.length
  ·refine .inr ⟨ok.go i H' w' p' dZ,fun lM H2=>ds.length-(i+1)=ds.length-(i+1)/\i+1<=ds.length/\lM.length=σ.length/\∃ ρ2 w2,Good X.K ρ2 lM H2 w2 0/\P H2 w2/\gh pt s (ds.drop (i+1)) ρ2=some o/\oK X.K D σ.length H2 w2 o,
    fun lM H2 n2=>⟨ds.length-(i+1),by omega,n2⟩,fun x H2 hy=>?_⟩
   obtain⟨mo,rx,p2⟩:=ok.qw i H' w' x H2 ds[i] p' g'.wl (Qx dZ) hy
   obtain⟨g2,bb⟩:=g'.more mo
   have ed:ds.drop i=ds[i]::ds.drop (i+1):=Jd dZ
   rw[ed]at e'
   unfold gh at e'
   split at e'
   ·cases e'
   next eW h3=>
    refine⟨ds[i],ρ',w',0,eW,g2,rx,h3,fun uJ H4 w4 l4 _ g4 iS=>?_⟩
    have p4:=ok.st _ _ _ _ p2 g2.wl iS.ba
    have nx:∀ {jn:aS},gh pt s (ds.drop (i+1)) jn=some o->∀ kj H5 w5,kj.length=uJ.length->Good X.K jn kj H5 w5 0->Go H4 w4 H5 w5->ds.length-(i+1)=ds.length-(i+1)/\i+1<=ds.length/\kj.length=σ.length/\∃ ρ2 w2,Good X.K ρ2 kj H5 w2 0/\P H5 w2/\gh pt s (ds.drop (i+1)) ρ2=some o/\oK X.K D σ.length H5 w2 o:=fun {jn} e5 kj H5 w5 l5 g5 iT=>
     ⟨rfl,dZ,by rw[l5,l4,gD],jn,w5,g5,ok.st _ _ _ _ p4 g4.wl iT.ba,e5,k'.trans ((bb.trans iS).trans iT)⟩
    cases h6:s eW with
    | none=>rw[h6]at e';cases e'
    | some o6=>
     rw[h6]at e'
     refine⟨eW,w4,o6,g4,h6,?_⟩
     cases o6 with
     | nx jn=>exact nx e'
     | ct jn=>exact nx e'
     | bk jn=>
      cases e'
      exact fun kj H5 w5 l5 g5 iT=>k' kj H5 w5 (by rw[l5,l4,gD]) g5 ((bb.trans iS).trans iT)
     | rt d q=>
      cases e'
      exact fun v H5 w5 F Cu iT r5=>k' v H5 w5 F Cu ((bb.trans iS).trans iT) r5
  ·have eE:i=ds.length:=JJ ki (ZD.mp dZ)
   subst eE
   refine .inl ⟨ok.stop H' w' p',?_⟩
   have ed:ds.drop ds.length=[]:=by simp
   rw[ed]at e'
   cases e'
   exact k' aP H' w' gD g' Go.refl
 ·cases ee⟩
@[simp] def jZ (n:Nat)(ds:List D):aS:=ds.map (fun d=>some (d,cH d))++List.replicate (n-ds.length) none
@[simp] def bH (n:Nat)(body:aI):List D->OD:=fun ds=>match body (jZ n ds)with
 | some (.rt d q)=>some (d,q)
 | some (.nx _)=>some (.au,9)
 | _=>none
theorem wJ{w:Wn}{ds:List D}(hw:∀ a o,w a=some o->o=.f)(wl:WL K w H)(r:ag K H w .f 0 ds vs []):Good K (jZ N.length ds) (start N vs) H w 0:=by
 refine⟨wl,(fun a i e=>by cases (hw a _ e)),(fun a i e=>by cases (hw a _ e)),?_,fun i d q e=>?_⟩
 ·unfold jZ L2.start
  rw[Qo,Qo,Qm,Qm,Zd,Zd,r.length]
 ·unfold jZ at e
  by_cases hi:i<ds.length
  ·rw[QA (by simpa using hi),QH]at e
   cases h:ds[i]? with
   | none=>rw[h]at e;cases e
   | some d'=>
    rw[h]at e
    cases e
    obtain⟨v,hv,rv⟩:=r.get h
    refine⟨v,[],?_,(rv.any wl:Rep K H w (.s i) 0 d v []).ka⟩
    unfold L2.start
    rw[QA (by rw[Qm,<- r.length];exact hi),QH,hv]
    rfl
  ·rw[QO (by simpa using hi),Zq]at e
   split at e<;>cases e
theorem G4{body:aI}{Q:VK}(h:lV K n (bH N.length body) vs H Q E):pD K body { nx:=fun _ H'=>Q .au H',rt:=Q } (start N vs) H:=by
 obtain⟨hn,ds,w,r,q,hw,wl,rs,e,k⟩:=h
 unfold bH at e
 split at e
 next d q' h1=>
  cases e
  exact⟨_,w,_,wJ hw wl rs,h1,fun v H' w' F jY di r'=>k v H' w' F di jY r'⟩
 next ρ' h1=>
  cases e
  exact⟨_,w,_,wJ hw wl rs,h1,fun aP H' w' _ g' di=>k .au H' w' [] di g'.wl .au⟩
 ·cases e
theorem Cv{P:Program}{wd:World}{mg:Str->Option Value}{base:Heap}{x qual:Str}{st:Stmt}{f:Addr}{k:Nat}{body:aI}(F:kY K x qual st f fd)(S:af N ps (aJ st))
  (h:∀ (aN:Value) (A:Around) (outer:List Env) (s:Shared) (H:Hp) (E:XK),aw k (A.deeper (envOfC qual (aJ st) s.heap.objs.size f aN))->oM (fw dh P wd K mg base N qual (aJ st) f aN A outer s H E).cU (eP st) body) :
  bW P wd K mg base dh (k+1) f fd ps (lV K ps.length (bH N.length body)):=
 F.ok S (fun vs H Q E h=>h.1) fun aN A outer s H vs Q E hr fz=>⟨_,h aN A outer s H E hr,G4 fz⟩
def km (k:Nat)(pt:iR)(tt:cf)(te:aF)(deep:Bool):List D->aS->Option (List D×aS)
 | [],ρ=>some ([],ρ)
 | d::ds,ρ=>match pt d (ρ++List.replicate k none)with
  | none=>none
  | some ρ1=>match tt ρ1 with
   | none=>none
   | some (b,ρ2)=>if b=true then(match te ρ2 with
     | none=>none
     | some (v,q,eW)=>if deep=true/\v.bM=true/\q≠1 then none else match km k pt tt te deep ds (eW.take ρ.length)with
      | none=>none
      | some (vs,zH)=>some (v::vs,zH))
    else km k pt tt te deep ds (ρ2.take ρ.length)
@[simp] def fC (k:Nat)(it:lZ)(pt:iR)(tt:cf)(te:aF)(deep:Bool):aF:=fun ρ=>match it ρ with
 | some (ds,ρ1)=>match km k pt tt te deep ds ρ1 with
  | some (vs,ρ2)=>some (.lst vs,if deep=true then 2 else 1,ρ2)
  | none=>none
 | none=>none
@[simp] def d5:cf:=fun ρ=>some (true,ρ)
theorem Good.ext{ρ:aS}{σ:St}{w:Wn}(g:Good K ρ σ H w t)(k:Nat):Good K (ρ++List.replicate k none) (σ++List.replicate k none) H w t:=by
 refine⟨g.wl,fun a i e=>by rw[Qo];exact Qn (g.ws a i e) (Nat.le_add_right _ _),g.wt,by rw[Qo,Qo,Zd,Zd,g.len],fun i d q e=>?_⟩
 by_cases hi:i<ρ.length
 ·rw[QA hi]at e
  obtain⟨v,F,h1,h2⟩:=g.slot i d q e
  exact⟨v,F,by rw[QA (by rw[<- g.len];exact hi)];exact h1,h2⟩
 ·rw[QO (by omega),Zq]at e
  split at e<;>cases e
def nE (n:Nat)(w:Wn):Wn:=fun a=>match w a with
 | some (.s i)=>if n<=i then none else some (.s i)
 | x=>x
theorem Si{w:Wn}(h:w a=none):nE n w a=none:=by unfold nE;rw[h]
theorem Sj{w:Wn}(h:w a=some (.s i))(hi:i<n):nE n w a=some (.s i):=by unfold nE;rw[h];exact Qg (by omega)
theorem Sk{w:Wn}{o:Ow}(h:w a=some o)(hn:∀ i,o ≠ .s i):nE n w a=some o:=by
 unfold nE;rw[h]
 cases o with
 | s i=>exact absurd rfl (hn i)
 | t i=>rfl
 | f=>rfl
theorem Cw{w:Wn}{o:Ow}(h:nE n w a=some o):w a=some o/\∀ i,o=.s i->i<n:=by
 unfold nE at h
 cases e:w a with
 | none=>rw[e]at h;cases h
 | some o'=>
  rw[e]at h
  cases o' with
  | t i=>cases h;exact⟨rfl,fun i z=>nomatch z⟩
  | f=>cases h;exact⟨rfl,fun i z=>nomatch z⟩
  | s i=>
   dsimp only at h
   split at h
   ·cases h
   ·cases h;exact⟨rfl,fun j z=>by cases z;omega⟩
theorem Good.cut{ρ:aS}{σ τ:St}{w:Wn}(g:Good K ρ (σ++τ) H w t):Good K (ρ.take σ.length) σ H (nE σ.length w) t/\Go H w H (nE σ.length w):=by
 have st:cY H w H (nE σ.length w):=fun a x h n=>⟨sm h,Si n⟩
 refine⟨⟨⟨fun a o e=>g.wl a o (Cw e).1,g.wl.tb⟩,fun a i e=>(Cw e).2 i rfl,fun a i e=>g.wt a i (Cw e).1,?_,fun i d q e=>?_⟩,⟨st,fun a o e n=>⟨rfl,Sk e n⟩⟩⟩
 ·rw[Q3,g.len,Qo]
  omega
 ·by_cases hi:i<σ.length
  ·rw[ZP hi]at e
   obtain⟨v,F,h1,h2⟩:=g.slot i d q e
   rw[QA hi]at h1
   exact⟨v,F,h1,Rep.go g.wl st h2 fun a m=>⟨rfl,Sj (h2.aA a m) hi⟩⟩
  ·rw[JY (by omega)]at e
   cases e
theorem Sl{σ aP τ:St}(l:aP.length=(σ++τ).length)(h:∀ i,i<σ.length->aP[i]? = (σ++τ)[i]?):∃ G5,aP=σ++G5/\G5.length=τ.length:=by
 refine⟨aP.drop σ.length,?_,by rw[ZS,l,Qo];omega⟩
 have e:aP.take σ.length=σ:=by
  apply Q8
  intro i
  by_cases hi:i<σ.length
  ·rw[ZP hi,h i hi,QA hi]
  ·rw[JY (by omega),Qq (by omega)]
 conv=>lhs;rw[<- List.take_append_drop σ.length aP,e]
def dq (deep:Bool):Nat:=if deep=true then 1 else 0
def j0 (deep:Bool)(t:Nat)(w:Wn):Wn:=fun a=>if w a=some (.t (t+1))then(if deep=true then some (.t t)else none)else w a
theorem So{ρ:aS}{σ:St}{w:Wn}{q:Nat}{d:D}(g:Good K ρ σ H w (t+2))(r:Rep K H w (.t (t+1)) q d v F)(hq:¬ (deep=true/\d.bM=true/\q≠1)) :
  Good K ρ σ H (j0 deep t w) (t+1)/\(∃ F',Rep K H (j0 deep t w) (.t t) (dq deep) d v F'/\∀ a∈F',w a=some (.t (t+1)))/\cY H w H (j0 deep t w)/\(∀ a o,w a=some o->o ≠ .t (t+1)->j0 deep t w a=some o):=by
 have hN:∀ a,w a=none->j0 deep t w a=none:=fun a e=>by unfold j0;rw[e];rfl
 have hO:∀ a o,w a=some o->o ≠ .t (t+1)->j0 deep t w a=some o:=fun a o e n=>by
  unfold j0
  rw[Qg (by rw[e];exact fun z=>n (Qt z))]
  exact e
 have hI:∀ a o,j0 deep t w a=some o->(w a=some (.t (t+1))/\o=.t t)\/(w a=some o/\o ≠ .t (t+1)):=fun a o e=>by
  unfold j0 at e
  split at e
  ·split at e
   ·cases e;exact .inl ⟨by assumption,rfl⟩
   ·cases e
  ·rename_i n;exact .inr ⟨e,fun z=>n (by rw[e,z])⟩
 have st:cY H w H (j0 deep t w):=fun a x h n=>⟨sm h,hN a n⟩
 refine⟨⟨⟨fun a o e=>?_,g.wl.tb⟩,fun a i e=>?_,fun a i e=>?_,g.len,fun i d' q' e'=>?_⟩,?_,st,hO⟩
 ·rcases hI a o e with⟨z,_⟩|⟨z,_⟩<;>exact g.wl a _ z
 ·rcases hI a _ e with⟨_,z⟩|⟨z,_⟩
  ·cases z
  ·exact g.ws a i z
 ·rcases hI a _ e with⟨_,z⟩|⟨z,n⟩
  ·cases z;exact Q2 _
  ·have:=g.wt a i z
   have:i≠t+1:=fun z=>n (by rw[z])
   omega
 ·obtain⟨v',F',h1,h2⟩:=g.slot i d' q' e'
  exact⟨v',F',h1,Rep.go g.wl st h2 fun a m=>⟨rfl,hO a _ (h2.aA a m) (fun z=>nomatch z)⟩⟩
 ·cases deep with
  | false=>
   refine⟨[],Rep.freeze hN r fun a m=>?_,fun _ z=>nomatch z⟩
   unfold j0
   rw[Qe (r.aA a m)]
   rfl
  | true=>
   have hT:∀ a,w a=some (.t (t+1))->j0 true t w a=some (.t t):=fun a e=>by unfold j0;rw[Qe e];rfl
   cases hl:d.bM with
   | false=>
    obtain⟨_,hr⟩:=r.b_ hl
    exact⟨[],Rep.go g.wl st (hr 1) nM,fun _ z=>nomatch z⟩
   | true=>
    have:q=1:=by
     by_cases h:q=1
     ·exact h
     ·exact absurd ⟨rfl,hl,h⟩ hq
    subst this
    exact⟨F,Rep.go g.wl st r fun a m=>⟨rfl,hT a (r.aA a m)⟩,r.aA⟩
theorem Sq{ρ:aS}{σ:St}{w1:Wn}{q:Nat}{ds:List D}(g:Good K ρ σ H1 w1 (t+1))(hp:H1 p=none)(r:ag K H1 w1 (.t t) q ds vs F) :
  Good K ρ σ (upd H1 p (.lst vs)) (gA p (.t t) w1) (t+1)/\Go H1 w1 (upd H1 p (.lst vs)) (gA p (.t t) w1)/\Rep K (upd H1 p (.lst vs)) (gA p (.t t) w1) (.t t) (q+1) (.lst ds) (.ref p) (p::F):=by
 have ne:∀ a x,H1 a=some x->a≠p:=fun a x e=>dY e hp
 have nw:∀ a o,w1 a=some o->a≠p:=fun a o e=>by obtain⟨vs,q⟩:=g.wl a o e;exact ne a _ q
 have st:cY H1 w1 (upd H1 p (.lst vs)) (gA p (.t t) w1):=fun a x e n=>⟨sm (by rw[aO (ne a x e)];exact e),by rw[eQ (ne a x e)];exact n⟩
 refine⟨⟨⟨fun a o e=>?_,g.wl.tb.upd rfl (.inl hp)⟩,fun a i e=>?_,fun a i e=>?_,g.len,fun i d q e=>?_⟩,⟨st,fun a o e _=>⟨aO (nw a o e),(eQ (nw a o e)).trans e⟩⟩,?_⟩
 ·by_cases h:a=p
  ·subst h;exact⟨.l vs,cT⟩
  ·rw[eQ h]at e
   obtain⟨us,q⟩:=g.wl a o e
   exact⟨us,by rw[aO h];exact q⟩
 ·by_cases h:a=p
  ·subst h;rw[lU]at e;cases e
  ·rw[eQ h]at e;exact g.ws a i e
 ·by_cases h:a=p
  ·subst h;rw[lU]at e;cases e;exact Q2 _
  ·rw[eQ h]at e;exact g.wt a i e
 ·obtain⟨v,F,h1,h2⟩:=g.slot i d q e
  exact⟨v,F,h1,Rep.go g.wl st h2 fun a m=>⟨aO (nw a _ (h2.aA a m)),(eQ (nw a _ (h2.aA a m))).trans (h2.aA a m)⟩⟩
 ·exact .own cT lU (ag.go g.wl st r fun a m=>⟨aO (nw a _ (r.aA a m)),(eQ (nw a _ (r.aA a m))).trans (r.aA a m)⟩) fun m=>absurd rfl (nw p _ (r.aA p m))
theorem G6{k:Nat}{it:lZ}{pt:iR}{tt:cf}{te:aF}:∀ σ H Q,tD K (fC k it pt tt te deep) σ H Q->wq k (wH K it) (zE K σ.length pt) (sW K tt) (tD K te) σ H Q:=fun σ H Q aj=>by
 obtain⟨ρ,w,t,r',q,ρ',g,ee,kk⟩:=aj
 unfold fC at ee
 split at ee
 next ds ρ1 h1=>
  split at ee
  next all ρ2 h2=>
   cases ee
   refine⟨ρ,w,t,ds,ρ1,g,h1,fun J P H1 w1 g1 aD ok p1 hl=>?_⟩
   refine⟨fun i m ys H'=>m=ds.length-i/\i<=ds.length/\ys.length<=i/\∃ eW w3 zs F bw,Good K eW σ H' w3 (t+1)/\Go H w H' w3/\P H' w3/\ag K H' w3 (.t t) (dq deep) zs ys F /\
     km k pt tt te deep (ds.drop i) eW=some (bw,ρ')/\zs++bw=all,
    ⟨ds.length,by simp,Q9 _,Qf _,ρ1,w1,[],[],all,g1.up,aD,p1,.nil,h2,rfl⟩,?_⟩
   rintro i m ys H' ⟨rfl,ki,hys,eW,w3,zs,F,bw,g0,kg,p0,G7,e3,ez⟩
   have hsz:ys.length<sizeLine:=by omega
   refine⟨ZF hsz,?_⟩
   by_cases dZ:i<ds.length
   ·refine .inr ⟨ok.go i H' w3 p0 dZ,hsz,fun x H2 hy=>?_⟩
    obtain⟨mo,rx,p3⟩:=ok.qw i H' w3 x H2 ds[i] p0 g0.wl (Qx dZ) hy
    obtain⟨g3,bb⟩:=g0.more mo
    have dm:=kg.trans bb
    have rz:=G7.gone g0.wl bb
    have ed:ds.drop i=ds[i]::ds.drop (i+1):=Jd dZ
    rw[ed]at e3
    unfold km at e3
    split at e3
    ·cases e3
    next zH h4=>
     split at e3
     ·cases e3
     next b jn h5=>
      have gx:=g3.ext k
      have G8:eW.length=σ.length:=g3.len
      refine⟨ds[i],_,w3,t+1,zH,gx,rx,h4,fun uJ H4 w4 l4 s4 g4 iS=>?_⟩
      obtain⟨τ,rfl,Sr⟩:=Sl l4 s4
      refine⟨⟨τ,rfl,by rw[Sr,Zd]⟩,zH,w4,t+1,b,jn,g4,h5,fun H5 w5 g5 iT=>?_⟩
      have p5:=ok.st _ _ _ _ (ok.st _ _ _ _ p3 g3.wl iS.ba) g4.wl iT.ba
      have z5:ag K H5 w5 (.t t) (dq deep) zs ys F:=(rz.gone g3.wl iS).gone g4.wl iT
      cases b with
      | false=>
       rw[Qg (by decide)]at e3
       dsimp only
       rw[Qg (by decide)]
       obtain⟨gc,s_⟩:=g5.cut
       rw[G8]at e3
       refine⟨ds.length-(i+1),by omega,rfl,dZ,by omega,_,_,zs,F,bw,gc,(dm.trans iS).trans (iT.trans s_),ok.st _ _ _ _ p5 g5.wl s_.ba,z5.gone g5.wl s_,e3,ez⟩
      | true=>
       rw[Qe rfl]at e3
       dsimp only
       rw[Qe rfl]
       split at e3
       ·cases e3
       next d6 q6 Ss h6=>
        split at e3
        ·cases e3
        next Su=>
         split at e3
         ·cases e3
         next Sv ρ7 h7=>
          cases e3
          refine⟨jn,w5,t+1,d6,q6,Ss,g5,h6,fun v H6 w6 F6 g6 Cy r6=>?_⟩
          obtain⟨gs,⟨F',rs,wK⟩,Cz,G9⟩:=So g6 r6 Su
          obtain⟨gc,s_⟩:=gs.cut
          rw[G8]at h7
          have G_:=z5.gone g5.wl Cy
          have zF:∀ a∈F,w6 a=some (.t t):=G_.aA
          have Sw:ag K H6 (j0 deep t w6) (.t t) (dq deep) zs ys F:=ag.go g6.wl Cz G_ fun a m=>⟨rfl,G9 a _ (zF a m) (by intro z;cases z)⟩
          have Sx:Go H w H6 (j0 deep t w6):=by
           have go:Go H w H6 w6:=(dm.trans iS).trans (iT.trans Cy)
           refine⟨go.ba.trans Cz,fun a o h n=>⟨(go.keep a o h n).1,G9 a o (go.keep a o h n).2 fun z=>?_⟩⟩
           subst z
           have:=g.wt a _ h
           omega
          refine⟨ds.length-(i+1),by omega,rfl,dZ,by rw[Qo];simp;omega,_,_,zs++[d6],F++F',Sv,gc,Sx.trans s_,ok.st _ _ _ _ (ok.st _ _ _ _ p5 g5.wl Cy.ba |> fun q=>ok.st _ _ _ _ q g6.wl Cz) gs.wl s_.ba,
           ?_,h7,by rw[Jr];exact ez⟩
          refine(ag.snoc rs Sw fun a m m'=>?_).gone gs.wl s_
          have h1:=zF a m
          rw[wK a m']at h1
          cases h1
   ·have eE:i=ds.length:=JJ ki (ZD.mp dZ)
    subst eE
    refine .inl ⟨ok.stop H' w3 p0,fun p hp=>?_⟩
    have ed:ds.drop ds.length=[]:=by simp
    rw[ed]at e3
    cases e3
    rw[Za]at ez
    subst ez
    obtain⟨a1,a2,a3⟩:=Sq g0 hp G7
    refine kk _ _ _ (p::F) a1 (kg.trans a2) ?_
    cases deep<;>exact a3
  ·cases ee
 ·cases ee
section
variable {X:Cx}{k:Nat}{N':List Str}{scope:Scope}{elt tg iter:Expr}{ifs:List Expr}{pos:Pos}{it:lZ}{pt:iR}{tt:cf}{te:aF}
abbrev Sy (X:Cx)(ifs:List Expr)(f:cf):Prop:=uI X ifs (sW X.K f)
structure pH (X:Cx) (e:List Expr) (f:cf):Prop where mk::o:Sy X e f
theorem mQ:pH X [] d5:=⟨fun pins s σ H Q I aj=>by
 obtain⟨ρ,w,t,b,ρ',gd,ee,k⟩:=aj
 cases ee
 exact GL pins s σ H Q I (k H w gd Go.refl)⟩
theorem zI{c:Expr}{g:cf}(h:h_ X c g):pH X [c] g:=⟨have h:=h.o;Rr h⟩
theorem l7(deep:Bool)(hc:X.calm=true)(S:b8 X k N' scope)(hi:wI X tg iter it)(hg:∀ C s H fp,zG (gw X N' scope C s H fp) X.N.length tg pt)(ht:∀ C s H fp,pH (gw X N' scope C s H fp) ifs tt)(he:∀ C s H fp,QD (gw X N' scope C s H fp) elt te)(hs:∀ x,foldedSetIterable iter X.env x=pure x:=by intro _;rfl):QD X (.ListComp elt [⟨tg,iter,ifs,0⟩] scope pos) (fC k it pt tt te deep):=⟨have hi:=hi.o;have hg:=fun C s H fp=>(hg C s H fp).o;have ht:=fun C s H fp=>(ht C s H fp).o;have he:=fun C s H fp=>(he C s H fp).o;by
 intro pins s σ H Q I h
 have:=G6 σ H Q h
 rw[I.len]at this
 exact GU (N':=N') hc S hi hg ht he hs pins s σ H Q I this⟩
theorem CA{y:Str}{py jw:Pos}(deep:Bool)(hN:X.N.Nodup)(hy:X.N[i]? = some y)(hx:Loc X.env.scope y)(sR:swapsWith (.ListComp elt [⟨tg,iter,ifs,0⟩] scope pos) (some (.Name y py)) jw.line X.env=pure true)(hc:X.calm=true)(S:b8 X k N' scope)(hi:wI X tg iter it)(hg:∀ C s H fp,zG (gw X N' scope C s H fp) X.N.length tg pt)(ht:∀ C s H fp,pH (gw X N' scope C s H fp) ifs tt)(he:∀ C s H fp,QD (gw X N' scope C s H fp) elt te)(hs:∀ x,foldedSetIterable iter X.env x=pure x:=by intro _;rfl)(hf:X.fn y=true\/X.env.scope.names.lookup y=some .local:=by first|exact .inl rfl|exact .inr rfl|assumption):jm X (.Assign [.Name y py] (.ListComp elt [⟨tg,iter,ifs,0⟩] scope pos) jw) (aY i (fC k it pt tt te deep)):=⟨have hi:=hi.o;have hg:=fun C s H fp=>(hg C s H fp).o;have ht:=fun C s H fp=>(ht C s H fp).o;have he:=fun C s H fp=>(he C s H fp).o;by
 intro pins s σ H D I h
 have hl:i<σ.length:=by rw[I.len];exact(Qp.mp hy).1
 refine RF (N':=N') (te:=tD X.K te) (tt:=sW X.K tt) (g:=zE X.K X.N.length pt) (wi:=wH X.K it) hN hy hx sR hc S hi hg ht he hs hf pins s σ H D I ?_
 have z:=G1 (te:=wq k (wH X.K it) (zE X.K σ.length pt) (sW X.K tt) (tD X.K te)) hl (fun Q q=>G6 σ H Q q) h
 rw[I.len]at z
 exact z⟩
end
mutual
def bP:D->PyData
 | .au=>.none
 | .bl b=>.bool b
 | .int i=>.int i
 | .str x=>.str x
 | .tup ds=>.tuple (dG ds)
 | .lst ds=>.list (dG ds)
 | .gy _ _=>.none
 | .exc _=>.none
 | .ob _ _ _ _=>.none
 | .mp _ _=>.none
def dG:List D->List PyData
 | []=>[]
 | d::ds=>bP d::dG ds
end
mutual
def gT:D->Bool
 | .gy _ _=>false
 | .exc _=>false
 | .ob _ _ _ _=>false
 | .mp _ _=>false
 | .tup ds=>l8 ds
 | .lst ds=>l8 ds
 | _=>true
def l8:List D->Bool
 | []=>true
 | d::ds=>gT d&&l8 ds
end
def d7 (d:D):Bool:=gT d&&SeqAt.shaped (bP d)
theorem mR{d:D}(h:d7 d=true):gT d=true:=(QB.mp h).1
theorem mU{d:D}(h:d7 d=true):SeqAt.shaped (bP d)=true:=(QB.mp h).2
def nF (d e:D):Bool:=PyData.eqv (bP d) (bP e)
section
variable {X:Cx}{pins:List (Addr×Obj)}{σ:St}{H:Hp}{s:Shared}
theorem Rep.reads(I:Inv X pins σ H s){w:Wn}{o:Ow}:∀ {q:Nat} {d:D} {v:V} {F:List Addr} {u:Value},Rep X.K H w o q d v F->bh v u->gT d=true->∃ as,Reads s.heap u (bP d) as:=by
 intro q d v F u r
 refine(Rep.rec (motive_1:=fun q d v F _=>∀ u,bh v u->gT d=true->∃ as,Reads s.heap u (bP d) as) (motive_2:=fun q ds vs F _=>∀ us,a_ vs us->l8 ds=true->∃ as,ReadsAll s.heap us (dG ds) as) ?_ ?_ ?_ ?_ ?_ ?_ ?_ ?_ ?_ ?_ ?_ ?_ ?_ ?_ ?_ r:∀ u,bh v u->gT d=true->∃ as,Reads s.heap u (bP d) as) u
 ·intro q u ru hn;cases ru;exact⟨_,by unfold bP;exact .none⟩
 ·intro q b u ru hn;cases ru;exact⟨_,by unfold bP;exact .bool b⟩
 ·intro q i u ru hn;obtain⟨t,rfl⟩:=ru;exact⟨_,by unfold bP;exact .int i t⟩
 ·intro q x u ru hn;obtain⟨t,rfl⟩:=ru;exact⟨_,by unfold bP;exact .str x t⟩
 ·intro q a vs ds h r ih u ru hn
  cases ru
  obtain⟨aq,rv,p,hz⟩:=I.tuple (dO.of h)
  obtain⟨as,ra⟩:=ih aq rv (by unfold gT at hn;exact hn)
  obtain⟨ob,ho,hc,n,hd⟩:=p
  exact⟨_,by unfold bP;exact .tuple ho hc hd ra⟩
 ·intro q a ks vs ds h e r ih u ru hn;cases hn
 ·intro q a nm ob v h x n u ru hn;cases hn
 ·intro q f c fo oc u1 u2 vs ds h1 h2 x r ih u ru hn;cases hn
 ·intro a vs ds h r ih u ru hn
  cases ru
  obtain⟨aq,rv,p,hz⟩:=I.list h.sq
  obtain⟨as,ra⟩:=ih aq rv (by unfold gT at hn;exact hn)
  obtain⟨ob,ho,hc,n,hd⟩:=p.isList
  exact⟨_,by unfold bP;exact .list ho hc hd ra⟩
 ·intro a vs ds h n0 r ih u ru hn
  cases ru
  obtain⟨aq,rv,p,hz⟩:=I.list (.inl h)
  obtain⟨as,ra⟩:=ih aq rv (by unfold gT at hn;exact hn)
  obtain⟨ob,ho,hc,n,hd⟩:=p.isList
  exact⟨_,by unfold bP;exact .list ho hc hd ra⟩
 ·intro q a vs ds F h e r ne ih u ru hn
  cases ru
  obtain⟨aq,rv,p,hz⟩:=I.list (cL.of h)
  obtain⟨as,ra⟩:=ih aq rv (by unfold gT at hn;exact hn)
  obtain⟨ob,ho,hc,n,hd⟩:=p.isList
  exact⟨_,by unfold bP;exact .list ho hc hd ra⟩
 ·intro a vs ds k x h i e l r ih u ru hn;cases hn
 ·intro q a vs ds k x h i e l r ih u ru hn;cases hn
 ·intro q us ru hn;cases ru;exact⟨_,by unfold dG;exact .nil⟩
 ·intro q d v ds vs F G r s' ne nA nB us ru hn
  cases ru with
  | cons rv Sz=>
   unfold l8 at hn
   obtain⟨as,ra⟩:=nA _ rv (QB.mp hn).1
   obtain⟨bs,rb⟩:=nB _ Sz (QB.mp hn).2
   exact⟨_,by unfold dG;exact .cons ra rb⟩
end
def Is (K:PySem.W.Frag)(H:Hp)(d:D)(v:V):Prop:=∃ w o q F,Rep K H w o q d v F
def Ha (K:PySem.W.Frag):R2:=fun x y H Q=>∃ d e,Is K H d x/\Is K H e y/\d7 d=true/\d7 e=true/\Q (.bl (nF d e)) H
def Hb (K:PySem.W.Frag):R2:=fun x y H Q=>∃ d e,Is K H d x/\Is K H e y/\d7 d=true/\d7 e=true/\Q (.bl (!nF d e)) H
def inD (d:D):D->Option Bool
 | .lst ds=>some ((dG ds).any fun y=>PyData.eqv y (bP d))
 | .tup ds=>some ((dG ds).any fun y=>PyData.eqv y (bP d))
 | _=>none
def Hc (K:PySem.W.Frag)(neg:Bool):R2:=fun x y H Q=>∃ d e b,Is K H d x/\Is K H e y/\d7 d=true/\d7 e=true/\inD d e=some b/\Q (.bl (if neg then !b else b)) H
section
variable {X:Cx}{a b c e:Expr}{fa fb fc f:aF}{pos:Pos}
theorem Hd(hu:X.A.units+64<cLine):cN X (compareOp .Eq) (Ha X.K):=by
 intro pins s σ H x y v u Q I rx ry ⟨d,e,⟨w,o,q,F,h1⟩,⟨w',o',q',F',h2⟩,k1,k2,hq⟩
 obtain⟨as,ra⟩:=h1.reads I rx (mR k1)
 obtain⟨bs,rb⟩:=h2.reads I ry (mR k2)
 exact eq_dataH ra rb (mU k1) (mU k2) hu ⟨.bl _,H,I,rfl,hq⟩
theorem He(hu:X.A.units+64<cLine):cN X (compareOp .NotEq) (Hb X.K):=by
 intro pins s σ H x y v u Q I rx ry ⟨d,e,⟨w,o,q,F,h1⟩,⟨w',o',q',F',h2⟩,k1,k2,hq⟩
 obtain⟨as,ra⟩:=h1.reads I rx (mR k1)
 obtain⟨bs,rb⟩:=h2.reads I ry (mR k2)
 exact ne_dataH ra rb (mU k1) (mU k2) hu ⟨.bl _,H,I,rfl,hq⟩
theorem SA(hu:X.A.units+65<cLine):cN X (compareOp .In) (Hc X.K false):=by
 intro pins s σ H x y v u Q I rx ry ⟨d,e,b,⟨w,o,q,F,h1⟩,⟨w',o',q',F',h2⟩,k1,k2,hb,hq⟩
 obtain⟨as,ra⟩:=h1.reads I rx (mR k1)
 obtain⟨bs,rb⟩:=h2.reads I ry (mR k2)
 replace k1:=mU k1
 replace k2:=mU k2
 cases e with
 | lst ds=>
  cases hb
  unfold bP at rb k2
  exact SeqAt.in_list_reads rb ra (QZ k2) (QZ k1) (Js k1 hu) ⟨.bl _,H,I,rfl,hq⟩
 | tup ds=>
  cases hb
  unfold bP at rb k2
  exact SeqAt.in_tuple_reads rb ra (QZ k2) (QZ k1) (Js k1 hu) ⟨.bl _,H,I,rfl,hq⟩
 | _=>cases hb
def de (x y:D):Option D:=if d7 x=true/\d7 y=true then some (.bl (nF x y))else none
def cJ (x y:D):Option D:=if d7 x=true/\d7 y=true then some (.bl (!nF x y))else none
def zJ (x y:D):Option D:=if d7 x=true/\d7 y=true then(inD x y).map fun b=>.bl b else none
theorem Hf:∀ σ H Q,tD K (e2 de fa fb) σ H Q->jt (Ha K) (tD K fa) (tD K fb) σ H Q:=uO fun x y d h=>by
 unfold de at h
 split at h
 next hk=>
  cases h
  exact⟨_,rfl,fun H w o o' q q' u u' F F' r1 r2 _ Q hq=>⟨x,y,⟨_,_,_,_,r1⟩,⟨_,_,_,_,r2⟩,hk.1,hk.2,hq⟩⟩
 ·cases h
theorem Hg:∀ σ H Q,tD K (e2 cJ fa fb) σ H Q->jt (Hb K) (tD K fa) (tD K fb) σ H Q:=uO fun x y d h=>by
 unfold cJ at h
 split at h
 next hk=>
  cases h
  exact⟨_,rfl,fun H w o o' q q' u u' F F' r1 r2 _ Q hq=>⟨x,y,⟨_,_,_,_,r1⟩,⟨_,_,_,_,r2⟩,hk.1,hk.2,hq⟩⟩
 ·cases h
theorem hIn:∀ σ H Q,tD K (e2 zJ fa fb) σ H Q->jt (Hc K false) (tD K fa) (tD K fb) σ H Q:=uO fun x y d h=>by
 unfold zJ at h
 split at h
 next hk=>
  cases hi:inD x y with
  | none=>rw[hi]at h;cases h
  | some b=>
   rw[hi]at h
   cases h
   exact⟨_,rfl,fun H w o o' q q' u u' F F' r1 r2 _ Q hq=>⟨x,y,b,⟨_,_,_,_,r1⟩,⟨_,_,_,_,r2⟩,hk.1,hk.2,hi,hq⟩⟩
 ·cases h
theorem CB{k:Nat}(hr:aw k X.A)(ha:QD X a fa)(hb:QD X b fb):QD X (.Compare a [.Eq] [b] pos) (e2 de fa fb):=⟨have ha:=ha.o;have hb:=hb.o;Cr (Hd hr.units) Hf ha hb (sr _)⟩
theorem SD{k:Nat}(hr:aw k X.A)(ha:QD X a fa)(hb:QD X b fb):QD X (.Compare a [.NotEq] [b] pos) (e2 cJ fa fb):=⟨have ha:=ha.o;have hb:=hb.o;Cr (He hr.units) Hg ha hb (sr _)⟩
theorem nG{k:Nat}(hr:aw k X.A)(ha:QD X a fa)(hb:QD X b fb):h_ X (.Compare a [.Eq] [b] pos) (bj (e2 de fa fb)):=⟨have ha:=ha.o;have hb:=hb.o;wD (Hd hr.units) Hf ha hb (sr _)⟩
theorem oN{k:Nat}(hr:aw k X.A)(ha:QD X a fa)(hb:QD X b fb):h_ X (.Compare a [.NotEq] [b] pos) (bj (e2 cJ fa fb)):=⟨have ha:=ha.o;have hb:=hb.o;wD (He hr.units) Hg ha hb (sr _)⟩
theorem zK{k:Nat}(r:aw k A):A.units+65<cLine:=by have:=r.un;omega
theorem SE{k:Nat}(hr:aw k X.A)(ha:QD X a fa)(hb:QD X b fb)(hm:behindInMarks .In b=false:=by with_unfolding_all rfl):h_ X (.Compare a [.In] [b] pos) (bj (e2 zJ fa fb)):=⟨have ha:=ha.o;have hb:=hb.o;wD (SA (zK hr)) hIn ha hb hm⟩
end
@[simp] def eB (h:List D->Option D)(g:bN):aF:=fun ρ=>match g ρ with
 | some (ds,ρ1)=>match h ds with
  | some d=>some (d,9,ρ1)
  | none=>none
 | none=>none
section
variable {X:Cx}{a b c e:Expr}{es:List Expr}{fa fb fc f:aF}{g:bN}{pos p p1 p2:Pos}
theorem CC{h:List D->Option D}{r:List V->Hp->VK->Prop}(hh:∀ ds d,h ds=some d->∃ v,jx d=some v/\∀ H w vs,WL K w H->ag K H w .f 0 ds vs []->∀ Q:VK,Q v H->r vs H Q) :
  ∀ σ H Q,tD K (eB h g) σ H Q->y9 r (zA K g) σ H Q:=fun σ H Q aj=>by
 obtain⟨ρ,w,t,r',q,ρ',gd,ee,k⟩:=aj
 unfold eB at ee
 split at ee
 next ds ρ1 h1=>
  split at ee
  next d hd=>
   cases ee
   obtain⟨v,hv,hr⟩:=hh ds _ hd
   exact⟨ρ,w,t,ds,_,gd,h1,fun vs H1 w1 g1 aD r1=>hr H1 w1 vs g1.wl r1 Q (k v H1 w1 [] g1.up aD (wB hv))⟩
  ·cases ee
 ·cases ee
theorem one{w:Wn}{o:Ow}{d:D}(r:ag K H w o 0 [d] vs []):∃ v,vs=[v]/\Rep K H w o 0 d v []:=by
 have l:=r.length
 match vs,l with
 | [v],_=>
  obtain⟨v',h1,h2⟩:=r.get (i:=0) rfl
  cases h1
  exact⟨v,rfl,h2⟩
theorem two{w:Wn}{o:Ow}{d d':D}(r:ag K H w o 0 [d,d'] vs []):∃ v v',vs=[v,v']/\Rep K H w o 0 d v []/\Rep K H w o 0 d' v' []:=by
 have l:=r.length
 match vs,l with
 | [v,v'],_=>
  obtain⟨u,h1,h2⟩:=r.get (i:=0) rfl
  obtain⟨u',h3,h4⟩:=r.get (i:=1) rfl
  cases h1
  cases h3
  exact⟨v,v',rfl,h2,h4⟩
def eK:D->Option Nat
 | .lst ds=>some ds.length
 | .tup ds=>some ds.length
 | _=>none
@[simp] def mV:List D->Option D
 | [d]=>(eK d).map fun n=>.int (Int.ofNat n)
 | _=>none
theorem Rep.len{w:Wn}{o:Ow}{q:Nat}{d:D}(r:Rep K H w o q d v F)(h:eK d=some n):∃ p ys,v=.ref p/\(cL K H p ys\/dO K H p ys)/\ys.length=n:=by
 cases d with
 | lst ds=>
  cases h
  obtain⟨p,vs,q',G,rfl,hq,rs⟩:=r.pC
  exact⟨p,vs,rfl,.inl hq,rs.length.symm⟩
 | tup ds=>
  cases h
  obtain⟨p,vs,rfl,hq,rs⟩:=r.hZ
  exact⟨p,vs,rfl,.inr hq,rs.length.symm⟩
 | _=>cases h
theorem wL(hm:X.mg "len" = none)(ha:eV X [a] g)(hg:Gl X "len":=by rfl)(he:starEach [a] X.env=(false,eval a X.env)::starEach [] X.env:=by rfl)(bG:(backTo pos (starEach [] X.env)).any (·.1)=false:=by rfl):QD X (.Call (.Name "len" p) [a] [] pos) (eB mV g):=⟨have ha:=ha.o;PE.imp (qB BP hg hm YL ha (by decide) (by decide) he bG) (CC fun ds d h=>by
  match ds,h with
  | [d0],h=>
   cases hl:eK d0 with
   | none=>simp only[mV,hl,Option.map_none]at h;cases h
   | some n=>
    simp only[mV,hl,Zw,Option.some.injEq]at h
    subst h
    refine⟨_,rfl,fun H w vs wl r Q hq=>?_⟩
    obtain⟨v,rfl,rv⟩:=one r
    obtain⟨p,ys,rfl,hs,hn⟩:=rv.len hl
    exact⟨p,ys,rfl,hs,by rw[hn];exact hq⟩)⟩
@[simp] def bX (i:Nat):aF:=fun ρ=>match ρ[i]? with
 | some (some (d,_))=>match eK d with
  | some n=>some (.int (Int.ofNat n),9,ρ)
  | none=>none
 | _=>none
theorem eX{x:Str}(hm:X.mg "len" = none)(h:QE X (.Name x p1) (eh i))(hg:Gl X "len":=by rfl)(he:starEach [.Name x p1] X.env=(false,eval (.Name x p1) X.env)::starEach [] X.env:=by rfl)(bG:(backTo pos (starEach [] X.env)).any (·.1)=false:=by rfl):QD X (.Call (.Name "len" p) [.Name x p1] [] pos) (bX i):=⟨have h:=h.o;PE.imp (qB BP hg hm YL (jU h mL he) (by decide) (by decide) he bG) fun σ H Q aj=>by
 obtain⟨ρ,w,t,r',q,ρ',gd,ee,k⟩:=aj
 unfold bX at ee
 split at ee
 next d q0 e0=>
  split at ee
  next n hn=>
   cases ee
   obtain⟨v,F,h1,h2⟩:=gd.slot i d q0 e0
   obtain⟨p,ys,rfl,hs,hl⟩:=h2.len hn
   exact⟨_,h1,p,ys,rfl,hs,by rw[hl];exact k _ H w [] gd.up Go.refl (.int _)⟩
  ·cases ee
 ·cases ee⟩
@[simp] def zL:List D->Option D
 | [.int i,.int j]=>some (.int (if j > i then j else i))
 | _=>none
theorem Hh(hc:X.calm=true)(hm:X.mg "max" = none)(hb:bootBuiltins "max" = some (.builtin "max"))(ha:eV X (a::es) g)(hg:Gl X "max":=by rfl)(he:starEach (a::es) X.env=(false,eval a X.env)::starEach es X.env:=by rfl)(bG:(backTo pos (starEach es X.env)).any (·.1)=false:=by rfl):QD X (.Call (.Name "max" p) (a::es) [] pos) (eB zL g):=⟨have ha:=ha.o;PE.imp (qB (OB hc) hg hm hb ha (by decide) (by decide) he bG) (CC fun ds d h=>by
  unfold zL at h
  split at h
  next i j=>
   cases h
   refine⟨_,rfl,fun H w vs wl r Q hq=>?_⟩
   obtain⟨v,v',rfl,r1,r2⟩:=two r
   exact⟨i,j,by rw[fx r1,fx r2],hq⟩
  ·cases h)⟩
@[simp] def wM (g:bN):aF:=fun ρ=>match g ρ with
 | some ([.lst ds],ρ1)=>some (.lst ds,1,ρ1)
 | some ([.tup ds],ρ1)=>some (.lst ds,1,ρ1)
 | _=>none
theorem SF(hm:X.mg "list" = none)(hb:bootBuiltins "list" = some (.type "list"))(ha:eV X [a] g)(hg:Gl X "list":=by rfl)(he:starEach [a] X.env=(false,eval a X.env)::starEach [] X.env:=by rfl)(bG:(backTo pos (starEach [] X.env)).any (·.1)=false:=by rfl):QD X (.Call (.Name "list" p) [a] [] pos) (wM g):=⟨have ha:=ha.o;PE.imp (vU PC hg hm hb ha (by decide) (by decide) he bG) fun σ H Q aj=>by
 obtain⟨ρ,w,t,r',q,ρ',gd,ee,k⟩:=aj
 unfold wM at ee
 split at ee
 next ds ρ1 h1=>
  cases ee
  refine⟨ρ,w,t,_,_,gd,h1,fun vs H1 w1 g1 aD r1=>?_⟩
  obtain⟨v,rfl,rv⟩:=one r1
  obtain⟨p,ys,rfl,hs,rs⟩:=rv.gB
  refine⟨p,ys,rfl,.inl hs,fun l hl=>?_⟩
  obtain⟨a1,a2,a3⟩:=alloc g1 hl rs
  exact k _ _ _ _ a1 (aD.trans a2) a3
 next ds ρ1 h1=>
  cases ee
  refine⟨ρ,w,t,_,_,gd,h1,fun vs H1 w1 g1 aD r1=>?_⟩
  obtain⟨v,rfl,rv⟩:=one r1
  obtain⟨p,ys,rfl,hs,rs⟩:=rv.hZ
  refine⟨p,ys,rfl,.inr hs,fun l hl=>?_⟩
  obtain⟨a1,a2,a3⟩:=alloc g1 hl rs
  exact k _ _ _ _ a1 (aD.trans a2) a3
 ·cases ee⟩
@[simp] def mW (g:bN):aF:=fun ρ=>match g ρ with
 | some ([.lst ds],ρ1)=>some (.tup ds,9,ρ1)
 | some ([.tup ds],ρ1)=>some (.tup ds,9,ρ1)
 | _=>none
theorem wN(hm:X.mg "tuple" = none)(hb:bootBuiltins "tuple" = some (.type "tuple"))(ha:eV X [a] g)(hg:Gl X "tuple":=by rfl)(he:starEach [a] X.env=(false,eval a X.env)::starEach [] X.env:=by rfl)(bG:(backTo pos (starEach [] X.env)).any (·.1)=false:=by rfl):QD X (.Call (.Name "tuple" p) [a] [] pos) (mW g):=⟨have ha:=ha.o;PE.imp (vU Gk hg hm hb ha (by decide) (by decide) he bG) fun σ H Q aj=>by
 obtain⟨ρ,w,t,r',q,ρ',gd,ee,k⟩:=aj
 unfold mW at ee
 split at ee
 next ds ρ1 h1=>
  cases ee
  refine⟨ρ,w,t,_,_,gd,h1,fun vs H1 w1 g1 aD r1=>?_⟩
  obtain⟨v,rfl,rv⟩:=one r1
  obtain⟨p,ys,rfl,hs,rs⟩:=rv.gB
  refine⟨p,ys,rfl,.inl ⟨hs,fun l hl=>?_⟩⟩
  obtain⟨a1,a2,a3⟩:=uM g1 hl rs
  exact k _ _ _ _ a1 (aD.trans a2) a3
 next ds ρ1 h1=>
  cases ee
  refine⟨ρ,w,t,_,_,gd,h1,fun vs H1 w1 g1 aD r1=>?_⟩
  obtain⟨v,rfl,rv⟩:=one r1
  have rr:=rv
  obtain⟨p,ys,rfl,hs,rs⟩:=rv.hZ
  refine⟨p,ys,rfl,.inr ⟨hs,?_⟩⟩
  exact k _ H1 w1 [] g1.up aD (((rr.b_ rfl).2 9).any g1.wl)
 ·cases ee⟩
def CD (ta:TA):TE:=fun σ H Q=>ta σ H fun vs H1=>∃ j:Int,vs=[.int j] /\ -(2 ^ 62)<=j/\j<2 ^ 62/\∀ p,H1 p=none->Q (.ref p) (upd H1 p (.j5 0 j))
theorem CF{ta:TA}(hg:Gl X "range")(hm:X.mg "range" = none)(ha:PA X [a] ta)(hs:starEach [a] X.env=[(false,eval a X.env)]:=by rfl):PE X (.Call (.Name "range" p) [a] [] pos) (CD ta):=by
 intro pins s σ H Q I h
 refine Call_ (sg I hg hm boot_range (Z2 (aU (ha pos pins s σ H _ I h) fun us s1 ⟨vs,H1,I1,r1,q1⟩=>?_) hs rfl))
 obtain⟨j,e,q1,q2,q⟩:=q1
 subst e
 cases r1 with
 | cons r rr=>
  cases rr
  obtain⟨t,rfl⟩:=r
  refine call_range_1 ?_
  exact⟨.ref s1.heap.objs.size,upd H1 s1.heap.objs.size (.j5 0 j),I1.laid (fun b u e=>Qc _ e) (Qf _) ⟨_,_,_,Qs _ rfl⟩,rfl,q _ (I1.az.fresh (Qf _))⟩
end
theorem CG{j:Int}(h1:-(2 ^ 62)<=j)(h2:j<2 ^ 62):Builtin.Range.small 0 j 1=true:=by
 have hs:Builtin.Range.rangeSize 0 j 1=((j.toNat:Nat):Int):=by
  simp[Builtin.Range.rangeSize]<;>split<;>omega
 simp only[Builtin.Range.small,hs,Builtin.Range.rangeFitsLong]
 simp
 omega
theorem CH(j:Int):Builtin.Range.rangeSize 0 j 1=((j.toNat:Nat):Int):=by
 simp[Builtin.Range.rangeSize]<;>split<;>omega
theorem CI{acc:Array Value}(h:ItemsOf (fun i v=>∃ t,v=Value.int (0+(i:Nat)*1) t) acc n):a_ (pG n) acc.toList:=by
 have key:∀ (us:List Value) (k:Nat),(∀ j v,us[j]? = some v->∃ t,v=Value.int (((k+j:Nat)):Int) t)->a_ ((List.range' k us.length).map fun i=>V.int (Int.ofNat i)) us:=by
  intro us
  induction us with
  | nil=>intro k _;exact .nil
  | cons u r ih=>
   intro k hk
   obtain⟨t,e⟩:=hk 0 u rfl
   refine .cons ⟨t,by rw[e];rfl⟩ (ih (k+1) fun j v hv=>?_)
   obtain⟨t',e'⟩:=hk (j+1) v (by simpa using hv)
   exact⟨t',by rw[e'];congr 2;omega⟩
 have:=key acc.toList 0 fun j v hv=>by
  obtain⟨t,e⟩:=h.2 j v (by simpa using hv)
  exact⟨t,by rw[e];congr 1;omega⟩
 have hl:acc.toList.length=n:=by simpa using h.1
 rw[hl]at this
 unfold pG
 rw[List.range_eq_range']
 exact this
section
variable {prog:Program}{w:World}{A:Around}{E:Value->Shared->Prop}{s:Shared}
open AutoSeq1 (wpAny_loadPart')
theorem Hi{Q:List Value->Shared->Prop}{r:Addr}{a:Int}{t v:Tok}(hh:A.handled=none)(hr:IsRange s.heap r a b c t u v)(gE:Builtin.Range.small a b c=true)(hn:Builtin.Range.rangeSize a b c=n)(hlen:n<=2 ^ 24)
  (hQ:∀ h' tk bf,(∀ b o',s.heap.get? b=some o'->h'.get? b=some o')->ItemsOf (fun i v=>∃ t,v=.int (a+i*c) t) bf n->Q bf.toList { s with heap:=h',toks:=tk }) :
  wpAny (model prog w) A (collect (.ref r)) Q E s:=by
 unfold collect
 refine Qa (wpAny_runValue (ZL F.entry_proto_collect ?_))
 rw[ZO F.plain_proto_collect _]
 show wpAny _ A.in1 (newList [] >>= fun l=>again (.builtin "list.__iadd__" ⟨[l,.ref r],[]⟩)) _ _ s
 refine Qa (ZA ?_)
 refine Qj ⟨JD F.plain_list_iadd _,ZL F.entry_list_iadd ?_⟩
 rw[ZO F.plain_list_iadd _]
 show wpAny _ A.in1 (Builtin.List.listExtendWith (.ref s.heap.objs.size) (.ref r) (.ref s.heap.objs.size)) _ _ _
 have hS:(s.heap.push { cls:=.type "list",data:=.seq ([]:List Value).toArray }).get? s.heap.objs.size=some { cls:=.type "list",data:=.seq #[] 0 }:=Qs _ rfl
 have wO:∀ (h':Heap) (tk:Nat) (bf:Array Value) (c':Nat),(∀ b o,b≠s.heap.objs.size->(s.heap.push { cls:=.type "list",data:=.seq ([]:List Value).toArray }).get? b=some o->h'.get? b=some o)->
   h'.get? s.heap.objs.size=some { cls:=.type "list",dict:=none,data:=.seq bf c',slots:=#[] }->ItemsOf (fun i v=>∃ t,v=.int (a+i*c) t) bf n->wpAny (model prog w) A (match Value.ref s.heap.objs.size with
   | Value.ref a=>do
    match (<- load a).data with
     | Data.seq xs _=>pure xs.toList
     | _=>unsupported "internal:collect"
   | _=>unsupported "internal:collect") Q E { s with heap:=h',toks:=tk }:=fun h' tk bf c' hk pI dz=>by
  show wpAny _ A (load s.heap.objs.size >>= _) _ _ _
  refine Qa (wpAny_load pI ?_)
  refine Qj (hQ h' tk bf (fun b o' hb=>?_) dz)
  exact hk b o' (QI (Ql hb)) (Qc _ hb)
 refine QV (wpAny_extend_range (A:=A) (R:=fun rs s'=>rs=.ok (.ret (.ref s.heap.objs.size))/\∃ h' tk bf c',s'={ s with heap:=h',toks:=tk }/\(∀ b o,b≠s.heap.objs.size->(s.heap.push { cls:=.type "list",data:=.seq ([]:List Value).toArray }).get? b=some o->h'.get? b=some o) /\
   h'.get? s.heap.objs.size=some { cls:=.type "list",dict:=none,data:=.seq bf c',slots:=#[] }/\ItemsOf (fun i v=>∃ t,v=.int (a+i*c) t) bf n)
  (s:={ s with heap:=s.heap.push { cls:=.type "list",data:=.seq ([]:List Value).toArray } }) hh (Qc _ hr) gE hn hlen s.heap.objs.size (.ref s.heap.objs.size) 0 hS (fun h' tk bf c' hk pI dz=>⟨rfl,h',tk,bf,c',rfl,hk,pI,dz⟩)) (fun fin s' h=>?_) (fun e s' h=>?_)
 ·cases fin with
  | done f=>
   obtain⟨e,h',tk,bf,c',rfl,hk,pI,dz⟩:=h
   cases e
   exact wO h' tk bf c' hk pI dz
  | again c'=>exact⟨h.1,Z8 h.2 fun r lQ hr=>by
    obtain⟨rfl,h',tk,bf,c',rfl,hk,pI,dz⟩:=hr
    exact wO h' tk bf c' hk pI dz⟩
 ·exact absurd h.1 (by simp)
end
theorem SG(r:Addr)(a b c:Int)(t u v:Tok)(n:Nat)(gE:Builtin.Range.small a b c=true)(hn:Builtin.Range.rangeSize a b c=n)(hlen:n<=2 ^ 24) :
  Meets (Builtin.«tuple.__new__» ⟨[.type "tuple",.ref r],[]⟩)
   (fun A R s=>A.handled=none/\IsRange s.heap r a b c t u v/\∀ (h':Heap) tk bf,(∀ b o',s.heap.get? b=some o'->h'.get? b=some o')->ItemsOf (fun i v=>∃ t,v=.int (a+i*c) t) bf n->R (.ok (.ret (.ref h'.objs.size))) { s with heap:=h'.push { cls:=.type "tuple",data:=.seq bf },toks:=tk }):=
 .of_wp fun prog w A R s h=>by
  obtain⟨hp,g,d,tk,os⟩:=s;obtain⟨hh,hr,h⟩:=h
  have c_:=sub_tuple_self
  have Hj:=init_tuple_lookup
  have hmh:=madeHere_tuple
  have hT:Shared.TypeIs ⟨hp,g,d,tk,os⟩ (.ref r) "range":=⟨_,hr,rfl⟩
  have tj:A.in1.handled=none:=hh
  wp_walk using AutoSeq1.wpAny_loadPart' hr,Yy hT,Hi tj hr gE hn hlen
  intro h' SH bf hk dz
  show wpAny _ _ (Builtin.Tuple.tupleExact bf.toList.toArray >>= fun v=>ret v) _ _ _
  unfold Builtin.Tuple.tupleExact
  have hsz:bf.size<=sizeLine:=by rw[dz.1];exact hlen
  refine Qa (ZA ?_ (by show bf.toList.toArray.size<=sizeLine;simpa using hsz))
  refine Qj ⟨_,rfl,?_⟩
  have e:bf.toList.toArray=bf:=by simp
  rw[e]
  exact h h' SH bf hk dz
theorem SI{prog:Program}{w:World}{E:Value->Shared->Prop}{s:Shared}{r:Addr}{a:Int}{t v:Tok}{Q:Value->Shared->Prop}(hh:A.handled=none)(hr:IsRange s.heap r a b c t u v)(gE:Builtin.Range.small a b c=true)(hn:Builtin.Range.rangeSize a b c=n)(hlen:n<=2 ^ 24)
  (h:∀ (h':Heap) tk bf,(∀ b o',s.heap.get? b=some o'->h'.get? b=some o')->ItemsOf (fun i v=>∃ t,v=.int (a+i*c) t) bf n->Q (.ref h'.objs.size) { s with heap:=h'.push { cls:=.type "tuple",data:=.seq bf },toks:=tk }) :
  wpAny (model prog w) A (call (.type "tuple") [.ref r]) Q E s:=
 callType_new F.called_tuple (by decide) (F.typeCall_tuple_1 _) (F.newCall_tuple_1 _) (fun obj=>F.args_object_init_2 obj _) F.entry_tuple_new
  (SG r a b c t u v n gE hn hlen) ⟨hh,hr,fun h' tk bf hk dz=>⟨⟨_,Qs _ rfl,rfl⟩,h h' tk bf hk dz⟩⟩
section
variable {X:Cx}
def CJ (mk:List V->HO):List V->Hp->VK->Prop:=fun xs H Q=>∃ a j,xs=[.ref a]/\H a=some (.j5 0 j) /\ -1000<=j/\j<=1000/\∀ p,H p=none->Q (.ref p) (upd H p (mk (pG j.toNat)))
theorem SJ(hc:X.calm=true):mJ X (.type "list") (CJ .lst):=by
 intro pins s σ H xs us Q I r h
 obtain⟨a,j,rfl,hr,j1,j2,q⟩:=h
 obtain⟨u,rfl,rx⟩:=lN r
 cases rx
 obtain⟨t,u,v,ho⟩:=(show cR X.prog X.w H s.heap a (.j5 0 j)from I.az a _ hr)
 refine call_list_range (I.ok.hd hc) ho (CG (by omega) (by omega)) (CH j) (by omega) fun h' tk bf c' hk pI dz=>?_
 refine⟨.ref s.heap.objs.size,_,I.laid (t':=tk) (o:=.lst (pG j.toNat)) hk (Qf _) ⟨by rw[G2];exact Qv (by omega:j.toNat<=1000) (by decide),bf.toList,c',CI dz,by simpa using pI⟩,rfl,q _ (I.az.fresh (Qf _))⟩
theorem SK(hc:X.calm=true):mJ X (.type "tuple") (CJ .tup):=by
 intro pins s σ H xs us Q I r h
 obtain⟨a,j,rfl,hr,j1,j2,q⟩:=h
 obtain⟨u,rfl,rx⟩:=lN r
 cases rx
 obtain⟨t,u,v,ho⟩:=(show cR X.prog X.w H s.heap a (.j5 0 j)from I.az a _ hr)
 refine SI (I.ok.hd hc) ho (CG (by omega) (by omega)) (CH j) (by omega) fun h' tk bf hk dz=>?_
 have I1:Inv X pins σ H { s with heap:=h',toks:=tk }:=I.kept hk
 have I2:Inv X pins σ (upd H h'.objs.size (.tup (pG j.toNat))) { s with heap:=h'.push { cls:=.type "tuple",data:=.seq bf },toks:=tk }:=
  I1.laid (t':=tk) (fun b o e=>Qc _ e) (Qf _) (show cR X.prog X.w _ _ _ (.tup _)from⟨by rw[G2];exact Qv (by omega:j.toNat<=1000) (by decide),bf.toList,CI dz,by simpa using m9.new h' bf⟩)
 exact⟨.ref h'.objs.size,_,I2,rfl,q _ (I1.az.fresh (Qf _))⟩
variable {a:Expr}{g:bN}{pos p p1 l9:Pos}
@[simp] def qO (g:bN):aF:=fun ρ=>match dj g ρ with
 | some (ds,ρ1)=>some (.lst ds,1,ρ1)
 | none=>none
@[simp] def Hk (g:bN):aF:=fun ρ=>match dj g ρ with
 | some (ds,ρ1)=>some (.tup ds,9,ρ1)
 | none=>none
theorem Hl{mk:List V->HO}{q0:Nat}{md:List D->D}(al:∀ {ρ:aS} {σ:St} {H1:Hp} {w1:Wn} {t:Nat} {p:Addr} {vs:List V} {ds:List D},Good K ρ σ H1 w1 t->H1 p=none->ag K H1 w1 .f 0 ds vs []->∃ w' F,Good K ρ σ (upd H1 p (mk vs)) w' (t+1)/\Go H1 w1 (upd H1 p (mk vs)) w'/\Rep K (upd H1 p (mk vs)) w' (.t t) q0 (md ds) (.ref p) F) :
  ∀ σ H Q,tD K (fun ρ=>match dj g ρ with
   | some (ds,ρ1)=>some (md ds,q0,ρ1)
   | none=>none) σ H Q->y9 (CJ mk) (sv (CD (zA K g)) pd) σ H Q:=fun σ H Q aj=>by
 obtain⟨ρ,w,t,r',q,ρ',gd,ee,k⟩:=aj
 dsimp only at ee
 split at ee
 next ds ρ1 h1=>
  cases ee
  unfold dj at h1
  split at h1
  next n ρ2 h2=>
   split at h1
   next hn=>
    cases h1
    refine⟨ρ,w,t,_,_,gd,h2,fun vs H1 w1 g1 aD r1=>?_⟩
    obtain⟨v,rfl,rv⟩:=one r1
    have hv:=fx rv
    subst hv
    refine⟨n,rfl,by omega,by omega,fun p hp=>⟨p,n,rfl,cT,hn.1,hn.2,fun l hl=>?_⟩⟩
    have ne:∀ a x,H1 a=some x->a≠p:=fun a x e=>dY e hp
    have st:cY H1 w1 (upd H1 p (.j5 0 n)) w1:=fun a x e nn=>⟨sm (by rw[aO (ne a x e)];exact e),nn⟩
    have nw:∀ a o,w1 a=some o->a≠p:=fun a o e=>by obtain⟨vs,q⟩:=g1.wl a o e;exact ne a _ q
    have g2:Good K ρ' σ (upd H1 p (.j5 0 n)) w1 t:=⟨⟨fun a o e=>by
     obtain⟨us,q⟩:=g1.wl a o e
     exact⟨us,by rw[aO (nw a o e)];exact q⟩,g1.wl.tb.upd rfl (.inl hp)⟩,g1.ws,g1.wt,g1.len,fun i d q e=>by
     obtain⟨v,F,h1,h2⟩:=g1.slot i d q e
     exact⟨v,F,h1,Rep.go g1.wl st h2 fun a m=>⟨aO (nw a _ (h2.aA a m)),h2.aA a m⟩⟩⟩
    have bb:Go H1 w1 (upd H1 p (.j5 0 n)) w1:=⟨st,fun a o e _=>⟨aO (nw a o e),e⟩⟩
    obtain⟨w',F,a1,a2,a3⟩:=al g2 hl (Sf n.toNat)
    exact k _ _ _ _ a1 ((aD.trans bb).trans a2) a3
   ·cases h1
  ·cases h1
 ·cases ee
theorem CK(hc:X.calm=true)(hm:X.mg "list" = none)(hb:bootBuiltins "list" = some (.type "list"))(CL:X.mg "range" = none)(ha:eV X [a] g)(hg:Gl X "list":=by rfl)(CM:Gl X "range":=by rfl)(hs:starEach [a] X.env=[(false,eval a X.env)]:=by rfl)(he:starEach [.Call (.Name "range" p1) [a] [] l9] X.env=(false,eval (.Call (.Name "range" p1) [a] [] l9) X.env)::starEach [] X.env:=by rfl)(bG:(backTo pos (starEach [] X.env)).any (·.1)=false:=by rfl):QD X (.Call (.Name "list" p) [.Call (.Name "range" p1) [a] [] l9] [] pos) (qO g):=⟨have ha:=ha.o;PE.imp (vU (SJ hc) hg hm hb (jU (CF CM CL ha hs) mL he) (by decide) (by decide) he bG) (Hl fun g hp r=>by
  obtain⟨a1,a2,a3⟩:=alloc g hp r
  exact⟨_,_,a1,a2,a3⟩)⟩
theorem SM(hc:X.calm=true)(hm:X.mg "tuple" = none)(hb:bootBuiltins "tuple" = some (.type "tuple"))(CL:X.mg "range" = none)(ha:eV X [a] g)(hg:Gl X "tuple":=by rfl)(CM:Gl X "range":=by rfl)(hs:starEach [a] X.env=[(false,eval a X.env)]:=by rfl)(he:starEach [.Call (.Name "range" p1) [a] [] l9] X.env=(false,eval (.Call (.Name "range" p1) [a] [] l9) X.env)::starEach [] X.env:=by rfl)(bG:(backTo pos (starEach [] X.env)).any (·.1)=false:=by rfl):QD X (.Call (.Name "tuple" p) [.Call (.Name "range" p1) [a] [] l9] [] pos) (Hk g):=⟨have ha:=ha.o;PE.imp (vU (SK hc) hg hm hb (jU (CF CM CL ha hs) mL he) (by decide) (by decide) he bG) (Hl fun g hp r=>by
  obtain⟨a1,a2,a3⟩:=uM g hp r
  exact⟨_,_,a1,a2,a3⟩)⟩
end
end L3
namespace L3
open PySem PySem.Spec PyProof.Rows L2
theorem SN{M:Model}{A:Around}{E:Value->Shared->Prop}{s:Shared}{β:Type}{n:Nat}(f:Nat->β->Sem (ForInStep β))(I:List Nat->β->Shared->Prop)(Q:β->Shared->Prop)(b:β)
  (turn:∀ x bw b s,I (x::bw) b s->wpAny M A (f x b) (fun r s'=>match r with|.yield b'=>I bw b' s' | .done b'=>Q b' s') E s)
  (fin:∀ b s,I [] b s->Q b s) (h:I (List.range' 0 n 1) b s):wpAny M A (forIn [0:n] b f) Q E s:=by
 rw[Std.Legacy.Range.forIn_eq_forIn_range']
 refine wpAny_forIn_list f I Q turn fin _ b ?_
 have e:(Std.Legacy.Range.size [0:n])=n:=by simp[Std.Legacy.Range.size]
 show I (List.range' 0 (Std.Legacy.Range.size [0:n]) 1) b s
 rw[e]
 exact h
open AutoSeq1 (wpAny_loadPart') in
theorem SO(l:Addr)(items:Array Value)(n:Nat)(dd:Option Addr)(sl:Array (Option Value))(x:Value)(e:Value->Bool)(j:Nat)(hj:j<items.size)(hit:e items[j]=true)(BM:∀ m (hm:m<items.size),m<j->e items[m]=false) :
  Meets (Builtin.«tuple.index» ⟨[.ref l,x],[]⟩)
   (fun A R s=>s.heap.get? l=some { cls:=.type "tuple",dict:=dd,data:=.seq items n,slots:=sl }/\(∀ y,y∈items->SeqAt.EqAt A.in1 s y x (e y))/\R (.ok (.ret (.int j s.toks))) { s with toks:=s.toks+1 }):=
 .of_wp fun prog w A R s h=>by
  obtain⟨hp,g,d,tk,os⟩:=s;obtain⟨hl,he,h⟩:=h
  wp_walk using wpAny_loadPart' hl,SN _ (fun bw b s'=>b.1=none/\s'=⟨hp,g,d,tk,os⟩/\∃ i k,bw=List.range' i k 1/\i+k=items.size/\i<=j) _
  case turn=>
   rintro y bw b s' ⟨hb,rfl,i,k,hr,uT,Hm⟩
   cases k with
   | zero=>simp at hr
   | succ k=>
    rw[List.range'_succ]at hr
    obtain⟨rfl,rfl⟩:=List.cons.inj hr
    have dZ:y<items.size:=by omega
    have CN:items[y]? = some items[y]:=by simp[dZ]
    rw[CN]
    refine Qa (he _ (Array.getElem_mem dZ) prog w _ _ ?_)
    by_cases SQ:y=j
    ·subst SQ
     rw[hit]
     wp_walk
     exact⟨_,rfl,h⟩
    ·rw[BM y dZ (by omega)]
     wp_walk
     exact⟨rfl,rfl,y+1,k,rfl,by omega,by omega⟩
  case fin=>
   rintro ⟨b1,b2⟩ s' ⟨hb,rfl,i,k,hr,uT,Hm⟩
   cases k with
   | zero=>omega
   | succ k=>simp[List.range'_succ]at hr
  case h=>
   exact⟨rfl,rfl,0,items.size,by simp,by omega,by omega⟩
end L3
namespace L3
open PySem PySem.Spec PyProof.Rows L2
variable {F:List Addr}{H:Hp}{K:PySem.W.Frag}{N ps:List Str}{P:Program}{Q:Value->Shared->Prop}{base:Heap}{body:aI}{d:D}{ds:List D}{g1 g2:Int->Int->Option D}{h1 h2:Int->Int->V}{i n q t:Nat}{mg:Str->Option Value}{o:Ow}{op lG:CmpOp}{st:Stmt}{u:Value}{vs:List V}{w:Wn}{x:Str}{ρ:aS}{σ:St}
def uU (d:D)(ds:List D):Option Nat:=(dG ds).findIdx? fun y=>PyData.eqv y (bP d)
def SR (K:PySem.W.Frag):V->List V->Hp->VK->Prop:=fun x xs H Q=>∃ ds d y j,xs=[y]/\Is K H (.tup ds) x/\Is K H d y/\d7 (.tup ds)=true/\d7 d=true/\uU d ds=some j/\Q (.int (Int.ofNat j)) H
section
variable {X:Cx}{a b c e:Expr}{es:List Expr}{fa fb fc f:aF}{g:bN}{pos p p1 p2 ar apos:Pos}
theorem SS(hu:X.A.units+65<cLine):za X "tuple.index" (SR X.K):=by
 intro pins s σ H x xs v us Q I rx rs ⟨ds,d,y,j,e,⟨w,o,q,F,h1⟩,⟨w',o',q',F',h2⟩,k1,k2,hj,hq⟩
 subst e
 obtain⟨u,rfl,ru⟩:=lN rs
 obtain⟨as,ra⟩:=h1.reads I rx (mR k1)
 obtain⟨bs,rb⟩:=h2.reads I ru (mR k2)
 replace k1:=mU k1
 replace k2:=mU k2
 unfold bP at ra k1
 have nH:PyData.canLayAll0 (dG ds)=true:=QZ k1
 have ji:=QZ k2
 cases ra with
 | @tuple a ob vs n _ _ ho l_ hd qP=>
  obtain⟨cls,dd,data,sl⟩:=ob
  simp only at l_ hd
  subst l_ hd
  have kq:=JZ _ _ _ nH qP
  have CO:=Jo.mp hj
  obtain⟨CP,CQ,CS⟩:=CO
  have hlen:vs.size=(dG ds).length:=by rw[<- kq];simp
  have tm:∀ m (hm:m<vs.size) (oO:m<(dG ds).length),SeqAt.readOf s.heap vs[m]=(dG ds)[m]:=fun m hm oO=>by
   have:(vs.toList.map (SeqAt.readOf s.heap))[m]? = (dG ds)[m]?:=by rw[kq]
   simpa [hm,oO]using this
  refine Jk Yl ⟨_,ho,rfl⟩ PySem.F.entry_tuple_index (PySem.F.args_tuple_index_2 _ _)
   (SO a vs n dd sl u (fun y=>PyData.eqv (SeqAt.readOf s.heap y) (bP d)) j (by omega) (by rw[tm j (by omega) CP];simpa using CQ) (fun m hm CT=>by rw[tm m hm (by omega)];simpa using CS m CT)) ⟨ho,Yt qP rb nH ji (Js k2 hu),?_⟩
  exact⟨.int (Int.ofNat j),H,I.tok _,⟨_,rfl⟩,hq⟩
@[simp] def CU (fo:aF)(g:bN):aF:=fun ρ=>match fo ρ with
 | some (.tup ds,_,ρ1)=>match g ρ1 with
  | some ([d],ρ2)=>if d7 (.tup ds)=true/\d7 d=true then match uU d ds with
   | some j=>some (.int (Int.ofNat j),9,ρ2)
   | none=>none
   else none
  | _=>none
 | _=>none
theorem SU{k:Nat}(hr:aw k X.A)(ho:QD X a fa)(ha:eV X [e] g)(cy:attributeBase a "index" X.env (eval a X.env)=eval a X.env:=by rfl)(eu:((backTo ar (starEach [e] X.env)).all (fun x=>!x.1)&&(backToKw ar (keywordEach [] X.env)).all (fun x=>x.1.isSome)
   && decide ([e].length+([]:List Keyword).length+(if([]:List Keyword).isEmpty then 0 else 1)<30))=true:=by rfl) (cz:(apos.endLine==ar.line)=true:=by rfl) (hs:starEach [e] X.env=(false,eval e X.env)::starEach [] X.env:=by rfl) (bT:(backTo ar (starEach [] X.env)).any (·.1)=false:=by rfl):QD X (.Call (.Attribute a "index" apos) [e] [] ar) (CU fa g):=⟨have ho:=ho.o;have ha:=ha.o;PE.imp (uG PySem.F.plainAttrs_tuple Yl PySem.F.type_tuple_index (SS (zK hr)) ho ha cy eu cz hs bT) fun σ H Q aj=>by
 obtain⟨ρ,w,t,r',q,ρ',gd,ee,k⟩:=aj
 unfold CU at ee
 split at ee
 next ds q1 ρ1 h1=>
  split at ee
  next d ρ2 h2=>
   split at ee
   next az=>
    split at ee
    next j hj=>
     cases ee
     refine⟨ρ,w,t,_,_,_,gd,h1,fun v H1 w1 F1 g1 aD r1=>?_⟩
     have r0:=r1.drop (o:=.f) (Qf t)
     have gg:=g1.drop (t':=t)
     obtain⟨p0,vs,rfl,hq,rs⟩:=r0.wC
     refine⟨?_,ρ1,cA t w1,t,_,_,gg,h2,fun Hn H2 w2 g2 bb r2=>?_⟩
     ·exact .inr (.inl ⟨rfl,.inr ⟨_,hq⟩⟩)
     ·obtain⟨v2,rfl,pJ⟩:=one r2
      have r3:Rep X.K H2 w2 .f 0 (.tup ds) (.ref p0) []:=r0.kg gg.wl bb.ba
      exact⟨ds,d,v2,j,rfl,⟨_,_,_,_,r3⟩,⟨_,_,_,_,pJ⟩,az.1,az.2,hj,k _ H2 w2 [] g2.up ((aD.drop gd.wt).trans bb) (.int _)⟩
    ·cases ee
   ·cases ee
  ·cases ee
 ·cases ee⟩
theorem Good.mut(g:Good K ρ σ H w t)(e:ρ[i]? = some (some (.lst ds,1))) :
  ∃ l vs,σ[i]? = some (some (.ref l))/\H l=some (.lst vs)/\ag K H w .f 0 ds vs []/\∀ br iw,ag K H w .f 0 br iw []->
   Good K (ρ.set i (some (.lst br,1))) σ (upd H l (.lst iw)) w t/\Go H w (upd H l (.lst iw)) w:=by
 obtain⟨v,F,h1,h2⟩:=g.slot i _ _ e
 cases h2 with
 | @own _ l vs _ F' hl hw rs ne=>
  have hF:=rs.zero
  subst hF
  refine⟨l,vs,h1,hl,rs.any g.wl,fun br iw r'=>?_⟩
  have nl:∀ a o,w a=some o->o ≠ .s i->a≠l:=fun a o e n z=>by subst z;rw[hw]at e;exact n (Qt e).symm
  have nn:∀ a,w a=none->a≠l:=fun a e z=>by subst z;rw[hw]at e;cases e
  have st:cY H w (upd H l (.lst iw)) w:=fun a x h n=>⟨sm (by rw[aO (nn a n)];exact h),n⟩
  refine⟨⟨⟨fun a o h=>?_,g.wl.tb.upd rfl (.inr (g.wl l _ hw))⟩,g.ws,g.wt,by rw[Qu];exact g.len,fun j d' q' e'=>?_⟩,⟨st,fun a o h n=>⟨aO (nl a o h (n i)),h⟩⟩⟩
  ·by_cases z:a=l
   ·subst z;exact⟨.l _,cT⟩
   ·obtain⟨us,q⟩:=g.wl a o h
    exact⟨us,by rw[aO z];exact q⟩
  ·by_cases hj:i=j
   ·subst hj
    rw[Qw (Qp.mp e).1]at e'
    cases e'
    exact⟨_,_,h1,.own cT hw (ag.go g.wl st r' nM) (fun z=>nomatch z)⟩
   ·rw[Qr hj]at e'
    obtain⟨v',F',mX,eR⟩:=g.slot j d' q' e'
    exact⟨v',F',mX,Rep.go g.wl st eR fun a m=>⟨aO (nl a _ (eR.aA a m) (fun z=>hj (by cases z;rfl))),eR.aA a m⟩⟩
@[simp] def uV:Option (OD)->Bool
 | some (some (.lst _,_))=>true
 | _=>false
theorem Good.bM(g:Good K ρ σ H w t)(h:uV ρ[i]? = true):∃ l,σ[i]? = some (some (.ref l))/\∃ vs,cL K H l vs:=by
 unfold uV at h
 split at h
 next ds q e=>
  obtain⟨v,F,h1,h2⟩:=g.slot i _ _ e
  obtain⟨p,vs,_,_,rfl,hq,_⟩:=h2.pC
  exact⟨p,h1,vs,hq⟩
 ·cases h
@[simp] def jy (i:Nat)(g:bN):aF:=fun ρ=>if uV ρ[i]? = true then match g ρ with
 | some ([d],ρ1)=>match ρ1[i]? with
  | some (some (.lst ds,1))=>if ds.length<=1000 then some (.au,9,ρ1.set i (some (.lst (ds++[d]),1)))else none
  | _=>none
 | _=>none
 else none
theorem pK(h:QE X (.Name x p1) (eh i))(ha:eV X [e] g)(cy:attributeBase (.Name x p1) "append" X.env (eval (.Name x p1) X.env)=eval (.Name x p1) X.env:=by rfl)(eu:((backTo ar (starEach [e] X.env)).all (fun x=>!x.1)&&(backToKw ar (keywordEach [] X.env)).all (fun x=>x.1.isSome)
   && decide ([e].length+([]:List Keyword).length+(if([]:List Keyword).isEmpty then 0 else 1)<30))=true:=by rfl) (cz:(apos.endLine==ar.line)=true:=by rfl) (hs:starEach [e] X.env=(false,eval e X.env)::starEach [] X.env:=by rfl) (bT:(backTo ar (starEach [] X.env)).any (·.1)=false:=by rfl):QD X (.Call (.Attribute (.Name x p1) "append" apos) [e] [] ar) (jy i g):=⟨have h:=h.o;have ha:=ha.o;PE.imp (uG ZB PySem.F.slot_list_append PySem.F.type_list_append PL h ha cy eu cz hs bT) fun σ H Q aj=>by
 obtain⟨ρ,w,t,r',q,ρ',gd,ee,k⟩:=aj
 unfold jy at ee
 split at ee
 next hl=>
  obtain⟨l,gD,us,hq⟩:=gd.bM hl
  split at ee
  next d ρ1 h1=>
   split at ee
   next ds e1=>
    split at ee
    next hlen=>
     cases ee
     refine⟨_,gD,.inl ⟨rfl,us,hq⟩,ρ,w,t,_,_,gd,h1,fun vs H1 w1 g1 aD r1=>?_⟩
     obtain⟨v,rfl,rv⟩:=one r1
     obtain⟨l',ws,gF,hH,rs,mk⟩:=g1.mut e1
     rw[gD]at gF
     cases gF
     have r2:ag X.K H1 w1 .f 0 (ds++[d]) (ws++[v]) []:=ag.snoc (F:=[]) (G:=[]) rv rs nM
     obtain⟨m1,m2⟩:=mk _ _ r2
     refine⟨l,ws,v,rfl,rfl,hH,by rw[<- rs.length];exact sH hlen,?_⟩
     exact k .au _ w1 [] m1.up (aD.trans m2) .au
    ·cases ee
   ·cases ee
  ·cases ee
 ·cases ee⟩
theorem ag.eraseIdx:∀ {ds:List D} {vs:List V} (i:Nat),ag K H w .f 0 ds vs []->ag K H w .f 0 (ds.eraseIdx i) (vs.eraseIdx i) []
 | ds,vs,i,r=>by
  generalize hF:([]:List Addr)=F at r
  cases r with
  | nil=>exact .nil
  | @cons _ d v ds vs F G r s _=>
   have h1:F=[]:=r.zero
   have h2:G=[]:=s.zero
   subst h1 h2
   cases i with
   | zero=>exact s
   | succ j=>exact .cons (F:=[]) (G:=[]) r (ag.eraseIdx j s) nM
@[simp] def wQ (i:Nat)(g:bN):aF:=fun ρ=>if uV ρ[i]? = true then match g ρ with
 | some ([.int n],ρ1)=>match ρ1[i]? with
  | some (some (.lst ds,1))=>if -1000<=n/\n<=1000 then match seqIndex? n ds.length with
   | some j=>match ds[j]? with
    | some d=>some (d,cH d,ρ1.set i (some (.lst (ds.eraseIdx j),1)))
    | none=>none
   | none=>none
   else none
  | _=>none
 | _=>none
 else none
theorem SV(h:QE X (.Name x p1) (eh i))(ha:eV X [e] g)(cy:attributeBase (.Name x p1) "pop" X.env (eval (.Name x p1) X.env)=eval (.Name x p1) X.env:=by rfl)(eu:((backTo ar (starEach [e] X.env)).all (fun x=>!x.1)&&(backToKw ar (keywordEach [] X.env)).all (fun x=>x.1.isSome)
   && decide ([e].length+([]:List Keyword).length+(if([]:List Keyword).isEmpty then 0 else 1)<30))=true:=by rfl) (cz:(apos.endLine==ar.line)=true:=by rfl) (hs:starEach [e] X.env=(false,eval e X.env)::starEach [] X.env:=by rfl) (bT:(backTo ar (starEach [] X.env)).any (·.1)=false:=by rfl):QD X (.Call (.Attribute (.Name x p1) "pop" apos) [e] [] ar) (wQ i g):=⟨have h:=h.o;have ha:=ha.o;PE.imp (uG ZB PySem.F.slot_list_pop PySem.F.type_list_pop PU h ha cy eu cz hs bT) fun σ H Q aj=>by
 obtain⟨ρ,w,t,r',q,ρ',gd,ee,k⟩:=aj
 unfold wQ at ee
 split at ee
 next hl=>
  obtain⟨l,gD,us,hq⟩:=gd.bM hl
  split at ee
  next n ρ1 h1=>
   split at ee
   next ds e1=>
    split at ee
    next hn=>
     split at ee
     next j hj=>
      split at ee
      next d hd=>
       cases ee
       refine⟨_,gD,.inl ⟨rfl,us,hq⟩,ρ,w,t,_,_,gd,h1,fun vs H1 w1 g1 aD r1=>?_⟩
       obtain⟨v,rfl,rv⟩:=one r1
       have hv:=fx rv
       subst hv
       obtain⟨l',ws,gF,hH,rs,mk⟩:=g1.mut e1
       rw[gD]at gF
       cases gF
       obtain⟨y,hy,ry⟩:=rs.get hd
       obtain⟨m1,m2⟩:=mk _ _ (rs.eraseIdx j)
       refine⟨l,ws,n,j,y,rfl,rfl,hH,by omega,by omega,by rw[<- rs.length];exact hj,hy,?_⟩
       have SW:Rep X.K _ w1 (.t t) 0 r' y []:=Rep.go g1.wl m2.ba ry nM
       exact k y _ w1 [] m1.up (aD.trans m2) SW.ka
      ·cases ee
     ·cases ee
    ·cases ee
   ·cases ee
  ·cases ee
 ·cases ee⟩
end
theorem ag.wR:∀ {ds:List D} {vs:List V} {F:List Addr} {i:Nat} {d:D},ag K H w o q ds vs F->ds[i]? = some d->∃ v G,vs[i]? = some v/\Rep K H w o q d v G/\∀ a∈G,a∈F
 | _,_,_,_,_,.nil,e=>by simp at e
 | _,_,_,0,_,.cons r _ _,e=>by
  simp at e;subst e;exact⟨_,_,rfl,r,fun a m=>QU _ m⟩
 | _,_,_,i+1,d,.cons _ s _,e=>by
  obtain⟨v,G,h1,h2,h3⟩:=ag.wR (i:=i) (d:=d) s (by simpa using e)
  exact⟨v,G,by simpa using h1,h2,fun a m=>Qh _ (h3 a m)⟩
theorem ag.Ho{i:Int}(r:ag K H w o q ds vs F)(h:L2.dP ds i=some d):∃ v G,L2.dP vs i=some v/\Rep K H w o q d v G/\∀ a∈G,a∈F:=by
 unfold L2.dP at h ⊢
 rw[<- r.length]
 cases e:jj ds.length i with
 | none=>rw[e]at h;cases h
 | some j=>
  rw[e]at h
  exact r.wR h
@[simp] def bU (n:Nat)(fb:aF):aF:=fun ρ=>match ρ[n]? with
 | some (some _)=>match fb ρ with
  | some (.int i,_,ρ2)=>match ρ2[n]? with
   | some (some (x,q))=>match cO x i with
    | some d=>if d.bM=true/\1<q/\x.bM=true then none else some (d,cH d,ρ2)
    | none=>none
   | _=>none
  | _=>none
 | _=>none
section
variable {X:Cx}{a b c e:Expr}{es:List Expr}{fa fb fc f:aF}{g:bN}{pos p p1 p2 ar apos:Pos}
theorem dA(h:QE X (.Name x p1) (eh n))(hb:QD X b fb)(hs:uF b:=by exact fun _ _=>rfl):QD X (.Subscript (.Name x p1) b pos) (bU n fb):=⟨have h:=h.o;have hb:=hb.o;PE.imp (vW vX h hb hs) fun σ H Q aj=>by
 obtain⟨ρ,w,t,r',q,ρ',gd,ee,k⟩:=aj
 unfold bU at ee
 split at ee
 next z0 e0=>
  obtain⟨d0,q0⟩:=z0
  obtain⟨v,F,gD,_⟩:=gd.slot n d0 q0 e0
  split at ee
  next i q2 ρ2 h2=>
   split at ee
   next x q e2=>
    split at ee
    next d hd=>
     split at ee
     ·cases ee
     next hn=>
      cases ee
      refine⟨v,gD,ρ,w,t,_,_,_,gd,h2,fun y H2 w2 F2 g2 go r2=>?_⟩
      have hy:=fx r2
      subst hy
      have gg:=g2.drop (t':=t)
      obtain⟨v',F',gF,rr⟩:=gg.slot n x q e2
      rw[gD]at gF
      cases gF
      have fin:∀ u,Rep X.K H2 (cA t w2) (.t t) 0 r' u []->Q u H2:=fun u ru=>k u H2 (cA t w2) [] gg.up (go.drop gd.wt) ru.ka
      cases x with
      | lst ds=>
       by_cases SX:q=0
       ·subst SX
        obtain⟨p0,vs,rfl,hq,rs⟩:=rr.gB
        obtain⟨u,hu,ru⟩:=rs.dP hd
        exact .inl ⟨p0,vs,i,u,rfl,rfl,hq,hu,fin u (ru.any gg.wl)⟩
       ·by_cases SY:q=1
        ·subst SY
         cases rr with
         | own h0 _ rs _=>
          have z0:=rs.zero
          subst z0
          obtain⟨u,hu,ru⟩:=rs.dP hd
          exact .inl ⟨_,_,i,u,rfl,rfl,cL.of h0,hu,fin u (ru.any gg.wl)⟩
        ·obtain⟨p0,vs,q',G,rfl,hq,rs⟩:=rr.pC
         obtain⟨u,G',hu,ru,_⟩:=rs.Ho hd
         refine .inl ⟨p0,vs,i,u,rfl,rfl,hq,hu,fin u ?_⟩
         cases hL:r'.bM with
         | false=>exact((ru.b_ hL).2 0).any gg.wl
         | true=>exact absurd ⟨hL,by omega,rfl⟩ hn
      | tup ds=>
       obtain⟨p0,vs,rfl,hq,rs⟩:=rr.hZ
       obtain⟨u,hu,ru⟩:=rs.dP hd
       exact .inr (.inl ⟨p0,vs,i,u,rfl,rfl,hq,hu,fin u (ru.any gg.wl)⟩)
      | _=>cases hd
    ·cases ee
   ·cases ee
  ·cases ee
 ·cases ee⟩
@[simp] def uW (fa fb:aF):aF:=fun ρ=>match fa ρ with
 | some (.lst ds,1,ρ1)=>match fb ρ1 with
  | some (.int n,_,ρ2)=>if -1000<=n/\n<=1000/\ds.length*n.toNat<=1000 then some (.lst (List.replicate n.toNat ds).flatten,1,ρ2)else none
  | _=>none
 | _=>none
theorem ag.app{es:List D}{us:List V}(s:ag K H w .f 0 es us []):∀ {ds:List D} {vs:List V},ag K H w .f 0 ds vs []->ag K H w .f 0 (ds++es) (vs++us) []
 | ds,vs,r=>by
  generalize hF:([]:List Addr)=F at r
  cases r with
  | nil=>rw[<- hF];exact s
  | @cons _ d v ds vs F G r t _=>
   have h1:F=[]:=r.zero
   have h2:G=[]:=t.zero
   subst h1 h2
   exact .cons (F:=[]) (G:=[]) r (ag.app s t) nM
theorem ag.times(r:ag K H w .f 0 ds vs []):∀ n:Nat,ag K H w .f 0 (List.replicate n ds).flatten (List.replicate n vs).flatten []
 | 0=>.nil
 | n+1=>by
  rw[Zu,Zu,ZN,ZN]
  exact ag.app (ag.times r n) r
theorem Hq(ha:QD X a fa)(hb:QD X b fb):QD X (.BinOp a .Mult b pos) (uW fa fb):=⟨have ha:=ha.o;have hb:=hb.o;PE.imp (o_ PY ha hb) fun σ H Q aj=>by
 obtain⟨ρ,w,t,r',q,ρ',gd,ee,k⟩:=aj
 unfold uW at ee
 split at ee
 next ds ρ1 h1=>
  split at ee
  next n q2 ρ2 h2=>
   split at ee
   next hn=>
    cases ee
    refine sT gd h1 h2 fun u u' H2 w2 F1 F2 g2 go r1 r2=>?_
    have Co:=fx r2
    subst Co
    cases r1 with
    | @own _ l vs _ F hl hw rs ne=>
     have hF:=rs.zero
     subst hF
     have gg:=g2.drop (t':=t)
     have nI:ag X.K H2 (cA t w2) .f 0 ds vs []:=ag.go g2.wl (fun a x h n=>⟨sm h,zu n⟩) rs nM
     refine⟨l,n,vs,rfl,rfl,hl,by omega,by omega,?_,fun p hp=>?_⟩
     ·rw[<- rs.length];exact uQ hn.2.2
     ·obtain⟨a1,a2,a3⟩:=alloc gg hp (nI.times n.toNat)
      exact k _ _ _ _ a1 ((go.drop gd.wt).trans a2) a3
   ·cases ee
  ·cases ee
 ·cases ee⟩
end
theorem ag.row(wl:WL K w H):∀ {rows:List D} {vs:List V} {F:List Addr} {i:Nat} {row:List D},ag K H w o 1 rows vs F->rows[i]? = some (.lst row)->
  ∃ b ws,vs[i]? = some (.ref b)/\H b=some (.lst ws)/\w b=some o/\b∈F/\ag K H w .f 0 row ws [] /\
   ∀ ia kZ,ag K H w .f 0 ia kZ []->ag K (upd H b (.lst kZ)) w o 1 (rows.set i (.lst ia)) vs F
 | _,_,_,_,_,.nil,e=>by simp at e
 | _,_,_,0,row,.cons r s ne,e=>by
  simp at e
  subst e
  cases r with
  | @own _ b ws _ F' hb hw rs nb=>
   have hF:=rs.zero
   subst hF
   refine⟨b,ws,rfl,hb,hw,by simp,rs.any wl,fun ia kZ r'=>?_⟩
   have nn:∀ a,w a=none->a≠b:=fun a e z=>by subst z;rw[hw]at e;cases e
   have st:cY H w (upd H b (.lst kZ)) w:=fun a x h n=>⟨sm (by rw[aO (nn a n)];exact h),n⟩
   refine .cons (.own cT hw (ag.go wl st r' nM) (fun z=>nomatch z)) (ag.go wl st s fun a m=>⟨aO fun z=>?_,s.aA a m⟩) ne
   subst z
   exact ne a (by simp) m
 | _,_,_,i+1,row,.cons (d:=d) (v:=v) (F:=F) (G:=G) r s ne,e=>by
  obtain⟨b,ws,h1,h2,h3,h4,h5,mk⟩:=ag.row wl (i:=i) (row:=row) s (by simpa using e)
  refine⟨b,ws,by simpa using h1,h2,h3,Qh _ h4,h5,fun ia kZ r'=>?_⟩
  have nn:∀ a,w a=none->a≠b:=fun a e z=>by subst z;rw[h3]at e;cases e
  have st:cY H w (upd H b (.lst kZ)) w:=fun a x h n=>⟨sm (by rw[aO (nn a n)];exact h),n⟩
  refine .cons (Rep.go wl st r fun a m=>⟨aO fun z=>?_,r.aA a m⟩) (mk ia kZ r') ne
  subst z
  exact ne a m h4
theorem Good.CV{m:Nat}{rows row:List D}(g:Good K ρ σ H w t)(e:ρ[i]? = some (some (.lst rows,2)))(em:rows[m]? = some (.lst row)) :
  ∃ l vs b ws,σ[i]? = some (some (.ref l))/\cL K H l vs/\vs.length=rows.length/\vs[m]? = some (.ref b)/\H b=some (.lst ws)/\ag K H w .f 0 row ws []/\∀ ia kZ,ag K H w .f 0 ia kZ []->
   Good K (ρ.set i (some (.lst (rows.set m (.lst ia)),2))) σ (upd H b (.lst kZ)) w t/\Go H w (upd H b (.lst kZ)) w:=by
 obtain⟨v,F,h1,h2⟩:=g.slot i _ _ e
 cases h2 with
 | @own _ l vs _ F' hl hw rs nl=>
  obtain⟨b,ws,b1,b2,b3,b4,b5,mk⟩:=ag.row g.wl rs em
  have S0:l≠b:=fun z=>by subst z;exact nl b4
  refine⟨l,vs,b,ws,h1,cL.of hl,rs.length.symm,b1,b2,b5,fun ia kZ r'=>?_⟩
  have Hr:∀ a o,w a=some o->o ≠ .s i->a≠b:=fun a o e n z=>by subst z;rw[b3]at e;exact n (Qt e).symm
  have nn:∀ a,w a=none->a≠b:=fun a e z=>by subst z;rw[b3]at e;cases e
  have st:cY H w (upd H b (.lst kZ)) w:=fun a x h n=>⟨sm (by rw[aO (nn a n)];exact h),n⟩
  refine⟨⟨⟨fun a o h=>?_,g.wl.tb.upd rfl (.inr (g.wl b _ b3))⟩,g.ws,g.wt,by rw[Qu];exact g.len,fun j d' q' e'=>?_⟩,⟨st,fun a o h n=>⟨aO (Hr a o h (n i)),h⟩⟩⟩
  ·by_cases z:a=b
   ·subst z;exact⟨.l _,cT⟩
   ·obtain⟨us,q⟩:=g.wl a o h
    exact⟨us,by rw[aO z];exact q⟩
  ·by_cases hj:i=j
   ·subst hj
    rw[Qw (Qp.mp e).1]at e'
    cases e'
    exact⟨_,_,h1,.own (by rw[aO S0];exact hl) hw (mk ia kZ r') nl⟩
   ·rw[Qr hj]at e'
    obtain⟨v',F',mX,eR⟩:=g.slot j d' q' e'
    exact⟨v',F',mX,Rep.go g.wl st eR fun a m=>⟨aO (Hr a _ (eR.aA a m) (fun z=>hj (by cases z;rfl))),eR.aA a m⟩⟩
theorem ag.wU{v:V}(rv:Rep K H w .f 0 d v []):∀ {ds:List D} {vs:List V} (i:Nat),ag K H w .f 0 ds vs []->ag K H w .f 0 (ds.set i d) (vs.set i v) []
 | ds,vs,i,r=>by
  generalize hF:([]:List Addr)=F at r
  cases r with
  | nil=>rw[<- hF];exact .nil
  | @cons _ d' v' ds vs F G r s _=>
   have h1:F=[]:=r.zero
   have h2:G=[]:=s.zero
   subst h1 h2
   cases i with
   | zero=>exact .cons (F:=[]) (G:=[]) rv s nM
   | succ j=>exact .cons (F:=[]) (G:=[]) r (ag.wU rv j s) nM
abbrev ma:=aS->Option Int
def tQ (K:PySem.W.Frag)(f:ma):TE:=fun σ H Q=>∃ ρ w t i,Good K ρ σ H w t/\f ρ=some i/\Q (.int i) H
abbrev PQ (X:Cx)(e:Expr)(f:ma):Prop:=PE X e (tQ X.K f)
structure QQ (X:Cx) (e:Expr) (f:ma):Prop where mk::o:PQ X e f
@[simp] def tq (n:Nat):ma:=fun ρ=>match ρ[n]? with
 | some (some (.int i,_))=>some i
 | _=>none
@[simp] def tu (n:Nat)(f:ma):ma:=fun ρ=>match f ρ with
 | some i=>match ρ[n]? with
  | some (some (x,_))=>match cO x i with
   | some (.int j)=>some j
   | _=>none
  | _=>none
 | none=>none
section
variable {X:Cx}{a b c e:Expr}{es:List Expr}{fa fb fc f:aF}{qa qb:ma}{g:bN}{pos p p1 p2 ar apos:Pos}
theorem Hs(h:QE X (.Name x p1) (eh n)):QQ X (.Name x p1) (tq n):=⟨have h:=h.o;PE.imp h fun σ H Q aj=>by
 obtain⟨ρ,w,t,i,gd,ee,k⟩:=aj
 unfold tq at ee
 split at ee
 next j q e0=>
  cases ee
  obtain⟨v,F,h1,h2⟩:=gd.slot n _ _ e0
  rw[fx h2]at h1
  exact⟨_,h1,k⟩
 ·cases ee⟩
theorem Ht(h:QE X (.Name x p1) (eh n))(hb:QQ X b qb)(hs:uF b:=by exact fun _ _=>rfl):QQ X (.Subscript (.Name x p1) b pos) (tu n qb):=⟨have h:=h.o;have hb:=hb.o;PE.imp (vW vX h hb hs) fun σ H Q aj=>by
 obtain⟨ρ,w,t,i,gd,ee,k⟩:=aj
 unfold tu at ee
 split at ee
 next i0 h0=>
  split at ee
  next x q e0=>
   split at ee
   next j hj=>
    cases ee
    obtain⟨v,F,h1,h2⟩:=gd.slot n _ _ e0
    refine⟨v,h1,ρ,w,t,i0,gd,h0,?_⟩
    cases x with
    | lst ds=>
     obtain⟨p0,vs,q',G,rfl,hq,rs⟩:=h2.pC
     obtain⟨u,G',hu,ru,_⟩:=rs.Ho hj
     rw[fx ru]at hu
     exact .inl ⟨p0,vs,i0,_,rfl,rfl,hq,hu,k⟩
    | tup ds=>
     obtain⟨p0,vs,rfl,hq,rs⟩:=h2.hZ
     obtain⟨u,hu,ru⟩:=rs.dP hj
     rw[fx ru]at hu
     exact .inr (.inl ⟨p0,vs,i0,_,rfl,rfl,hq,hu,k⟩)
    | _=>cases hj
   ·cases ee
  ·cases ee
 ·cases ee⟩
@[simp] def wV (n:Nat)(qi qj:ma)(fe:aF):aI:=fun ρ=>match fe ρ with
 | some (d,_,ρ1)=>match qi ρ1,qj ρ1,ρ1[n]? with
  | some i,some j,some (some (.lst rows,2))=>match jj rows.length i with
   | some m=>match rows[m]? with
    | some (.lst row)=>match jj row.length j with
     | some k=>some (.nx (ρ1.set n (some (.lst (rows.set m (.lst (row.set k d))),2))))
     | none=>none
    | _=>none
   | none=>none
  | _,_,_=>none
 | none=>none
theorem S3(h:QE X (.Name x p1) (eh n))(ha:QQ X a qa)(hb:QQ X b qb)(he:QD X e f)(hi:uF a:=by exact fun _ _=>rfl)(CW:∀ v,assign (.Subscript (.Subscript (.Name x p1) a p2) b p) X.env v=(do
   let ov <- holding [v] (eval (.Subscript (.Name x p1) a p2) X.env)
   let iv <- holding [v,ov] (eval b X.env)
   standAt p
   holding [v,ov,iv] (setItem ov iv v)
   release [v,ov,iv] []):=by exact fun _=>rfl) (hs:swapsWithSole [.Subscript (.Subscript (.Name x p1) a p2) b p] e pos.line X.env=pure false:=by rfl):jm X (.Assign [.Subscript (.Subscript (.Name x p1) a p2) b p] e pos) (wV n qa qb f):=⟨have h:=h.o;have ha:=ha.o;have hb:=hb.o;have he:=he.o;by
 refine PS.imp (N8 he (N7 (vW vX h ha hi) hb Px CW) hs) fun D σ H ⟨ρ,w,o,gd,ee,k⟩=>?_
 unfold wV at ee
 split at ee
 next d q0 ρ1 h1=>
  split at ee
  next i j rows hi hj er=>
   split at ee
   next m hm=>
    split at ee
    next row CY=>
     split at ee
     next kk hk=>
      cases ee
      refine⟨ρ,w,0,d,q0,ρ1,gd,h1,fun v H1 w1 F1 g1 aD r1=>?_⟩
      have rv:=r1.drop (o:=.f) (Qf 0)
      have gg:=g1.drop (t':=0)
      obtain⟨l,vs,b0,ws,m1,m2,m3,m4,m5,m6,mk⟩:=gg.CV er CY
      refine⟨_,m1,ρ1,cA 0 w1,0,i,gg,hi,.inl ⟨l,vs,i,.ref b0,rfl,rfl,m2,?_,ρ1,cA 0 w1,0,j,gg,hj,b0,ws,j,kk,rfl,rfl,m5,?_,?_⟩⟩
      ·unfold dP;rw[m3,hm];exact m4
      ·rw[<- m6.length];exact hk
      ·obtain⟨n1,n2⟩:=mk _ _ (m6.wU rv kk)
       exact k _ _ _ rfl n1 ((aD.drop gd.wt).trans n2)
     ·cases ee
    ·cases ee
   ·cases ee
  ·cases ee
 ·cases ee⟩
end
@[simp] def pL (fa fb:aF):aF:=fun ρ=>match fa ρ with
 | some (.bl b,_,ρ1)=>if b=true then fb ρ1 else some (.bl false,9,ρ1)
 | _=>none
@[simp] def CZ (fa:aF):aF:=fun ρ=>match fa ρ with
 | some (.bl b,_,ρ1)=>some (.bl (!b),9,ρ1)
 | _=>none
section
variable {X:Cx}{a b c e:Expr}{es bw:List Expr}{fa fb fc f:aF}{g:bN}{pos p p1 p2 ar apos:Pos}
theorem zM{op}(h:QD X a fa):QD X (.BoolOp op [a] pos) fa:=⟨have h:=h.o;NS h⟩
theorem zN(ha:QD X a fa)(hb:QD X (.BoolOp .And (b::bw) pos) fb):QD X (.BoolOp .And (a::b::bw) pos) (pL fa fb):=⟨have ha:=ha.o;have hb:=hb.o;PE.imp (NT ha hb) fun σ H Q aj=>by
 obtain⟨ρ,w,t,r',q,ρ',gd,ee,k⟩:=aj
 unfold pL at ee
 split at ee
 next b' q1 ρ1 h1=>
  refine⟨ρ,w,t,_,_,_,gd,h1,fun v H1 w1 F1 g1 aD r1=>?_⟩
  cases r1
  refine⟨b',rfl,?_⟩
  split at ee
  ·rename_i hb;rw[Qe hb]
   exact⟨ρ1,cA t w1,t,r',q,ρ',g1.drop,ee,fun v H2 w2 F g2 bb=>k v H2 w2 F g2 ((aD.drop gd.wt).trans bb)⟩
  ·rename_i hb;rw[Qg hb]
   cases ee
   exact k _ H1 w1 [] g1 aD (.bl false)
 ·cases ee⟩
theorem S5(ha:QD X a fa):QD X (.UnaryOp .Not a pos) (CZ fa):=⟨have ha:=ha.o;PE.imp (NU ha) fun σ H Q aj=>by
 obtain⟨ρ,w,t,r',q,ρ',gd,ee,k⟩:=aj
 unfold CZ at ee
 split at ee
 next b' q1 ρ1 h1=>
  cases ee
  refine⟨ρ,w,t,_,_,_,gd,h1,fun v H1 w1 F1 g1 aD r1=>?_⟩
  cases r1
  exact⟨b',rfl,k _ H1 w1 [] g1 aD (.bl _)⟩
 ·cases ee⟩
end
section
variable {es bw:List Expr}{a b c e:Expr}{pos:Pos}{env:Env}
theorem gU{op}:starEach (.BinOp a op b pos::bw) env=(false,eval (.BinOp a op b pos) env)::starEach bw env:=by simp only[starEach]
theorem S6:starEach (.IfExp a b c pos::bw) env=(false,eval (.IfExp a b c pos) env)::starEach bw env:=by simp only[starEach]
theorem uX{g sc}:starEach (.ListComp a g sc pos::bw) env=(false,eval (.ListComp a g sc pos) env)::starEach bw env:=by simp only[starEach]
theorem cc{k}:starEach (.Call a es k pos::bw) env=(false,eval (.Call a es k pos) env)::starEach bw env:=by simp only[starEach]
theorem nJ{v k}:starEach (.Constant v k pos::bw) env=(false,eval (.Constant v k pos) env)::starEach bw env:=by simp only[starEach]
theorem kr{x}:starEach (.Attribute a x pos::bw) env=(false,eval (.Attribute a x pos) env)::starEach bw env:=by simp only[starEach]
theorem me:starEach (.Subscript a b pos::bw) env=(false,eval (.Subscript a b pos) env)::starEach bw env:=by simp only[starEach]
theorem eS{x}:starEach (.Name x pos::bw) env=(false,eval (.Name x pos) env)::starEach bw env:=by simp only[starEach]
theorem wW:starEach (.List es pos::bw) env=(false,eval (.List es pos) env)::starEach bw env:=by simp only[starEach]
theorem uY{k}:starEach (.Tuple es k pos::bw) env=(false,eval (.Tuple es k pos) env)::starEach bw env:=by simp only[starEach]
end
def At (K:PySem.W.Frag)(mg:Str->Option Value)(x:Str)(st:Stmt)(ps:List Str):Prop:=
 ∃ f fd,kY K x x st f fd/\mg x=some (.ref f)/\iL K fd ps []
def ay (P:Program)(w:World)(K:PySem.W.Frag)(mg:Str->Option Value)(base:Heap)(k:Nat)(x:Str)(n:Nat)(F:List D->OD):Prop:=
 ∃ f fd ps,bW P w K mg base dh k f fd ps (lV K n F)/\mg x=some (.ref f)/\PySem.W.keepIn K (.ref f)=true/\iL K fd ps []
theorem ay.mk{w:World}{k:Nat}(a:At K mg x st ps)(S:af N ps (aJ st))
  (h:∀ (f:Addr) (aN:Value) (A:Around) (outer:List Env) (s:Shared) (H:Hp) (E:XK),aw k (A.deeper (envOfC x (aJ st) s.heap.objs.size f aN))->oM (fw dh P w K mg base N x (aJ st) f aN A outer s H E).cU (eP st) body) :
  ay P w K mg base (k+1) x ps.length (bH N.length body):=by
 obtain⟨f,fd,F,m,b⟩:=a
 exact⟨f,fd,ps,Cv F S (h f),m,F.kp,b⟩
section
variable {X:Cx}{a b c e:Expr}{es bw:List Expr}{fa fb fc f:aF}{g:bN}{pos p p1 p2 ar apos:Pos}
theorem bc{j k:Nat}{F:List D->OD}(C:ay X.prog X.w X.K X.mg X.base k x n F)(hr:aw j X.A)(hk:k<=j)(ha:eV X (e::es) g)(hg:Gl X x:=by rfl)(fT:(x==("__debug__":Str))=false:=by decide)(he:starEach (e::es) X.env=(false,eval e X.env)::starEach es X.env:=by rfl)(bG:(backTo pos (starEach es X.env)).any (·.1)=false:=by rfl):QD X (.Call (.Name x p) (e::es) [] pos) (aK F n g):=⟨have ha:=ha.o;by
 obtain⟨f,fd,ps,G,hm,wX,hb⟩:=C
 exact R6 G (hr.mono hk) hm wX hb uH ha hg fT he bG⟩
end
theorem S7{F:List D->OD}(h:∀ ns:List Int,ns.length<=63->∃ q,F [.lst (ns.map D.int)]=some (.bl true,q)){a:Addr}{ns:List Int}(hl:ns.length<=63)(hS:cL K H a (ns.map V.int))(tb:TB K H){E:XK} :
  lV K 1 F [.ref a] H (fun v _=>v=.bl true) E:=by
 obtain⟨q,e⟩:=h ns hl
 have r:Rep K H (fun _=>none) .f 0 (.lst (ns.map D.int)) (.ref a) []:=by
  rcases cL.cases hS with z|z
  ·exact .shr z rfl (zD ns)
  ·exact .kl z (zD ns)
 exact⟨rfl,[.lst (ns.map D.int)],fun _=>none,.bl true,q,(fun a o z=>nomatch z),⟨(fun a o z=>nomatch z),tb⟩,.cons (F:=[]) (G:=[]) r .nil nM,e,fun v H' w' Fo _ _ rr=>by cases rr;rfl⟩
theorem S8{w:World}{k:Nat}{f:Addr}{fd:FuncData}(F:kY K x x st f fd)(S:af N ps (aJ st))
  (h:∀ (f:Addr) (aN:Value) (A:Around) (outer:List Env) (s:Shared) (H:Hp) (E:XK),aw k (A.deeper (envOfC x (aJ st) s.heap.objs.size f aN))->oM (fw dh P w K mg base N x (aJ st) f aN A outer s H E).cU (eP st) body) :
  bW P w K mg base dh (k+1) f fd ps (lV K ps.length (bH N.length body)):=Cv F S (h f)
abbrev j7t:=List D->aS->Option aS
theorem Hu:∀ {bs:List Bool} {us:List Value},a_ (bs.map V.bl) us->LSm.BoolsAre us bs
 | [],_,h=>by cases h;exact .nil
 | b::bs,_,h=>by
  cases h with
  | cons r rr=>
   cases r
   exact .cons b (Hu rr)
section
variable {X:Cx}{a b c e:Expr}{es:List Expr}{fa fb fc f:aF}{g:bN}{pos p p1 p2:Pos}
theorem S9(hc:X.calm=true):mJ X (.builtin "all") (fun xs H Q=>∃ (a:Addr) (bs:List Bool),xs=[.ref a]/\cL X.K H a (bs.map V.bl)/\Q (.bl (bs.all id)) H):=by
 intro pins s σ H xs us Q I r h
 obtain⟨l,bs,rfl,hq,q⟩:=h
 obtain⟨u,rfl,ru⟩:=lN r
 cases ru
 obtain⟨aq,rv,pl,hz⟩:=I.list hq
 have hb:=Hu rv
 have hl:s.heap.IsList l aq.toArray:=pl.isList
 have lt:l<s.heap.objs.size:=by obtain⟨_,e,_⟩:=hl;exact Ql e
 refine call_all_walk (Yf hl ⟨s.heap.objs.size,[s.heap.objs.size,l],[s.heap.objs.size],aq.toArray.size,_,_,fun i=>(bs[i]?).getD true,rfl,Walks.list (A:=X.A.in1) (I.ok.hd hc) _ l (QI lt) aq.toArray,
  ⟨⟨_,Qs _ rfl,rfl,rfl⟩,hl.push _⟩,fun i v s' Q' E' hP hQ=>?_,fun h' tk hk=>?_⟩)
 ·obtain⟨b,e,rfl⟩:=hb.get i v (by simpa using hP)
  simp only[e,Option.getD_some]at hQ
  exact Zj hQ
 ·have e:((List.range aq.toArray.size).all fun i=>(bs[i]?).getD true)=bs.all id:=by
   rw[Qk,hb.length];exact LSm.range_all bs
  rw[e]
  exact⟨.bl (bs.all id),H,I.kept fun b o z=>hk b o (fun m=>by rw[QC.mp m]at z;exact QN _ (Ql z)) (Qc _ z),rfl,q⟩
def qQ:List D->Option (List Bool)
 | []=>some []
 | .bl b::r=>(qQ r).map (b :: ·)
 | _=>none
def qR:List D->Option D
 | [.lst ds]=>(qQ ds).map fun bs=>.bl (bs.all id)
 | _=>none
theorem Hv:∀ {ds:List D} {vs:List V} {bs:List Bool},ag K H w o 0 ds vs []->qQ ds=some bs->vs=bs.map V.bl
 | ds,vs,bs,r,e=>by
  generalize hF:([]:List Addr)=F at r
  cases r with
  | nil=>cases e;rfl
  | @cons _ d v br iw F' G' r1 r2 _=>
   have h2:G'=[]:=r2.zero
   subst h2
   cases r1 with
   | bl b=>
    unfold qQ at e
    cases e':qQ br with
    | none=>rw[e']at e;cases e
    | some bs'=>
     rw[e']at e
     cases e
     rw[Hv r2 e']
     rfl
   | _=>cases e
theorem Hw(hc:X.calm=true)(hm:X.mg "all" = none)(ha:eV X [a] g)(hg:Gl X "all":=by rfl)(he:starEach [a] X.env=(false,eval a X.env)::starEach [] X.env:=by rfl)(bG:(backTo pos (starEach [] X.env)).any (·.1)=false:=by rfl):QD X (.Call (.Name "all" p) [a] [] pos) (eB qR g):=⟨have ha:=ha.o;PE.imp (qB (S9 hc) hg hm PyProof.Rows.boot_all ha (by decide) (by decide) he bG) (CC fun ds d h=>by
  unfold qR at h
  split at h
  next cq=>
   cases e:qQ cq with
   | none=>rw[e]at h;cases h
   | some bs=>
    rw[e]at h
    cases h
    refine⟨_,rfl,fun H w vs wl r Q hq=>?_⟩
    obtain⟨v,rfl,rv⟩:=one r
    obtain⟨p,ys,rfl,hs,rs⟩:=rv.gB
    rw[Hv rs e]at hs
    exact⟨p,bs,rfl,hs,hq⟩
  ·cases h)⟩
theorem Hx{α:Type}(l:List α)(f:α->Bool):qQ (l.map fun i=>.bl (f i))=some (l.map f):=by
 induction l with
 | nil=>rfl
 | cons a l ih=>rw[QR,qQ,ih];rfl
end
inductive IT where
 | int|bool|tuple|list|str
def IT.nm:IT->String
 | .int=>"int"
 | .bool=>"bool"
 | .tuple=>"tuple"
 | .list=>"list"
 | .str=>"str"
def ib:IT->D->Bool
 | .int,.int _=>true
 | .int,.bl _=>true
 | .bool,.bl _=>true
 | .tuple,.tup _=>true
 | .list,.lst _=>true
 | .str,.str _=>true
 | _,_=>false
def Hy:D->String
 | .au=>"NoneType"
 | .bl _=>"bool"
 | .int _=>"int"
 | .str _=>"str"
 | .tup _=>"tuple"
 | .gy _ _=>"dict"
 | .exc _=>"object"
 | .ob _ _ _ _=>"function"
 | .mp _ _=>"dict"
 | .lst _=>"list"
section
variable {X:Cx}{pins:List (Addr×Obj)}{σ:St}{H:Hp}{s:Shared}
theorem S_{x:V}{c:Value}{b:Bool}{A:Around}{E:Value->Shared->Prop}(I:Inv X pins σ H s)(rx:bh x u)(r:Rep X.K H w o q d x F)
  (e:PySem.W.kitOne X.K (.type (Hy d)) c=some b) (hx:∀ nm,d ≠ .exc nm) (hi:∀ C fs p ds,d ≠ .mp (.i C fs p) ds) (h:∀ tk,Q (.bool b) { s with toks:=tk }):wpAny (model X.prog X.w) A (call (.builtin "isinstance") [u,c]) Q E s:=by
 cases r with
 | exc _ _ _=>exact absurd rfl (hx _)
 | ob h1 h2 x r=>
  cases rx
  obtain⟨e1,_⟩:=(show cR X.prog X.w H s.heap _ (.bZ _ _)from I.az _ _ h1)
  exact Q5 RY I.dC ⟨_,e1,x.1⟩ e (fun z=>nomatch z) h
 | au=>exact j9 I rx .au e h
 | bl y=>exact j9 I rx (.bl y) e h
 | int i=>exact j9 I rx (.int i) e h
 | str y=>exact j9 I rx (.str y) e h
 | tup ha _=>exact j9 I rx (.tup ha) e h
 | gy ha _ _=>exact j9 I rx (.dK ha) e h
 | kl ha _=>
  obtain⟨ob,aq,n,hk,hc,hd,_⟩:=ha
  cases rx
  exact Q5 Yd I.dC ⟨ob,I.dC _ _ hk,hc⟩ e (fun z=>nomatch z) h
 | shr ha _ _=>
  rcases ha with ha|⟨ob,ha⟩
  ·exact j9 I rx (.lst ha) e h
  ·exact j9 I rx (.bZ ha) e h
 | own ha _ _ _=>exact j9 I rx (.lst ha) e h
 | @oF a vs ds k y ha i _ _ _=>
  cases k with
  | t ks=>cases i;exact j9 I rx (.dT ha) e h
  | k ks=>cases i;exact j9 I rx (.dK ha) e h
  | i C fs p=>exact absurd rfl (hi _ _ _ _)
 | @gz q a vs ds k y ha i _ _ _=>
  cases k with
  | t ks=>cases i;exact j9 I rx (.dT ha) e h
  | k ks=>cases i;exact j9 I rx (.dK ha) e h
  | i C fs p=>exact absurd rfl (hi _ _ _ _)
theorem Ta{C:Str}{fs:List Str}{pn:Option Addr}{x:V}{A:Around}{E:Value->Shared->Prop}(I:Inv X pins σ H s)(rx:bh x u)(r:Rep X.K H w o q (.mp (.i C fs pn) ds) x F)
  (T:IT) (h:∀ tk,Q (.bool false) { s with toks:=tk }):wpAny (model X.prog X.w) A (call (.builtin "isinstance") [u,.type T.nm]) Q E s:=by
 cases r with
 | oF ha i _ _ _=>
  obtain⟨C,dx,_,rfl,c,_⟩:=i
  exact j9 I rx (.ins ha c.cl c.ha c.hn c.vQ c.hm) (c.no _ (by cases T<;>simp[IT.nm])) h
 | gz ha i _ _ _=>
  obtain⟨C,dx,_,rfl,c,_⟩:=i
  exact j9 I rx (.ins ha c.cl c.ha c.hn c.vQ c.hm) (c.no _ (by cases T<;>simp[IT.nm])) h
theorem Tb(T:IT)(d:D)(hx:∀ nm,d ≠ .exc nm):PySem.W.kitOne K (.type (Hy d)) (.type T.nm)=some (ib T d):=by
 cases T<;>cases d<;>first|rfl|exact absurd rfl (hx _)
end
section
variable {X:Cx}{a b c e:Expr}{es:List Expr}{fa fb fc f:aF}{ga gb:cf}{g:bN}{pos p p1 p2 pT:Pos}
theorem Tc(T:IT):mJ X (.builtin "isinstance") (fun xs H Q=>∃ x w o q F d,xs=[x,.ty T.nm]/\Rep X.K H w o q d x F/\Q (.bl (ib T d)) H):=by
 intro pins s σ H xs us Q I r h
 obtain⟨x,w,o,q,F,d,rfl,rd,hq⟩:=h
 obtain⟨u,v,rfl,ru,rv⟩:=y6 r
 cases rv
 by_cases hx:∃ nm,d=.exc nm
 ·obtain⟨nm,rfl⟩:=hx
  cases rd with
  | exc ha xo _=>
   obtain⟨C,hc,k⟩:=xo
   cases ru
   obtain⟨e1,_⟩:=(show cR X.prog X.w H s.heap _ (.bZ _ _)from I.az _ _ ha)
   have hT:ib T (.exc nm)=false:=by cases T<;>rfl
   rw[hT]at hq
   refine RP (x:=_) I.dC ⟨e1,hc⟩ k.xc (by cases T<;>kernel_rfl) (k.no _ (by cases T<;>simp[IT.nm])) ⟨.bl false,H,I.tok _,rfl,hq⟩
 ·by_cases hi:∃ C fs p ds,d=.mp (.i C fs p) ds
  ·obtain⟨C,fs,p,ds,rfl⟩:=hi
   exact Ta I ru rd T fun tk=>⟨.bl (ib T (.mp (.i C fs p) ds)),H,I.tok _,by cases T<;>rfl,hq⟩
  ·exact S_ I ru rd (Tb T d fun nm z=>hx ⟨nm,z⟩) (fun nm z=>hx ⟨nm,z⟩) (fun C fs p ds z=>hi ⟨C,fs,p,ds,z⟩) fun tk=>⟨.bl (ib T d),H,I.tok _,rfl,hq⟩
@[simp] def tw (T:IT)(fa:aF):aF:=fun ρ=>match fa ρ with
 | some (d,_,ρ1)=>some (.bl (ib T d),9,ρ1)
 | none=>none
theorem wY(T:IT){t:Str}(hm:X.mg "isinstance" = none)(C2:X.mg t=none)(Td:bootBuiltins t=some (.type T.nm))(ha:QD X a fa)(hg:Gl X "isinstance":=by rfl)(wZ:Gl X t:=by rfl)(Te:t ≠ "__name__":=by decide)(C3:(t==("__debug__":Str))=false:=by decide)(hs:starEach [a,.Name t pT] X.env=(false,eval a X.env)::starEach [.Name t pT] X.env:=by rfl)(bG:(backTo pos (starEach [.Name t pT] X.env)).any (·.1)=false:=by rfl):QD X (.Call (.Name "isinstance" p) [a,.Name t pT] [] pos) (tw T fa):=⟨have ha:=ha.o;PE.imp (qB (Tc T) hg hm ZY (jU ha (jU (FD (v:=.ty T.nm) wZ C2 Td rfl Te C3) mL eS) hs) (by decide) (by decide) hs bG) fun σ H Q aj=>by
 obtain⟨ρ,w,t,r',q,ρ',gd,ee,k⟩:=aj
 unfold tw at ee
 split at ee
 next d q1 ρ1 h1=>
  cases ee
  refine⟨ρ,w,t,_,_,_,gd,h1,fun v H1 w1 F1 g1 aD r1=>?_⟩
  exact⟨v,w1,_,_,F1,d,rfl,r1,k _ H1 (cA t w1) [] g1.drop.up (aD.drop gd.wt) (.bl _)⟩
 ·cases ee⟩
@[simp] def ig (g1 g2:D->D->Option D)(fa fb fc:aF):aF:=fun ρ=>match fa ρ with
 | some (x,_,ρ1)=>match fb ρ1 with
  | some (y,_,ρ2)=>match g1 x y with
   | some (.bl true)=>match fc ρ2 with
    | some (z,_,eW)=>match g2 y z with
     | some d=>some (d,9,eW)
     | none=>none
    | none=>none
   | some (.bl false)=>some (.bl false,9,ρ2)
   | _=>none
  | none=>none
 | none=>none
theorem Tf(ho:cN X (compareOp op) (j7 h1))(gY:cN X (compareOp lG) (j7 h2))(e1:∀ i j d,g1 i j=some d->jx d=some (h1 i j))(mf:∀ i j d,g2 i j=some d->jx d=some (h2 i j))
  (ha:PD X a fa) (hb:PD X b fb) (hc:PD X c fc) (hm:lastMarks [op,lG] [b,c]=false:=by with_unfolding_all rfl):PD X (.Compare a [op,lG] [b,c] pos) (ig (gI g1) (gI g2) fa fb fc):=PE.imp (Ov ho gY ha hb hc hm) fun σ H Q aj=>by
 obtain⟨ρ,w,t,r',q,ρ',gd,ee,k⟩:=aj
 unfold ig at ee
 split at ee
 next x q1 ρ1 a1=>
  split at ee
  next y q2 ρ2 a2=>
   refine sT gd a1 a2 fun u v H2 w2 F1 F2 w9 bb r1 r2=>?_
   have gg:=w9.drop (t':=t)
   split at ee
   next hg=>
    obtain⟨i,j,rfl,rfl,pM⟩:=qL hg
    refine⟨i,j,fx r1,fx r2,true,by have:=e1 i j _ pM;simpa [jx]using this.symm,?_⟩
    rw[Qe rfl]
    split at ee
    next z q3 eW a3=>
     refine⟨ρ2,cA t w2,t,z,q3,eW,gg,a3,fun v3 H3 w3 F3 g3 dm r3=>?_⟩
     split at ee
     next d hd=>
      cases ee
      obtain⟨j',l,ej,rfl,kR⟩:=qL hd
      cases ej
      exact⟨j,l,fx r2,fx r3,pA k gd g3 ((bb.drop gd.wt).trans dm) (wB (mf j l _ kR))⟩
     ·cases ee
    ·cases ee
   next hg=>
    obtain⟨i,j,rfl,rfl,pM⟩:=qL hg
    cases ee
    refine⟨i,j,fx r1,fx r2,false,by have:=e1 i j _ pM;simpa [jx]using this.symm,?_⟩
    rw[Qg (by decide)]
    exact pA k gd w9 bb (.bl false)
   ·cases ee
  ·cases ee
 ·cases ee
theorem Tg(ha:QD X a fa)(hb:QD X b fb)(hc:QD X c fc)(hm:lastMarks [.LtE,.Lt] [b,c]=false:=by with_unfolding_all rfl):QD X (.Compare a [.LtE,.Lt] [b,c] pos) (ig iP iO fa fb fc):=⟨have ha:=ha.o;have hb:=hb.o;have hc:=hc.o;Tf y4 BG (fun i j d h=>by cases h;rfl) (fun i j d h=>by cases h;rfl) ha hb hc hm⟩
@[simp] def j8m (fa:aF):aF:=fun ρ=>match fa ρ with
 | some (.int i,_,ρ1)=>some (.int (-i),9,ρ1)
 | _=>none
section
variable {prog:Program}{w:World}{A:Around}{E:Value->Shared->Prop}{s:Shared}
theorem Th(l b:Addr)(us vs:Array Value)(n m:Nat)(d1 d2:Option Addr)(s1 s2:Array (Option Value))(h0:us.isEmpty=true) :
  Meets (Builtin.«tuple.__add__» ⟨[.ref l,.ref b],[]⟩) (fun _ R s=>s.heap.get? l=some { cls:=.type "tuple",dict:=d1,data:=.seq us n,slots:=s1 }/\s.heap.get? b=some { cls:=.type "tuple",dict:=d2,data:=.seq vs m,slots:=s2 }/\R (.ok (.ret (.ref b))) s):=
 .of_wp fun prog w A R s h=>by
  obtain⟨hp,g,d,tk,os⟩:=s
  obtain⟨hl,hb,h⟩:=h
  have f2:=AutoSeq1.sub_tuple_tuple
  wp_walk using wpAny_loadPart' hl,wpAny_loadPart' hb
  exact⟨_,rfl,h⟩
theorem Ti{t b:Addr}{ws:List Value}(ht:IsTup s.heap t #[])(hb:IsTup s.heap b ws.toArray)(h:Q (.ref b) s):wpAny (model prog w) A (binaryOp .Add (.ref t) (.ref b)) Q E s:=by
 obtain⟨⟨c1,d1,a1,s1⟩,e1,nH,n1,Hz⟩:=id ht
 obtain⟨⟨c2,d2,a2,s2⟩,e2,ji,n2,HA⟩:=id hb
 simp only at nH Hz ji HA
 subst nH Hz ji HA
 exact Yx ⟨_,e1,rfl⟩ ⟨_,e2,rfl⟩ Yn seq_tuple_add Jq Jl (Je _ _) (Th t b #[] ws.toArray n1 n2 d1 d2 s1 s2 rfl) ⟨e1,e2,h⟩
end
theorem Tj:cN X (binaryOp .Add) (fun x y H Q=>∃ a b ys,x=.ref a/\y=.ref b/\dO X.K H a []/\dO X.K H b ys/\Q (.ref b) H):=by
 intro pins s σ H x y v u Q I rx ry h
 obtain⟨a,b,ys,rfl,rfl,ha,hb,q⟩:=h
 cases rx
 cases ry
 obtain⟨aq,r1,p1,_⟩:=I.tuple ha
 obtain⟨g8,r2,p2,_⟩:=I.tuple hb
 cases r1
 exact Ti p1 p2 ⟨.ref b,H,I,rfl,q⟩
theorem cN.or{f:Value->Value->Sem Value}{r r':R2}(h:cN X f r)(h':cN X f r'):cN X f (fun x y H Q=>r x y H Q\/r' x y H Q):=fun pins s σ H x y v u Q I rx ry q=>q.elim (fun z=>h pins s σ H x y v u Q I rx ry z) fun z=>h' pins s σ H x y v u Q I rx ry z
@[simp] def qS (fa fb:aF):aF:=fun ρ=>match fa ρ with
 | some (.tup ds,_,ρ1)=>match fb ρ1 with
  | some (.tup es,_,ρ2)=>if ds.length+es.length<=1000 then some (.tup (ds++es),9,ρ2)else none
  | _=>none
 | _=>none
theorem zO(ha:QD X a fa)(hb:QD X b fb):QD X (.BinOp a .Add b pos) (qS fa fb):=⟨have ha:=ha.o;have hb:=hb.o;PE.imp (o_ (cN.or Tj Pn) ha hb) fun σ H Q aj=>by
 obtain⟨ρ,w,t,r',q,ρ',gd,ee,k⟩:=aj
 unfold qS at ee
 split at ee
 next ds q1 ρ1 h1=>
  split at ee
  next es q2 ρ2 h2=>
   split at ee
   next hl=>
    cases ee
    refine sT gd h1 h2 fun u u' H2 w2 F1 F2 g2 go r1 r2=>?_
    have zP:=r1.drop (o:=.f) (Qf t)
    have zQ:=r2.drop (o:=.f) (Z6 t)
    have gg:=g2.drop (t':=t)
    have w_:=go.drop gd.wt
    obtain⟨p1,vs,rfl,tz,s1⟩:=zP.hZ
    obtain⟨p2,us,rfl,zR,s2⟩:=zQ.hZ
    have l1:=s1.length
    have l2:=s2.length
    cases ds with
    | nil=>
     have:vs=[]:=Zr.mp (by rw[<- l1];rfl)
     subst this
     refine .inl ⟨p1,p2,us,rfl,rfl,tz,zR,k _ H2 (cA t w2) [] gg.up w_ ?_⟩
     exact(Rep.go gg.wl (fun a x e n=>⟨sm e,n⟩) zQ nM:Rep X.K H2 (cA t w2) (.t t) 0 _ _ []).b_ rfl |>.2 9
    | cons d ds=>
     refine .inr ⟨p1,p2,vs,us,rfl,rfl,tz,zR,(fun z=>by rw[z]at l1;cases l1),uQ (by rw[<- l1,<- l2];exact hl),fun z=>?_,fun _ p hp=>?_⟩
     ·have:es=[]:=Zr.mp (by rw[l2,z];rfl)
      subst this
      rw[Za]at k
      exact k _ H2 (cA t w2) [] gg.up w_ ((Rep.go gg.wl (fun a x e n=>⟨sm e,n⟩) zP nM:Rep X.K H2 (cA t w2) (.t t) 0 _ _ []).b_ rfl |>.2 9)
     ·obtain⟨a1,a2,a3⟩:=uM gg hp (s2.app s1)
      exact k _ _ _ _ a1 (w_.trans a2) a3
   ·cases ee
  ·cases ee
 ·cases ee⟩
abbrev tB:=aS->Option (Option Int×aS)
def Tn (K:PySem.W.Frag)(f:tB):TO:=fun σ H Q=>∃ ρ w t o ρ',Good K ρ σ H w t/\f ρ=some (o,ρ')/\∀ H' w',Good K ρ' σ H' w' t->Go H w H' w'->Q o H'
abbrev To (X:Cx)(e:Option Expr)(f:tB):Prop:=PO X e (Tn X.K f)
structure zS (X:Cx) (e:Option Expr) (f:tB):Prop where mk::o:To X e f
@[simp] def C4:tB:=fun ρ=>some (none,ρ)
@[simp] def zT (f:aF):tB:=fun ρ=>match f ρ with
 | some (.int i,_,ρ1)=>some (some i,ρ1)
 | _=>none
theorem PO.imp{e:Option Expr}{t t':TO}(h:PO X e t)(i:∀ σ H Q,t' σ H Q->t σ H Q):PO X e t':=fun pins s σ H Q I q=>h pins s σ H Q I (i σ H Q q)
theorem HB:zS X none C4:=⟨PO.imp Pf fun σ H Q aj=>by
 obtain⟨ρ,w,t,o,ρ',gd,ee,k⟩:=aj
 cases ee
 exact k H w gd Go.refl⟩
theorem HC(h:QD X e f):zS X (some e) (zT f):=⟨have h:=h.o;PO.imp (Pg h) fun σ H Q aj=>by
 obtain⟨ρ,w,t,o,ρ',gd,ee,k⟩:=aj
 unfold zT at ee
 split at ee
 next i q1 ρ1 h1=>
  cases ee
  exact⟨ρ,w,t,_,_,_,gd,h1,fun v H1 w1 F1 g1 aD r1=>⟨i,fx r1,k H1 (cA t w1) g1.drop (aD.drop gd.wt)⟩⟩
 ·cases ee⟩
section
variable {prog:Program}{w:World}{A:Around}{E:Value->Shared->Prop}{s:Shared}
theorem Tp{t sl:Addr}{us:Array Value}{vl vu:Value}{lo hi:Option Int}(ht:IsTup s.heap t us)(hs:s.heap.IsSliceOf sl vl vu .none)(pl:IsPart vl lo)(pu:IsPart vu hi)
  (hw:HT.bo us.size 0 lo=0/\HT.bo us.size us.size hi=us.size) (h:Q (.ref t) s):wpAny (model prog w) A (getItem (.ref t) (.ref sl)) Q E s:=by
 obtain⟨os,sC,sD,vV⟩:=id hs
 have ts:s.TypeIs (.ref sl) "slice":=⟨os,sC,sD⟩
 unfold getItem
 try with_reducible refine Zl ?_
 first|refine Qa (Qj ?_)|skip
 refine Qa (wpAny_sequenceKey ht.typeIs (by decide) (Qa (wpAny_callSpecial?_slot (name:=Str.ofString "__getitem__") ht.typeIs Q4 (wpAny_call_entry Q4 ht.typeIs entry_tuple_getitem ?_ (args_tuple_getitem _ _)))))
 show wpAny _ _ (Builtin.Tuple.tupleItemsOf (.ref t) >>= _) _ _ s
 refine Qa (tupleItemsOf_ ht (Qa (Yy ts ?_)))
 rw[Qe (by decide)]
 refine Qa (HT.Gf hs pl pu ?_)
 have yes:(((HT.bo us.size 0 lo:Nat):Int)==0&&(1:Int)==1&&(HT.bo us.size us.size hi-HT.bo us.size 0 lo)==us.size)=true:=by rw[hw.1,hw.2];simp
 show wpAny _ _ (if(((HT.bo us.size 0 lo:Nat):Int)==0&&(1:Int)==1&&(HT.bo us.size us.size hi-HT.bo us.size 0 lo)==us.size)=true then _ else _) _ _ s
 rw[Qe yes]
 refine Qa (m:=Builtin.Tuple.tupleIsExact _) ?_
 unfold Builtin.Tuple.tupleIsExact
 refine Qa (Yy ht.typeIs (Qj ?_))
 rw[Qe (by decide)]
 exact Qa (wpAny_rule (Qj ⟨_,rfl,Qj h⟩))
end
def pN (xs:List D)(lo hi:Option Int):List D:=(xs.drop (HT.bo xs.length 0 lo)).take (HT.bo xs.length xs.length hi-HT.bo xs.length 0 lo)
@[simp] def zU (fa:aF)(fl fh:tB):aF:=fun ρ=>match fa ρ with
 | some (.tup ds,_,ρ1)=>match fl ρ1 with
  | some (lo,ρ2)=>match fh ρ2 with
   | some (hi,eW)=>some (.tup (pN ds lo hi),9,eW)
   | none=>none
  | none=>none
 | _=>none
theorem ag.qT:∀ {ds:List D} {vs:List V} (i:Nat),ag K H w .f 0 ds vs []->ag K H w .f 0 (ds.take i) (vs.take i) []
 | _,_,0,_=>by rw[List.take_zero,List.take_zero];exact .nil
 | ds,vs,i+1,r=>by
  generalize hF:([]:List Addr)=F at r
  cases r with
  | nil=>exact .nil
  | cons r s _=>
   have h2:=s.zero
   have h1:=r.zero
   subst h2
   subst h1
   exact .cons (F:=[]) (G:=[]) r (ag.qT i s) nM
theorem Tq:qC X (fun x lo hi H Q=>∃ a xs,x=.ref a/\dO X.K H a xs/\(HT.bo xs.length 0 lo=0/\HT.bo xs.length xs.length hi=xs.length)/\Q (.ref a) H):=by
 intro pins s σ H x v vl vu lo hi sl Q I rx hs pl pu h
 obtain⟨a,xs,rfl,hx,hw,q⟩:=h
 cases rx
 obtain⟨aq,r,ht,hz⟩:=I.tuple hx
 have hlen:aq.toArray.size=xs.length:=by rw[Qk];exact r.length.symm
 exact⟨"tuple",_,Q4.lookup,ht.typeIs,Tp ht hs pl pu (by rw[hlen];exact hw) ⟨.ref a,H,I,rfl,q⟩⟩
theorem HD{lo hi:Option Expr}{fl fh:tB}(ha:QD X a fa)(hl:zS X lo fl)(hh:zS X hi fh):QD X (.Subscript a (.Slice lo hi none p2) pos) (zU fa fl fh):=⟨have ha:=ha.o;have hl:=hl.o;have hh:=hh.o;PE.imp (Pj (Tq.or Pl) ha hl hh) fun σ H Q aj=>by
 obtain⟨ρ,w,t,r',q,ρ',gd,ee,k⟩:=aj
 unfold zU at ee
 split at ee
 next ds q1 ρ1 h1=>
  split at ee
  next lo ρ2 h2=>
   split at ee
   next hi eW h3=>
    cases ee
    refine⟨ρ,w,t,_,_,_,gd,h1,fun v H1 w1 F1 g1 aD r1=>?_⟩
    have HE:=g1.drop (t':=t)
    have r0:=r1.drop (o:=.f) (Qf t)
    refine⟨ρ1,cA t w1,t,_,_,HE,h2,fun H2 w2 g2 bb=>⟨ρ2,w2,t,_,_,g2,h3,fun H3 w3 g3 dm=>?_⟩⟩
    have r3:=(r0.kg HE.wl bb.ba).kg g2.wl dm.ba
    obtain⟨p1,vs,rfl,tz,s1⟩:=r3.hZ
    have l1:=s1.length
    by_cases hw:HT.bo ds.length 0 lo=0/\HT.bo ds.length ds.length hi=ds.length
    ·have ec:pN ds lo hi=ds:=by unfold pN;rw[hw.1,hw.2,List.drop_zero,Nat.sub_zero,Jb]
     rw[ec]at k
     refine .inl ⟨p1,vs,rfl,tz,by rw[<- l1];exact hw,?_⟩
     exact k _ H3 w3 [] g3.up (((aD.drop gd.wt).trans bb).trans dm) ((Rep.go g3.wl (fun a x e n=>⟨sm e,n⟩) r3 nM:Rep X.K H3 w3 (.t t) 0 _ _ []).b_ rfl |>.2 9)
    ·refine .inr ⟨p1,vs,rfl,tz,by rw[<- l1];exact hw,fun p hp=>?_⟩
     have s4:ag X.K H3 w3 .f 0 (pN ds lo hi) (qD vs lo hi) []:=by
      unfold pN qD
      rw[<- l1]
      exact(s1.qN _).qT _
     obtain⟨a1,a2,a3⟩:=uM g3 hp s4
     exact k _ _ _ _ a1 ((((aD.drop gd.wt).trans bb).trans dm).trans a2) a3
   ·cases ee
  ·cases ee
 ·cases ee⟩
end
section
variable {X:Cx}{a b c e:Expr}{es:List Expr}{fa fb fc f:aF}{ga gb:cf}{g:bN}{pos p p1 p2 ar apos:Pos}
theorem HF(ho:cN X (compareOp op) (j7 h1))(gY:cN X (compareOp lG) (j7 h2))(e1:∀ i j d,g1 i j=some d->jx d=some (h1 i j))(mf:∀ i j d,g2 i j=some d->jx d=some (h2 i j))
  (ha:PD X a fa) (hb:PD X b fb) (hc:PD X c fc) (hm:lastMarks [op,lG] [b,c]=false:=by with_unfolding_all rfl):Cq X (.Compare a [op,lG] [b,c] pos) (bj (ig (gI g1) (gI g2) fa fb fc)):=PT.imp (Ox ho gY ha hb hc hm) (GZ fun σ H Q aj=>by
 obtain⟨ρ,w,t,r',q,ρ',gd,ee,k⟩:=aj
 unfold ig at ee
 split at ee
 next x q1 ρ1 a1=>
  split at ee
  next y q2 ρ2 a2=>
   refine sT gd a1 a2 fun u v H2 w2 F1 F2 w9 bb r1 r2=>?_
   have gg:=w9.drop (t':=t)
   split at ee
   next hg=>
    obtain⟨i,j,rfl,rfl,pM⟩:=qL hg
    refine⟨i,j,fx r1,fx r2,true,by have:=e1 i j _ pM;simpa [jx]using this.symm,?_⟩
    rw[Qe rfl]
    split at ee
    next z q3 eW a3=>
     refine⟨ρ2,cA t w2,t,z,q3,eW,gg,a3,fun v3 H3 w3 F3 g3 dm r3=>?_⟩
     split at ee
     next d hd=>
      cases ee
      obtain⟨j',l,ej,rfl,kR⟩:=qL hd
      cases ej
      exact⟨j,l,fx r2,fx r3,pA k gd g3 ((bb.drop gd.wt).trans dm) (wB (mf j l _ kR))⟩
     ·cases ee
    ·cases ee
   next hg=>
    obtain⟨i,j,rfl,rfl,pM⟩:=qL hg
    cases ee
    refine⟨i,j,fx r1,fx r2,false,by have:=e1 i j _ pM;simpa [jx]using this.symm,?_⟩
    rw[Qg (by decide)]
    exact pA k gd w9 bb (.bl false)
   ·cases ee
  ·cases ee
 ·cases ee)
theorem HG(ha:QD X a fa)(hb:QD X b fb)(hc:QD X c fc)(hm:lastMarks [.LtE,.Lt] [b,c]=false:=by with_unfolding_all rfl):h_ X (.Compare a [.LtE,.Lt] [b,c] pos) (bj (ig iP iO fa fb fc)):=⟨have ha:=ha.o;have hb:=hb.o;have hc:=hc.o;HF y4 BG (fun i j d h=>by cases h;rfl) (fun i j d h=>by cases h;rfl) ha hb hc hm⟩
theorem Tr(ha:QD X a fa)(hb:QD X b fb)(hc:QD X c fc)(hm:lastMarks [.LtE,.LtE] [b,c]=false:=by with_unfolding_all rfl):h_ X (.Compare a [.LtE,.LtE] [b,c] pos) (bj (ig iP iP fa fb fc)):=⟨have ha:=ha.o;have hb:=hb.o;have hc:=hc.o;HF y4 y4 (fun i j d h=>by cases h;rfl) (fun i j d h=>by cases h;rfl) ha hb hc hm⟩
@[simp] def C5 (i:Nat)(f:aF):aF:=fun ρ=>if uV ρ[i]? = true then match f ρ with
 | some (.lst es,1,ρ1)=>match ρ1[i]? with
  | some (some (.lst ds,1))=>if ds.length+es.length<=1000 then some (.au,9,ρ1.set i (some (.lst (ds++es),1)))else none
  | _=>none
 | _=>none
 else none
theorem Ts(h:QE X (.Name x p1) (eh i))(ha:QD X e f)(cy:attributeBase (.Name x p1) "extend" X.env (eval (.Name x p1) X.env)=eval (.Name x p1) X.env:=by rfl)(eu:((backTo ar (starEach [e] X.env)).all (fun x=>!x.1)&&(backToKw ar (keywordEach [] X.env)).all (fun x=>x.1.isSome)
   && decide ([e].length+([]:List Keyword).length+(if([]:List Keyword).isEmpty then 0 else 1)<30))=true:=by rfl) (cz:(apos.endLine==ar.line)=true:=by rfl) (hs:starEach [e] X.env=(false,eval e X.env)::starEach [] X.env:=by rfl) (bT:(backTo ar (starEach [] X.env)).any (·.1)=false:=by rfl):QD X (.Call (.Attribute (.Name x p1) "extend" apos) [e] [] ar) (C5 i f):=⟨have h:=h.o;have ha:=ha.o;PE.imp (uG ZB PySem.F.slot_list_extend PySem.F.type_list_extend PN h (jU ha mL hs) cy eu cz hs bT) fun σ H Q aj=>by
 obtain⟨ρ,w,t,r',q,ρ',gd,ee,k⟩:=aj
 unfold C5 at ee
 split at ee
 next hl=>
  obtain⟨l,gD,us,hq⟩:=gd.bM hl
  split at ee
  next kT ρ1 h1=>
   split at ee
   next ds e1=>
    split at ee
    next hlen=>
     cases ee
     refine⟨_,gD,.inl ⟨rfl,us,hq⟩,ρ,w,t,_,_,_,gd,h1,fun v H1 w1 F1 g1 aD r1=>?_⟩
     obtain⟨l',ws,gF,hH,rs,mk⟩:=g1.mut e1
     rw[gD]at gF
     cases gF
     cases r1 with
     | own hb _ rz _=>
      have z0:=rz.zero
      subst z0
      have HH:ag X.K H1 w1 .f 0 kT _ []:=rz.any g1.wl
      obtain⟨m1,m2⟩:=mk _ _ (HH.app rs)
      refine⟨l,_,ws,_,rfl,rfl,hH,hb,uQ (by rw[<- rs.length,<- HH.length];exact hlen),?_⟩
      exact k .au _ w1 [] m1 (aD.trans m2) .au
    ·cases ee
   ·cases ee
  ·cases ee
 ·cases ee⟩
end
section
variable {X:Cx}{a b c e:Expr}{es:List Expr}{fa fb fc f:aF}{ga gb gc:cf}{g:bN}{qa qb:ma}{s:aI}{pos p p1 p2 ar apos:Pos}
@[simp] def xa:aI:=fun _=>none
theorem C6:jm X st xa:=⟨PS.imp N5 fun D σ H aj=>by obtain⟨ρ,w,o,g,ee,k⟩:=aj;cases ee⟩
def nK (c:cf)(b:aI):Nat->aS->Option Out
 | 0,_=>none
 | m+1,ρ=>match c ρ with
  | none=>none
  | some (t,ρ1)=>if t=true then match b ρ1 with
    | none=>none
    | some (.nx ρ2)=>nK c b m ρ2
    | some (.ct ρ2)=>nK c b m ρ2
    | some (.bk ρ2)=>some (.nx ρ2)
    | some (.rt d q)=>some (.rt d q)
   else some (.nx ρ1)
def C7 (c:cf)(b:aI):aI:=nK c b 1000
theorem Tt{body:List Stmt}(hp:PassesOwn (model X.prog X.w) X.A X.env X.xe)(hc:h_ X c gc)(hb:dQ X body s):jm X (.While c body [] pos) (C7 gc s):=⟨have hc:=hc.o;have hb:=hb.o;PS.imp (N_ hp hc hb) fun D σ H aj=>by
 obtain⟨ρ,w,o,g,ee,k⟩:=aj
 refine⟨fun m aP H'=>aP.length=σ.length/\∃ ρ' w',Good X.K ρ' aP H' w' 0/\nK gc s m ρ'=some o/\oK X.K D σ.length H' w' o,⟨1000,rfl,ρ,w,g,ee,k⟩,?_⟩
 rintro m aP H' ⟨gD,ρ',w',g',e',k'⟩
 cases m with
 | zero=>cases e'
 | succ m=>
  unfold nK at e'
  split at e'
  ·cases e'
  next t ρ1 h1=>
   refine⟨ρ',w',0,t,ρ1,g',h1,fun H1 w1 g1 aD=>?_⟩
   cases t with
   | true=>
    rw[Qe rfl]at e' ⊢
    refine⟨fun lM H2=>lM.length=σ.length/\∃ ρ2 w2,Good X.K ρ2 lM H2 w2 0/\nK gc s m ρ2=some o/\oK X.K D σ.length H2 w2 o,fun lM H2 n2=>⟨m,Q2 m,n2⟩,?_⟩
    have nx:∀ {jn:aS},nK gc s m jn=some o->∀ kj H5 w5,kj.length=aP.length->Good X.K jn kj H5 w5 0->Go H1 w1 H5 w5->kj.length=σ.length/\∃ ρ2 w2,Good X.K ρ2 kj H5 w2 0/\nK gc s m ρ2=some o/\oK X.K D σ.length H5 w2 o:=fun {jn} e5 kj H5 w5 l5 g5 iT=>⟨by rw[l5,gD],jn,w5,g5,e5,k'.trans (aD.trans iT)⟩
    cases h6:s ρ1 with
    | none=>rw[h6]at e';cases e'
    | some o6=>
     rw[h6]at e'
     refine⟨ρ1,w1,o6,g1,h6,?_⟩
     cases o6 with
     | nx jn=>exact nx e'
     | ct jn=>exact nx e'
     | bk jn=>
      cases e'
      exact fun kj H5 w5 l5 g5 iT=>k' kj H5 w5 (by rw[l5,gD]) g5 (aD.trans iT)
     | rt d q=>
      cases e'
      exact fun v H5 w5 F Cu iT r5=>k' v H5 w5 F Cu (aD.trans iT) r5
   | false=>
    rw[Qg (by decide)]at e' ⊢
    cases e'
    exact k' aP H1 w1 gD g1 aD⟩
@[simp] def j8d (n:Nat)(qi:ma)(fe:aF):aI:=fun ρ=>match fe ρ with
 | some (d,_,ρ1)=>match qi ρ1,ρ1[n]? with
  | some i,some (some (.lst ds,1))=>match jj ds.length i with
   | some m=>some (.nx (ρ1.set n (some (.lst (ds.set m d),1))))
   | none=>none
  | _,_=>none
 | none=>none
def Tu (K:PySem.W.Frag):R2:=fun x y H Q=>∃ l b xs zs,x=.ref l/\y=.ref b/\cL K H l xs/\cL K H b zs/\xs.length+zs.length<=sizeLine/\∀ p,H p=none->Q (.ref p) (upd H p (.lst (xs++zs)))
theorem Tv:cN X (binaryOp .Add) (Tu X.K):=by
 intro pins s σ H x y v u Q I rx ry h
 obtain⟨l,b,xs,zs,rfl,rfl,hH,hB,hz,q⟩:=h
 cases rx
 cases ry
 obtain⟨aq,r,pl,z⟩:=I.list hH
 obtain⟨g8,r2,Tw,z2⟩:=I.list hB
 obtain⟨⟨cls,dd,data,sl⟩,n,ho,hc,_,hd⟩:=pl
 obtain⟨⟨BL,y_,data2,uE⟩,n2,sA,ji,_,hd2⟩:=Tw
 simp only at hc hd ji hd2
 subst hc hd ji hd2
 have l1:=r.length
 have l2:=r2.length
 refine Yx ⟨_,ho,rfl⟩ ⟨_,sA,rfl⟩ noFill_list_add seq_list_add PySem.F.slot_list_add PySem.F.entry_list_add (PySem.F.args_list_add_2 _ _) (list_addW l b aq.toArray g8.toArray n n2 dd y_ sl uE (by rw[Qk,Qk,<- l1,<- l2];exact hz)) ⟨ho,sA,?_⟩
 have e:aq.toArray++g8.toArray=(aq++g8).toArray:=by simp
 rw[e]
 exact⟨.ref _,_,I.vY (t':=s.toks) (r.append r2) (by rw[Qo];omega),rfl,q _ I.fresh⟩
@[simp] def zV (fa fb:aF):aF:=fun ρ=>match fa ρ with
 | some (.lst ds,_,ρ1)=>match fb ρ1 with
  | some (.lst es,_,ρ2)=>if ds.length+es.length<=1000 then some (.lst (ds++es),1,ρ2)else none
  | _=>none
 | _=>none
theorem Tx(ha:QD X a fa)(hb:QD X b fb):QD X (.BinOp a .Add b pos) (zV fa fb):=⟨have ha:=ha.o;have hb:=hb.o;PE.imp (o_ Tv ha hb) fun σ H Q aj=>by
 obtain⟨ρ,w,t,r',q,ρ',gd,ee,k⟩:=aj
 unfold zV at ee
 split at ee
 next ds q1 ρ1 h1=>
  split at ee
  next es q2 ρ2 h2=>
   split at ee
   next hl=>
    cases ee
    refine sT gd h1 h2 fun u u' H2 w2 F1 F2 g2 go r1 r2=>?_
    have zP:=r1.drop (o:=.f) (Qf t)
    have zQ:=r2.drop (o:=.f) (Z6 t)
    have gg:=g2.drop (t':=t)
    have w_:=go.drop gd.wt
    obtain⟨p1,vs,rfl,tz,s1⟩:=zP.gB
    obtain⟨p2,us,rfl,zR,s2⟩:=zQ.gB
    refine⟨p1,p2,vs,us,rfl,rfl,tz,zR,uQ (by rw[<- s1.length,<- s2.length];exact hl),fun p hp=>?_⟩
    obtain⟨a1,a2,a3⟩:=alloc gg hp (s2.app s1)
    exact k _ _ _ _ a1 (w_.trans a2) a3
   ·cases ee
  ·cases ee
 ·cases ee⟩
end
section
variable {X:Cx}{a b c e:Expr}{es:List Expr}{fa fb fc f:aF}{ga gb gc:cf}{g:bN}{qa qb:ma}{s:aI}{pos p p1 p2 p3 ar apos:Pos}
@[simp] def qU (n:Nat)(c:Int):ma:=fun ρ=>match ρ[n]? with
 | some (some (.tup es,_))=>match L2.dP es c with
  | some d=>match eK d with
   | some m=>some (Int.ofNat m)
   | none=>none
  | none=>none
 | _=>none
theorem HI{n j:Nat}{c:Int}(hm:X.mg "len" = none)(h:QE X (.Name x p1) (eh n))(hg:Gl X "len":=by rfl)(hs:uF (.Constant (.int c) j p2):=by exact fun _ _=>rfl)(he:starEach [.Subscript (.Name x p1) (.Constant (.int c) j p2) p3] X.env=(false,eval (.Subscript (.Name x p1) (.Constant (.int c) j p2) p3) X.env)::starEach [] X.env:=by rfl)(bG:(backTo pos (starEach [] X.env)).any (·.1)=false:=by rfl):QQ X (.Call (.Name "len" p) [.Subscript (.Name x p1) (.Constant (.int c) j p2) p3] [] pos) (qU n c):=⟨have h:=h.o;PE.imp (qB BP hg hm YL (jU (vW vX h yR hs) mL he) (by decide) (by decide) he bG) fun σ H Q aj=>by
 obtain⟨ρ,w,t,i,gd,ee,k⟩:=aj
 unfold qU at ee
 split at ee
 next es q e0=>
  split at ee
  next d hd=>
   split at ee
   next m oO=>
    cases ee
    obtain⟨v,F,h1,h2⟩:=gd.slot n _ _ e0
    obtain⟨p0,vs,rfl,hq,rs⟩:=h2.hZ
    obtain⟨u,hu,ru⟩:=rs.dP hd
    obtain⟨p',ys,rfl,sQ,hl⟩:=ru.len oO
    exact⟨_,h1,.inr (.inl ⟨p0,vs,c,_,rfl,rfl,hq,hu,p',ys,rfl,sQ,by rw[hl];exact k⟩)⟩
   ·cases ee
  ·cases ee
 ·cases ee⟩
@[simp] def xf (k l:Str)(qa qb:ma):aF:=fun ρ=>match qa ρ,qb ρ with
 | some i,some j=>some (.gy [k,l] [.int i,.int j],9,ρ)
 | _,_=>none
theorem Tz{H1:Hp}{p:Addr}{ks:List Str}{w1:Wn}(g:Good K ρ σ H1 w1 t)(hp:H1 p=none)(r:ag K H1 w1 .f 0 ds vs []) :
  Good K ρ σ (upd H1 p (.dK (nz ks vs))) w1 (t+1)/\Go H1 w1 (upd H1 p (.dK (nz ks vs))) w1/\Rep K (upd H1 p (.dK (nz ks vs))) w1 (.t t) 9 (.gy ks ds) (.ref p) []:=by
 have ne:∀ a x,H1 a=some x->a≠p:=fun a x e=>dY e hp
 have nw:∀ a o,w1 a=some o->a≠p:=fun a o e=>by obtain⟨vs,q⟩:=g.wl a o e;exact ne a _ q
 have st:cY H1 w1 (upd H1 p (.dK (nz ks vs))) w1:=fun a x e n=>⟨sm (by rw[aO (ne a x e)];exact e),n⟩
 refine⟨⟨⟨fun a o e=>?_,g.wl.tb.upd rfl (.inl hp)⟩,g.ws,fun a i e=>Q7 (g.wt a i e),g.len,fun i d q e=>?_⟩,⟨st,fun a o e _=>⟨aO (nw a o e),e⟩⟩,?_⟩
 ·obtain⟨us,q⟩:=g.wl a o e
  exact⟨us,by rw[aO (nw a o e)];exact q⟩
 ·obtain⟨v,F,h1,h2⟩:=g.slot i d q e
  exact⟨v,F,h1,Rep.go g.wl st h2 fun a m=>⟨aO (nw a _ (h2.aA a m)),h2.aA a m⟩⟩
 ·exact .gy cT (by
   cases q:w1 p with
   | none=>rfl
   | some o=>exact absurd rfl (nw p o q)) (ag.go g.wl st r nM)
theorem TC{k l:Str}{j1 j2:Nat}(TF:k≠l)(ha:QQ X a qa)(hb:QQ X b qb):QD X (.Dict [some (.Constant (.str k) j1 p1),some (.Constant (.str l) j2 p2)] [a,b] pos) (xf k l qa qb):=⟨have ha:=ha.o;have hb:=hb.o;PE.imp (Ri (GD yS ha (GD yS hb Rg)) rfl rfl (by simp) (by show 2<=15;decide)) fun σ H Q aj=>by
 obtain⟨ρ,w,t,r',q,ρ',gd,ee,kk⟩:=aj
 unfold xf at ee
 split at ee
 next i j hi hj=>
  cases ee
  intro p0 hp
  have ne:∀ a x,H a=some x->upd H p0 (.dK []) a=some x:=fun a x e=>by rw[aO (dY e hp)];exact e
  obtain⟨g1,aD⟩:=gd.more ⟨ne,fun t=>t.upd rfl (.inl hp)⟩
  refine⟨ρ,w,t,i,g1,hi,ρ,w,t,j,g1,hj,cT,[(.inr k,.int i),(.inr l,.int j)],rfl,by show 2<=15;decide,?_⟩
  have e:sL [] [((.inr k:Key),V.int i),(.inr l,.int j)]=nz [k,l] [.int i,.int j]:=by
   have C8:¬ ((Sum.inr k:Key)=.inr l):=fun z=>TF (YV z)
   simp[sL,jk,nz,C8]
  rw[e,Nv]
  obtain⟨a1,a2,a3⟩:=Tz (ks:=[k,l]) (ds:=[.int i,.int j]) (vs:=[.int i,.int j]) gd hp (.cons (F:=[]) (G:=[]) (.int i) (.cons (F:=[]) (G:=[]) (.int j) .nil nM) nM)
  exact kk _ _ _ _ a1 a2 a3
 ·cases ee⟩
def j3:List Str->List D->Str->Option D
 | x::ks,d::ds,k=>if x=k then some d else j3 ks ds k
 | _,_,_=>none
@[simp] def C9 (fo fe ff:aF):aF:=fun ρ=>match fo ρ with
 | some (.gy ks ds,_,ρ1)=>match fe ρ1 with
  | some (.str k,_,ρ2)=>match ff ρ2 with
   | some (z,_,eW)=>some ((j3 ks ds k).getD z,cH ((j3 ks ds k).getD z),eW)
   | none=>none
  | _=>none
 | _=>none
theorem HJ(k:Str):∀ {ks:List Str} {ds:List D} {vs:List V},ag K H w o 0 ds vs []->
  (∀ d,j3 ks ds k=some d->∃ v,fA (nz ks vs) (.inr k)=some v/\Rep K H w o 0 d v [])/\(j3 ks ds k=none->fA (nz ks vs) (.inr k)=none)
 | [],ds,vs,r=>by
  refine⟨fun d h=>?_,fun _=>rfl⟩
  unfold j3 at h
  cases h
 | x::ks,ds,vs,r=>by
  generalize hF:([]:List Addr)=F at r
  cases r with
  | nil=>exact⟨(fun d h=>by unfold j3 at h;cases h),fun _=>rfl⟩
  | @cons _ d' v' br iw F' G' r s _=>
   have h1:F'=[]:=r.zero
   have h2:G'=[]:=s.zero
   subst h1 h2
   have ih:=HJ k (ks:=ks) s
   by_cases hx:x=k
   ·subst hx
    refine⟨fun d h=>?_,fun h=>?_⟩
    ·unfold j3 at h
     rw[Qe rfl]at h
     cases h
     exact⟨v',qF rfl,r⟩
    ·unfold j3 at h
     rw[Qe rfl]at h
     cases h
   ·have hk:¬ ((Sum.inr x:Key)=.inr k):=fun z=>hx (YV z)
    have e:fA (nz (x::ks) (v'::iw)) (.inr k)=fA (nz ks iw) (.inr k):=qG hk
    rw[e]
    unfold j3
    rw[Qg hx]
    exact ih
theorem TH{k:Nat}(hr:aw k X.A)(ho:QD X a fa)(he:QD X b fb)(hf:QD X c fc)(cy:attributeBase a "get" X.env (eval a X.env)=eval a X.env:=by rfl)(eu:((backTo ar (starEach [b,c] X.env)).all (fun x=>!x.1)&&(backToKw ar (keywordEach [] X.env)).all (fun x=>x.1.isSome)
   && decide (([b,c]:List Expr).length+([]:List Keyword).length+(if([]:List Keyword).isEmpty then 0 else 1)<30))=true:=by rfl) (cz:(apos.endLine==ar.line)=true:=by rfl) (TJ:backTo ar (starEach [b,c] X.env)=[(false,eval b X.env),(false,eval c X.env)]:=by rfl):QD X (.Call (.Attribute a "get" apos) [b,c] [] ar) (C9 fa fb fc):=⟨have ho:=ho.o;have he:=he.o;have hf:=hf.o;PE.imp (Rn (P6 hr) ho he hf ⟨cy,eu,cz,TJ⟩) fun σ H Q aj=>by
 obtain⟨ρ,w,t,r',q,ρ',gd,ee,kk⟩:=aj
 unfold C9 at ee
 split at ee
 next ks ds q1 ρ1 h1=>
  split at ee
  next k0 q2 ρ2 h2=>
   split at ee
   next z q3 eW h3=>
    cases ee
    refine⟨ρ,w,t,_,_,_,gd,h1,fun x H1 w1 F1 g1 aD r1=>?_⟩
    have TK:=r1
    cases TK with
    | @gy _ a0 _ we _ qV _ _=>
     refine⟨a0,rfl,.inl ⟨_,.inl qV⟩,ρ1,w1,t+1,_,_,_,g1,h2,fun y H2 w2 F2 g2 bb r2=>⟨ρ2,w2,t+2,_,_,_,g2,h3,fun zv H3 w3 F3 g3 dm r3=>?_⟩⟩
     have hy:y=kV (.inr k0):=by cases r2;rfl
     subst hy
     have C_:=(r1.gone g1.wl (bb.trans dm)).drop (o:=.t t) (Qf t)
     have rz:=r3.drop (o:=.t t) (t':=t) (by omega)
     have go:=(aD.trans bb).trans dm
     cases C_ with
     | @gy _ _ _ vs _ hH _ rs=>
      obtain⟨v1,v2⟩:=HJ (ks:=ks) k0 rs
      refine⟨_,oE.k hH,?_⟩
      cases hg:j3 ks ds k0 with
      | none=>
       rw[v2 hg]
       rw[hg]at kk
       exact pA kk gd g3 go rz.ka
      | some d=>
       obtain⟨v,ev,rv⟩:=v1 d hg
       rw[ev]
       rw[hg]at kk
       exact pA kk gd g3 go rv.ka
   ·cases ee
  ·cases ee
 ·cases ee⟩
theorem TL{bw:List Expr}{env:Env}{ks:List (Option Expr)}{vs:List Expr}:starEach (.Dict ks vs pos::bw) env=(false,eval (.Dict ks vs pos) env)::starEach bw env:=by simp only[starEach]
end
end L3
namespace L3
open PySem PySem.Spec PyProof.Rows PySem.W L2
variable {A:Around}{C:Addr}{E:Value->Shared->Prop}{H:Hp}{K:PySem.W.Frag}{M:Model}{P:Program}{h h':Heap}{i t:Nat}{pos:Pos}{w:World}{x:Str}{ρ:aS}{σ:St}
theorem Dc{a:Addr}{o:HO}(x:cR P w H h a o):∃ ob,h.get? a=some ob:=by
 cases o with
 | lst xs=>obtain⟨_,_,_,_,e⟩:=x;exact⟨_,e⟩
 | tup xs=>obtain⟨_,_,_,o,e,_⟩:=x;exact⟨_,e⟩
 | dK ai=>obtain⟨_,_,_,_,o,_,_,e,_⟩:=x;exact⟨_,e⟩
 | dT ai=>obtain⟨_,_,_,_,o,_,_,e,_⟩:=x;exact⟨_,e⟩
 | set S n=>obtain⟨o,_,_,_,e,_⟩:=x;exact⟨_,e⟩
 | ins C dx fs=>obtain⟨_,_,_,e,_⟩:=x;exact⟨_,e⟩
 | own y=>obtain⟨_,e⟩:=x;exact⟨_,e⟩
 | xd fs=>obtain⟨_,⟨_,_,_,e,_⟩,_⟩:=x;exact⟨_,e⟩
 | j5 lo hi=>obtain⟨_,_,_,e⟩:=x;exact⟨_,e⟩
 | bZ ob u=>obtain⟨e,_⟩:=x;exact⟨_,e⟩
 | dB ps=>exact⟨_,(show h.get? a=some _ from x)⟩
 | met f y=>exact⟨_,(show h.get? a=some _ from x)⟩
 | ext φ=>obtain⟨_,⟨_,e⟩,_⟩:=x;exact⟨_,e⟩
theorem Dd(x:cX P w H h)(k:∀ b u o,H b=some u->h.get? b=some o->h'.get? b=some o):cX P w H h':=fun b u e=>
 (x b u e).gX (fun c o hc q=>by
  rcases hc with z|z
  ·rw[z]at q ⊢;exact k b u o e q
  ·exact k c _ o z q) (fun _ q=>q) fun _ _ q=>q
structure pO (P:Program) (w:World) (outer:List Env) (H:Hp) (s:Shared) (a C t:Addr) (B:Heap) (H':Hp) (s':Shared):Prop where
 os:s'.os=s.os
 bare:AllBare s'.gens
 un:Un (cM outer) [] H H' s.heap s'.heap
 az:cX P w H' s'.heap
 fl:Heap.FlyingW B outer a (.ref C) (.ref t) s'.heap
 old:∀ b o,s.heap.get? b=some o->H b=none->b ∉ cM outer->B.get? b=some o
 pP:∀ b o,s.heap.get? b=some o->b ∉ cM outer->∃ o',B.get? b=some o'
 ng:∀ b u o,H' b=some u->s'.heap.get? b=some o->B.get? b=some o
 free:H' a=none
def zW (P:Program)(w:World):lP:=fun outer H s E e s'=>∃ (a C t:Addr) (B:Heap) (H':Hp),e=.ref a/\pO P w outer H s a C t B H' s'/\E (.ref C) none H'
section
variable {P:Program}{w:World}{K:PySem.W.Frag}{mg:Str->Option Value}{base:Heap}{N:List Str}{qual:Str}{scope:Scope}{f:Addr}{cd:Value}{A:Around}{outer:List Env}{ax:Shared}{bE:Hp}{E:XK}{pins:List (Addr×Obj)}{σ:St}{H:Hp}{s:Shared}
abbrev jz (P:Program)(w:World)(K:PySem.W.Frag)(mg:Str->Option Value)(base:Heap)(N:List Str)(qual:Str)(scope:Scope)(f:Addr)(cd:Value)(A:Around)(outer:List Env)(ax:Shared)(bE:Hp)(E:XK):Cx:=fw (zW P w) P w K mg base N qual scope f cd A outer ax bE E
theorem HK(I:Inv (jz P w K mg base N qual scope f cd A outer ax bE E) pins σ H s){b:Addr}(hb:b∈cM outer){o:Obj}(e:s.heap.get? b=some o):∀ vs,o.data ≠ .fields vs:=by
 obtain⟨_,o',ho,hd⟩:=I.dN.mem hb
 rw[e]at ho;cases ho
 exact hd
theorem TM{e:Addr}{vs:List Value}(I:Inv (jz P w K mg base N qual scope f cd A outer ax bE E) pins σ H s)(hm:Heap.MadeExcOf s.heap h' e (.ref C) vs)(hE:E (.ref C) none H) :
  (jz P w K mg base N qual scope f cd A outer ax bE E).xe (.ref e) { s with heap:=h' }:=by
 have nL:∀ b o,ax.heap.get? b=some o->b≠ax.heap.objs.size:=fun b o q=>QI (Ql q)
 have zX:∀ b o,s.heap.get? b=some o->b≠ax.heap.objs.size->b ∉ cM outer->(hideAll s.heap (cM (envOfC qual scope ax.heap.objs.size f cd::outer))).get? b=some o:=fun b o q n1 n2=>hideAll_get _ q fun hm=>by
  rcases Qi.mp (show b∈ax.heap.objs.size::cM outer from hm)with z|z
  ·exact n1 z
  ·exact n2 z
 have TN:∀ env∈(envOfC qual scope ax.heap.objs.size f cd::outer),∀ b,env.frame=some b->b∈cM (envOfC qual scope ax.heap.objs.size f cd::outer):=fun env he b hb=>JU.mpr ⟨env,he,hb⟩
 have xg:∀ b u,H b=some u->b≠ax.heap.objs.size/\b ∉ cM outer:=fun b u q=>by
  refine⟨fun z=>?_,fun z=>?_⟩
  ·have:=I.free
   rw[z]at q
   have k6:H ax.heap.objs.size=none:=this
   rw[k6]at q;cases q
  ·have:=I.dH b (Qb _ z)
   rw[this]at q;cases q
 have bI:Un (cM outer) [] bE H ax.heap s.heap:=I.base
 show wpAny _ _ (leaving (envOfC qual scope ax.heap.objs.size f cd) (.ref e)) _ _ _
 refine wpAny_leaves_madeW (s:={ s with heap:=h' }) (L:=ax.heap.objs.size) (outer:=outer) I.ok.frames rfl (fun b o q=>of_hideAll _ q) (funFrames_hide I.stack TN) hm fun h2 t fl _ _ up=>?_
 have old:∀ b o,ax.heap.get? b=some o->bE b=none->b ∉ cM outer->(hideAll s.heap (cM (envOfC qual scope ax.heap.objs.size f cd::outer))).get? b=some o:=fun b o q n hb=>zX b o (bI.keep b o q n hb (by simp)) (nL b o q) hb
 have slot:∀ b o,s.heap.get? b=some o->b∈cM outer->∃ sl,h2.get? b=some { o with slots:=sl }:=fun b o q hb=>up b o (hm.keeps b o q) (HK I hb q)
 have ng:∀ b u o,H b=some u->s.heap.get? b=some o->(hideAll s.heap (cM (envOfC qual scope ax.heap.objs.size f cd::outer))).get? b=some o:=fun b u o q e=>zX b o e (xg b u q).1 (xg b u q).2
 refine⟨e,C,t,_,H,rfl,⟨I.os,I.bare,⟨fun b o q n hb _=>fl.1 b o (old b o q n hb),fun b o q n hb _=>?_,fun b o q n _=>bI.free b o q n (by simp),fun b o q _=>?_,bI.d_,bI.dJ,bI.dM⟩,Dd I.az fun b u o q e=>fl.1 b o (ng b u o q e),fl,old,fun b o q hb=>?_,fun b u o q e=>?_,?_⟩,hE⟩
 ·obtain⟨sl,q1⟩:=bI.slot b o q n hb (by simp)
  obtain⟨oz,q2⟩:=slot b _ q1 hb
  exact⟨oz,q2⟩
 ·obtain⟨o',q1⟩:=bI.there b o q (by simp)
  by_cases hb:b∈cM outer
  ·obtain⟨sl,q2⟩:=slot b o' q1 hb
   exact⟨_,q2⟩
  ·exact⟨o',fl.1 b o' (zX b o' q1 (nL b o q) hb)⟩
 ·obtain⟨o',q1⟩:=bI.there b o q (by simp)
  exact⟨o',zX b o' q1 (nL b o q) hb⟩
 ·obtain⟨o1,q1⟩:=Dc (I.az b u q)
  have q2:=ng b u o1 q q1
  have q3:=fl.1 b o1 q2
  have e':h2.get? b=some o:=e
  rw[q3]at e';cases e'
  exact q2
 ·cases q:H e with
  | none=>rfl
  | some u=>
   obtain⟨o1,q1⟩:=Dc (I.az e u q)
   rw[hm.new]at q1;cases q1
theorem TQ{E':XK}(hE:∀ C H',E' (.ref C) none H'->E (.ref C) none H')(I:Inv (jz P w K mg base N qual scope f cd A outer ax bE E) pins σ H s){e:Value}{s':Shared}(h:zW P w (envOfC qual scope ax.heap.objs.size f cd::outer) H s E' e s') :
  (jz P w K mg base N qual scope f cd A outer ax bE E).xe e s':=by
 obtain⟨a,C,t,B,H',rfl,F,TR⟩:=h
 have nL:∀ b o,ax.heap.get? b=some o->b≠ax.heap.objs.size:=fun b o q=>QI (Ql q)
 have bI:Un (cM outer) [] bE H ax.heap s.heap:=I.base
 have De:∀ b o,ax.heap.get? b=some o->b ∉ cM outer->b ∉ cM (envOfC qual scope ax.heap.objs.size f cd::outer):=fun b o q n hm=>by
  rcases Qi.mp (show b∈ax.heap.objs.size::cM outer from hm)with z|z
  ·exact nL b o q z
  ·exact n z
 show wpAny _ _ (leaving (envOfC qual scope ax.heap.objs.size f cd) (.ref a)) _ _ _
 refine wpAny_leaves_onW (L:=ax.heap.objs.size) (outer:=outer) I.ok.frames rfl F.fl fun h2 fl up=>?_
 have old:∀ b o,ax.heap.get? b=some o->bE b=none->b ∉ cM outer->B.get? b=some o:=fun b o q n hb=>F.old b o (bI.keep b o q n hb (by simp)) (bI.free b o q n (by simp)) (De b o q hb)
 have slot:∀ b o,s.heap.get? b=some o->H b=none->b∈cM outer->∃ sl,h2.get? b=some { o with slots:=sl }:=fun b o q n hb=>by
  obtain⟨sl,q1⟩:=F.un.slot b o q n (Qb _ hb) (by simp)
  obtain⟨oz,q2⟩:=up b _ q1 (fun vs z=>HK I hb q vs z)
  exact⟨oz,q2⟩
 have fH:∀ b∈cM outer,H b=none:=fun b hb=>I.dH b (Qb _ hb)
 refine⟨a,C,t,B,H',rfl,⟨F.os.trans I.os,F.bare,⟨fun b o q n hb _=>fl.1 b o (old b o q n hb),fun b o q n hb _=>?_,fun b o q n _=>?_,fun b o q _=>?_,fun b xs q=>F.un.d_ b xs (bI.d_ b xs q),fun b o u q=>F.un.dJ b o u (bI.dJ b o u q),fun b ps q=>?_⟩,Dd F.az fun b u o q e=>fl.1 b o (F.ng b u o q e),fl,old,fun b o q hb=>?_,fun b u o q e=>?_,F.free⟩,hE C H' TR⟩
 ·obtain⟨sl,q1⟩:=bI.slot b o q n hb (by simp)
  obtain⟨oz,q2⟩:=slot b _ q1 (fH b hb) hb
  exact⟨oz,q2⟩
 ·obtain⟨o',q1⟩:=bI.there b o q (by simp)
  exact F.un.free b o' q1 (bI.free b o q n (by simp)) (by simp)
 ·obtain⟨o',q1⟩:=bI.there b o q (by simp)
  by_cases hb:b∈cM outer
  ·obtain⟨sl,q2⟩:=slot b o' q1 (fH b hb) hb
   exact⟨_,q2⟩
  ·obtain⟨o2,q2⟩:=F.pP b o' q1 (De b o q hb)
   exact⟨o2,fl.1 b o2 q2⟩
 ·obtain⟨m1,e1⟩:=bI.dM b ps q
  obtain⟨m2,e2⟩:=F.un.dM b _ e1
  exact⟨m1++m2,by rw[e2,Array.append_assoc]⟩
 ·obtain⟨o',q1⟩:=bI.there b o q (by simp)
  exact F.pP b o' q1 (De b o q hb)
 ·obtain⟨o1,q1⟩:=Dc (F.az b u q)
  have q2:=F.ng b u o1 q q1
  have q3:=fl.1 b o1 q2
  have e':h2.get? b=some o:=e
  rw[q3]at e';cases e'
  exact q2
end
structure zY (K:Frag) (mg:Str->Option Value) (nm:Str) (C:Addr):Prop extends hJ K nm C where
 mg:mg nm=some (.ref C)
theorem TU{K:Frag}{HL:List Value}{newId:String}(X:K.In h)(q:excIn K C HL newId=true) :
  ∃ bm N nm q bs hdct sn sub ab col dd k0 k1 k2 k3 k5 mN,h.get? C=some (excClassObj nm q C N bs bm hdct sn sub ab col dd k0 k1 k2 k3 k5 newId)/\h.Ns N mN/\mN "__init__" = none/\OwnTail h HL bm:=by
 unfold excIn at q
 split at q
 next dd cd sl ho=>
  split at q
  next C' bm k0 k1 k2 k3 n k5 hm hs=>
   simp only[Zg,Zi,Bool.not_eq_true']at q
   obtain⟨⟨⟨⟨⟨rfl,rfl⟩,xh⟩,ht⟩,az⟩,zZ⟩:=q
   obtain⟨nm,bs,mro,ns,qn,hd,sn,sub,ab,col,del⟩:=cd
   dsimp only at hm xh az zZ
   subst hm xh
   have TV:sl = #[k0,k1,k2,k3,some (.builtin n),k5]:=by
    obtain⟨l⟩:=sl
    simp only at hs
    rw[hs]
   subst TV
   exact⟨bm,ns,nm,qn,bs,hd,sn,sub,ab,col,dd,k0,k1,k2,k3,k5,_,X _ _ ho,.of_isNs (isNs_of_in X az),nsMap_none_of_in X az zZ,tail_of_in X ht⟩
  ·cases q
 ·cases q
section
variable {P:Program}{w:World}{K:PySem.W.Frag}{mg:Str->Option Value}{base:Heap}{N:List Str}{qual:Str}{scope:Scope}{f:Addr}{cd:Value}{A:Around}{outer:List Env}{ax:Shared}{bE:Hp}{E:XK}{pins:List (Addr×Obj)}{σ:St}{H:Hp}{s:Shared}
theorem TX{nm txt:Str}{j:Nat}{np ar lO pos:Pos}(hA:A.handled=none)(hC:zY K mg nm C)(hg:Gl (jz P w K mg base N qual scope f cd A outer ax bE E) nm)(fT:(nm==("__debug__":Str))=false:=by decide) :
  PS (jz P w K mg base N qual scope f cd A outer ax bE E) (.Raise (some (.Call (.Name nm np) [.Constant (.str txt) j lO] [] ar)) none pos) (fun _ _ H=>E (.ref C) none H):=by
 intro pins s σ H D I h
 obtain⟨tl,Nn,fL,q,bs,hdct,sn,sub,ab,col,dd,k0,k1,k2,k3,k5,mN,xi,hN,zZ,T⟩:=TU I.mod.rX hC.ex
 refine wpAny_Raise_call_subT (C:=C) (nm:=fL) (q:=q) (N:=Nn) (bs:=bs) (bm:=tl) (hdct:=hdct) (sn:=sn) (sub:=sub) (ab:=ab) (col:=col) (dd:=dd) (k0:=k0) (k1:=k1) (k2:=k2) (k3:=k3) (k5:=k5)
  J9 (mN:=mN) (T.hasType J9.hasBase) hA rfl zZ (vJ I hg hC.mg ⟨rfl,?_⟩ fT)
 refine JG (Ji (aU (yS (j:=j) (pos:=lO) pins s σ H (fun v H1=>v=.str txt/\H1=H) I ⟨rfl,rfl⟩) fun u s1 aj=>?_))
 obtain⟨v,H1,I1,r1,e1,e2⟩:=aj
 subst e1 e2
 refine Ye ⟨rfl,by show 1<=sizeLine;decide,I1.bk _ _ xi,hN.keeps I1.bk,T.keeps I1.bk,fun h' e hm=>TM I1 hm h⟩
end
abbrev fD:=aS->Option Str
def tX (K:PySem.W.Frag)(x:fD)(E:XK):TS:=fun _ σ H=>∃ ρ w nm,Good K ρ σ H w 0/\x ρ=some nm/\∀ C H' w',nsIn K mainGlobals nm=some (some (.ref C))->WL K w' H'->Go H w H' w'->E (.ref C) none H'
def z_ (K:PySem.W.Frag)(n:Nat)(F:List D->Option Str):Sp:=fun vs H _ E=>vs.length=n/\∃ ds w nm,(∀ a o,w a=some o->o=.f)/\WL K w H/\ag K H w .f 0 ds vs []/\F ds=some nm /\
 ∀ C H' w',nsIn K mainGlobals nm=some (some (.ref C))->WL K w' H'->Go H w H' w'->E (.ref C) none H'
def fnX (n:Nat)(x:fD):List D->Option Str:=fun ds=>x (jZ n ds)
def mh (P:Program)(w:World)(K:PySem.W.Frag)(mg:Str->Option Value)(base:Heap)(k:Nat)(x:Str)(n:Nat)(F:List D->Option Str):Prop:=
 ∃ f fd ps,bW P w K mg base (zW P w) k f fd ps (z_ K n F)/\mg x=some (.ref f)/\PySem.W.keepIn K (.ref f)=true/\iL K fd ps []
theorem mh.mk{mg:Str->Option Value}{base:Heap}{k:Nat}{st:Stmt}{N ps:List Str}{xb:fD}(a:At K mg x st ps)(S:af N ps (aJ st))
  (h:∀ (f:Addr) (aN:Value) (A:Around) (outer:List Env) (s:Shared) (H:Hp) (E:XK),aw k (A.deeper (envOfC x (aJ st) s.heap.objs.size f aN))->fZ (jz P w K mg base N x (aJ st) f aN A outer s H E) (eP st) (tX K xb E)) :
  mh P w K mg base (k+1) x ps.length (fnX N.length xb):=by
 obtain⟨f,fd,F,m,b⟩:=a
 refine⟨f,fd,ps,?_,m,F.kp,b⟩
 obtain⟨oc,od,kV,doc,pm,an,aN,ct,nr,rfl,lk,fR⟩:=F.ex
 refine y8 lk fR S (fun vs H Q E h=>h.1) fun A outer s H vs Q E hr fz=>⟨_,h f aN A outer s H E hr,?_⟩
 obtain⟨hn,ds,w,nm,hw,wl,rs,e,k⟩:=fz
 exact⟨_,w,nm,wJ hw wl rs,e,k⟩
def k7 (F:List D->Option Str)(n:Nat)(g:bN):fD:=fun ρ=>match g ρ with
 | some (ds,_)=>if ds.length=n then F ds else none
 | none=>none
theorem TY{K:Frag}{s:Shared}{x R:Addr}{ox:Obj}{Q:Bool->Shared->Prop}(X:K.In s.heap)(I:jW s.heap x ox C)(hR:fB K R)(pf:typeIn K (.ref R)=some (.type "type"))
  (c_:subIn K (.ref C) (.ref R)=some true) (h:Q true s):wpAny M A (excMatches (.ref x) (.ref R)) Q E s:=by
 obtain⟨h0,g,d,tt,os⟩:=s
 have L0:=I.type (M:=M)
 have L1:=looks_typeIn (M:=M) X pf
 have L2:=Cb (M:=M) X hR.ci
 have L3:=looks_mroIn (M:=M) X hR.mb
 have L4:=YK (M:=M) X c_
 have f:=tc_notTuple
 have L5:Looks M h0 (isSubtype (.type "type") (.type "tuple")) false:=JC f
 unfold excMatches isInstance isExcClass
 repeat (first|lk|wp_step)
 exact h
section
variable {X:Cx}{pins:List (Addr×Obj)}{σ:St}{H H':Hp}{s s':Shared}{a C t:Addr}{B:Heap}
theorem TZ{Q:Unit->Shared->Prop}(I:Inv X pins σ H s)(hN:X.N.Nodup)(hi:X.N[i]? = some x)(hx:X.env.scope.names.lookup x=some .local)
  (h:∀ s',Inv X pins (σ.set i none) H s'->Q () s'):wpAny M A (do bindName X.env x .none;unbindBehindTheSuite X.env x pos) Q E s:=by
 obtain⟨m,hn,hl⟩:=id I.loc
 have r_:(X.env.scope.kind == .class||(X.env.scope.kind == .module&&X.env.locals != X.env.globals))=false:=by rw[I.ok.kind];rfl
 have lK:i<σ.length:=by rw[I.len];exact(Qp.mp hi).1
 have mG:=I.mG
 refine wpAny_nameGoes_keeps hx hn r_ fun h' v nh hs=>?_
 obtain⟨oL,_,_,se,_⟩:=id hn
 have tracked:cX X.prog X.w H h':=fun b ob e=>by
  refine(I.az b ob e).gX (fun c w' hc q=>(hs.2 c ?_).trans q) (fun _ q=>q) fun _ _ q=>q
  rintro rfl
  rcases hc with rfl|hc
  ·rw[I.free]at e;cases e
  ·rw[I.free]at hc;cases hc
 refine h _ ⟨I.ok,I.os,I.bare,⟨fun b o e n hb hx=>?_,fun b o e n hb hx=>?_,I.base.free,fun b o e hx=>?_,I.base.d_,I.base.dJ,I.base.dM⟩,⟨_,nh,fun j y v' e1 e2 e3=>?_⟩,fun y c e=>?_,I.free,I.cw,fun p hp=>?_,tracked,by simpa using I.len⟩
 ·exact(hs.2 b (QI (Qn (Ql e) I.ok.above))).trans (I.base.keep b o e n hb hx)
 ·obtain⟨sl,e1⟩:=I.base.slot b o e n hb hx
  exact⟨sl,(hs.2 b (QI (Qn (Ql e) I.ok.above))).trans e1⟩
 ·obtain⟨o',e1⟩:=I.base.there b o e hx
  exact⟨o',(hs.2 b (QI (Qn (Ql e) I.ok.above))).trans e1⟩
 ·by_cases hj:j=i
  ·subst hj
   rw[Qw lK]at e2
   cases e2
  ·rw[Qr (ZR hj)]at e2
   obtain⟨u',r',q⟩:=hl j y v' e1 e2 e3
   refine⟨u',r',?_⟩
   rcases q with⟨k,e⟩|⟨k,c,e,z⟩
   ·refine .inl ⟨k,?_⟩
    have:y≠x:=fun e=>hj (Bp hN e1 (e ▸ hi))
    simp[this,e]
   ·exact .inr ⟨k,c,e,z.sameBut hs (mG y c e)⟩
 ·obtain⟨w',z⟩:=I.cell y c e
  exact⟨w',z.sameBut hs (mG y c e)⟩
 ·obtain⟨e,n,ne,nf,d⟩:=I.pin p hp
  exact⟨(hs.2 p.1 ne).trans e,n,ne,nf,d⟩
def uZ (a:Addr)(oe:Obj):HO:=.bZ oe (.ext fun h=>h.get? a=some oe)
theorem pO.Df(I:Inv X pins σ H s)(F:pO X.prog X.w X.stack H s a C t B H' s')(fl:Heap.FlyingW B X.stack a (.ref C) (.ref t) h')(up:s'.heap.UpToSlots h'):Un (cM X.stack) [] H H' s.heap h'/\cX X.prog X.w H' h':=by
 have slot:∀ b o,s.heap.get? b=some o->H b=none->b∈cM X.stack->∃ sl,h'.get? b=some { o with slots:=sl }:=fun b o q n hb=>by
  obtain⟨sl,q1⟩:=F.un.slot b o q n hb (by simp)
  obtain⟨_,o',ho,hd⟩:=I.stack.mem hb
  rw[q]at ho;cases ho
  obtain⟨oz,q2⟩:=up b _ q1 hd
  exact⟨oz,q2⟩
 refine⟨⟨fun b o q n hb _=>fl.1 b o (F.old b o q n hb),fun b o q n hb _=>slot b o q n hb,F.un.free,fun b o q _=>?_,F.un.d_,F.un.dJ,F.un.dM⟩,Dd F.az fun b u o q e=>fl.1 b o (F.ng b u o q e)⟩
 by_cases hb:b∈cM X.stack
 ·obtain⟨sl,q2⟩:=slot b o q (I.dH b hb) hb
  exact⟨_,q2⟩
 ·obtain⟨o2,q2⟩:=F.pP b o q hb
  exact⟨o2,fl.1 b o2 q2⟩
theorem pO.inv(I:Inv X pins σ H s)(F:pO X.prog X.w X.stack H s a C t B H' s')(fl:Heap.FlyingW B X.stack a (.ref C) (.ref t) h')(up:s'.heap.UpToSlots h'):Inv X pins σ H' { s' with heap:=h' }:=
 I.kU (s':={ s' with heap:=h' }) F.os (F.Df I fl up).1 (F.Df I fl up).2 F.bare (fun b hb=>nomatch hb)
theorem pO.inv2(I:Inv X pins σ H s)(F:pO X.prog X.w X.stack H s a C t B H' s')(fl:Heap.FlyingW B X.stack a (.ref C) (.ref t) h')(up:s'.heap.UpToSlots h'){oe:Obj}{vs:Array Value}(ho:h'.get? a=some oe)(hd:oe.data=.fields vs) :
  Inv X pins σ (upd H' a (uZ a oe)) { s' with heap:=h' }:=by
 obtain⟨u,hk⟩:=F.Df I fl up
 have na:∀ b x,H' b=some x->upd H' a (uZ a oe) b=some x:=fun b x q=>by
  unfold upd
  rw[Qg (fun z=>by rw[z,F.free]at q;cases q)]
  exact q
 have T1:a ∉ cM X.stack:=fun hb=>by
  obtain⟨_,o',gY,kR⟩:=fl.2.2.1.mem hb
  rw[ho]at gY;cases gY
  exact kR vs hd
 refine I.kU (s':={ s' with heap:=h' }) F.os ⟨u.keep,u.slot,fun b o q n e=>?_,u.there,fun b xs q=>na b _ (u.d_ b xs q),fun b o' u' q=>na b _ (u.dJ b o' u' q),fun b ps q=>?_⟩ (fun b x q=>?_) F.bare (fun b hb=>nomatch hb)
 ·unfold upd
  rw[Qg (fun z=>?_)]
  ·exact u.free b o q n e
  ·subst z
   obtain⟨o2,q2⟩:=F.pP b o q T1
   rw[fl.2.1]at q2;cases q2
 ·obtain⟨m,q1⟩:=u.dM b ps q
  exact⟨m,na b _ q1⟩
 ·by_cases hb:b=a
  ·subst hb
   unfold upd at q
   rw[Qe rfl]at q
   cases q
   exact⟨ho,ho,⟨_,ho⟩,fun h1 h2 q1 q2=>q2 _ q1⟩
  ·have q':=q
   unfold upd at q
   rw[Qg hb]at q
   exact(hk b x q).gX (fun _ _ _ z=>z) (fun c z=>na c _ z) (fun c xs z=>na c _ z)
abbrev Cx.mark (X:Cx)(e:Value):Cx:={ X with A:=X.A.mark (some e),calm:=false,xe:=fun _ _=>False }
theorem Inv.mark(I:Inv X pins σ H s)(e:Value):Inv (Cx.mark X e) pins σ H s:=
 ⟨⟨I.ok.mod,I.ok.kind,I.ok.glob,I.ok.blt,I.ok.above,I.ok.inj,I.ok.has,I.ok.rY,(fun z=>by cases z),I.ok.frames,I.ok.vH,I.ok.yP,I.ok.bs,I.ok.lH,I.ok.lI,I.ok.lJ,I.ok.dN,I.ok.o9⟩,I.os,I.bare,I.base,I.loc,I.cell,I.free,I.cw,I.pin,I.az,I.len⟩
theorem Inv.unmark{e:Value}(hX:X.Ok)(I:Inv (Cx.mark X e) pins σ H s):Inv X pins σ H s:=⟨hX,I.os,I.bare,I.base,I.loc,I.cell,I.free,I.cw,I.pin,I.az,I.len⟩
theorem T2{R n kx:Str}{RA:Addr}{np kp vp apos:Pos}{ie ik:Nat}{Q:Flow->Shared->Prop}(I:Inv X pins σ H s)(F:pO X.prog X.w X.stack H s a C t B H' s')(ju:X.stack=X.env::X.outer)(Dg:X.env.frame=some X.env.locals)
  (hN:X.N.Nodup) (tE:X.N[ie]? = some n) (uT:X.N[ik]? = some kx) (fI:X.env.scope.names.lookup n=some .local) (Aa:X.env.scope.names.lookup kx=some .local) (hR:fB X.K RA) (Dh:typeIn X.K (.ref RA)=some (.type "type")) (c_:subIn X.K (.ref C) (.ref RA)=some true) (hmg:X.mg R=some (.ref RA)) (hg:Gl X R)
  (fT:(R==("__debug__":Str))=false) (xj:(n==("__debug__":Str))=false) (Di:(n==("__classdict__":Str))=false) (sR:swapsWith (.Name n vp) (some (.Name kx kp)) apos.line X.env=pure false)
  (hQ:∀ s5 oe,oe.cls=.ref C->Inv X pins (((σ.set ie (some (.ref a))).set ik (some (.ref a))).set ie none) (upd H' a (uZ a oe)) s5->Q .next s5) :
  wpAny (model X.prog X.w) X.A (noteFrame (.ref a) X.env) (fun _ el=>wpAny (model X.prog X.w) X.A (setFlight (.ref a) none) (fun _ g9=>
   wpAny (model X.prog X.w) X.A (handleBy (.ref a) X.env [.ExceptHandler (some (.Name R np)) (some n) [.Assign [.Name kx kp] (.Name n vp) apos] pos]) Q E g9) E el) E s':=by
 have lK:ie<σ.length:=by rw[I.len];exact(Qp.mp tE).1
 have HM:=F.fl
 have Dj:=ju
 rw[ju]at HM
 refine wpAny_looks_onW (L:=X.env.locals) (outer:=X.outer) (by rw[<- ju];exact I.ok.frames) Dg HM fun wk nN qW=>?_
 refine wpAny_landsW nN fun wm qX qY=>?_
 have ku:=qX
 rw[<- ju]at ku
 have I5:=F.inv I ku (qW.trans qY)
 obtain⟨ob,T3,Dk⟩:=ku.there
 have J5:=Inv.mark I5 (.ref a)
 refine wpAny_handleBy_cons (codeAny_handlers_test (vJ (X:=Cx.mark X (.ref a)) J5 hg hmg ?_ fT)) (by intro q;cases q)
 refine TY J5.dC ⟨T3,Dk⟩ hR Dh c_ ?_
 refine codeAny_handlers_suite_as ?_
 refine lands_againW qX fun T4 xk xl=>?_
 have ky:=xk
 rw[<- ju]at ky
 obtain⟨oe,ws,T5,Dl,Dm,T6⟩:=ky.first
 have I6:=F.inv2 I ky ((qW.trans qY).trans xl) T5 Dm
 refine Br (v:=.ref a) I6 hN tE (.inl fI) rfl (fun s7 I7=>?_) (.inr fI)
 have J7:=Inv.mark I7 (.ref a)
 have body:=yV (Bv (X:=Cx.mark X (.ref a)) (i:=ik) (x:=kx) (pos:=apos) (pos':=kp) hN uT (.inl Aa) (pv (X:=Cx.mark X (.ref a)) ie (x:=n) (pos:=vp) tE (.inl fI) xj Di) sR (.inr Aa))
 refine QV (body pins s7 _ _ { nx:=fun aP H1=>aP=(σ.set ie (some (.ref a))).set ik (some (.ref a))/\H1=upd H' a (uZ a oe),rt:=fun _ _=>False } J7 ⟨.ref a,Qw lK,rfl,rfl⟩) (fun fl s8 q=>?_) (fun _ _ z=>False.elim z)
 cases fl with
 | next=>
  obtain⟨σ8,H8,J8,rfl,rfl⟩:=q
  exact TZ (Inv.unmark I.ok J8) hN tE fI fun s9 I9=>hQ s9 oe Dl I9
 | brk=>obtain⟨_,_,_,z⟩:=q;exact z.elim
 | cont=>obtain⟨_,_,_,z⟩:=q;exact z.elim
 | ret u=>obtain⟨_,_,_,_,_,z⟩:=q;exact z.elim
end
theorem Good.unset{w:Wn}{v:Option V}(g:Good K ρ σ H w t)(hi:i<σ.length) :
  Good K (ρ.set i none) (σ.set i v) H (iN i w) t/\Go H w H (iN i w):=by
 have st:cY H w H (iN i w):=fun a x h n=>⟨sm h,wA n⟩
 refine⟨⟨⟨fun a o h=>g.wl a o (pB h).1,g.wl.tb⟩,fun a j h=>by rw[Qu];exact g.ws a j (pB h).1,fun a j h=>g.wt a j (pB h).1,by rw[Qu,Qu];exact g.len,fun j d' q' e'=>?_⟩,⟨st,fun a o h n=>⟨rfl,uN h (n i)⟩⟩⟩
 by_cases hj:i=j
 ·subst hj
  rw[Qw (by rw[g.len];exact hi)]at e'
  cases e'
 ·rw[Qr hj]at e'
  obtain⟨v',F,h1,h2⟩:=g.slot j d' q' e'
  exact⟨v',F,by rw[Qr hj];exact h1,Rep.go g.wl st h2 fun a m=>⟨rfl,uN (h2.aA a m) (fun z=>hj (by cases z;rfl))⟩⟩
theorem Good.grow{H':Hp}{w:Wn}(g:Good K ρ σ H w t)(h:∀ b o,H b=some o->Sm o (H' b))(tb:TB K H'):Good K ρ σ H' w t/\Go H w H' w:=by
 have st:cY H w H' w:=fun a x e n=>⟨h a x e,n⟩
 have kp:∀ a o,w a=some o->H' a=H a:=fun a o e=>by
  obtain⟨vs,q⟩:=g.wl a o e
  rw[q,(h a _ q).eq (by cases vs<;>rfl)]
 refine⟨⟨⟨fun a o e=>?_,tb⟩,g.ws,g.wt,g.len,fun i d q e=>?_⟩,st,fun a o e _=>⟨kp a o e,e⟩⟩
 ·obtain⟨vs,q⟩:=g.wl a o e
  exact⟨vs,(h a _ q).eq (by cases vs<;>rfl)⟩
 ·obtain⟨v,F,h1,h2⟩:=g.slot i d q e
  exact⟨v,F,h1,Rep.go g.wl st h2 fun a m=>⟨kp a _ (h2.aA a m),h2.aA a m⟩⟩
def oQ (K:Frag)(mg:Str->Option Value)(R:Str)(L:List Str):Prop:=∃ RA,fB K RA/\typeIn K (.ref RA)=some (.type "type")/\mg R=some (.ref RA) /\
 ∀ nm∈L,∀ C,nsIn K mainGlobals nm=some (some (.ref C))->hJ K nm C/\subIn K (.ref C) (.ref RA)=some true
end L3
namespace L3
open PySem PySem.Spec PyProof.Rows PySem.W L2 PySem.SeqAt
variable {K:PySem.W.Frag}{L:List Str}
def dS (K:Frag)(mg:Str->Option Value)(L:List Str)(nm:Str):Prop:=∃ C,mg nm=some (.ref C)/\∀ n∈L,∀ B,nsIn K mainGlobals n=some (some (.ref B))->(n=nm->isIn K (.ref B) C=true)/\(n≠nm->kin_not K B C=true)
section
variable {X:Cx}{a b c e:Expr}{es:List Expr}{fa fb fc f:aF}{ga gb:cf}{g:bN}{pos p p1 p2 pT ar apos:Pos}
theorem T7{C:Addr}{nm:Str}(h:∀ n∈L,∀ B,nsIn X.K mainGlobals n=some (some (.ref B))->(n=nm->isIn X.K (.ref B) C=true)/\(n≠nm->kin_not X.K B C=true)) :
  mJ X (.builtin "isinstance") (fun xs H Q=>∃ x w o q F n,xs=[x,.ref C]/\n∈L/\Rep X.K H w o q (.exc n) x F/\Q (.bl (n==nm)) H):=by
 intro pins s σ H xs us Q I r hh
 obtain⟨x,w,o,q,F,n,rfl,hn,rd,hq⟩:=hh
 obtain⟨u,v,rfl,ru,rv⟩:=y6 r
 cases rv
 cases rd with
 | exc ha xo _=>
  obtain⟨B,hc,k⟩:=xo
  cases ru
  obtain⟨e1,_⟩:=(show cR X.prog X.w H s.heap _ (.bZ _ _)from I.az _ _ ha)
  obtain⟨h1,h2⟩:=h n hn B k.ns
  by_cases z:n=nm
  ·rw[Zi.mpr z]at hq
   exact RN I.dC ⟨e1,hc⟩ (h1 z) ⟨.bl true,H,I,rfl,hq⟩
  ·rw[Zt.mpr z]at hq
   exact RM I.dC ⟨e1,hc⟩ k.xc (h2 z) ⟨.bl false,H,I.tok _,rfl,hq⟩
def qZ (L:List Str)(nm:Str)(fa:aF):aF:=fun ρ=>match fa ρ with
 | some (.exc n,_,ρ1)=>if n∈L then some (.bl (n==nm),9,ρ1)else none
 | _=>none
theorem u0{nm:Str}(hC:dS X.K X.mg L nm)(hm:X.mg "isinstance" = none)(ha:QD X a fa)(hg:Gl X "isinstance":=by rfl)(wZ:Gl X nm:=by rfl)(C3:(nm==("__debug__":Str))=false:=by decide)(hs:starEach [a,.Name nm pT] X.env=(false,eval a X.env)::starEach [.Name nm pT] X.env:=by rfl)(bG:(backTo pos (starEach [.Name nm pT] X.env)).any (·.1)=false:=by rfl):QD X (.Call (.Name "isinstance" p) [a,.Name nm pT] [] pos) (qZ L nm fa):=⟨have ha:=ha.o;by
 obtain⟨C,T8,j_⟩:=hC
 refine PE.imp (qB (T7 j_) hg hm ZY (jU ha (jU (NH (v:=.ref C) wZ T8 rfl C3) mL eS) hs) (by decide) (by decide) hs bG) fun σ H Q aj=>?_
 obtain⟨ρ,w,t,r',q,ρ',gd,ee,k⟩:=aj
 unfold qZ at ee
 split at ee
 next n q1 ρ1 h1=>
  split at ee
  next hL=>
   cases ee
   refine⟨ρ,w,t,_,_,_,gd,h1,fun v H1 w1 F1 g1 aD r1=>?_⟩
   exact⟨v,w1,_,_,F1,n,rfl,hL,r1,k _ H1 (cA t w1) [] g1.drop.up (aD.drop gd.wt) (.bl _)⟩
  ·cases ee
 ·cases ee⟩
theorem T9:mJ X (.builtin "isinstance") (fun xs H Q=>∃ x w o q F n,xs=[x,.ty "ValueError"]/\Rep X.K H w o q (.exc n) x F/\Q (.bl true) H):=by
 intro pins s σ H xs us Q I r hh
 obtain⟨x,w,o,q,F,n,rfl,rd,hq⟩:=hh
 obtain⟨u,v,rfl,ru,rv⟩:=y6 r
 cases rv
 cases rd with
 | exc ha xo _=>
  obtain⟨B,hc,k⟩:=xo
  cases ru
  obtain⟨e1,_⟩:=(show cR X.prog X.w H s.heap _ (.bZ _ _)from I.az _ _ ha)
  exact RO I.dC ⟨e1,hc⟩ (by kernel_rfl) k.ve ⟨.bl true,H,I,rfl,hq⟩
def Dp (fa:aF):aF:=fun ρ=>match fa ρ with
 | some (.exc n,_,ρ1)=>some (.bl true,9,ρ1)
 | _=>none
theorem T_(hm:X.mg "isinstance" = none)(C2:X.mg "ValueError" = none)(ha:QD X a fa)(hg:Gl X "isinstance":=by rfl)(wZ:Gl X "ValueError":=by rfl)(hs:starEach [a,.Name "ValueError" pT] X.env=(false,eval a X.env)::starEach [.Name "ValueError" pT] X.env:=by rfl)(bG:(backTo pos (starEach [.Name "ValueError" pT] X.env)).any (·.1)=false:=by rfl):QD X (.Call (.Name "isinstance" p) [a,.Name "ValueError" pT] [] pos) (Dp fa):=⟨have ha:=ha.o;by
 refine PE.imp (qB T9 hg hm ZY (jU ha (jU (FD (v:=.ty "ValueError") wZ C2 (by kernel_rfl) rfl (by decide) (by decide)) mL eS) hs) (by decide) (by decide) hs bG) fun σ H Q aj=>?_
 obtain⟨ρ,w,t,r',q,ρ',gd,ee,k⟩:=aj
 unfold Dp at ee
 split at ee
 next n q1 ρ1 h1=>
  cases ee
  refine⟨ρ,w,t,_,_,_,gd,h1,fun v H1 w1 F1 g1 aD r1=>?_⟩
  exact⟨v,w1,_,_,F1,n,rfl,r1,k _ H1 (cA t w1) [] g1.drop.up (aD.drop gd.wt) (.bl _)⟩
 ·cases ee⟩
def u4:D->D->Option D
 | .au,.au=>some (.bl true)
 | .exc _,.au=>some (.bl false)
 | .int _,.au=>some (.bl false)
 | .tup _,.au=>some (.bl false)
 | .str _,.au=>some (.bl false)
 | _,_=>none
def HN:R2:=fun x y H Q=>y=.au/\((x=.au/\Q (.bl true) H)\/((∃ i,x=.int i)\/(∃ i,x=.str i)\/(∃ i,x=.ref i))/\Q (.bl false) H)
theorem FR:cN X (compareOp .Is) HN:=by
 intro pins s σ H x y v u Q I rx ry h
 obtain⟨rfl,h⟩:=h
 cases ry
 rcases h with⟨rfl,q⟩|⟨⟨i,rfl⟩|⟨i,rfl⟩|⟨i,rfl⟩,q⟩
 ·cases rx
  exact Qj ⟨.bl true,H,I,rfl,q⟩
 ·obtain⟨t,rfl⟩:=rx
  exact Qj ⟨.bl false,H,I,rfl,q⟩
 ·obtain⟨t,rfl⟩:=rx
  exact Qj ⟨.bl false,H,I,rfl,q⟩
 ·cases rx
  exact Qj ⟨.bl false,H,I,rfl,q⟩
theorem Ua:∀ σ H Q,tD K (e2 u4 fa fb) σ H Q->jt HN (tD K fa) (tD K fb) σ H Q:=uO fun x y d h=>by
 unfold u4 at h
 split at h
 ·cases h
  exact⟨_,rfl,fun H w o o' q q' u u' F F' r1 r2 _ Q hq=>by cases r1;cases r2;exact⟨rfl,.inl ⟨rfl,hq⟩⟩⟩
 ·cases h
  exact⟨_,rfl,fun H w o o' q q' u u' F F' r1 r2 _ Q hq=>by cases r1;cases r2;exact⟨rfl,.inr ⟨.inr (.inr ⟨_,rfl⟩),hq⟩⟩⟩
 ·cases h
  exact⟨_,rfl,fun H w o o' q q' u u' F F' r1 r2 _ Q hq=>by cases r1;cases r2;exact⟨rfl,.inr ⟨.inl ⟨_,rfl⟩,hq⟩⟩⟩
 ·cases h
  exact⟨_,rfl,fun H w o o' q q' u u' F F' r1 r2 _ Q hq=>by cases r1;cases r2;exact⟨rfl,.inr ⟨.inr (.inr ⟨_,rfl⟩),hq⟩⟩⟩
 ·cases h
  exact⟨_,rfl,fun H w o o' q q' u u' F F' r1 r2 _ Q hq=>by cases r1;cases r2;exact⟨rfl,.inr ⟨.inr (.inl ⟨_,rfl⟩),hq⟩⟩⟩
 ·cases h
theorem HP(ha:QD X a fa)(hb:QD X b fb):h_ X (.Compare a [.Is] [b] pos) (bj (e2 u4 fa fb)):=⟨have ha:=ha.o;have hb:=hb.o;wD FR Ua ha hb (sr _)⟩
def xm (d:D)(ds:List D):Nat:=(dG ds).countP fun y=>PyData.eqv y (bP d)
def Ub (K:PySem.W.Frag):V->List V->Hp->VK->Prop:=fun x xs H Q=>∃ ds d y,xs=[y]/\Is K H (.lst ds) x/\Is K H d y/\d7 (.lst ds)=true/\d7 d=true/\Q (.int (Int.ofNat (xm d ds))) H
theorem Uc(hu:X.A.units+65<cLine):za X "list.count" (Ub X.K):=by
 intro pins s σ H x xs v us Q I rx rs ⟨ds,d,y,e,⟨w,o,q,F,h1⟩,⟨w',o',q',F',h2⟩,k1,k2,hq⟩
 subst e
 obtain⟨u,rfl,ru⟩:=lN rs
 obtain⟨as,ra⟩:=h1.reads I rx (mR k1)
 obtain⟨bs,rb⟩:=h2.reads I ru (mR k2)
 replace k1:=mU k1
 replace k2:=mU k2
 unfold bP at ra k1
 have nH:PyData.canLayAll0 (dG ds)=true:=QZ k1
 have ji:=QZ k2
 cases ra with
 | @list a ob vs n _ _ ho l_ hd qP=>
  obtain⟨cls,dd,data,sl⟩:=ob
  simp only at l_ hd
  subst l_ hd
  have kq:=JZ _ _ _ nH qP
  have Dq:vs.toList.countP (fun y=>PyData.eqv (SeqAt.readOf s.heap y) (bP d))=xm d ds:=by
   unfold xm
   rw[<- kq,List.countP_map]
   rfl
  refine Jk Yu ⟨_,ho,rfl⟩ PySem.F.entry_list_count (PySem.F.args_list_count_2 _ _)
   (list_countAt a vs n dd sl u (fun y=>PyData.eqv (SeqAt.readOf s.heap y) (bP d))) ⟨ho,Yt qP rb nH ji (Js k2 hu),?_⟩
  rw[Dq]
  exact⟨.int (Int.ofNat (xm d ds)),H,I.tok _,⟨_,rfl⟩,hq⟩
def Dr (fo:aF)(g:bN):aF:=fun ρ=>match fo ρ with
 | some (.lst ds,_,ρ1)=>match g ρ1 with
  | some ([d],ρ2)=>if d7 (.lst ds)=true/\d7 d=true then some (.int (Int.ofNat (xm d ds)),9,ρ2)else none
  | _=>none
 | _=>none
def Ud (K:PySem.W.Frag):V->List V->Hp->VK->Prop:=fun x xs H Q=>∃ ds d y j,xs=[y]/\Is K H (.lst ds) x/\Is K H d y/\d7 (.lst ds)=true/\d7 d=true/\uU d ds=some j/\(j:Int)<1000/\Q (.int (Int.ofNat j)) H
theorem Ue(hu:X.A.units+65<cLine):za X "list.index" (Ud X.K):=by
 intro pins s σ H x xs v us Q I rx rs ⟨ds,d,y,j,e,⟨w,o,q,F,h1⟩,⟨w',o',q',F',h2⟩,k1,k2,hj,HQ,hq⟩
 subst e
 obtain⟨u,rfl,ru⟩:=lN rs
 obtain⟨as,ra⟩:=h1.reads I rx (mR k1)
 obtain⟨bs,rb⟩:=h2.reads I ru (mR k2)
 replace k1:=mU k1
 replace k2:=mU k2
 unfold bP at ra k1
 have nH:PyData.canLayAll0 (dG ds)=true:=QZ k1
 have ji:=QZ k2
 cases ra with
 | @list a ob vs n _ _ ho l_ hd qP=>
  obtain⟨cls,dd,data,sl⟩:=ob
  simp only at l_ hd
  subst l_ hd
  have kq:=JZ _ _ _ nH qP
  have CO:=Jo.mp hj
  obtain⟨CP,CQ,CS⟩:=CO
  have hlen:vs.size=(dG ds).length:=by rw[<- kq];simp
  have tm:∀ m (hm:m<vs.size) (oO:m<(dG ds).length),SeqAt.readOf s.heap vs[m]=(dG ds)[m]:=fun m hm oO=>by
   have:(vs.toList.map (SeqAt.readOf s.heap))[m]? = (dG ds)[m]?:=by rw[kq]
   simpa [hm,oO]using this
  refine Jk Yv ⟨_,ho,rfl⟩ PySem.F.entry_list_index (PySem.F.args_list_index_2 _ _)
   (list_indexAt a vs n dd sl u (fun y=>PyData.eqv (SeqAt.readOf s.heap y) (bP d)) j (by omega) (by omega) (by rw[tm j (by omega) CP];simpa using CQ) (fun m hm CT=>by rw[tm m hm (by omega)];simpa using CS m CT)) ⟨ho,Yt qP rb nH ji (Js k2 hu),?_⟩
  exact⟨.int (Int.ofNat j),H,I.tok _,⟨_,rfl⟩,hq⟩
def Ds (fo:aF)(g:bN):aF:=fun ρ=>match fo ρ with
 | some (.lst ds,_,ρ1)=>match g ρ1 with
  | some ([d],ρ2)=>if d7 (.lst ds)=true/\d7 d=true then match uU d ds with
   | some j=>if(j:Int)<1000 then some (.int (Int.ofNat j),9,ρ2)else none
   | none=>none
   else none
  | _=>none
 | _=>none
theorem Rep.HR{H:Hp}{w:Wn}{ds:List D}{v:V}{F:List Addr}(r:Rep K H w .f 0 (.lst ds) v F):∃ a us,v=.ref a/\cL K H a us:=by
 cases r with
 | kl h _=>exact⟨_,_,rfl,.inr h⟩
 | shr h _ _=>exact⟨_,_,rfl,.inl h⟩
theorem Ug{k:Nat}(hr:aw k X.A)(ho:QD X a fa)(ha:eV X [e] g)(cy:attributeBase a "count" X.env (eval a X.env)=eval a X.env:=by rfl)(eu:((backTo ar (starEach [e] X.env)).all (fun x=>!x.1)&&(backToKw ar (keywordEach [] X.env)).all (fun x=>x.1.isSome)
   && decide ([e].length+([]:List Keyword).length+(if([]:List Keyword).isEmpty then 0 else 1)<30))=true:=by rfl) (cz:(apos.endLine==ar.line)=true:=by rfl) (hs:starEach [e] X.env=(false,eval e X.env)::starEach [] X.env:=by rfl) (bT:(backTo ar (starEach [] X.env)).any (·.1)=false:=by rfl):QD X (.Call (.Attribute a "count" apos) [e] [] ar) (Dr fa g):=⟨have ho:=ho.o;have ha:=ha.o;PE.imp (uG ZB Yu PySem.F.type_list_count (Uc (zK hr)) ho ha cy eu cz hs bT) fun σ H Q aj=>by
 obtain⟨ρ,w,t,r',q,ρ',gd,ee,k⟩:=aj
 unfold Dr at ee
 split at ee
 next ds q1 ρ1 h1=>
  split at ee
  next d ρ2 h2=>
   split at ee
   next az=>
    cases ee
    refine⟨ρ,w,t,_,_,_,gd,h1,fun v H1 w1 F1 g1 aD r1=>?_⟩
    have r0:=r1.drop (o:=.f) (Qf t)
    have gg:=g1.drop (t':=t)
    obtain⟨p0,us,rfl,hq⟩:=Rep.HR r0
    refine⟨.inl ⟨rfl,us,hq⟩,ρ1,cA t w1,t,_,_,gg,h2,fun Hn H2 w2 g2 bb r2=>?_⟩
    obtain⟨v2,rfl,pJ⟩:=one r2
    have r3:Rep X.K H2 w2 .f 0 (.lst ds) (.ref p0) []:=r0.kg gg.wl bb.ba
    exact⟨ds,d,v2,rfl,⟨_,_,_,_,r3⟩,⟨_,_,_,_,pJ⟩,az.1,az.2,k _ H2 w2 [] g2.up ((aD.drop gd.wt).trans bb) (.int _)⟩
   ·cases ee
  ·cases ee
 ·cases ee⟩
theorem Uh{k:Nat}(hr:aw k X.A)(ho:QD X a fa)(ha:eV X [e] g)(cy:attributeBase a "index" X.env (eval a X.env)=eval a X.env:=by rfl)(eu:((backTo ar (starEach [e] X.env)).all (fun x=>!x.1)&&(backToKw ar (keywordEach [] X.env)).all (fun x=>x.1.isSome)
   && decide ([e].length+([]:List Keyword).length+(if([]:List Keyword).isEmpty then 0 else 1)<30))=true:=by rfl) (cz:(apos.endLine==ar.line)=true:=by rfl) (hs:starEach [e] X.env=(false,eval e X.env)::starEach [] X.env:=by rfl) (bT:(backTo ar (starEach [] X.env)).any (·.1)=false:=by rfl):QD X (.Call (.Attribute a "index" apos) [e] [] ar) (Ds fa g):=⟨have ho:=ho.o;have ha:=ha.o;PE.imp (uG ZB Yv PySem.F.type_list_index (Ue (zK hr)) ho ha cy eu cz hs bT) fun σ H Q aj=>by
 obtain⟨ρ,w,t,r',q,ρ',gd,ee,k⟩:=aj
 unfold Ds at ee
 split at ee
 next ds q1 ρ1 h1=>
  split at ee
  next d ρ2 h2=>
   split at ee
   next az=>
    split at ee
    next j hj=>
     split at ee
     next HQ=>
      cases ee
      refine⟨ρ,w,t,_,_,_,gd,h1,fun v H1 w1 F1 g1 aD r1=>?_⟩
      have r0:=r1.drop (o:=.f) (Qf t)
      have gg:=g1.drop (t':=t)
      obtain⟨p0,us,rfl,hq⟩:=Rep.HR r0
      refine⟨.inl ⟨rfl,us,hq⟩,ρ1,cA t w1,t,_,_,gg,h2,fun Hn H2 w2 g2 bb r2=>?_⟩
      obtain⟨v2,rfl,pJ⟩:=one r2
      have r3:Rep X.K H2 w2 .f 0 (.lst ds) (.ref p0) []:=r0.kg gg.wl bb.ba
      exact⟨ds,d,v2,j,rfl,⟨_,_,_,_,r3⟩,⟨_,_,_,_,pJ⟩,az.1,az.2,hj,HQ,k _ H2 w2 [] g2.up ((aD.drop gd.wt).trans bb) (.int _)⟩
     ·cases ee
    ·cases ee
   ·cases ee
  ·cases ee
 ·cases ee⟩
end
end L3
namespace L3
open PySem PySem.Spec PyProof.Rows L2
end L3
namespace L3
open PySem PySem.Spec PyProof.Rows PySem.W L2
variable {A:Around}{H:Hp}{K:PySem.W.Frag}{P:Program}{a c f:Addr}{b:Int}{base h:Heap}{body:Expr}{cells cl:List (Str×Addr)}{cs ps:List Str}{jA:List V}{ex:List Addr}{mg:Str->Option Value}{o oc:Obj}{params:Arguments}{q qual x:Str}{s:Shared}{scope:Scope}{w:World}{σ:St}
def HS (K:PySem.W.Frag)(x:fD)(E:XK):St->Hp->Prop:=fun σ H=>∃ ρ w t nm,Good K ρ σ H w t/\x ρ=some nm/\∀ C H' w',nsIn K mainGlobals nm=some (some (.ref C))->WL K w' H'->Go H w H' w'->E (.ref C) none H'
theorem tX.e{x:fD}{E:XK}{D:Ends}(h:tX K x E D σ H):HS K x E σ H:=by
 obtain⟨ρ,w,nm,g,e,k⟩:=h
 exact⟨ρ,w,0,nm,g,e,k⟩
def Dt:fD:=fun _=>none
def u5 (x y:fD):fD:=fun ρ=>match x ρ with
 | some nm=>some nm
 | none=>y ρ
def xn (f:aI)(x:fD):fD:=fun ρ=>match f ρ with
 | some (.nx ρ1)=>x ρ1
 | _=>none
def q9 (g:cf)(x y:fD):fD:=fun ρ=>match g ρ with
 | some (b,ρ1)=>if b=true then x ρ1 else y ρ1
 | none=>none
def Du (nm:Str):fD:=fun _=>some nm
abbrev Ui (X:Cx)(E:XK)(e:Expr)(x:fD):Prop:=PE X e fun σ H _=>HS X.K x E σ H
structure HU (X:Cx) (E:XK) (e:Expr) (x:fD):Prop where mk::o:Ui X E e x
abbrev Uj (X:Cx)(E:XK)(st:Stmt)(x:fD):Prop:=PS X st (tX X.K x E)
structure Ab (X:Cx) (E:XK) (e:Stmt) (x:fD):Prop where mk::o:Uj X E e x
abbrev Uk (X:Cx)(E:XK)(ss:List Stmt)(x:fD):Prop:=fZ X ss (tX X.K x E)
structure nO (X:Cx) (E:XK) (e:List Stmt) (x:fD):Prop where mk::o:Uk X E e x
section
variable {X:Cx}{E:XK}{st:Stmt}{ss bw a b:List Stmt}{x y:fD}{f:aI}{g:cf}{c e:Expr}{es:List Expr}{pos pos' p:Pos}
theorem HV:nO X E ss Dt:=⟨fun _ _ _ _ _ _ h=>by
 obtain⟨_,_,_,_,e,_⟩:=h
 cases e⟩
theorem HW(hx:nO X E ss x)(hy:nO X E ss y):nO X E ss (u5 x y):=⟨have hx:=hx.o;have hy:=hy.o;fun pins s σ H D I h=>by
 obtain⟨ρ,w,nm,g,e,k⟩:=h
 unfold u5 at e
 split at e
 next fL h1=>
  cases e
  exact hx pins s σ H D I ⟨ρ,w,_,g,h1,k⟩
 ·exact hy pins s σ H D I ⟨ρ,w,nm,g,e,k⟩⟩
theorem HX(h1:jm X st f)(h2:nO X E bw x):nO X E (st::bw) (xn f x):=⟨have h1:=h1.o;have h2:=h2.o;fZ.imp (sh h1 h2) fun D σ H aj=>by
 obtain⟨ρ,w,nm,g,e,k⟩:=aj
 unfold xn at e
 split at e
 next ρ1 h1=>
  exact⟨ρ,w,.nx ρ1,g,h1,fun aP H' w' hl g' di=>⟨ρ1,w',nm,g',e,fun C H2 w2 n wl bb=>k C H2 w2 n wl (di.trans bb)⟩⟩
 ·cases e⟩
theorem q_(h:Ab X E st x):nO X E (st::bw) x:=⟨have h:=h.o;by
 intro pins s σ H D I hh
 refine JA (aU (h pins s σ H { nx:=fun _ _=>False,rt:=fun _ _=>False } I hh) fun fl s1 q=>?_)
 cases fl with
 | next=>obtain⟨_,_,_,z⟩:=q;exact z.elim
 | brk=>obtain⟨_,_,_,z⟩:=q;exact z.elim
 | cont=>obtain⟨_,_,_,z⟩:=q;exact z.elim
 | ret u=>obtain⟨_,_,_,_,_,z⟩:=q;exact z.elim⟩
theorem HY(hc:h_ X c g)(ha:nO X E a x)(hb:nO X E b y):Ab X E (.If c a b pos) (q9 g x y):=⟨have hc:=hc.o;have ha:=ha.o;have hb:=hb.o;PS.imp (FH hc ha hb) fun D σ H aj=>by
 obtain⟨ρ,w,nm,gd,e,k⟩:=aj
 unfold q9 at e
 split at e
 next b' ρ1 h1=>
  refine⟨ρ,w,0,b',ρ1,gd,h1,fun H1 w1 g1 aD=>?_⟩
  cases b' with
  | true=>exact⟨ρ1,w1,nm,g1,e,fun C H2 w2 n wl bb=>k C H2 w2 n wl (aD.trans bb)⟩
  | false=>exact⟨ρ1,w1,nm,g1,e,fun C H2 w2 n wl bb=>k C H2 w2 n wl (aD.trans bb)⟩
 ·cases e⟩
theorem Ac(he:HU X E e x)(hs:swapsWith e none pos.line X.env=pure false:=by rfl):Ab X E (.Expr e pos) x:=⟨have he:=he.o;PS.imp (FE he hs) fun D σ H aj=>aj.e⟩
end
section
variable {P:Program}{w:World}{K:PySem.W.Frag}{mg:Str->Option Value}{base:Heap}{N:List Str}{qual:Str}{scope:Scope}{f:Addr}{cd:Value}{A:Around}{outer:List Env}{ax:Shared}{bE:Hp}{E:XK}
theorem HZ{nm txt:Str}{k j:Nat}{np ar lO pos:Pos}(hr:aw k (A.deeper (envOfC qual scope ax.heap.objs.size f cd)))(hC:∃ C,zY K mg nm C)(hg:Gl (jz P w K mg base N qual scope f cd A outer ax bE E) nm:=by rfl)(fT:(nm==("__debug__":Str))=false:=by decide):Ab (jz P w K mg base N qual scope f cd A outer ax bE E) E (.Raise (some (.Call (.Name nm np) [.Constant (.str txt) j lO] [] ar)) none pos) (Du nm):=⟨by
 obtain⟨C,hC⟩:=hC
 refine PS.imp (TX hr.hd hC hg fT) fun D σ H aj=>?_
 obtain⟨ρ,w',fL,g,e,k⟩:=aj
 cases e
 exact k C H w' hC.ns g.wl Go.refl⟩
theorem Ad{j k n:Nat}{F:List D->Option Str}{e:Expr}{es:List Expr}{g:bN}{p pos:Pos}(Ul:mh P w K mg base k x n F)(hr:aw j (A.deeper (envOfC qual scope ax.heap.objs.size f cd)))(hk:k<=j)(ha:eV (jz P w K mg base N qual scope f cd A outer ax bE E) (e::es) g)(hg:Gl (jz P w K mg base N qual scope f cd A outer ax bE E) x:=by rfl)(fT:(x==("__debug__":Str))=false:=by decide)(he:starEach (e::es) (envOfC qual scope ax.heap.objs.size f cd)=(false,eval e (envOfC qual scope ax.heap.objs.size f cd))::starEach es (envOfC qual scope ax.heap.objs.size f cd):=by rfl)(bG:(backTo pos (starEach es (envOfC qual scope ax.heap.objs.size f cd))).any (·.1)=false:=by rfl):HU (jz P w K mg base N qual scope f cd A outer ax bE E) E (.Call (.Name x p) (e::es) [] pos) (k7 F n g):=⟨have ha:=ha.o;by
 obtain⟨fn,fd,ps,G,hm,wX,hb⟩:=Ul
 refine PE.imp (BK (X:=jz P w K mg base N qual scope f cd A outer ax bE E) (E:=E) G (hr.mono hk) hg hm wX hb .nil (fun pins σ H s e s' I h=>TQ (fun _ _ h=>h) I h) ha fT he bG) fun σ H Q aj=>?_
 obtain⟨ρ,w',t,nm,gd,e,k'⟩:=aj
 unfold k7 at e
 split at e
 next ds ρ1 h1=>
  split at e
  next hn=>
   refine⟨ρ,w',t,ds,ρ1,gd,h1,fun vs H1 w1 g1 aD r1=>?_⟩
   show z_ K n F (vs++[]) H1 Q E
   rw[Za]
   refine⟨by rw[<- r1.length];exact hn,ds,fun a=>(w1 a).map fun _=>Ow.f,nm,fun a o e=>?_,⟨fun a o e=>?_,g1.wl.tb⟩,?_,e,fun C H2 w2 dI ke bb=>k' C H2 w1 dI ⟨fun a o ew=>?_,ke.tb⟩ (aD.trans ⟨fun a x e n=>?_,fun a o ew no=>?_⟩)⟩
   ·try dsimp only at e
    cases ew:w1 a with
    | none=>rw[ew]at e;cases e
    | some o'=>rw[ew]at e;cases e;rfl
   ·try dsimp only at e
    cases ew:w1 a with
    | none=>rw[ew]at e;cases e
    | some o'=>exact g1.wl a o' ew
   ·exact ag.freeze (fun a n=>by show(w1 a).map _=_;rw[n];rfl) r1 nM
   ·obtain⟨iw,q⟩:=g1.wl a o ew
    have:=(bb.keep a .f (by show(w1 a).map _=_;rw[ew];rfl) (fun i z=>nomatch z)).1
    exact⟨iw,by rw[this];exact q⟩
   ·exact⟨(bb.ba a x e (by show(w1 a).map _=_;rw[n];rfl)).1,n⟩
   ·exact⟨(bb.keep a .f (by show(w1 a).map _=_;rw[ew];rfl) (fun i z=>nomatch z)).1,ew⟩
  ·cases e
 ·cases e⟩
end
abbrev pQ:=aS->Option (Str×aS)
def CE (Y:Cx)(pins:List (Addr×Obj))(σ:St)(H:Hp)(w:Wn)(nm:Str)(ρ1:aS)(ev:Value)(s':Shared):Prop:=
 ∃ s1 H1 w1 a C t B H',ev=.ref a/\Inv Y.cU pins σ H1 s1/\Good Y.K ρ1 σ H1 w1 0/\Go H w H1 w1/\pO Y.prog Y.w Y.stack H1 s1 a C t B H' s'/\nsIn Y.K mainGlobals nm=some (some (.ref C))/\(∀ b o,H1 b=some o->Sm o (H' b))/\TB Y.K H'
theorem CE.go{Y:Cx}{pins:List (Addr×Obj)}{H2:Hp}{w w2:Wn}{nm:Str}{ρ1:aS}{ev:Value}{s':Shared}(g:Go H w H2 w2)(h:CE Y pins σ H2 w2 nm ρ1 ev s'):CE Y pins σ H w nm ρ1 ev s':=by
 obtain⟨s1,H1,w1,a,C,t,B,H',e,I,gd,go,r⟩:=h
 exact⟨s1,H1,w1,a,C,t,B,H',e,I,gd,g.trans go,r⟩
def Um (Y:Cx)(st:Stmt)(y:pQ):Prop:=∀ (pins:List (Addr×Obj)) (s:Shared) (σ:St) (H:Hp) (ρ:aS) (w:Wn) (nm:Str) (ρ1:aS),Inv Y.cU pins σ H s->Good Y.K ρ σ H w 0->y ρ=some (nm,ρ1)->
 wpAny (model Y.prog Y.w) Y.A (exec st Y.env) (fun _ _=>False) (CE Y pins σ H w nm ρ1) s
structure H9 (Y:Cx) (e:Stmt) (y:pQ):Prop where mk::o:Um Y e y
def Uo (Y:Cx)(ss:List Stmt)(y:pQ):Prop:=∀ (pins:List (Addr×Obj)) (s:Shared) (σ:St) (H:Hp) (ρ:aS) (w:Wn) (nm:Str) (ρ1:aS),Inv Y.cU pins σ H s->Good Y.K ρ σ H w 0->y ρ=some (nm,ρ1)->
 wpAny (model Y.prog Y.w) Y.A (execs ss Y.env) (fun _ _=>False) (CE Y pins σ H w nm ρ1) s
structure H_ (Y:Cx) (e:List Stmt) (y:pQ):Prop where mk::o:Uo Y e y
def tF (g:cf)(x y:pQ):pQ:=fun ρ=>match g ρ with
 | some (b,ρ1)=>if b=true then x ρ1 else y ρ1
 | none=>none
def xp (L:List Str)(f:aI)(y:pQ)(ie ik:Nat):aI:=fun ρ=>match y ρ with
 | some (nm,ρ1)=>if nm∈L then some (.nx (((ρ1.set ie (some (.exc nm,9))).set ik (some (.exc nm,9))).set ie none))else none
 | none=>f ρ
section
variable {Y:Cx}{c e:Expr}{es:List Expr}{g:bN}{gt:cf}{x y:pQ}{a b ss:List Stmt}{st:Stmt}{pos:Pos}
theorem Up(h:H9 Y st y):H_ Y [st] y:=⟨have h:=h.o;fun pins s σ H ρ w nm ρ1 I gd e=>
 JA (aU (h pins s σ H ρ w nm ρ1 I gd e) fun _ _ z=>z.elim)⟩
theorem Uq{R nn kx:Str}{L:List Str}{f:aI}{ie ik:Nat}{np kp vp apos Dv:Pos}(hU:oQ Y.K Y.mg R L)(hf:dQ Y.cU ss f)(hx:H_ Y ss y)(hN:Y.N.Nodup)(tE:Y.N[ie]? = some nn)(uT:Y.N[ik]? = some kx)(ju:Y.stack=Y.env::Y.outer:=by rfl)(Dg:Y.env.frame=some Y.env.locals:=by rfl)(fI:Y.env.scope.names.lookup nn=some .local:=by rfl)(Aa:Y.env.scope.names.lookup kx=some .local:=by rfl)(hg:Gl Y R:=by rfl)(fT:(R==("__debug__":Str))=false:=by decide)(xj:(nn==("__debug__":Str))=false:=by decide)(Di:(nn==("__classdict__":Str))=false:=by decide)(sR:swapsWith (.Name nn vp) (some (.Name kx kp)) apos.line Y.env=pure false:=by rfl):jm Y.cU (.Try ss [.ExceptHandler (some (.Name R np)) (some nn) [.Assign [.Name kx kp] (.Name nn vp) apos] Dv] [] [] pos) (xp L f y ie ik):=⟨have hf:=hf.o;have hx:=hx.o;by
 intro pins s σ H Dn I hh
 obtain⟨ρ,w,o,gd,ee,K'⟩:=hh
 unfold xp at ee
 refine wpAny_Try_except ?_
 split at ee
 next nm ρ1 h1=>
  split at ee
  next hL=>
   cases ee
   obtain⟨RA,hR,Dh,hmg,j_⟩:=hU
   refine QV (hx pins s σ H ρ w nm ρ1 I gd h1) (fun _ _ z=>z.elim) fun ev s' q=>?_
   obtain⟨s1,H1,w1,a,C,t,B,H',rfl,I1,g1,aD,F',dI,pR,u6⟩:=q
   obtain⟨Ur,c_⟩:=j_ nm hL C dI
   refine T2 (X:=Y.cU) I1 F' ju Dg hN tE uT fI Aa hR Dh c_ hmg hg fT xj Di sR fun s5 oe qu I5=>?_
   have xq:ie<σ.length:=by rw[I.len];exact(Qp.mp tE).1
   have Dw:ik<σ.length:=by rw[I.len];exact(Qp.mp uT).1
   have Dx:=F'.free
   obtain⟨g2,bb⟩:=g1.grow (H':=upd H' a (uZ a oe)) (fun b o q=>by
    obtain⟨y,ey,_⟩:=(pR b o q).is
    unfold upd
    rw[Qg (fun z=>by rw[<- z,ey]at Dx;cases Dx)]
    exact pR b o q) (u6.upd rfl (.inl Dx))
   have rep:∀ w',Rep Y.K (upd H' a (uZ a oe)) w' .f 0 (.exc nm) (.ref a) []:=fun w'=>.exc (ob:=oe) (u:=.ext fun h=>h.get? a=some oe) (by unfold upd;rw[Qe rfl];rfl) ⟨C,qu,Ur⟩ (fun _ z=>nomatch z)
   obtain⟨g3,dm⟩:=g2.sZ (i:=ie) xq (rep _)
   obtain⟨g4,iS⟩:=g3.sZ (i:=ik) (by rw[Qu];exact Dw) (rep _)
   obtain⟨g5,iT⟩:=g4.unset (i:=ie) (v:=none) (by rw[Qu,Qu];exact xq)
   exact⟨_,_,I5,K' _ _ _ (by rw[Qu,Qu,Qu]) g5 ((((aD.trans bb).trans dm).trans iS).trans iT)⟩
  ·cases ee
 ·refine QV (hf pins s σ H Dn I ⟨ρ,w,o,gd,ee,K'⟩) (fun fl s1 q=>?_) (fun _ _ z=>False.elim z)
  cases fl with
  | next=>exact Jf q
  | brk=>exact q
  | cont=>exact q
  | ret u=>exact q⟩
end
def Ie (K:PySem.W.Frag)(n:Nat)(ob:D)(G:List D->OD):Sp:=fun vs H Q _=>vs.length=n/\∃ ds w r q,(∀ a o,w a=some o->o=.f)/\WL K w H/\ag K H w .f 0 ds vs []/\(∃ v,Rep K H w .f 0 ob v [])/\G ds=some (r,q) /\
 ∀ v H' w' Fo,Go H w H' w'->WL K w' H'->Rep K H' w' (.t 0) q r v Fo->Q v H'
theorem Ig{u:Value}:∀ {ps:List Str} {us:List Value} {i:Nat},ps.Nodup->ps[i]? = some x->us[i]? = some u->(ps.zip us).reverse.lookup x=some u
 | [],_,_,_,h,_=>by simp at h
 | _::_,[],_,_,_,h=>by simp at h
 | p::ps,v::us,0,nd,h1,h2=>by
  simp at h1 h2
  subst h1
  subst h2
  rw[List.zip_cons_cons,List.reverse_cons,List.lookup_append]
  have:(ps.zip us).reverse.lookup p=none:=List.lookup_eq_none_iff.mpr fun q hq=>by
   have:=(Jg (List.mem_reverse.mp hq)).1
   exact bne_iff_ne.mpr fun z=>(Zv.mp nd).1 (z ▸ this)
  rw[this]
  simp
 | p::ps,v::us,i+1,nd,h1,h2=>by
  rw[List.zip_cons_cons,List.reverse_cons,List.lookup_append,Ig (i:=i) (Zv.mp nd).2 (by simpa using h1) (by simpa using h2)]
  rfl
theorem Us{prog:Program}{R:Result->Shared->Prop}{args:Args}{fd:FuncData}{fs:Array Value}{t:Tok}(xt:A.depth<recursionLimit)(ho:s.heap.get? a=some o)
  (kR:o.data=.func fd) (Ut:fd.scope.isCoroutine=false) (Dy:fd.scope.isGenerator=false) (dF:fd.body=.expr body) (hc:fd.code=.ref c) (qu:s.heap.get? c=some oc) (Uu:oc.data=.fields fs) (hq:fs[1]? = some (.str q t))
  (h:wpAny (model prog w) A.in1 (bindArgs fd args) (fun binds aL=>
    wpAny (model prog w) A.in1 (newFunctionEnv fd.scope fd.globals fd.closure binds (q ++ ".<locals>.") (some a) fd.code none fd.builtins)
     (fun env el=>el.heap.NoLimit/\codeAny (model prog w) A (.expr body env) R el) (fun e s'=>R (.error e) s') aL) (fun e s'=>R (.error e) s') s) :
  codeAny (model prog w) A (.call (.ref a) args) R s:=by
 refine codeAny_of_tree ?_
 show wpAny _ A.in1 (callAny (.ref a) args) _ _ s
 simp only[callAny]
 refine Qa (wpAny_load ho ?_)
 simp only[kR,callFunction,Ut,Dy,dF,hc]
 rw[hc]at h
 refine Qa (m:=field (.ref c) 1) (YJ qu Uu hq (Qa (Qj ?_)))
 exact Qa (QV h (fun binds aL lT=>Qa (QV lT (fun env el jv=>Qa (wpAny_enterFrame jv.1 xt
  (Qj (And.intro rfl jv.2)))) fun _ _ h'=>h')) fun _ _ h'=>h')
def xu (P:Program)(w:World)(K:PySem.W.Frag)(mg:Str->Option Value)(base:Heap)(N:List Str)(qual:Str)(scope:Scope)(f:Addr)(cd:Value)(cl:List (Str×Addr))(A:Around)(outer:List Env)(s:Shared)(H:Hp):Cx where
 prog:=P
 w:=w
 K:=K
 mg:=mg
 base:=base
 A:=A.deeper (envX qual scope s.heap.objs.size f cd cl)
 N:=N
 ax:=s
 bE:=H
 env:=envX qual scope s.heap.objs.size f cd cl
 outer:=outer
 stack:=envX qual scope s.heap.objs.size f cd cl::outer
 ex:=[]
 calm:=true
 fn:=fun _=>false
 pn:=[]
 xe:=fun _ _=>False
structure cB (ps cs:List Str) (sc:Scope):Prop where
 kind:sc.kind=.function
 co:sc.isCoroutine=false
 gen:sc.isGenerator=false
 nd:(ps++cs).Nodup
 par:∀ x∈ps,sc.names.lookup x=some .local
 xw:∀ x∈cs,sc.names.lookup x=some .free
 iU:∀ y∈sc.names,y.2 ≠ .cell
 free:∀ x,sc.names.lookup x=some .free->x∈cs
structure CellsOk (base:Heap) (cl:List (Str×Addr)) (cs:List Str) (jA:List V):Prop where
 len:jA.length=cs.length
 at':∀ (i:Nat) (x:Str) (v:V),cs[i]? = some x->jA[i]? = some v->∃ c u,cl.lookup x=some c/\bh v u/\base.IsCell c (some u)
 inj:∀ x y c,cl.lookup x=some c->cl.lookup y=some c->x=y
 all:∀ x c,cl.lookup x=some c->∃ v,base.IsCell c v
theorem Uv{cd:Value}{outer:List Env}{h1:Heap}{tk:Nat}{us:List Value}{vs:List V}
  (S:cB ps cs scope) (C:CellsOk base cl cs jA) (hd:A.handled=none) (e0:iK P w K mg base A outer s H) (hl:vs.length=ps.length) (r:a_ vs us)
  (dI:h1.Ns s.heap.objs.size (fun x=>(ps.zip us).reverse.lookup x)) (hk:∀ b o,s.heap.get? b=some o->h1.get? b=some o) :
  Inv (xu P w K mg base (ps++cs) qual scope f cd cl A outer s H) [] (L2.start (ps++cs) (vs++jA)) H { s with heap:=h1,toks:=tk }:=by
 have oB:∀ b:Addr,b ∉ (xu P w K mg base (ps++cs) qual scope f cd cl A outer s H).ex:=fun b z=>absurd (show b∈([]:List Addr)from z) (by simp)
 refine⟨⟨e0.mod,S.kind,rfl,rfl,Qf _,C.inj,fun y hy=>?_,(fun y c z=>by cases z),fun _=>hd,Around.frames_deeper e0.frames,.inr ⟨rfl,rfl⟩,fun b z=>absurd z (oB b),e0.bs,e0.lH,fun b _ _=>oB b,fun b z=>absurd z (oB b),e0.dN,e0.o9⟩,
  rfl,e0.bare,Un.kept hk,⟨_,dI,fun i y v h1 h2 h3=>?_⟩,fun y c h=>?_,e0.az.fresh (Qf _),fun y c h=>?_,fun p hp=>absurd (show p∈([]:List (Addr×Obj))from hp) (by simp),e0.az.kept hk,?_⟩
 ·have hy:scope.names.lookup y=some .cell\/scope.names.lookup y=some .free:=hy
  rcases hy with hy|hy
  ·exact absurd rfl (S.iU _ (QG hy))
  ·obtain⟨i,hi⟩:=List.mem_iff_getElem?.mp (S.free y hy)
   have:i<jA.length:=by rw[C.len];exact(Qp.mp hi).1
   obtain⟨c,u,e,_⟩:=C.at' i y _ hi (Qx this)
   exact⟨c,e⟩
 ·have hN:(ps++cs)[i]? = some y:=h1
  have eR:(vs++jA)[i]? = some v:=by
   unfold L2.start at h2
   have Gr:(vs++jA).length=(ps++cs).length:=by rw[Qo,Qo,hl,C.len]
   rw[Gr,YT,List.replicate_zero,Za,QH]at h2
   cases e:(vs++jA)[i]? with
   | none=>rw[e]at h2;cases h2
   | some a=>rw[e]at h2;cases h2;rfl
  by_cases hi:i<ps.length
  ·rw[QA hi]at hN
   rw[QA (by rw[hl];exact hi)]at eR
   obtain⟨u,hu,rv⟩:=r.get eR
   exact⟨u,rv,.inl ⟨S.par y (ZM hN),Ig (List.nodup_append.mp S.nd).1 hN hu⟩⟩
  ·rw[QO (Yp hi)]at hN
   rw[QO (by rw[hl];exact Yp hi),hl]at eR
   obtain⟨c,u,e,rv,hc⟩:=C.at' _ y v hN eR
   exact⟨u,rv,.inr ⟨.inr (S.xw y (ZM hN)),c,e,(hc.keeps fun b o e=>(e0.bs b o e).1).keeps hk⟩⟩
 ·obtain⟨v,hv⟩:=C.all y c h
  exact⟨v,(hv.keeps fun b o e=>(e0.bs b o e).1).keeps hk⟩
 ·obtain⟨v,o,ho,_⟩:=C.all y c h
  exact(e0.bs c o ho).2
 ·unfold L2.start
  show _=(ps++cs).length
  rw[Qo,Qm,Zd,Qo,Qo,hl,C.len]
  omega
def rf (fb:aF)(cds:List D):List D->OD:=fun ds=>match fb (jZ (ds++cds).length (ds++cds))with
 | some (d,q,_)=>some (d,q)
 | none=>none
theorem Uw{nm:Str}{pm ctv:Value}{k:Nat}{cds:List D}{fb:aF}
  (S:cB ps cs scope) (C:CellsOk base cl cs jA)
  (dF:∀ (q:Str) (A:Around) (outer:List Env) (s:Shared) (H:Hp),aw k (A.deeper (envX q scope s.heap.objs.size f (.ref c) cl))->PD (xu P w K mg base (ps++cs) q scope f (.ref c) cl A outer s H) body fb) :
  bW P w K mg base dh (k+1) f (kla_fn nm qual params body scope cl pm (.ref c) ctv) ps (Ie K ps.length (.ob f (kla_obj nm qual params body scope cl pm c ctv) jA cds) (rf fb cds)):=by
 refine⟨fun vs H Q E h=>h.1,fun A outer s H args us vs Q E hr e0 hb r fz=>?_⟩
 obtain⟨hn,ds,wn,r',q',hw,wl,rs,⟨vo,ro⟩,ee,k'⟩:=fz
 cases ro with
 | ob a1 a2 a3 a4=>
 obtain⟨x1,⟨fd',x2,x3⟩,fs,q,t,x4,x5⟩:=a3
 cases x2
 cases x3
 obtain⟨o1,_⟩:=(show cR P w H s.heap _ (.bZ _ _)from e0.az _ _ a1)
 obtain⟨o2,_⟩:=(show cR P w H s.heap _ (.bZ _ _)from e0.az _ _ a2)
 have lim:s.heap.NoLimit:=e0.mod.nolimit.keeps fun b o e=>(e0.bs b o e).1
 refine Us hr.depth o1 rfl S.co S.gen rfl rfl o2 x4 x5 (hb _ _ _ _ ?_)
 refine wpAny_newFunctionEnv S.iU (fun y hy=>S.par y.1 (Jg hy).1) (fun h1 dI Ih=>⟨lim.fresh _ Ih,?_⟩) S.kind
 have hk:∀ b o,s.heap.get? b=some o->h1.get? b=some o:=fun b o e=>Ih.extBut b o (QI (Ql e)) (Qc _ e)
 show codeAny _ _ (.expr body (envX q scope s.heap.objs.size f (.ref c) cl)) _ _
 have I:=Uv (cd:=.ref c) (f:=f) (qual:=q) (tk:=s.toks+(ps.zip us).length) S C hr.hd e0 hn r dI hk
 unfold rf at ee
 split at ee
 next d q0 ρ' h1=>
  cases ee
  have gd:Good K (jZ (ds++cds).length (ds++cds)) (L2.start (ps++cs) (vs++jA)) H wn 0:=by
   have e1:(ds++cds).length=(ps++cs).length:=by rw[Qo,Qo,rs.length,a4.length,hn,C.len]
   rw[e1]
   refine wJ hw wl ?_
   have app:∀ {ds:List D} {vs:List V},ag K H wn .f 0 ds vs []->ag K H wn .f 0 (ds++cds) (vs++jA) []:=by
    intro ds
    induction ds with
    | nil=>intro vs r;cases r;exact a4
    | cons d ds ih=>
     intro vs r
     generalize hF:([]:List Addr)=F at r
     cases r with
     | cons r1 r2 ne=>
      obtain rfl:=r1.zero
      obtain rfl:=r2.zero
      exact .cons (F:=[]) (G:=[]) r1 (ih r2) nM
   exact app rs
  refine kla_codeExpr (QV (dF q A outer s H (hr.deeper _) [] _ _ H Q I ⟨_,wn,0,_,_,_,gd,h1,fun v H' w' F g1 aD r1=>k' v H' w' F aD g1.wl r1⟩) (fun v s' hh=>?_) fun e s' z=>False.elim z)
  obtain⟨v',H',J,rv,qq⟩:=hh
  exact⟨v',H',J.os,J.bare,J.base,J.az,rv,qq⟩
 ·cases ee
structure Lm (K:PySem.W.Frag) (mg:Str->Option Value) (base:Heap):Prop where
 bm:∃ bm o,mg "__builtins__" = some (.ref bm)/\bm≠builtinsNs/\base.get? bm=some o/\o.cls=.type "module" /\ o.dict=some builtinsNs/\o.data=.plain
 cd:∀ x∈pz,∀ c P,tabIn K x=some (c,P)->CodeHd base c P
theorem Ux{pos:Pos}{a:Int}{c cv:Value}:∀ (l:List Value),TriplesOk l->codeAmong pos (l++[rawInt a,rawInt b,c])=some cv->codeAmong pos l=some cv\/cv=c:=by
 intro l h
 fun_induction TriplesOk l with
 | case1=>
  intro e
  simp only[List.nil_append,rawInt,codeAmong]at e
  split at e
  ·cases e;exact .inr rfl
  ·cases e
 | case2 a1 t1 a2 t2 v bw ih=>
  intro e
  simp only[Yq,codeAmong]at e ⊢
  split at e
  next hc=>
   rw[Qe hc]
   exact .inl e
  next hc=>
   rw[Qg hc]
   exact ih h e
 | case3=>exact h.elim
theorem TB.grow(t:TB K H){P:Addr}{ps:Array Value}{a:Int}{u:HO}{fs:Array Value}{tk:Tok}(hP:H P=some (.dB ps))(hc:H c=none)(hu:∀ xs,u ≠ .lst xs)(h1:oc.data=.fields fs)(h2:fs[1]? = some (.str q tk)) :
  TB K (L2.upd (L2.upd H P (.dB (ps ++ #[rawInt a,rawInt b,.ref c]))) c (.bZ oc u)):=by
 have hcP:P≠c:=fun z=>by rw[z,hc]at hP;cases hP
 have bZ:∀ d o v,H d=some (.bZ o v)->L2.upd (L2.upd H P (.dB (ps ++ #[rawInt a,rawInt b,.ref c]))) c (.bZ oc u) d=some (.bZ o v):=fun d o v e=>by
  rw[aO (fun z=>by rw[z,hc]at e;cases e),aO (fun z=>by rw[z,hP]at e;cases e)]
  exact e
 have get:∀ Q qs,L2.upd (L2.upd H P (.dB (ps ++ #[rawInt a,rawInt b,.ref c]))) c (.bZ oc u) Q=some (.dB qs)->(Q=P/\qs=ps ++ #[rawInt a,rawInt b,.ref c])\/H Q=some (.dB qs):=fun Q qs e=>by
  by_cases h1:Q=c
  ·subst h1;rw[cT]at e;cases e
  ·rw[aO h1]at e
   by_cases h2:Q=P
   ·subst h2;rw[cT]at e;cases e;exact .inl ⟨rfl,rfl⟩
   ·rw[aO h2]at e;exact .inr e
 refine⟨fun Q qs e=>?_,fun Q qs e pos cv Ae=>?_,fun x hx c' P' e=>?_⟩
 ·rcases get Q qs e with⟨_,rfl⟩|e
  ·have:=TriplesOk_snoc a b (.ref c) ps.toList (t.tr P ps hP)
   simpa using this
  ·exact t.tr Q qs e
 ·have old:∀ Q qs,H Q=some (.dB qs)->codeAmong pos qs.toList=some cv->∃ c' Af u' vs q t,cv=.ref c'/\L2.upd (L2.upd H P (.dB (ps ++ #[rawInt a,rawInt b,.ref c]))) c (.bZ oc u) c'=some (.bZ Af u')/\Af.data=.fields vs/\vs[1]? = some (.str q t)/\∀ xs,u' ≠ .lst xs:=fun Q qs e Ae=>by
   obtain⟨c',Af,u',vs,q',t',g1,g2,g3,g4,g5⟩:=t.cd Q qs e pos cv Ae
   exact⟨c',Af,u',vs,q',t',g1,bZ _ _ _ g2,g3,g4,g5⟩
  rcases get Q qs e with⟨_,rfl⟩|e
  ·rcases Ux (pos:=pos) (cv:=cv) (c:=.ref c) (a:=a) (b:=b) ps.toList (t.tr P ps hP) (by simpa using Ae)with z|z
   ·exact old P ps hP z
   ·exact⟨c,oc,u,fs,q,tk,z,cT,h1,h2,hu⟩
  ·exact old Q qs e Ae
 ·obtain⟨qs,e'⟩:=t.is x hx c' P' e
  have n1:P'≠c:=fun z=>by rw[z,hc]at e';cases e'
  by_cases n2:P'=P
  ·subst n2;exact⟨_,by rw[aO n1,cT]⟩
  ·exact⟨qs,by rw[aO n1,aO n2];exact e'⟩
def kn (a:Addr)(o:Obj):HO:=.bZ o (.ext fun h=>h.get? a=some o)
theorem Dz(e:h.get? a=some o):cR P w H h a (kn a o):=⟨e,e,⟨o,e⟩,fun _ _ p k=>k _ p⟩
section
variable {X:Cx}{pins:List (Addr×Obj)}{σ:St}{H:Hp}{s:Shared}{E:Value->Shared->Prop}{Q:Value->Shared->Prop}
theorem Inv.table{P:Addr}{ps ps':Array Value}{fo:Obj}{h':Heap}{tk:Nat}(I:Inv X pins σ H s)(hP:H P=some (.dB ps))(hx:Heap.ExtBut P s.heap h')(hc:s.heap.objs.size<=c)(hf:c<f)(e1:h'.get? c=some oc)(e2:h'.get? P=some (tabObj (ps++ps')))(e3:h'.get? f=some fo) :
  Inv X pins σ (L2.upd (L2.upd (L2.upd H P (.dB (ps++ps'))) c (kn c oc)) f (kn f fo)) { s with heap:=h',toks:=tk }:=by
 have nc:H c=none:=I.az.fresh hc
 have nf:H f=none:=I.az.fresh (Qv hc (ZF hf))
 have keep:∀ b u,H b=some u->b≠P->L2.upd (L2.upd (L2.upd H P (.dB (ps++ps'))) c (kn c oc)) f (kn f fo) b=some u:=fun b u e n=>by
  rw[aO (dY e nf),aO (dY e nc),aO n];exact e
 have PP:L2.upd (L2.upd (L2.upd H P (.dB (ps++ps'))) c (kn c oc)) f (kn f fo) P=some (.dB (ps++ps')):=by
  rw[aO (dY hP nf),aO (dY hP nc),cT]
 have kp:∀ b o,s.heap.get? b=some o->H b=none->h'.get? b=some o:=fun b o e n=>hx b o (fun z=>by rw[z,hP]at n;cases n) e
 refine I.un ⟨fun b o e n _ _=>kp b o e n,fun b o e n _ _=>⟨o.slots,kp b o e n⟩,fun b o e n _=>?_,fun b o e _=>?_,fun b xs e=>keep b _ e (fun z=>by rw[z,hP]at e;cases e),fun b o u e=>keep b _ e (fun z=>by rw[z,hP]at e;cases e),fun b qs e=>?_⟩ fun a o e=>?_
 ·have lt:=Ql e
  rw[aO (QI (Ja (Qn lt hc) hf)),aO (QI (Qn lt hc)),aO (fun z=>by rw[z,hP]at n;cases n)]
  exact n
 ·by_cases hb:b=P
  ·rw[hb];exact⟨_,e2⟩
  ·exact⟨o,hx b o hb e⟩
 ·by_cases hb:b=P
  ·subst hb
   rw[hP]at e;cases e
   exact⟨ps',PP⟩
  ·exact⟨#[],by rw[Array.append_empty];exact keep b _ e hb⟩
 ·by_cases h1:a=f
  ·subst h1;rw[cT]at e;cases e;exact Dz e3
  ·rw[aO h1]at e
   by_cases h2:a=c
   ·subst h2;rw[cT]at e;cases e;exact Dz e1
   ·rw[aO h2]at e
    by_cases h3:a=P
    ·subst h3;rw[cT]at e;cases e;exact e2
    ·rw[aO h3]at e
     refine(I.az a o e).gX (fun b u hb q=>hx b u (fun z=>?_) q) (fun b q=>keep b _ q (fun z=>by rw[z,hP]at q;cases q)) fun b xs q=>keep b _ q (fun z=>by rw[z,hP]at q;cases q)
     subst z
     rcases hb with hb|hb
     ·exact h3 hb.symm
     ·rw[hP]at hb;cases hb
theorem Uy{body:Expr}{pos:Pos}{A:Around}{M:Model}{P:Addr}{tG:List (Str×Addr)}(I:Inv X pins σ H s)(L:Lm X.K X.mg X.base)(tb:TB X.K H)(hx:x∈pz)(ht:tabIn X.K x=some (c,P))(k8:X.env.code=.ref c)
  (l_:closureFor scope X.env=pure tG) (pq:defaultsOf params X.env=([],[]))
  (h:∀ (f c':Addr) (pm ctv:Value) (oc:Obj) (h':Heap) (tk:Nat) (H':Hp) (u u':HO),Inv X pins σ H' { s with heap:=h',toks:=tk }->H' f=some (.bZ (kla_obj "<lambda>" (X.env.qual ++ "<lambda>") params body scope tG pm c' ctv) u)->H' c'=some (.bZ oc u')->
    wz (kla_obj "<lambda>" (X.env.qual ++ "<lambda>") params body scope tG pm c' ctv) c' oc->(∀ b o,H b=some o->Sm o (H' b))->TB X.K H'->Q (.ref f) { s with heap:=h',toks:=tk }) :
  wpAny M A (eval (.Lambda params body scope pos) X.env) Q E s:=by
 obtain⟨ps,hP⟩:=tb.is x hx c P ht
 have oP:s.heap.get? P=some (tabObj ps):=I.az P _ hP
 have C:=(L.cd x hx c P ht).keeps I.bk
 have hg:=I.mod.glob.keeps I.bk
 have Uz:mainGlobals≠P:=fun q=>by
  obtain⟨o,es,ep,e,hd,_⟩:=hg
  rw[q,oP]at e;cases e;cases hd
 have hB:s.heap.BuiltinsAt X.mg P:=by
  obtain⟨bm,ob,b1,b2,b3,b4,b5,b6⟩:=L.bm
  have xx:=I.bk _ _ b3
  refine⟨bm,ob,b1,b2,fun q=>?_,fun q=>?_,xx,b4,b5,b6⟩
  ·obtain⟨o,es,ep,e,hd,_⟩:=hg
   rw[q,e]at xx;cases xx;rw[hd]at b6;cases b6
  ·rw[q,oP]at xx;cases xx;cases b4
 refine kla_eval pq ?_
 cases hf:codeAmong pos ps.toList with
 | none=>
  refine kla_makeFunction (mg:=X.mg) l_ I.ok.glob hg k8 C oP (tb.tr P ps hP) hf Uz hB fun c' ctv h' tk UA DA dZ tH UB=>?_
  obtain⟨c2,oc,vs,t,e2,qu,hd,hv⟩:=tH
  cases e2
  have nc:H c'=none:=I.az.fresh DA
  have nf:H h'.objs.size=none:=I.az.fresh (Qv DA (ZF dZ))
  refine h h'.objs.size c' _ ctv oc _ tk _ _ _ (Inv.table (ps':=#[rawInt pos.line,rawInt pos.col,.ref c']) (oc:=oc) I hP (fun b o n e=>Qc _ (UA b o n e)) DA dZ (Qc _ qu) (Qc _ UB) (Qs _ rfl)) cT
   (by rw[aO (QI dZ),cT];rfl) ⟨rfl,⟨_,rfl,rfl⟩,vs,_,t,hd,hv⟩ (fun b o e=>?_) ((tb.grow (u:=.ext fun h=>h.get? c'=some oc) hP nc (fun _ z=>nomatch z) hd hv).upd rfl (.inl ?_))
  ·by_cases hb:b=P
   ·subst hb
    rw[hP]at e;cases e
    exact⟨_,by rw[aO (dY hP nf),aO (dY hP nc),cT]⟩
   ·exact sm (by rw[aO (dY e nf),aO (dY e nc),aO hb];exact e)
  ·rw[aO (Jp dZ),aO (dY hP nf).symm];exact nf
 | some cv=>
  obtain⟨c',oc,u',vs,q,t,rfl,js,hd,hv,_⟩:=tb.cd P ps hP pos cv hf
  refine kla_makeFunctionHit (mg:=X.mg) l_ I.ok.glob hg k8 C oP (tb.tr P ps hP) hf hB fun ctv h' tk hk hsz=>?_
  have nf:H h'.objs.size=none:=I.az.fresh hsz
  refine h h'.objs.size c' _ ctv oc _ tk _ _ _ (I.laid (o:=kn _ _) (fun b o e=>Qc _ (hk b o e)) hsz (Dz (Qs _ rfl))) cT (by rw[aO (dY js nf)];exact js) ⟨rfl,⟨_,rfl,rfl⟩,vs,_,t,hd,hv⟩ (fun b o e=>sm (by rw[aO (dY e nf)];exact e)) (tb.upd rfl (.inl nf))
end
def oR (base h:Heap)(ex:List Addr):Heap:=hideAll h ((List.range h.objs.size).filter fun b=>(base.get? b).isNone && !ex.contains b)
theorem Ii{b:Addr}(e:(oR base h ex).get? b=some o):h.get? b=some o/\((base.get? b).isSome=true\/b∈ex):=by
 have e1:=of_hideAll _ e
 refine⟨e1,?_⟩
 by_cases hb:b∈((List.range h.objs.size).filter fun b=>(base.get? b).isNone && !ex.contains b)
 ·have:=hideAll_none (h:=h) _ hb
  unfold oR at e
  rw[this]at e;cases e
 ·rw[ZJ]at hb
  have:¬ (((base.get? b).isNone && !ex.contains b)=true):=fun z=>hb ⟨Qz.mpr (Ql e1),z⟩
  cases h1:base.get? b with
  | some o'=>exact .inl rfl
  | none=>
   rw[h1]at this
   simp at this
   exact .inr this
theorem DB{b:Addr}(e:h.get? b=some o)(hb:(base.get? b).isSome=true\/b∈ex):(oR base h ex).get? b=some o:=
 hideAll_get _ e fun z=>by
  have:=(ZJ.mp z).2
  rw[QB]at this
  rcases hb with hb|hb
  ·have t1:=this.1
   cases q:base.get? b with
   | none=>rw[q]at hb;cases hb
   | some o=>rw[q]at t1;cases t1
  ·have t2:=this.2
   simp at t2
   exact t2 hb
def eY:List Str->List (Str×Addr)->List (Str×Addr)
 | [],_=>[]
 | x::xs,cells=>match cells.lookup x with
  | some c=>(x,c)::eY xs cells
  | none=>eY xs cells
theorem xy:∀ {xs:List Str},(eY xs cells).lookup x=some c->cells.lookup x=some c
 | [],h=>by cases h
 | y::xs,h=>by
  unfold eY at h
  split at h
  next c' e=>
   rw[QW]at h
   split at h
   next hb=>
    cases h
    rw[eq_of_beq hb];exact e
   ·exact xy h
  ·exact xy h
theorem DC(e:cells.lookup x=some c):∀ {xs:List Str},x∈xs->(eY xs cells).lookup x=some c
 | [],h=>by cases h
 | y::xs,h=>by
  unfold eY
  by_cases hy:x=y
  ·subst hy
   rw[e]
   simp
  ·have hm:x∈xs:=by rcases Qi.mp h with z|z;exact absurd z hy;exact z
   split
   ·rw[QW,Zt.mpr hy]
    exact DC e hm
   ·exact DC e hm
def tI:List Nat->aS->Option (List D)
 | [],_=>some []
 | i::is,ρ=>match ρ[i]? with
  | some (some (d,_))=>if d.bM=false then match tI is ρ with
   | some ds=>some (d::ds)
   | none=>none
   else none
  | _=>none
theorem Ij{ρ:aS}{w:Wn}{t:Nat}(g:Good K ρ σ H w t):∀ {is:List Nat} {ds:List D},tI is ρ=some ds->∃ vs,ag K H w .f 0 ds vs []/\vs.length=is.length/\∀ (j i:Nat),is[j]? = some i->∃ v,vs[j]? = some v/\σ[i]? = some (some v)
 | [],ds,e=>by
  cases e
  exact⟨[],.nil,rfl,fun j i h=>by simp at h⟩
 | i::is,ds,e=>by
  unfold tI at e
  split at e
  next d q h1=>
   split at e
   next hl=>
    split at e
    next br h2=>
     cases e
     obtain⟨vs,r,l,k⟩:=Ij g h2
     obtain⟨v,F,s1,s2⟩:=g.slot i d q h1
     obtain⟨hF,hr⟩:=s2.b_ hl
     refine⟨v::vs,.cons (F:=[]) (G:=[]) ((hr 0).any g.wl) r nM,by simp[l],fun j i' hj=>?_⟩
     cases j with
     | zero=>simp at hj;subst hj;exact⟨v,rfl,s1⟩
     | succ j=>exact k j i' (by simpa using hj)
    ·cases e
   ·cases e
  ·cases e
end L3
namespace L3
open PySem PySem.Spec PyProof.Rows L2
theorem Rep.DD{K:PySem.W.Frag}{H:Hp}{w:Wn}{o:Ow}{q:Nat}{ds:List D}{v:V}{F:List Addr}(r:Rep K H w o q (.lst ds) v F)(hq:q<=1):∃ a vs,v=.ref a/\cL K H a vs/\ag K H w o 0 ds vs []:=by
 cases r with
 | kl h r=>exact⟨_,_,rfl,h.sq,r⟩
 | shr h n r=>exact⟨_,_,rfl,.inl h,r⟩
 | own h n r ne=>
  rename_i q' _ _ _
  obtain rfl:q'=0:=by omega
  have e:=r.zero
  subst e
  exact⟨_,_,rfl,cL.of h,r⟩
end L3
namespace L3
open PySem PySem.Spec PyProof.Rows PySem.W L2
abbrev met (ks:List Int):List Int:=firstMet (fun i=>ks.getD i 0) ks.length
theorem Ag:∀ {ks:List Int} {us:List Value},a_ (ks.map V.int) us->IntsAre us ks
 | [],_,h=>by cases h;exact .nil
 | k::ks,_,h=>by
  cases h with
  | cons r rs=>
   obtain⟨t,rfl⟩:=r
   exact .cons k t (Ag rs)
def bl (m:Nat):List Nat:=(List.range 5).filter fun i=>m.testBit i
def bt (m:Nat)(led:Bool):SetTable:={ mask:=if(bl m).length<5 then 7 else 31,place:=(bl m).toArray,dummies:=#[],finger:=0,led:=led,moves:=if(bl m).length<5 then 0 else 1,plain:=true }
def UC (m:Nat)(z:Nat->Tok):Array (Int×Value):=((bl m).map fun v:Nat=>(Int.ofNat v,Value.int (Int.ofNat v) (z v))).toArray
def so (m:Nat)(z:Nat->Tok)(ep:Nat)(led:Bool):Obj:={ cls:=.type "set",dict:=none,data:=.set (UC m z) ep (bt m led) }
def bor (m v:Nat):Nat:=m ||| 1 <<< v
def rl (m v:Nat)(led:Bool):=((bt m led).put v).1.relaid ((bl (bor m v)).map Int.ofNat).toArray (SetTable.grown (bl (bor m v)).length)
def mb (val:Nat->Nat):Nat->Nat
 | 0=>0
 | i+1=>bor (mb val i) (val i)
theorem zb:∀ {ks:List Int} {us:List Value},IntsAre us ks->a_ (ks.map V.int) us
 | _,_,.nil=>.nil
 | _,_,.cons k t r=>.cons ⟨t,rfl⟩ (zb r)
end L3
namespace L3
open PySem PySem.Spec PyProof.Rows L2
end L3
namespace L3
open PySem PySem.Spec PyProof.Rows PySem.W L2
end L3
namespace L3
open PySem PySem.Spec PyProof.Rows L2
end L3
namespace L3
open PySem PySem.Spec PyProof.Rows PySem.W L2
end L3
namespace L3
open PySem PySem.Spec PyProof.Rows L2
end L3
namespace L3
open PySem PySem.Spec PyProof.Rows PySem.W L2
variable {Fg Ft:List D->OD}{H H':Hp}{K:PySem.W.Frag}{Q:Value->Shared->Prop}{X:Cx}{a p:Addr}{body:Expr}{caps ps:List Str}{d tab:D}{fb:aF}{h:Heap}{kb q t:Nat}{ks l:List Int}{ai:List (Key×V)}{o:Obj}{params:Arguments}{pins:List (Addr×Obj)}{r:Int}{s s':Shared}{scope:Scope}{ta:TA}{u:Value}{vs:List Value}{w:Wn}{x:HO}{ρ:aS}
def pS (k:Int)(ks:List Int):Int:=ks.foldl (fun a b=>if b > a then b else a) k
theorem DE:∀ (ks:List Int) (k:Int),k<=pS k ks/\(∀ a,a∈ks->a<=pS k ks)/\pS k ks∈k::ks
 | [],k=>⟨Jm _,fun a h=>(by cases h),Qd⟩
 | b::ks,k=>by
  have e:pS k (b::ks)=pS (if b > k then b else k) ks:=rfl
  rw[e]
  by_cases hb:b > k
  ·rw[Qe hb]
   obtain⟨h1,h2,h3⟩:=DE ks b
   refine⟨by omega,fun a ha=>?_,Qb _ h3⟩
   rcases Qi.mp ha with q|q
   ·rw[q];exact h1
   ·exact h2 a q
  ·rw[Qg hb]
   obtain⟨h1,h2,h3⟩:=DE ks k
   refine⟨h1,fun a ha=>?_,?_⟩
   ·rcases Qi.mp ha with q|q
    ·rw[q];omega
    ·exact h2 a q
   ·rcases Qi.mp h3 with q|q
    ·rw[q];exact Qd
    ·exact Qb _ (Qb _ q)
def tJ (val:Nat->Int):Nat->Nat->Int->Int
 | 0,_,b=>b
 | m+1,i,b=>tJ val m (i+1) (if val i > b then val i else b)
abbrev UD (b:Int)(t:Tok)(c:Nat):Obj:={ cls:=.type "list",dict:=none,data:=.seq #[.int b t,.int b t] c,slots:=#[] }
section
variable {prog:Program}{w:World}{A:Around}{R:Result->Shared->Prop}{I S:Addr}{fp wr:List Addr}{n:Nat}{P:Nat->Value->Prop}{St:Nat->Heap->Prop}{d:Value}
theorem DF(Wk:Walks prog w A.in1 I fp wr n P St)(val:Nat->Int)(ij:∀ i v,P i v->∃ t,v=.int (val i) t)(gG:S ∉ fp) :
  ∀ (m i:Nat) (s:Shared) (b:Int) (t:Tok) (c:Nat),i+m=n->St i s.heap->s.heap.get? S=some (UD b t c)->
   (∀ h' tk t',(∀ x o,x ∉ wr->x≠S->s.heap.get? x=some o->h'.get? x=some o)->R (.ok (.ret (.int (tJ val m i b) t'))) { s with heap:=h',toks:=tk })->
   codeAny (model prog w) A (.builtin "max.loop" ⟨[.ref I,.none,.ref S],[(Str.ofString "default",d)]⟩) R s
 | 0,i,s,b,t,c,hm,st,g,k=>by
  have nw:S ∉ wr:=fun z=>gG (Wk.sub _ z)
  have e:i=n:=by omega
  subst e
  refine ZL Jt (by
   rw[ZO Zh _]
   refine(show wpAny _ A.in1 (seqItems? (.ref S) >>= _) _ _ s from Qa (YM g rfl ?_))
   refine(show wpAny _ A.in1 (tryCatch (pyNext (.ref I)) _ >>= _) _ _ s from Qa (Ju (Wk.done s _ _ st fun h1 tk keep=>?_)))
   have g1:=keep S _ nw g
   refine(show wpAny _ A.in1 (updateSeq S (fun _=>#[]) >>= _) _ _ _ from Qa (YE g1 rfl (Qa (Yg (Qj ?_)))))
   exact k _ tk t fun x o hx hs q=>(QY _ _ (ZR hs)).trans (keep x o hx q))
 | m+1,i,s,b,t,c,hm,st,g,k=>by
  have nw:S ∉ wr:=fun z=>gG (Wk.sub _ z)
  have iC:(toString "max" ++ toString ".loop":String) = "max.loop":=by decide
  refine ZL Jt (by
   rw[ZO Zh _]
   refine(show wpAny _ A.in1 (seqItems? (.ref S) >>= _) _ _ s from Qa (YM g rfl ?_))
   refine(show wpAny _ A.in1 (tryCatch (pyNext (.ref I)) _ >>= _) _ _ s from Qa (Ju (Wk.item i s _ _ (by omega) st fun v h1 tk hp Ah keep=>?_)))
   have g1:=keep S _ nw g
   obtain⟨tv,rfl⟩:=ij i v hp
   refine(show wpAny _ A.in1 (tryCatch (holding [Value.int (val i) tv,Value.int (val i) tv] (richCompare .Gt (Value.int (val i) tv) (Value.int b t) >>= _)) _ >>= _) _ _ _ from ?_)
   have cmp:=CmpOf.ints_gt (prog:=prog) (w:=w) (A:=A.in1) (P:=fun j u=>(j=0/\u=Value.int (val i) tv)\/(j=1/\u=Value.int b t)) (fun j=>if j=0 then val i else b) (fun j u q=>by
    rcases q with⟨rfl,rfl⟩|⟨rfl,rfl⟩
    ·exact⟨tv,rfl⟩
    ·exact⟨t,rfl⟩)
   refine Qa (Ju (Zl (Qa (cmp 0 1 _ _ _ _ _ (.inl ⟨rfl,rfl⟩) (.inr ⟨rfl,rfl⟩) ?_))))
   refine Qa (Zl (Zj (Qa (Yg (Qj ?_)))))
   by_cases hb:val i > b
   ·refine(show wpAny _ A.in1 (if decide (val i > b)=true then _ else _) _ _ _ from ?_)
    rw[Qe (QF hb)]
    refine Qa (YE g1 rfl (Qa (Yg ?_)))
    rw[iC]
    refine Qj ⟨JD Zh _,DF Wk val ij gG m (i+1) _ (val i) tv _ (by omega) (Wk.frame _ _ _ Ah fun x hx o q=>(QY _ _ (fun z:S=x=>gG (z ▸ hx))).trans q) (Jy _ g1 rfl) fun h2 xA t2 jB=>?_⟩
    have:=k h2 xA t2 fun x o hx hs q=>jB x o hx hs ((QY _ _ (ZR hs)).trans (keep x o hx q))
    unfold tJ at this
    rw[Qe hb]at this
    exact this
   ·refine(show wpAny _ A.in1 (if decide (val i > b)=true then _ else _) _ _ _ from ?_)
    rw[Qg (by rw[QJ hb];exact Zy)]
    refine Qa (Yg ?_)
    rw[iC]
    refine Qj ⟨JD Zh _,DF Wk val ij gG m (i+1) _ b t c (by omega) Ah g1 fun h2 xA t2 jB=>?_⟩
    have:=k h2 xA t2 fun x o hx hs q=>jB x o hx hs (keep x o hx q)
    unfold tJ at this
    rw[Qg hb]at this
    exact this)
theorem UE(Wk:Walks prog w A.in1 I fp wr n P St)(val:Nat->Int)(ij:∀ i v,P i v->∃ t,v=.int (val i) t)(gG:S ∉ fp){c:Nat}(st:St 0 s.heap)(g:s.heap.get? S=some { cls:=.type "list",dict:=none,data:=.seq #[] c,slots:=#[] })
  (k0:n=0->∀ h' tk,(∀ x o,x ∉ wr->x≠S->s.heap.get? x=some o->h'.get? x=some o)->R (.ok (.ret d)) { s with heap:=h',toks:=tk })
  (k1:∀ m,n=m+1->∀ h' tk t',(∀ x o,x ∉ wr->x≠S->s.heap.get? x=some o->h'.get? x=some o)->R (.ok (.ret (.int (tJ val m 1 (val 0)) t'))) { s with heap:=h',toks:=tk }) :
  codeAny (model prog w) A (.builtin "max.loop" ⟨[.ref I,.none,.ref S],[(Str.ofString "default",d)]⟩) R s:=by
 have nw:S ∉ wr:=fun z=>gG (Wk.sub _ z)
 have iC:(toString "max" ++ toString ".loop":String) = "max.loop":=by decide
 refine ZL Jt (by
  rw[ZO Zh _]
  refine(show wpAny _ A.in1 (seqItems? (.ref S) >>= _) _ _ s from Qa (YM g rfl ?_))
  cases hn:n with
  | zero=>
   refine(show wpAny _ A.in1 (tryCatch (pyNext (.ref I)) _ >>= _) _ _ s from Qa (Ju (Wk.done s _ _ (hn.symm ▸ st) fun h1 tk keep=>?_)))
   refine(show wpAny _ A.in1 (rule _ >>= _) _ _ _ from Qa (wpAny_rule (Qj ?_)))
   exact k0 hn h1 tk fun x o hx hs q=>keep x o hx q
  | succ m=>
   refine(show wpAny _ A.in1 (tryCatch (pyNext (.ref I)) _ >>= _) _ _ s from Qa (Ju (Wk.item 0 s _ _ (by omega) st fun v h1 tk hp Ah keep=>?_)))
   have g1:=keep S _ nw g
   obtain⟨tv,rfl⟩:=ij 0 v hp
   refine(show wpAny _ A.in1 (updateSeq S (fun _=>#[Value.int (val 0) tv,Value.int (val 0) tv]) >>= _) _ _ _ from Qa (YE g1 rfl ?_))
   rw[iC]
   refine Qj ⟨JD Zh _,DF Wk val ij gG m 1 _ (val 0) tv _ (by omega) (Wk.frame _ _ _ Ah fun x hx o q=>(QY _ _ (fun z:S=x=>gG (z ▸ hx))).trans q) (Jy _ g1 rfl) fun h2 xA t2 jB=>?_⟩
   exact k1 m hn h2 xA t2 fun x o hx hs q=>jB x o hx hs ((QY _ _ (ZR hs)).trans (keep x o hx q)))
end
theorem Ik(ks:List Int):∀ (m i:Nat) (b:Int),i+m=ks.length->tJ (fun j=>ks.getD j 0) m i b=pS b (ks.drop i)
 | 0,i,b,h=>by rw[List.drop_eq_nil_of_le (by omega)];rfl
 | m+1,i,b,h=>by
  rw[Jd (show i<ks.length by omega)]
  have e:ks.getD i 0=ks[i]:=by rw[QM,Qx (by omega)];rfl
  show tJ _ m (i+1) (if ks.getD i 0 > b then ks.getD i 0 else b)=pS (if ks[i] > b then ks[i]else b) (ks.drop (i+1))
  rw[Ik ks m (i+1) _ (by omega),e]
theorem UG(a v:Value):argsOk "max" ⟨[a],[(Str.ofString "default",v)]⟩:=by unfold argsOk;kernel_rfl
def u7 (d:Int):List Int->Int
 | []=>d
 | k::ks=>pS k ks
section
variable {prog:Program}{w:World}{A:Around}{E:Value->Shared->Prop}{s:Shared}
theorem UH{l:Addr}{d:Int}{dt:Tok}(hA:A.handled=none)(hl:s.heap.IsList l vs.toArray)(hk:IntsAre vs ks)
  (q:∀ h' tk t',(∀ b o,s.heap.get? b=some o->h'.get? b=some o)->Q (.int (u7 d ks) t') { s with heap:=h',toks:=tk }) :
  wpAny (model prog w) A (call (.builtin "max") [.ref l] [(Str.ofString "default",.int d dt)]) Q E s:=by
 have iC:(toString "max" ++ toString ".loop":String) = "max.loop":=by decide
 obtain⟨ol,Il,_⟩:=id hl
 have lt:=Ql Il
 refine kmk_tree PySem.F.kind_max PySem.F.plain_max PySem.F.entry_max (UG _ _) ?_
 refine(show wpAny _ A.in1 (Builtin.Builtins.bindParams "max" ["key","default"] 0 ⟨[],[(Str.ofString "default",.int d dt)]⟩ >>= _) _ _ s from ?_)
 refine Qa (wpAny_of_eq (show Builtin.Builtins.bindParams "max" ["key","default"] 0 ⟨[],[(Str.ofString "default",.int d dt)]⟩=pure [none,some (.int d dt)]from rfl) ?_)
 refine Qa (Qj (Qa (Yf hl (Qa (wpAny_newList ?_ (Q9 _))))))
 rw[iC]
 have sz:(s.heap.push { cls:=.type "list_iterator",data:=.fields #[.ref l,.int 0 0] }).objs.size=s.heap.objs.size+1:=Zs ..
 have hlen:vs.length=ks.length:=IntsAre.length hk
 have Im:vs.toArray.size=ks.length:=by rw[Qk,hlen]
 refine Qj ⟨JD Zh _,?_⟩
 refine UE (d:=.int d dt) (Walks.list (A:=A.in1) hA s.heap.objs.size l (QI lt) vs.toArray) (fun j=>ks.getD j 0) (fun i v hv=>IntsAre.int_at hk i v (by rw[<- hv];simp)) (by
  rw[sz]
  simp only[Qi,QS,or_false,not_or]
  exact⟨Jp (Q2 _),Jp (Q7 lt)⟩) ⟨⟨_,Qc _ (Qs _ rfl),rfl,rfl⟩,(hl.push _).push _⟩ (Qs _ rfl) (fun hn h' tk keep=>?_) fun m hn h' tk t' keep=>?_
 ·have:ks=[]:=List.eq_nil_of_length_eq_zero (by rw[<- Im];exact hn)
  subst this
  exact q h' tk dt fun b o e=>keep b o (fun z=>absurd (Ql e) (by rw[QC.mp z];exact QN _)) (by rw[sz];exact QI (Q7 (Ql e))) (Qc _ (Qc _ e))
 ·have hm:ks.length=m+1:=by rw[<- Im];exact hn
  obtain⟨k,bL,rfl⟩:∃ k bL,ks=k::bL:=by
   cases ks with
   | nil=>cases hm
   | cons k bL=>exact⟨k,bL,rfl⟩
  rw[Ik (k::bL) m 1 _ (by omega)]
  exact q h' tk t' fun b o e=>keep b o (fun z=>absurd (Ql e) (by rw[QC.mp z];exact QN _)) (by rw[sz];exact QI (Q7 (Ql e))) (Qc _ (Qc _ e))
end
section
variable {X:Cx}{a:Expr}{fa:aF}{p pos kpos ar:Pos}{d:Int}{j}
def Io (K:PySem.W.Frag):List V->List V->Hp->VK->Prop:=fun xs ys H Q=>∃ t ks d,xs=[.ref t]/\ys=[.int d]/\cL K H t (ks.map V.int)/\Q (.int (u7 d ks)) H
def Ip (K:PySem.W.Frag)(ta tk:TA):TE:=fun σ H Q=>ta σ H fun xs H1=>tk σ H1 fun ys H2=>Io K xs ys H2 Q
theorem UI{tk:TA}{dv:Expr}(hc:X.calm=true)(hg:Gl X "max")(hm:X.mg "max" = none)(hv:bootBuiltins "max" = some (.builtin "max"))(ha:PA X [a] ta)(UJ:PK X [⟨some "default",dv,kpos⟩] tk)
  (he:backTo pos (starEach [a] X.env)=(false,eval a X.env)::backTo pos (starEach [] X.env):=by rfl) (bG:(backTo pos (starEach [a] X.env)).any (·.1)=false:=by rfl):PE X (.Call (.Name "max" p) [a] [⟨some "default",dv,kpos⟩] pos) (Ip X.K ta tk):=by
 intro pins s σ H Q I h
 refine ZH (sg I hg hm hv ?_ (by decide) (by decide))
 refine callWith_kw (aU (ha pos pins s σ H _ I h) fun us s1 tj=>?_) he bG
 obtain⟨vs,H1,I1,r1,q1⟩:=tj
 refine aU (UJ pos pins s1 σ H1 _ I1 q1) fun ws s2 DH=>?_
 obtain⟨zs,H2,I2,rz,t,ks,d,rfl,rfl,hq,q⟩:=DH
 obtain⟨u,rfl,ru⟩:=lN r1
 cases ru
 obtain⟨u2,rfl,t2,rfl⟩:=lN rz
 obtain⟨aq,rv,pl,_⟩:=I2.list hq
 refine UH (I2.ok.hd hc) pl.isList (Ag rv) fun h' tk t' kp=>?_
 exact⟨.int (u7 d ks),H2,I2.kept kp,⟨t',rfl⟩,q⟩
end
theorem UK{α β:Type}{f:α->β}{ps qs:List β}(h:ps.Perm qs):∀ {l:List α},qs=l.map f->∃ l':List α,l'.Perm l/\ps=l'.map f:=by
 induction h with
 | nil=>
  intro l e
  have:=List.map_eq_nil_iff.mp e.symm
  subst this
  exact⟨[],.nil,rfl⟩
 | cons x _ ih=>
  intro l e
  cases l with
  | nil=>cases e
  | cons a l=>
   rw[QR]at e
   cases e
   obtain⟨l',p,e'⟩:=ih rfl
   exact⟨a::l',p.cons a,by rw[e'];rfl⟩
 | swap x y _=>
  intro l e
  match l,e with
  | [],e=>cases e
  | [a],e=>simp at e
  | a::b::l,e=>
   rw[QR,QR]at e
   cases e
   exact⟨b::a::l,.swap a b l,rfl⟩
 | trans _ _ nA nB=>
  intro l e
  obtain⟨l2,p2,e2⟩:=nB e
  obtain⟨l1,p1,e1⟩:=nA e2
  exact⟨l1,p1.trans p2,e1⟩
section
variable {prog:Program}{w:World}{A:Around}{E:Value->Shared->Prop}{s:Shared}{a kS:Addr}{vs:List Value}{kz:List Int}{keys:Array Value}{e e1:Nat}{P:PySem.Fin->Shared->Prop}
def xB (h:Heap)(kS a:Addr)(out:Array Value):Heap:=(h.update kS (Obj.mapSeq fun _=>(#[]:Array Value))).update a (Obj.mapSeq fun _=>out)
theorem Iq{st:SortSt}(hk:s.heap.get? kS=some (seqObj "list" keys e))(ha:s.heap.get? a=some (seqObj "list" #[] e1))(rg:kS≠a)(hsz:keys.size=vs.length)(pU:vs.length<64)(DI:(arrOf st).size=vs.length)(UL:failedOf st=none)
  (h:P (.done (.ret .none)) { s with heap:=xB s.heap kS a ((arrOf st).map (·.2)) }):wpAny (model prog w) A (ksk_tail a false e1 (.ref kS) st) P E s:=by
 have Ai:(s.heap.update kS (Obj.mapSeq fun _=>(#[]:Array Value))).get? a=some (seqObj "list" #[] e1):=(QY _ _ rg).trans ha
 unfold ksk_tail
 try dsimp only
 refine Qa (Ym hk rfl ?_ (by rw[hsz,Zp];omega) (Q9 _))
 refine Qa (Yg ?_)
 refine Qa (seqEpoch_at Ai rfl ?_)
 refine Qa (Ym Ai rfl ?_ (Q9 _) (by
  show((arrOf st).map (·.2)).size<=_
  rw[Array.size_map,DI,Zp];omega))
 rw[UL]
 simp only[bne_self_eq_false,ZI,JF]
 exact Qj h
theorem UM(hk:s.heap.get? kS=some (seqObj "list" keys e))(ha:s.heap.get? a=some (seqObj "list" #[] e1))(rg:kS≠a)(hi:IntsAre keys.toList kz)(hlen:kz.length=vs.length)(pU:vs.length<64)
  (h:∀ out:Array Value,KskOut false kz vs out.toList->P (.done (.ret .none)) { s with heap:=xB s.heap kS a out }):wpAny (model prog w) A (ksk_end a false vs.toArray e1 (.ref kS) keys) P E s:=by
 have hsz:keys.size=vs.length:=by
  have h1:=hi.length
  rw[Zb]at h1
  omega
 have xC:(keys.zip vs.toArray).size=vs.length:=by rw[Array.size_zip,hsz,Qk,Nat.min_self]
 unfold ksk_end
 try dsimp only
 rw[Qg (by decide)]
 by_cases h2:vs.toArray.size<2
 ·rw[Qe h2,Qe h2]
  refine Qa (Qj ?_)
  rw[StateT.run_pure]
  refine Qa (Qj ?_)
  try dsimp only
  refine Iq (st:=SortSt.mk' general' (keys.zip vs.toArray) #[] 7 none) hk ha rg hsz pU xC rfl (h _ ?_)
  refine ksk_out (b:=false) hi (Array.Perm.refl _) ?_
  intro i j Hm hj
  have UN:j<(keys.zip vs.toArray).size:=hj
  rw[xC]at UN
  rw[Qk]at h2
  have:i=j:=by omega
  subst this
  exact Jm _
 ·rw[Qg h2,Qg h2]
  rw[Qk]at h2
  rw[ksk_kind hi (by rw[hsz];omega)]
  refine Qa (Qj ?_)
  refine Qa (QV (wpS_sortRuns (a₀:=keys.zip vs.toArray) (st:=SortSt.mk' oneType' (keys.zip vs.toArray) #[] 7 none)
   (Q:=fun _ jh=>(arrOf jh).Perm (keys.zip vs.toArray)/\failedOf jh=none/\SortedTo (arrOf jh) (keys.zip vs.toArray).size)
   (ksk_intKeys hi) ⟨Array.Perm.refl _,rfl,rfl,rfl⟩ (by rw[xC];omega) (by rw[xC];exact pU) fun jh a1 a2 a3=>⟨a1,a2,a3⟩) ?_ fun _ _ e=>e)
  rintro ⟨⟨⟩,jh⟩ s' ⟨rfl,hp,hf,hs⟩
  try dsimp only
  exact Iq hk ha rg hsz pU (by rw[hp.size_eq,xC]) hf (h _ (ksk_out (b:=false) hi hp (by rw[hp.size_eq];exact hs)))
end
def xD (h:Heap)(vs:List Value):Heap:=(((h.push (seqObj "list" vs.toArray 0)).update h.objs.size (Obj.mapSeq fun _=>(#[]:Array Value))).push (seqObj "tuple" vs.toArray 0)).push (seqObj "list" #[] 0)
theorem UO{b:Addr}(e:h.get? b=some o):(xD h vs).get? b=some o:=
 Qc _ (Qc _ ((QY _ _ (Jp (Ql e))).trans (Qc _ e)))
theorem Ir:(((h.push (seqObj "list" vs.toArray 0)).update h.objs.size (Obj.mapSeq fun _=>(#[]:Array Value))).push (seqObj "tuple" vs.toArray 0)).objs.size=h.objs.size+2:=by
 rw[size_push',Heap.size_update,size_push']
section
variable {X:Cx}{pins:List (Addr×Obj)}{σ:St}{H:Hp}{s:Shared}{E:Value->Shared->Prop}{Q:Value->Shared->Prop}
theorem UP:∀ {ks:List Int} {us:List Value},a_ (ks.map V.int) us->IntsAre us ks:=fun r=>Ag r
theorem Iu(I:Inv X pins σ H s)(ha:s.heap.objs.size<=a)(hn:H' a=none)(e:s'.heap.get? a=some o)(hd:∀ v,o.data ≠ .cell v):s'.heap.get? a=some o/\H' a=none/\a≠X.env.locals/\a ∉ X.fs/\∀ v,o.data ≠ .cell v:=
 ⟨e,hn,fun z=>absurd I.lt (ZD.mpr (z ▸ ha)),I.rZ ha,hd⟩
theorem DJ{h':Heap}{pins':List (Addr×Obj)}(I:Inv X pins σ H s)(ha:s.heap.objs.size<=a)(J:Inv X pins' σ H' s')(hn:H' a=none)(k:∀ b o,b≠a->s'.heap.get? b=some o->h'.get? b=some o)(hp:∀ p∈pins',p.1≠a):Inv X pins' σ H' { s' with heap:=h' }:=by
 refine J.turned (t':=s'.toks) k hn (fun z=>absurd I.lt (ZD.mpr (z ▸ ha))) (.inr (Qv I.sz ha)) (fun x c e z=>?_) fun p sP=>?_
 ·obtain⟨v,q⟩:=I.cell x c e
  exact absurd q.lt (ZD.mpr (z ▸ ha))
 ·rcases Q0.mp sP with q|q
  ·exact fun z=>absurd (Ql (I.pin p (QU _ q)).1) (ZD.mpr (z ▸ ha))
  ·exact hp p q
theorem UQ{o:HO}(I:Inv X pins σ H s)(ha:s.heap.objs.size<=a)(J:Inv X pins σ H' s')(hn:H' a=none)(new:cR X.prog X.w (upd H' a o) s'.heap a o):Inv X pins σ (upd H' a o) s':=by
 have ne:∀ b u,H' b=some u->b≠a:=fun b u e z=>by rw[z,hn]at e;cases e
 refine J.kU (ch:=[a]) rfl ⟨fun b o q n _ _=>q,fun b o q n _ _=>⟨o.slots,q⟩,fun b ob q n hx=>(aO (fun z=>hx (by simp[z]))).trans n,fun b ob q _=>⟨_,q⟩,fun b xs e=>(aO (ne b _ e)).trans e,fun b ob u e=>(aO (ne b _ e)).trans e,fun b ps e=>⟨#[],by rw[aO (ne b _ e),e];simp⟩⟩ (cX.add J.az hn new) J.bare fun b hb=>?_
 have eb:b=a:=by simpa using hb
 subst eb
 refine⟨.inr (Qv I.sz ha),fun z=>absurd I.lt (ZD.mpr (z ▸ ha)),fun x c e z=>?_,fun p hp z=>?_⟩
 ·obtain⟨v,q⟩:=I.cell x c e
  exact absurd q.lt (ZD.mpr (z ▸ ha))
 ·exact absurd (Ql (I.pin p hp).1) (ZD.mpr (z ▸ ha))
theorem UR{A:Around}{arg:Value}{fa:Addr}{g:Int->Int}(R:Hp->Prop)(I:Inv X pins σ H s)(hR:R H)(pU:ks.length<64)
  (DK:∀ (Q':List Value->Shared->Prop),(∀ us h' tk,(∀ b o,s.heap.get? b=some o->h'.get? b=some o)->a_ (ks.map V.int) us->Q' us { s with heap:=h',toks:=tk })->wpAny (model X.prog X.w) A.in1 (collect arg) Q' E s)
  (key:∀ k∈ks,∀ (pins':List (Addr×Obj)) (s':Shared) (H':Hp) (u:Value),Inv X pins' σ H' s'->R H'->bh (.int k) u->
    wpAny (model X.prog X.w) A.in1.in1 (call (.ref fa) [u]) (fun v lQ=>∃ t Aj,v=.int (g k) t/\Inv X pins' σ Aj lQ/\R Aj) (fun _ _=>False) s')
  (fin:∀ (bL:List Int) (H':Hp) (p:Addr) (s':Shared),bL.Perm ks->bL.Pairwise (fun a b=>g a<=g b)->R H'->H' p=none->Inv X pins σ (upd H' p (.lst (bL.map V.int))) s'->Q (.ref p) s') :
  wpAny (model X.prog X.w) A (call (.builtin "sorted") [arg] [(Str.ofString "key",.ref fa)]) Q E s:=by
 refine call_function_entry_kw kind_sorted plain_sorted entry_sorted (ksk_s1 _ _) ?_
 unfold Builtin.«sorted»
 refine Qa (m:=checkCount "sorted" 1 1 _) (Qj ?_)
 refine Qa (DK _ fun us h1 tK k1 rv=>?_)
 have hi:=UP rv
 have u9:us.length=ks.length:=hi.length
 have I1:Inv X pins σ H { s with heap:=h1,toks:=tK }:=I.kept k1
 refine Qa (wpAny_newList ?_ (by rw[Zp];omega))
 have se:(h1.push (seqObj "list" us.toArray 0)).get? h1.objs.size=some (seqObj "list" us.toArray 0):=Qs _ rfl
 show wpAny _ _ _ _ _ { s with heap:=h1.push (seqObj "list" us.toArray 0),toks:=tK }
 refine Qa (Zl (wpAny_call_entry_kw slot_list_sort ⟨_,se,rfl⟩ entry_list_sort ?body (ksk_l1 _ _)))
 case body=>
  show wpAny (model X.prog X.w) A.in1.in1 (Builtin.«list.sort» ⟨[.ref h1.objs.size],[(Str.ofString "key",.ref fa)]⟩) _ _ _
  rw[ksk_t1]
  unfold ksk_tree
  obtain⟨e1,Iv⟩:∃ e1,((h1.push (seqObj "list" us.toArray 0)).update h1.objs.size (Obj.mapSeq fun _=>(#[]:Array Value))).get? h1.objs.size=some (seqObj "list" #[] e1):=⟨_,get?_update_seq se fun _=>#[]⟩
  refine Qa (listItems_at se rfl ?_)
  refine Qa (Ym se rfl ?_ (by rw[Qk,Zp];omega) (Q9 _))
  refine Qa (seqEpoch_at Iv rfl ?_)
  refine Qa (wpAny_newTuple ?_ (by show us.length<=_;rw[Zp];omega))
  refine Qa (wpAny_newList ?_ (Q9 _))
  refine Zl ?_
  show wpAny _ _ (ksk_rest h1.objs.size (.ref fa) false us.toArray e1 (.ref (((h1.push (seqObj "list" us.toArray 0)).update h1.objs.size (Obj.mapSeq fun _=>(#[]:Array Value))).push (seqObj "tuple" us.toArray 0)).objs.size)) _ _ { s with heap:=xD h1 us,toks:=tK }
  rw[Ir]
  have ea:(xD h1 us).get? h1.objs.size=some (seqObj "list" #[] e1):=Qc _ (Qc _ Iv)
  have ek:(xD h1 us).get? (h1.objs.size+2)=some (seqObj "list" #[] 0):=by
   rw[<- Ir (h:=h1) (vs:=us)];exact Qs _ rfl
  have J0:Inv X pins σ H { s with heap:=xD h1 us,toks:=tK }:=I1.kept (t':=tK) fun b o e=>UO e
  have la:({ s with heap:=h1,toks:=tK }:Shared).heap.objs.size<=h1.objs.size:=Qf _
  have lk:({ s with heap:=h1,toks:=tK }:Shared).heap.objs.size<=h1.objs.size+2:=Nat.le_add_right _ 2
  have rg:h1.objs.size+2≠h1.objs.size:=by omega
  have xE:∀ {H':Hp} {s':Shared} {kA:Array Value} {e:Nat},H' h1.objs.size=none->H' (h1.objs.size+2)=none->s'.heap.get? h1.objs.size=some (seqObj "list" #[] e1)->s'.heap.get? (h1.objs.size+2)=some (seqObj "list" kA e)->(∀ p∈pins,s'.heap.get? p.1=some p.2/\H' p.1=none/\p.1≠X.env.locals/\p.1 ∉ X.fs/\∀ v,p.2.data ≠ .cell v)->
    ∀ p∈(h1.objs.size+2,seqObj "list" kA e)::(h1.objs.size,seqObj "list" #[] e1)::pins,s'.heap.get? p.1=some p.2/\H' p.1=none/\p.1≠X.env.locals/\p.1 ∉ X.fs/\∀ v,p.2.data ≠ .cell v:=fun n1 n2 x1 x2 hp p hm=>by
   rcases Qi.mp hm with rfl|hm
   ·exact Iu I1 lk n2 x2 (fun v z=>nomatch z)
   rcases Qi.mp hm with rfl|hm
   ·exact Iu I1 la n1 x1 (fun v z=>nomatch z)
   ·exact hp p hm
  have J1:=J0.cK (pins':=(h1.objs.size+2,seqObj "list" #[] 0)::(h1.objs.size,seqObj "list" #[] e1)::pins) (xE (I1.az.fresh la) (I1.az.fresh lk) ea ek fun p hp=>J0.pin p (Qh _ hp))
  have DL:∀ p∈pins,p.1≠h1.objs.size/\p.1≠h1.objs.size+2:=fun p hp=>by
   have:=Ql (I1.pin p (Qh _ hp)).1
   have k6:p.1<h1.objs.size:=this
   exact⟨QI k6,QI (Ja k6 (Nat.lt_add_of_pos_right (by decide)))⟩
  unfold ksk_rest
  refine Qa (wpAny_rule ?_)
  first
   | rw[List.forIn_toArray]
   | (rw[<- Array.forIn_toList];simp only[List.toList_toArray])
   | rw[<- Array.forIn_toList]
  refine Qa (ksk_fold (fun i s'=>∃ H' kA e,Inv X ((h1.objs.size+2,seqObj "list" kA e)::(h1.objs.size,seqObj "list" #[] e1)::pins) σ H' s'/\R H'/\IntsAre kA.toList ((ks.map g).take i)) us 0 _
   ⟨H,#[],0,J1,hR,by simpa using IntsAre.nil⟩ ?step ?done)
  case step=>
   rintro j x s' hx ⟨H',kA,e,J,oS,hk⟩
   simp only[Nat.zero_add]at hk ⊢
   have hj:j<us.length:=(Qp.mp hx).1
   have DM:j<ks.length:=by omega
   have hz:kA.size<=ks.length:=by
    have h1:=hk.length
    rw[Zb,Q3,Qm]at h1
    omega
   have rx:bh (.int ks[j]) x:=by
    obtain⟨u,hu,r⟩:=rv.get (i:=j) (x:=V.int ks[j]) (by simp[DM])
    rw[hx]at hu;cases hu
    exact r
   refine Qa (wpAny_attempt (QV (key ks[j] (Q6 DM) _ s' H' x J oS rx) (fun v lQ he=>?_) fun _ _ hF=>hF.elim))
   obtain⟨t2,H2,rfl,J2,DN⟩:=he
   try dsimp only
   have nk:=J2.pin (h1.objs.size+2,seqObj "list" kA e) (Qh _ (.head _))
   have na:=J2.pin (h1.objs.size,seqObj "list" #[] e1) (Qh _ (.tail _ (.head _)))
   have s1:=JO lQ.heap (h1.objs.size+2) (Obj.mapSeq (·.push (.int (g ks[j]) t2)))
   obtain⟨c2,ji⟩:∃ c2,(lQ.heap.update (h1.objs.size+2) (Obj.mapSeq (·.push (.int (g ks[j]) t2)))).get? (h1.objs.size+2)=some (seqObj "list" (kA.push (.int (g ks[j]) t2)) c2):=⟨_,get?_update_seq nk.1 (·.push (.int (g ks[j]) t2))⟩
   have et:(ks.map g).take (j+1)=(ks.map g).take j++[g ks[j]]:=by rw[Yh];simp[DM]
   have eA:(kA.push (Value.int (g ks[j]) t2)).toList=kA.toList++[Value.int (g ks[j]) t2]:=by simp
   refine Qa (Ym nk.1 rfl ?_ (by rw[Zp];omega) (Qv (Yw (Array.size_push ..)) (by rw[Zp];omega)))
   refine Qj ⟨rfl,H2,kA.push (.int (g ks[j]) t2),c2,?_,DN,by rw[eA,et];exact ksk_snoc hk⟩
   have J3:=J2.cK (pins':=pins) fun p hp=>J2.pin p (Qh _ (.tail _ (.tail _ hp)))
   have J4:=DJ (h':=lQ.heap.update (h1.objs.size+2) (Obj.mapSeq (·.push (.int (g ks[j]) t2)))) I1 lk J3 nk.2.1 (fun b o n q=>s1.extBut b o n q) fun p hp=>(DL p hp).2
   exact J4.cK (xE na.2.1 nk.2.1 (s1.extBut _ _ (ZR rg) na.1) ji fun p hp=>J4.pin p (Qh _ hp))
  case done=>
   rintro s' ⟨H',kA,e,J,oS,hk⟩
   have jo:IntsAre kA.toList (ks.map g):=by
    have e3:(ks.map g).take (0+us.length)=ks.map g:=Jv (by rw[Qm];omega)
    rw[e3]at hk
    exact hk
   have nk:=J.pin (h1.objs.size+2,seqObj "list" kA e) (Qh _ (.head _))
   have na:=J.pin (h1.objs.size,seqObj "list" #[] e1) (Qh _ (.tail _ (.head _)))
   try dsimp only
   refine Qa (listItems_at nk.1 rfl ?_)
   refine UM nk.1 na.1 rg jo (by rw[Qm];omega) (by omega) fun out ko=>⟨.none,rfl,?_⟩
   obtain⟨ps,hp,ho,hs⟩:=ko
   have hz:(ks.map g).zip us=(List.range ks.length).map fun i=>(g (ks.getD i 0),us.getD i .none):=by
    apply Q8
    intro i
    by_cases rh:i<ks.length
    ·have Iw:i<us.length:=by omega
     have z0:((ks.map g).zip us)[i]? = some (g ks[i],us[i]):=Yb.mpr ⟨by simp[rh],by simp[Iw]⟩
     rw[z0]
     simp[rh,Iw]
    ·rw[Qq (by simp;omega),Qq (by simp;omega)]
   have ij:∀ i,i<ks.length->bh (.int (ks.getD i 0)) (us.getD i .none):=fun i rh=>by
    obtain⟨u,hu,r⟩:=rv.get (i:=i) (x:=V.int (ks.getD i 0)) (by simp[rh])
    have:us.getD i .none=u:=by rw[QM,hu];rfl
    rw[this];exact r
   rw[hz]at hp
   obtain⟨l,hl,rfl⟩:∃ l:List Nat,l.Perm (List.range ks.length)/\ps=l.map fun i=>(g (ks.getD i 0),us.getD i .none):=UK hp rfl
   have dZ:∀ i∈l,i<ks.length:=fun i rh=>Qz.mp (hl.mem_iff.mp rh)
   have eo:out.toList=l.map fun i=>us.getD i .none:=by rw[ho,Zn];rfl
   have US:a_ ((l.map fun i=>ks.getD i 0).map V.int) out.toList:=by
    rw[eo,Zn]
    clear hl hs eo ho hp
    induction l with
    | nil=>exact .nil
    | cons i l ih=>exact .cons (ij i (dZ i Qd)) (ih fun j hj=>dZ j (Qb _ hj))
   have s1:=JO s'.heap (h1.objs.size+2) (Obj.mapSeq fun _=>(#[]:Array Value))
   have s2:=JO (s'.heap.update (h1.objs.size+2) (Obj.mapSeq fun _=>(#[]:Array Value))) h1.objs.size (Obj.mapSeq fun _=>out)
   have Ai:(s'.heap.update (h1.objs.size+2) (Obj.mapSeq fun _=>(#[]:Array Value))).get? h1.objs.size=some (seqObj "list" #[] e1):=s1.extBut _ _ (ZR rg) na.1
   obtain⟨c2,ji⟩:∃ c2,(xB s'.heap (h1.objs.size+2) h1.objs.size out).get? h1.objs.size=some (seqObj "list" out c2):=⟨_,get?_update_seq Ai fun _=>out⟩
   have J3:=J.cK (pins':=pins) fun p hp=>J.pin p (Qh _ (.tail _ (.tail _ hp)))
   have J4:=DJ (h':=s'.heap.update (h1.objs.size+2) (Obj.mapSeq fun _=>(#[]:Array Value))) I1 lk J3 nk.2.1 (fun b o n q=>s1.extBut b o n q) fun p hp=>(DL p hp).2
   have J5:=DJ (h':=xB s'.heap (h1.objs.size+2) h1.objs.size out) I1 la J4 na.2.1 (fun b o n q=>s2.extBut b o n q) fun p hp=>(DL p hp).1
   have hlen:l.length=ks.length:=by rw[hl.length_eq,QP]
   have gG:((l.map fun i=>ks.getD i 0).map V.int).length<=sizeLine:=by rw[Qm,Qm,hlen,Zp];omega
   have J6:Inv X pins σ (upd H' h1.objs.size (.lst ((l.map fun i=>ks.getD i 0).map V.int))) { s' with heap:=xB s'.heap (h1.objs.size+2) h1.objs.size out }:=UQ I1 la J5 na.2.1 ⟨gG,out.toList,c2,US,by rw[Array.toArray_toList];exact ji⟩
   refine Qj ⟨_,rfl,fin _ H' _ _ ?_ ?_ oS na.2.1 J6⟩
   ·have:(List.range ks.length).map (fun i=>ks.getD i 0)=ks:=by
     apply Q8
     intro i
     by_cases rh:i<ks.length
     ·simp[rh]
     ·rw[Qq (by simp;omega),Qq (by omega)]
    have hm:=hl.map fun i=>ks.getD i 0
    rw[this]at hm
    exact hm
   ·rw[List.pairwise_map]at hs ⊢
    exact hs.imp fun h=>h
end
theorem UT{is:List Nat}{σ:St}{cds:List D}{f c':Addr}{pm ctv:Value}{oc:Obj}{u1 u2:HO}{A2:Around}{E:Value->Shared->Prop}{r:D}{v:V}
  (sf:X.fn=fun _=>true) (S:cB ps caps scope) (tL:ps.length=1)
  (dF:∀ (nP:Heap) (f c':Addr) (cl:List (Str×Addr)) (q:Str) (A:Around) (outer:List Env) (s:Shared) (H:Hp),aw kb (A.deeper (envX q scope s.heap.objs.size f (.ref c') cl))->PD (xu X.prog X.w X.K X.mg nP (ps++caps) q scope f (.ref c') cl A outer s H) body fb)
  (jC:∀ (cl:List (Str×Addr)) (pm aN ctv:Value) (us:List Value),us.length=ps.length->bindArgs (kla_fn "<lambda>" (X.env.qual ++ "<lambda>") params body scope cl pm aN ctv) ⟨us,[]⟩=pure (ps.zip us))
  (hN:∀ (j:Nat) (z:Str),caps[j]? = some z->∃ i,is[j]? = some i/\X.N[i]? = some z/\X.env.scope.names.lookup z=some .cell) (hl:is.length=caps.length) (hA:A2.frames=X.A.frames) (hr:aw (kb+1) A2)
  (I2:Inv X pins σ H s) (g2:Good X.K ρ σ H w t) (hc:tI is ρ=some cds)
  (hf:H f=some (.bZ (kla_obj "<lambda>" (X.env.qual ++ "<lambda>") params body scope (eY caps X.env.cells) pm c' ctv) u1)) (js:H c'=some (.bZ oc u2)) (xF:wz (kla_obj "<lambda>" (X.env.qual ++ "<lambda>") params body scope (eY caps X.env.cells) pm c' ctv) c' oc)
  (rv:bh v u) (rd:Rep X.K H w .f 0 d v []) (ee:rf fb cds [d]=some (r,q))
  (k:∀ v' H' w' F s' u',Inv X pins σ H' s'->bh v' u'->Good X.K ρ σ H' w' (t+1)->Go H w H' w'->Rep X.K H' w' (.t t) q r v' F->Q u' s') :
  wpAny (model X.prog X.w) A2 (call (.ref f) [u]) Q E s:=by
 obtain⟨jA,rc,lc,kc⟩:=Ij g2 hc
 have xG:∀ z c,(eY caps X.env.cells).lookup z=some c->∃ v,s.heap.IsCell c v:=fun z c e=>I2.cell z c (xy e)
 have Iy:∀ z c,(eY caps X.env.cells).lookup z=some c->c∈(eY caps X.env.cells).map (·.2):=fun z c e=>Qy.mpr ⟨(z,c),QG e,rfl⟩
 have exc:∀ b∈(eY caps X.env.cells).map (·.2),∃ z,X.env.cells.lookup z=some b:=fun b hb=>by
  have gen:∀ (l:List Str) b,b∈(eY l X.env.cells).map (·.2)->∃ z,X.env.cells.lookup z=some b:=by
   intro l
   induction l with
   | nil=>intro b hb;cases hb
   | cons z l ih=>
    intro b hb
    unfold eY at hb
    split at hb
    next c0 e0=>
     rcases Qi.mp hb with z1|z1
     ·exact⟨z,by rw[z1];exact e0⟩
     ·exact ih b z1
    ·exact ih b hb
  exact gen caps b hb
 have C:CellsOk (oR X.base s.heap ((eY caps X.env.cells).map (·.2))) (eY caps X.env.cells) caps jA:=by
  refine⟨lc.trans hl,fun i z v h1 h2=>?_,fun a b c h1 h2=>I2.ok.inj a b c (xy h1) (xy h2),fun z c e=>?_⟩
  ·obtain⟨ix,e1,e2,e3⟩:=hN i z h1
   obtain⟨v',e4,e5⟩:=kc i ix e1
   rw[h2]at e4;cases e4
   obtain⟨mm,_,lk⟩:=I2.loc
   obtain⟨u,ru,lk⟩:=lk ix z v e2 e5 (.inr (.inl e3))
   rcases lk with⟨z1,_⟩|⟨_,c,e6,o,e7,e8⟩
   ·have z2:X.env.scope.names.lookup z=some .local:=z1
    rw[e3]at z2;cases z2
   ·have e9:=DC e6 (ZM h1)
    exact⟨c,u,e9,ru,o,DB e7 (.inr (Iy z c e9)),e8⟩
  ·obtain⟨v,o,e1,e2⟩:=xG z c e
   exact⟨v,o,DB e1 (.inr (Iy z c e)),e2⟩
 have Ak:∀ b o,X.base.get? b=some o->(oR X.base s.heap ((eY caps X.env.cells).map (·.2))).get? b=some o:=fun b o e=>DB (I2.bk b o e) (.inl (by rw[e];rfl))
 have hM:Mod X.K X.mg (oR X.base s.heap ((eY caps X.env.cells).map (·.2))):=by
  obtain⟨m1,m2,⟨mb,m3,m4⟩,m5⟩:=I2.mod
  exact⟨m1.keeps Ak,m2.keeps Ak,⟨mb,m3.keeps Ak,m4⟩,m5.keeps Ak⟩
 have DO:∀ L o,X.base.get? L=none->s.heap.get? L=some o->(L∈X.fs\/L=X.env.locals)->(oR X.base s.heap ((eY caps X.env.cells).map (·.2))).get? L=none:=fun L o n e hL=>by
  cases q:(oR X.base s.heap ((eY caps X.env.cells).map (·.2))).get? L with
  | none=>rfl
  | some o'=>
   rcases(Ii q).2 with z|z
   ·rw[n]at z;cases z
   ·obtain⟨y,ey⟩:=exc L z
    rcases hL with hL|hL
    ·obtain⟨_,o2,e2,_⟩:=I2.ok.dN.mem hL
     have:=I2.ok.rY y L (by rw[sf]) ey
     exact absurd (Ql e2) (ZD.mpr this)
    ·exact absurd hL (I2.mG y L ey)
 have e0:iK X.prog X.w X.K X.mg (oR X.base s.heap ((eY caps X.env.cells).map (·.2))) A2 X.stack s H:=by
  refine⟨hA.trans I2.ok.frames,hM,fun b o e=>?_,Yw (hideAll_size _ _),?_,I2.dH,I2.az,I2.bare⟩
  ·obtain⟨e1,e2⟩:=Ii e
   refine⟨e1,?_⟩
   rcases e2 with z|z
   ·obtain⟨o',z'⟩:=Zm.mp z
    exact(I2.bs b o' z').2
   ·obtain⟨y,ey⟩:=exc b z
    exact I2.cw y b ey
  ·have all:∀ l:List Env,(∀ b∈cM l,b∈X.env.locals::X.fs)->s.heap.FunFrames X.base l->s.heap.FunFrames (oR X.base s.heap ((eY caps X.env.cells).map (·.2))) l:=by
    intro l
    induction l with
    | nil=>intro _ _;trivial
    | cons env r ih=>
     intro hs hl
     obtain⟨hk,⟨L,o,hf,hn,ho,hd⟩,hr⟩:=hl
     have hL:L∈X.env.locals::X.fs:=hs L (by unfold cM;rw[ZQ,hf];exact Qd)
     refine⟨hk,⟨L,o,hf,DO L o hn ho ?_,ho,hd⟩,ih (fun b hb=>hs b (by unfold cM;rw[ZQ,hf];exact Qb _ hb)) hr⟩
     rcases Qi.mp hL with z|z
     ·exact .inr z
     ·exact .inl z
   exact all X.stack I2.gq I2.stack
 have G:=Uw (f:=f) (c:=c') (nm:="<lambda>") (qual:=X.env.qual ++ "<lambda>") (params:=params) (pm:=pm) (ctv:=ctv) (cds:=cds) S C (fun q A outer s H hr=>dF _ f c' _ q A outer s H hr)
 have UU:Rep X.K H w .f 0 (.ob f (kla_obj "<lambda>" (X.env.qual ++ "<lambda>") params body scope (eY caps X.env.cells) pm c' ctv) jA cds) (.ref f) []:=.ob hf js xF rc
 have fz:Ie X.K ps.length (.ob f (kla_obj "<lambda>" (X.env.qual ++ "<lambda>") params body scope (eY caps X.env.cells) pm c' ctv) jA cds) (rf fb cds) [v] H (fun v' H'=>∃ w' F,Good X.K ρ σ H' w' (t+1)/\Go H w H' w'/\Rep X.K H' w' (.t t) q r v' F) E0:=by
  refine⟨tL.symm,[d],fun a=>(w a).map fun _=>Ow.f,r,q,fun a o e=>?_,⟨fun a o e=>?_,g2.wl.tb⟩,?_,⟨.ref f,?_⟩,ee,fun v H3 w3 Fo dm xH rr=>?_⟩
  ·try dsimp only at e
   cases ew:w a with
   | none=>rw[ew]at e;cases e
   | some o'=>rw[ew]at e;cases e;rfl
  ·try dsimp only at e
   cases ew:w a with
   | none=>rw[ew]at e;cases e
   | some o'=>exact g2.wl a o' ew
  ·exact .cons (F:=[]) (G:=[]) (Rep.freeze (fun a n=>by show(w a).map _=_;rw[n];rfl) rd nM) .nil nM
  ·exact Rep.freeze (fun a n=>by show(w a).map _=_;rw[n];rfl) UU nM
  ·obtain⟨b1,b2,b3⟩:=nC g2 dm xH rr
   exact⟨_,_,b1,b2,b3⟩
 refine JV (Z8 (G.run A2 X.stack s H ⟨[u],[]⟩ [u] [v] _ E0 hr e0 (.of_eq (jC _ _ _ _ _ tL.symm)) (.cons rv .nil) fz) fun r s' hq=>?_)
 cases r with
 | error e=>exact False.elim hq
 | ok fl=>
  cases fl with
  | ret u=>
   obtain⟨v',H',J,UW,w',F,g',di,r'⟩:=I2.after hq
   exact k v' H' w' F s' u J UW g' di r'
  | next=>exact False.elim hq
  | brk=>exact False.elim hq
  | cont=>exact False.elim hq
def tM (K:PySem.W.Frag)(H:Hp)(x:V)(ks:List Int):Prop:=(∃ r j,x=.ref r/\H r=some (.j5 0 j) /\ -1000<=j/\j<=1000/\ks=(List.range j.toNat).map Int.ofNat)\/∃ l,x=.ref l/\cL K H l (ks.map V.int)
theorem tM.sm{x:V}(h:tM K H x ks)(s:∀ b o,H b=some o->Sm o (H' b)):tM K H' x ks:=by
 rcases h with⟨r,j,e,h1,h2⟩|⟨l,e,h1|h1⟩
 ·exact .inl ⟨r,j,e,s r _ h1,h2⟩
 ·refine .inr ⟨l,e,.inl ?_⟩
  rcases h1 with h1|⟨o,h1⟩
  ·exact .inl (s l _ h1)
  ·exact .inr ⟨o,s l _ h1⟩
 ·exact .inr ⟨l,e,.inr h1⟩
theorem UX{A:Around}{σ:St}{E:Value->Shared->Prop}{x:V}(hh:A.handled=none)(I:Inv X pins σ H s)(rx:bh x u)(h:tM X.K H x ks)(pU:ks.length<64)(Q':List Value->Shared->Prop)
  (k:∀ us h' tk,(∀ b o,s.heap.get? b=some o->h'.get? b=some o)->a_ (ks.map V.int) us->Q' us { s with heap:=h',toks:=tk }):wpAny (model X.prog X.w) A (collect u) Q' E s:=by
 rcases h with⟨r,j,rfl,hr,j1,j2,rfl⟩|⟨l,rfl,hl⟩
 ·cases rx
  obtain⟨t,u,v,ho⟩:=(show cR X.prog X.w H s.heap r (.j5 0 j)from I.az r _ hr)
  refine Hi hh ho (CG (by omega) (by omega)) (CH j) (by omega) fun h' tk bf hk dz=>k _ h' tk hk ?_
  have:=CI dz
  unfold pG at this
  rw[Zn]
  exact this
 ·cases rx
  obtain⟨aq,rv,pl,_⟩:=I.list hl
  have hi:=Ag rv
  have hle:aq.length=ks.length:=IntsAre.length hi
  refine collect_list pl.isList (k aq _ s.toks (fun b o e=>?_) rv) (by rw[Zp];omega)
  exact(QY _ _ (Jp (Ql e))).trans (Qc _ e)
def DP (K:PySem.W.Frag)(ta:TA)(fb:aF)(is:List Nat)(g:Int->Int):TE:=fun σ H Q=>∃ ρ w t,Good K ρ σ H w t/\ta σ H fun xs H1=>∃ x w1 ks cds ρ1,xs=[x]/\Good K ρ1 σ H1 w1 t/\Go H w H1 w1/\tM K H1 x ks/\tI is ρ1=some cds/\ks.length<64 /\
 (∀ k∈ks,rf fb cds [.int k]=some (.int (g k),9))/\∀ (bL:List Int) p H' w',bL.Perm ks->bL.Pairwise (fun a b=>g a<=g b)->Good K ρ1 σ H' w' t->Go H1 w1 H' w'->H' p=none->Q (.ref p) (upd H' p (.lst (bL.map V.int)))
theorem WL.no(l:WL K w H)(e:H a=some x)(n:zk x=false):w a=none:=by
 cases q:w a with
 | none=>rfl
 | some o=>
  obtain⟨vs,e'⟩:=l.own a o q
  rw[e]at e'
  rw[Qt e',vs.is]at n
  cases n
theorem UY{x:Str}{c P:Addr}{j:Nat}{is:List Nat}{eN:Expr}{g:Int->Int}{p lp kpos pos:Pos}
  (sf:X.fn=fun _=>true) (L:Lm X.K X.mg X.base) (hx:x∈pz) (ht:tabIn X.K x=some (c,P)) (k8:X.env.code=.ref c) (S:cB ps caps scope) (tL:ps.length=1) (hc:X.calm=true)
  (hm:X.mg "sorted" = none) (hr:aw j X.A) (hk:kb+3<=j)
  (dF:∀ (nP:Heap) (f c':Addr) (cl:List (Str×Addr)) (q:Str) (A:Around) (outer:List Env) (s:Shared) (H:Hp),aw kb (A.deeper (envX q scope s.heap.objs.size f (.ref c') cl))->PD (xu X.prog X.w X.K X.mg nP (ps++caps) q scope f (.ref c') cl A outer s H) body fb)
  (jC:∀ (cl:List (Str×Addr)) (pm aN ctv:Value) (us:List Value),us.length=ps.length->bindArgs (kla_fn "<lambda>" (X.env.qual ++ "<lambda>") params body scope cl pm aN ctv) ⟨us,[]⟩=pure (ps.zip us))
  (hN:∀ (j:Nat) (z:Str),caps[j]? = some z->∃ i,is[j]? = some i/\X.N[i]? = some z/\X.env.scope.names.lookup z=some .cell) (hl:is.length=caps.length) (ha:PA X [eN] ta)
  (l_:closureFor scope X.env=pure (eY caps X.env.cells):=by rfl) (pq:defaultsOf params X.env=([],[]):=by rfl) (hg:Gl X "sorted":=by rfl) (UZ:bootBuiltins "sorted" = some (.builtin "sorted"):=by kernel_rfl)
  (he:backTo pos (starEach [eN] X.env)=(false,eval eN X.env)::backTo pos (starEach [] X.env):=by rfl) (bG:(backTo pos (starEach [eN] X.env)).any (·.1)=false:=by rfl) :
  PE X (.Call (.Name "sorted" p) [eN] [⟨some "key",.Lambda params body scope lp,kpos⟩] pos) (DP X.K ta fb is g):=by
 intro pins s σ H Q I aj
 obtain⟨ρ,w,t,gd,U0⟩:=aj
 have hh:X.A.handled=none:=I.ok.hd hc
 refine ZH (sg I hg hm UZ ?_ (by decide) (by decide))
 refine callWith_kw (aU (ha pos pins s σ H _ I U0) fun us s1 tj=>?_) he bG
 obtain⟨vs,H1,I1,r1,x,w1,ks,cds,ρ1,rfl,g1,aD,col,ny,pU,nq,k'⟩:=tj
 obtain⟨u,rfl,ru⟩:=lN r1
 have DQ:PE X (.Lambda params body scope lp) (fun σ H Q=>TB X.K H/\∀ (f c':Addr) (pm ctv:Value) (oc:Obj) (H':Hp) (u u':HO),H' f=some (.bZ (kla_obj "<lambda>" (X.env.qual ++ "<lambda>") params body scope (eY caps X.env.cells) pm c' ctv) u)->H' c'=some (.bZ oc u')->
   wz (kla_obj "<lambda>" (X.env.qual ++ "<lambda>") params body scope (eY caps X.env.cells) pm c' ctv) c' oc->(∀ b o,H b=some o->Sm o (H' b))->TB X.K H'->Q (.ref f) H'):=fun pins s σ H Q I h=>
  Uy I L h.1 hx ht k8 l_ pq fun f c' pm ctv oc h' tk H' u1 u2 I2 hf js xF Al DR=>⟨.ref f,H',I2,rfl,h.2 f c' pm ctv oc H' u1 u2 hf js xF Al DR⟩
 refine aU (F7 (kpos:=kpos) (nm:=some "key") DQ F5 pos pins s1 σ H1 (fun ys H2=>∃ f c' pm ctv oc u1 u2,ys=[.ref f]/\H2 f=some (.bZ (kla_obj "<lambda>" (X.env.qual ++ "<lambda>") params body scope (eY caps X.env.cells) pm c' ctv) u1)/\H2 c'=some (.bZ oc u2) /\
   wz (kla_obj "<lambda>" (X.env.qual ++ "<lambda>") params body scope (eY caps X.env.cells) pm c' ctv) c' oc/\(∀ b o,H1 b=some o->Sm o (H2 b))/\TB X.K H2) I1 ⟨g1.wl.tb,fun f c' pm ctv oc H' u u' q1 q2 q3 q4 q5=>⟨f,c',pm,ctv,oc,u,u',rfl,q1,q2,q3,q4,q5⟩⟩) fun ws s2 DH=>?_
 obtain⟨zs,H2,I2,rz,f,c',pm,ctv,oc,u1,u2,rfl,hf,js,xF,Al,DR⟩:=DH
 obtain⟨u3,rfl,U1⟩:=lN rz
 cases U1
 obtain⟨g2,bb⟩:=g1.grow Al DR
 have ff:∀ {H':Hp} {w':Wn},Go H2 w1 H' w'->∀ {a:Addr} {o:Obj} {u:HO},H2 a=some (.bZ o u)->H' a=some (.bZ o u):=fun go a o u e=>(go.ba a _ e (g2.wl.no e rfl)).1
 refine UR (g:=g) (fun H'=>∃ w',Good X.K ρ1 σ H' w' t/\Go H2 w1 H' w') I2 ⟨w1,g2,Go.refl⟩ pU (fun Q' k=>UX (A:=X.A.in1) hh I2 ru (col.sm Al) pU Q' k) (fun kk nQ pins' s' H' uu J hR rk=>?_) fun bL H' pp s' hp hs hR hn J=>?_
 ·obtain⟨w',g',di⟩:=hR
  refine UT (A2:=X.A.in1.in1) (d:=.int kk) sf S tL dF jC hN hl rfl ((hr.mono hk).in1.in1) J g' ny (ff di hf) (ff di js) xF rk (.int kk) (nq kk nQ) fun v' Aj w'' F lQ u'' J2 pJ U2 DS Iz=>?_
  cases Iz
  obtain⟨t2,rfl⟩:=pJ
  exact⟨t2,Aj,rfl,J2,_,U2.drop (t':=t),di.trans (DS.drop g'.wt)⟩
 ·obtain⟨w',g',di⟩:=hR
  exact⟨.ref pp,_,J,rfl,k' bL pp H' w' hp hs g' (bb.trans di) hn⟩
def dl (H:Hp)(p:Addr):Hp:=fun a=>if a=p then none else H a
theorem Am(h:a≠p):dl H p a=H a:=Qg h
theorem An(h:dl H p a=some x):a≠p/\H a=some x:=by
 unfold dl at h
 split at h
 ·cases h
 ·rename_i n;exact⟨n,h⟩
theorem IA:dl (upd H p x) p=dl H p:=funext fun a=>by
 unfold dl
 split
 ·rfl
 ·rename_i n;exact aO n
theorem U3(h:H p=none):dl H p=H:=funext fun a=>by
 unfold dl
 split
 ·rename_i e;rw[e,h]
 ·rfl
theorem TB.U4(t:TB K H)(h:H p=some (.dK ai)):TB K (dl H p):=by
 have ne:∀ a y,H a=some y->(∀ k,y ≠ .dK k)->a≠p:=fun a y e n z=>by
  rw[z,h]at e;cases e;exact n _ rfl
 refine⟨fun P ps e=>t.tr P ps (An e).2,fun P ps e pos cv hc=>?_,fun x hx c P hP=>?_⟩
 ·obtain⟨c,oc,u,vs,q,tt,h1,h2,h3⟩:=t.cd P ps (An e).2 pos cv hc
  exact⟨c,oc,u,vs,q,tt,h1,(Am (ne c _ h2 fun _ z=>nomatch z)).trans h2,h3⟩
 ·obtain⟨ps,e⟩:=t.is x hx c P hP
  exact⟨ps,(Am (ne P _ e fun _ z=>nomatch z)).trans e⟩
theorem TB.DT{mi:List (Key×V)}(t:TB K H)(h:H p=some (.dK ai)):TB K (L2.upd H p (.dK mi)):=by
 have ne:∀ a y,H a=some y->(∀ k,y ≠ .dK k)->a≠p:=fun a y e n z=>by
  rw[z,h]at e;cases e;exact n _ rfl
 have bk:∀ P ps,L2.upd H p (.dK mi) P=some (.dB ps)->H P=some (.dB ps):=fun P ps e=>by
  by_cases hP:P=p
  ·rw[hP,cT]at e;cases e
  ·rw[aO hP]at e;exact e
 refine⟨fun P ps e=>t.tr P ps (bk P ps e),fun P ps e pos cv hc=>?_,fun x hx c P hP=>?_⟩
 ·obtain⟨c,oc,u,vs,q,tt,h1,h2,h3⟩:=t.cd P ps (bk P ps e) pos cv hc
  exact⟨c,oc,u,vs,q,tt,h1,(aO (ne c _ h2 fun _ z=>nomatch z)).trans h2,h3⟩
 ·obtain⟨ps,e⟩:=t.is x hx c P hP
  exact⟨ps,(aO (ne P _ e fun _ z=>nomatch z)).trans e⟩
structure DG (K:PySem.W.Frag) (tab:D) (v0:V) (p:Addr) (ai:List (Key×V)) (σ:St) (H:Hp) (w:Wn):Prop where
 wl:WL K w H
 ws:∀ a i,w a=some (.s i)->i<3
 wt:∀ a i,w a=some (.t i)->i<0
 len:σ.length=3
 s0:σ[0]? = some (some v0)
 s1:σ[1]? = some (some (.ref p))
 r0:Rep K (dl H p) w .f 0 tab v0 []
 dk:H p=some (.dK ai)
 np:w p=none
section
variable {K:PySem.W.Frag}{tab:D}{v0:V}{p:Addr}{ai mi:List (Key×V)}{σ:St}{H H' H0:Hp}{w w' w0:Wn}
theorem DG.IB(d:DG K tab v0 p ai σ H w):WL K w (dl H p):=⟨fun a o e=>by
 obtain⟨vs,q⟩:=d.wl.own a o e
 exact⟨vs,(Am (fun z=>by rw[z,d.np]at e;cases e)).trans q⟩,d.wl.tb.U4 d.dk⟩
theorem DG.rep(d:DG K tab v0 p ai σ H w):Rep K H w .f 0 tab v0 []:=d.r0.kg d.IB fun a x e n=>⟨sm (An e).2,n⟩
theorem DG.good(d:DG K tab v0 p ai σ H w)(ht:tab.bM=false):Good K [some (tab,9),none,none] σ H w 0:=by
 refine⟨d.wl,fun a i e=>by rw[d.len];exact d.ws a i e,d.wt,by rw[d.len];rfl,fun i x q e=>?_⟩
 match i,e with
 | 0,e=>
  cases e
  exact⟨v0,[],d.s0,((d.rep.any d.wl).b_ ht).2 9⟩
 | 1,e=>cases e
 | 2,e=>cases e
 | i+3,e=>simp at e
theorem DG.good2(d:DG K tab v0 p ai σ H w)(ht:tab.bM=false){k:Int}(h2:σ[2]? = some (some (.int k))):Good K [some (tab,9),none,some (.int k,9)] σ H w 0:=by
 refine⟨d.wl,fun a i e=>by rw[d.len];exact d.ws a i e,d.wt,by rw[d.len];rfl,fun i x q e=>?_⟩
 match i,e with
 | 0,e=>
  cases e
  exact⟨v0,[],d.s0,((d.rep.any d.wl).b_ ht).2 9⟩
 | 1,e=>cases e
 | 2,e=>
  cases e
  exact⟨.int k,[],h2,.int k⟩
 | i+3,e=>simp at e
theorem DG.step(d:DG K tab v0 p ai σ H w)(go:Go H w H' w')(wl:WL K w' H')(ws:∀ a i,w' a=some (.s i)->i<3)(wt:∀ a i,w' a=some (.t i)->i<0):DG K tab v0 p ai σ H' w':=by
 refine⟨wl,ws,wt,d.len,d.s0,d.s1,d.r0.kg d.IB fun a x e n=>?_,(go.ba p _ d.dk d.np).1,(go.ba p _ d.dk d.np).2⟩
 obtain⟨ne,e'⟩:=An e
 rw[Am ne]
 exact go.ba a x e' n
theorem DG.go(d:DG K tab v0 p ai σ H w)(go:Go H w H' w')(g:Good K ρ σ H' w' 0):DG K tab v0 p ai σ H' w':=
 d.step go g.wl (fun a i e=>by have:=g.ws a i e;rw[d.len]at this;exact this) g.wt
theorem DG.U5(d:DG K tab v0 p ai σ H w)(go:Go H w H' w')(g:Good K ρ σ H' w' t):DG K tab v0 p ai σ H' (cA 0 w')/\Go H w H' (cA 0 w'):=by
 have g0:=g.drop (t':=0)
 have kg:=go.drop d.wt
 exact⟨d.go kg g0,kg⟩
theorem DG.alloc(d:DG K tab v0 p ai σ H w)(hn:H a=none)(hx:oG x=false):DG K tab v0 p ai σ (upd H a x) w/\Go H w (upd H a x) w:=by
 have go:Go H w (upd H a x) w:=⟨fun b y e n=>⟨sm (by rw[aO (dY e hn)];exact e),n⟩,fun b o e _=>⟨aO (fun z=>by
  obtain⟨vs,q⟩:=d.wl.own b o e
  rw[z,hn]at q;cases q),e⟩⟩
 exact⟨d.step go ⟨fun b o e=>by
  obtain⟨vs,q⟩:=d.wl.own b o e
  exact⟨vs,by rw[aO (dY q hn)];exact q⟩,d.wl.tb.upd hx (.inl hn)⟩ d.ws d.wt,go⟩
theorem DG.put(d:DG K tab v0 p ai σ H w)(mi:List (Key×V)):DG K tab v0 p mi σ (upd H p (.dK mi)) w:=
 ⟨⟨fun a o e=>by
   obtain⟨vs,q⟩:=d.wl.own a o e
   exact⟨vs,by rw[aO (fun z=>by rw[z,d.np]at e;cases e)];exact q⟩,d.wl.tb.DT d.dk⟩,d.ws,d.wt,d.len,d.s0,d.s1,by rw[IA];exact d.r0,cT,d.np⟩
theorem DG.DU(d:DG K tab v0 p ai σ H w)(x:Option V):DG K tab v0 p ai (σ.set 2 x) H w:=
 ⟨d.wl,d.ws,d.wt,by rw[Qu];exact d.len,by rw[Qr (by decide)];exact d.s0,by rw[Qr (by decide)];exact d.s1,d.r0,d.dk,d.np⟩
theorem DG.start(g:Good K ρ σ H w 0)(h0:ρ[0]? = some (some (tab,q)))(ht:tab.bM=false)(h3:ρ.length=3)(hn:H p=none):∃ v0,DG K tab v0 p [] (σ.set 1 (some (.ref p))) (upd H p (.dK [])) w/\Go H w (upd H p (.dK [])) w:=by
 obtain⟨v0,F,e0,r⟩:=g.slot 0 tab q h0
 obtain⟨rfl,hr⟩:=r.b_ ht
 have len:σ.length=3:=by rw[<- g.len];exact h3
 have go:Go H w (upd H p (.dK [])) w:=⟨fun b y e n=>⟨sm (by rw[aO (dY e hn)];exact e),n⟩,fun b o e _=>⟨aO (fun z=>by
  obtain⟨vs,q⟩:=g.wl.own b o e
  rw[z,hn]at q;cases q),e⟩⟩
 refine⟨v0,⟨⟨fun b o e=>by
  obtain⟨vs,q⟩:=g.wl.own b o e
  exact⟨vs,by rw[aO (dY q hn)];exact q⟩,g.wl.tb.upd rfl (.inl hn)⟩,fun a i e=>by have:=g.ws a i e;rw[len]at this;exact this,g.wt,by rw[Qu];exact len,by rw[Qr (by decide)];exact e0,by rw[Qw (by omega)],?_,cT,by
  cases q:w p with
  | none=>rfl
  | some o=>
   obtain⟨vs,e⟩:=g.wl.own p o q
   rw[hn]at e;cases e⟩,go⟩
 rw[IA,U3 hn]
 exact(hr 0).any g.wl
theorem Go.dput(go:Go H0 w0 H w)(wl:WL K w0 H0)(hn:H0 p=none)(x:HO):Go H0 w0 (upd H p x) w:=
 ⟨fun a y e n=>by
   rw[aO (dY e hn)]
   exact go.ba a y e n,fun a o e h=>by
   obtain⟨vs,q⟩:=wl.own a o e
   rw[aO (dY q hn)]
   exact go.keep a o e h⟩
end
structure xI (ks:List Int) (g:Int->Int) (tb:Int->List Int) (h:Int->Int):Prop where
 nd:ks.Nodup
 qH:ks.length<64
 lt:∀ k∈ks,∀ x∈tb k,x∈ks/\g x<g k
def IC (K:PySem.W.Frag)(fb:aF)(is:List Nat)(ta:TA)(tv:TE):TS:=fun Dn σ H=>∃ tab v0 p w ks g tb h H0 w0,tab.bM=false/\DG K tab v0 p [] σ H w/\WL K w0 H0/\H0 p=none/\Go H0 w0 H w/\xI ks g tb h/\tI is [some (tab,9),none,none]=some [tab]/\(∀ k∈ks,rf fb [tab] [.int k]=some (.int (g k),9)) /\
 (∀ Q,(∀ x H1 w1,DG K tab v0 p [] σ H1 w1->Go H w H1 w1->tM K H1 x ks->Q [x] H1)->ta σ H Q) /\
 (∀ aP H' w' ai k,DG K tab v0 p ai aP H' w'->aP[2]? = some (some (.int k))->k∈ks->(∀ x∈tb k,fA ai (.inl x)=some (.int (h x)))->∀ Q,(∀ H2 w2,DG K tab v0 p ai aP H2 w2->Go H' w' H2 w2->Q (.int (h k)) H2)->tv aP H' Q) /\
 ∀ aP H' w' ai (bL:List Int),bL.Perm ks->DG K tab v0 p ai aP H' w'->Go H0 w0 H' w'->(∀ k∈ks,fA ai (.inl k)=some (.int (h k)))->ai.map (·.1)=bL.map Sum.inl->Dn.nx aP H'
theorem U6{is:List Nat}{tv:TE}:∀ Dn σ H,IC K fb is ta tv Dn σ H->∃ g,Bz (Ct K (DP K ta fb is g)) (si 2) (BY (eh 1) (eh 2) tv) Dn σ H:=fun Dn σ H aj=>by
 obtain⟨tab,v0,p,w,ks,g,tb,h,H0,w0,ht,dg,xJ,ID,kg,fl,ny,nq,DV,ij,DW⟩:=aj
 refine⟨g,[some (tab,9),none,none],w,0,dg.good ht,DV _ fun x H1 w1 Ao aD col=>⟨x,w1,ks,[tab],_,rfl,Ao.good ht,aD,col,ny,fl.qH,nq,fun bL pp H2 w2 hp hs g2 bb hn=>?_⟩⟩
 have xK:=Ao.go bb g2
 obtain⟨U7,dm⟩:=xK.alloc (x:=.lst (bL.map V.int)) hn rfl
 have xM:pp≠p:=fun z=>by rw[z,xK.dk]at hn;cases hn
 have U8:w2 pp=none:=by
  cases q:w2 pp with
  | none=>rfl
  | some o=>
   obtain⟨vs,e⟩:=xK.wl.own pp o q
   rw[hn]at e;cases e
 have Ap:bL.Nodup:=hp.nodup_iff.mpr fl.nd
 have hlen:(bL.map V.int).length=bL.length:=Qm _
 refine⟨pp,rfl,.inl ⟨⟨_,.inl (.inl cT)⟩,fun i m aP H'=>m=bL.length-i/\i<=bL.length/\∃ w' ai,DG K tab v0 p ai aP H' w'/\Go H0 w0 H' w'/\H' pp=some (.lst (bL.map V.int))/\w' pp=none/\ai.map (·.1)=(bL.take i).map Sum.inl/\∀ k∈bL.take i,fA ai (.inl k)=some (.int (h k)),
  ⟨bL.length,by simp,Q9 _,w2,[],U7,(kg.trans aD).trans (bb.trans dm),cT,U8,by simp,fun k hk=>by simp at hk⟩,?_⟩⟩
 rintro i m aP H' ⟨rfl,ki,w',ai,d,go,hl,nl,xN,hv⟩
 by_cases hi:i<bL.length
 ·refine .inr ⟨⟨_,.int bL[i],.inl (.inl hl),by simp[hi]⟩,fun lM H3=>bL.length-(i+1)=bL.length-(i+1)/\i+1<=bL.length/\∃ w' ai,DG K tab v0 p ai lM H3 w'/\Go H0 w0 H3 w'/\H3 pp=some (.lst (bL.map V.int))/\w' pp=none/\ai.map (·.1)=(bL.take (i+1)).map Sum.inl/\∀ k∈bL.take (i+1),fA ai (.inl k)=some (.int (h k)),
   fun lM H3 n2=>⟨bL.length-(i+1),by omega,n2⟩,fun x H3 hy=>?_⟩
  obtain⟨rfl,hx⟩:=hy
  have ex:=hx _ (.inl (.inl hl))
  simp only[QH,Qx hi,Zw,Option.some.injEq]at ex
  subst ex
  have d2:=d.DU (some (.int bL[i]))
  have s2:(aP.set 2 (some (V.int bL[i])))[2]? = some (some (.int bL[i])):=Qw (by rw[d.len];decide)
  have xO:bL[i]∈ks:=hp.mem_iff.mp (Q6 hi)
  refine ij _ _ _ _ _ d2 s2 xO (fun x hx=>?_) _ fun H4 w4 d4 iS=>?_
  ·obtain⟨h1,h2⟩:=fl.lt _ xO x hx
   obtain⟨j,hj,ej⟩:=JH.mp (hp.mem_iff.mpr h1)
   refine hv x ?_
   have hji:j<i:=by
    refine Classical.byContradiction fun c=>?_
    rcases Nat.lt_or_eq_of_le (ZD.mp c)with z|z
    ·have:=Yc.mp hs i j hi hj z
     rw[ej]at this
     omega
    ·subst z
     rw[<- ej]at h2
     omega
   rw[<- ej]
   exact JH.mpr ⟨j,by rw[Q3];omega,by simp⟩
  ·refine⟨.ref p,d4.s1,.int bL[i],s2,p,_,rfl,wb.k (k:=.inl bL[i]) d4.dk ?_,?_⟩
   ·have:ai.length=((bL.take i).map Sum.inl:List Key).length:=by rw[<- xN,Qm]
    rw[this,Qm,Q3,Zp]
    have:=fl.qH
    have:=hp.length_eq
    omega
   ·have ph:fA ai (.inl bL[i]:Key)=none:=by
     have any:=zc (.inl bL[i]:Key) ai
     cases q:fA ai (.inl bL[i]:Key)with
     | none=>rfl
     | some v=>
      rw[q]at any
      obtain⟨kv,U9,e⟩:=JB.mp any
      have e':kv.1=.inl bL[i]:=Ze e
      have:(Sum.inl bL[i]:Key)∈(bL.take i).map Sum.inl:=by rw[<- xN,<- e'];exact Qy.mpr ⟨kv,U9,rfl⟩
      obtain⟨y,hy,ey⟩:=Qy.mp this
      cases ey
      obtain⟨j,hj,ej⟩:=JH.mp hy
      rw[Q3]at hj
      rw[List.getElem_take]at ej
      exact absurd ej (Yc.mp Ap j i (by omega) hi (by omega))
    rw[P7 _ ph]
    have tk:bL.take (i+1)=bL.take i++[bL[i]]:=by rw[Yh];simp[hi]
    refine⟨rfl,hi,w4,_,d4.put _,(go.trans iS).dput xJ ID _,?_,?_,?_,fun k hk=>?_⟩
    ·rw[aO xM]
     exact(iS.ba pp _ hl nl).1
    ·exact(iS.ba pp _ hl nl).2
    ·rw[Zo,xN,tk,Zo]
     rfl
    ·rw[Gu _ _ _ _ ph]
     rw[tk]at hk
     by_cases nQ:k=bL[i]
     ·rw[Qe (by rw[nQ]),nQ]
     ·rw[Qg (fun z=>nQ (by cases z;rfl))]
      rcases Q0.mp hk with q|q
      ·exact hv k q
      ·exact absurd (QC.mp q) nQ
 ·have eE:i=bL.length:=JJ ki (ZD.mp hi)
  subst eE
  rw[Jb]at xN hv
  exact .inl ⟨⟨_,.inl (.inl hl),by rw[hlen];exact Qf _⟩,DW aP H' w' ai bL hp d go (fun k hk=>hv k (hp.mem_iff.mpr hk)) xN⟩
abbrev k9 (n:Nat):List Int:=(List.range n).map Int.ofNat
theorem IE(n:Nat):(k9 n).Nodup:=List.Pairwise.map _ (fun a b h z=>h (by cases z;rfl)) List.nodup_range
def nR (fb:aF)(Ft Fg:List D->OD)(tab:D)(r:Int):Prop:=tab.bM=false/\∃ (n:Nat) (g:Int->Int) (tb:Int->List Int) (h:Int->Int) (top:Int),eK tab=some n/\n<64/\xI (k9 n) g tb h/\(∀ k∈k9 n,rf fb [tab] [.int k]=some (.int (g k),9)) /\
 (∀ k∈k9 n,(∃ q,Ft [tab,.int k]=some (.lst ((tb k).map D.int),q))/\(tb k).length<=1000/\h k=u7 0 ((tb k).map fun x=>h x+1))/\(∃ q,Fg [tab]=some (.int top,q))/\top∈k9 n/\r=h top
open Classical in
def u_ (fb:aF)(Ft Fg:List D->OD):List D->OD
 | [tab]=>if h:∃ r,nR fb Ft Fg tab r then some (.int (Classical.choose h),9)else none
 | _=>none
open Classical in
theorem U_(h:u_ fb Ft Fg [tab]=some (d,q)):∃ r,nR fb Ft Fg tab r/\d=.int r/\q=9:=by
 have e:u_ fb Ft Fg [tab]=if h:∃ r,nR fb Ft Fg tab r then some (D.int (Classical.choose h),9)else none:=rfl
 rw[e]at h
 by_cases hex:∃ r,nR fb Ft Fg tab r
 ·rw[YU hex]at h
  have h':=Qt h
  exact⟨_,YG hex,(Zx Prod.fst h').symm,(Zx Prod.snd h').symm⟩
 ·rw[dif_neg hex]at h
  cases h
def Aq (fb:aF)(Ft Fg:List D->OD):aI:=fun ρ=>match ρ with
 | [some (tab,_),_,_]=>match u_ fb Ft Fg [tab]with
  | some (d,q)=>some (.rt d q)
  | none=>none
 | _=>none
def DX (K:PySem.W.Frag):TA:=sv (CD (zA K (ae (bX 0) ah))) pd
def IF (K:PySem.W.Frag)(Ft:List D->OD):TE:=wq 1 (wH K (fK (aK Ft 2 (ae (aa 0) (ae (aa 2) ah))))) (si 3) B6 (jt (j7 fun i j=>.int (i+j)) (BX (eh 1) (eh 3)) (tC (.int 1)))
def DY (K:PySem.W.Frag)(Ft:List D->OD):TE:=Ip K (sv (IF K Ft) pd) (sv (tC (.int 0)) pd)
section
variable {K:PySem.W.Frag}{tab:D}{v0:V}{p:Addr}{ai:List (Key×V)}{σ:St}{H:Hp}{w:Wn}{Ft Fg:List D->OD}{fb:aF}
theorem Va(d:DG K tab v0 p ai σ H w)(ht:tab.bM=false){n:Nat}(hl:eK tab=some n)(hn:n<64)(Q:List V->Hp->Prop)(k:∀ x H1 w1,DG K tab v0 p ai σ H1 w1->Go H w H1 w1->tM K H1 x (k9 n)->Q [x] H1):DX K σ H Q:=by
 refine⟨[some (tab,9),none,none],w,0,[.int (Int.ofNat n)],[some (tab,9),none,none],d.good ht,?_,fun vs H1 w1 g1 aD r1=>?_⟩
 ·simp[-Int.ofNat_eq_natCast,hl]
 ·obtain⟨v,rfl,rv⟩:=one r1
  cases rv
  refine⟨Int.ofNat n,rfl,?_,?_,fun a nh=>?_⟩
  ·show -(2 ^ 62)<=(n:Int);omega
  ·show(n:Int)<2 ^ 62;omega
  ·have d1:=d.go aD g1
   obtain⟨d2,bb⟩:=d1.alloc (x:=.j5 0 (Int.ofNat n)) nh rfl
   exact k _ _ _ d2 (aD.trans bb) (.inl ⟨a,Int.ofNat n,rfl,cT,by show(-1000:Int)<=(n:Int);omega,by show(n:Int)<=1000;omega,rfl⟩)
theorem Vb{k:Int}{h:Int->Int}(d:DG K tab v0 p ai σ H w)(ht:tab.bM=false)(h2:σ[2]? = some (some (.int k)))(hF:Ft [tab,.int k]=some (.lst (l.map D.int),q))(hl:l.length<=1000)(hv:∀ x∈l,fA ai (.inl x)=some (.int (h x)))
  (Q:V->Hp->Prop) (kk:∀ a H1 w1,DG K tab v0 p ai σ H1 w1->Go H w H1 w1->H1 a=some (.lst ((l.map fun x=>h x+1).map V.int))->Q (.ref a) H1):IF K Ft σ H Q:=by
 refine⟨[some (tab,9),none,some (.int k,9)],w,0,l.map D.int,[some (tab,9),none,some (.int k,9)],d.good2 ht h2,?_,fun J P H1 w1 g1 aD ok p1 hz=>?_⟩
 ·simp[ht,hF,hl]
 ·have IG:(l.map D.int).length=l.length:=Qm _
  have wc:∀ j,j<=1000->j<sizeLine:=fun j hj=>sH hj
  refine⟨fun i m ys H'=>m=l.length-i/\i<=l.length/\ys=((l.take i).map fun x=>h x+1).map V.int/\∃ w',DG K tab v0 p ai σ H' w'/\Go H w H' w'/\P H' w',⟨l.length,by simp,Q9 _,by simp,w1,d.go aD g1,aD,p1⟩,?_⟩
  rintro i m ys H' ⟨rfl,ki,rfl,w',d',di,p'⟩
  have IH:(((l.take i).map fun x=>h x+1).map V.int).length=i:=by rw[Qm,Qm,Q3];omega
  refine⟨by rw[IH];exact ZF (wc i (by omega)),?_⟩
  by_cases hi:i<l.length
  ·refine .inr ⟨ok.go i H' w' p' (by rw[IG];exact hi),by rw[IH];exact wc i (by omega),fun x H3 hy=>?_⟩
   obtain⟨mo,rx,p3⟩:=ok.qw i H' w' x H3 (.int l[i]) p' d'.wl (by simp[hi]) hy
   cases rx
   obtain⟨g3,dm⟩:=(d'.good ht).more mo
   have d3:=d'.go dm g3
   have es:(σ++List.replicate 1 none).set 3 (some (V.int l[i]))=σ++[some (V.int l[i])]:=by
    have hlen:=d'.len
    rw[List.set_append_right _ _ (by omega),hlen]
    rfl
   show(∃ τ,(σ++List.replicate 1 none).set 3 (some (V.int l[i]))=σ++τ/\τ.length=1)/\_
   rw[es]
   refine⟨⟨_,rfl,rfl⟩,?_⟩
   have s1:(σ++[some (V.int l[i])])[1]? = some (some (.ref p)):=by rw[QA (by rw[d'.len];decide)];exact d'.s1
   have s3:(σ++[some (V.int l[i])])[3]? = some (some (.int l[i])):=by
    rw[QO (by rw[d'.len];decide),d'.len]
    rfl
   unfold B6
   dsimp only
   rw[Qe rfl]
   refine⟨.ref p,s1,.int l[i],s3,p,.int (h l[i]),rfl,?_,?_⟩
   ·have:=oE.k (k:=.inl l[i]) d3.dk
    rw[hv _ (Q6 hi)]at this
    exact this
   ·refine⟨h l[i],1,rfl,rfl,l.length-(i+1),by omega,rfl,hi,?_,w',d3,di.trans dm,p3⟩
    have tk:l.take (i+1)=l.take i++[l[i]]:=by rw[Yh];simp[hi]
    rw[tk,Zo,Zo]
    rfl
  ·have eE:i=l.length:=JJ ki (ZD.mp hi)
   subst eE
   have st:=ok.stop H' w' p'
   rw[IG]at st
   refine .inl ⟨st,fun a hn=>?_⟩
   obtain⟨d4,iS⟩:=d'.alloc (x:=.lst (((l.take l.length).map fun x=>h x+1).map V.int)) hn rfl
   refine kk a _ _ d4 (di.trans iS) ?_
   rw[cT,Jb]
theorem Vc{k:Int}{h:Int->Int}(d:DG K tab v0 p ai σ H w)(ht:tab.bM=false)(h2:σ[2]? = some (some (.int k)))(hF:Ft [tab,.int k]=some (.lst (l.map D.int),q))(hl:l.length<=1000)(hv:∀ x∈l,fA ai (.inl x)=some (.int (h x)))
  (Q:V->Hp->Prop) (kk:∀ H1 w1,DG K tab v0 p ai σ H1 w1->Go H w H1 w1->Q (.int (u7 0 (l.map fun x=>h x+1))) H1):DY K Ft σ H Q:=
 Vb d ht h2 hF hl hv (fun x H1=>pd σ H1 fun xs H2=>sv (tC (.int 0)) pd σ H2 fun ys H3=>Io K (x::xs) ys H3 Q) fun a H1 w1 d1 aD e1=>⟨a,l.map fun x=>h x+1,0,rfl,rfl,.inl (.inl e1),kk H1 w1 d1 aD⟩
end
theorem Vd{S1 S2 S4:Stmt}(h1:PS X S1 (yW GC (si 1)))(h2:∀ g,PS X S2 (Bz (Ct X.K (DP X.K (DX X.K) fb [0] g)) (si 2) (BY (eh 1) (eh 2) (DY X.K Ft))))(h4:PS X S4 (FF (BX (eh 1) (tD X.K (aK Fg 1 (ae (aa 0) ah)))))) :
  oM X [S1,S2,S4] (Aq fb Ft Fg):=by
 have eR:PS X S2 (IC X.K fb [0] (DX X.K) (DY X.K Ft)):=fun pins s σ H D I q=>by
  obtain⟨g,hg⟩:=U6 D σ H q
  exact h2 g pins s σ H D I hg
 refine fZ.imp (sh h1 (sh eR (yV h4))) fun Dn σ H aj=>?_
 obtain⟨ρ,w,o,gd,ee,kk⟩:=aj
 unfold Aq at ee
 split at ee
 next tab q0 a1 a2=>
  split at ee
  next d q hF=>
   cases ee
   obtain⟨r,hh,rfl,rfl⟩:=U_ hF
   ·obtain⟨ht,n,g,tb,h,top,hlen,hn,fl,hk,hT,⟨qg,hG⟩,DZ,rfl⟩:=hh
    intro p hp
    obtain⟨v0,dg,go⟩:=DG.start (p:=p) gd rfl ht rfl hp
    refine⟨tab,v0,p,w,k9 n,g,tb,h,H,w,ht,dg,gd.wl,hp,go,fl,by simp[tI,ht],hk,fun Q q=>Va dg ht hlen hn Q q,fun aP H' w' ai k d' s2 jo hv Q q=>?_,fun aP H' w' ai bL II d' di hv IJ=>?_⟩
    ·obtain⟨⟨qt,e1⟩,e2,e3⟩:=hT k jo
     refine Vc d' ht s2 e1 e2 hv Q fun H1 w1 d1 aD=>?_
     rw[<- e3]
     exact q H1 w1 d1 aD
    ·refine⟨.ref p,d'.s1,[some (tab,9),none,none],w',0,.int top,qg,[some (tab,9),none,none],d'.good ht,by simp[ht,hG],fun v H2 w2 F g2 bb r2=>?_⟩
     cases r2
     obtain⟨d2,dm⟩:=d'.U5 bb g2
     refine⟨p,.int (h top),rfl,?_,?_⟩
     ·have:=oE.k (k:=.inl top) d2.dk
      rw[hv top DZ]at this
      exact this
     ·exact kk _ _ _ [] d2.wl (di.trans dm) (.int _)
  ·cases ee
 ·cases ee
theorem nR.uniq{r':Int}(a:nR fb Ft Fg tab r)(b:nR fb Ft Fg tab r'):r=r':=by
 obtain⟨_,n,g,tb,h,top,a1,a2,a3,a4,a5,⟨q,a6⟩,a7,rfl⟩:=a
 obtain⟨_,n',g',u6,h',Ve,b1,b2,b3,b4,b5,⟨q',b6⟩,b7,rfl⟩:=b
 rw[a1]at b1;cases b1
 rw[a6]at b6;cases b6
 have hg:∀ k∈k9 n,g k=g' k:=fun k hk=>by
  have:=a4 k hk
  rw[b4 k hk]at this
  have this:=Zx Prod.fst (Qt this)
  injection this with e
  exact e.symm
 have inj:∀ {x y:List Int},x.map D.int=y.map D.int->x=y:=fun {x y} e=>List.map_inj_right (fun a b z=>by cases z;rfl) |>.mp e
 have ht:∀ k∈k9 n,tb k=u6 k:=fun k hk=>by
  obtain⟨⟨q1,e1⟩,_⟩:=a5 k hk
  obtain⟨⟨q2,e2⟩,_⟩:=b5 k hk
  rw[e1]at e2
  have:=Qt e2
  have e3:(tb k).map D.int=(u6 k).map D.int:=by
   have:=Zx Prod.fst this
   cases hx:(tb k).map D.int with
   | nil=>rw[hx]at this;injection this
   | cons c cs=>rw[hx]at this;injection this
  exact inj e3
 have key:∀ (m:Nat) (l:List Int),l.length<=m->l.Nodup->(∀ x∈l,x∈k9 n)->(∀ x∈k9 n,x ∉ l->h x=h' x)->(∀ x∈k9 n,h x=h' x):=by
  intro m
  induction m with
  | zero=>
   intro l hl _ _ hx x xP
   have:l=[]:=Zr.mp (by omega)
   subst this
   exact hx x xP (by simp)
  | succ m ih=>
   intro l hl nd c_ hx
   by_cases fI:l=[]
   ·subst fI
    exact fun x xP=>hx x xP (by simp)
   ·
    obtain⟨k,hk,D0⟩:∃ k∈l,∀ y∈l,g k<=g y:=by
     clear ih hx c_ nd hl
     induction l with
     | nil=>exact absurd rfl fI
     | cons c cs Vf=>
      by_cases sD:cs=[]
      ·subst sD
       exact⟨c,Qd,fun y hy=>by rw[QC.mp hy];exact Jm _⟩
      ·obtain⟨k,hk,hm⟩:=Vf sD
       by_cases Vg:g c<=g k
       ·exact⟨c,Qd,fun y hy=>by
         rcases Qi.mp hy with z|z
         ·rw[z];exact Jm _
         ·exact Int.le_trans Vg (hm y z)⟩
       ·exact⟨k,Qb _ hk,fun y hy=>by
         rcases Qi.mp hy with z|z
         ·rw[z];omega
         ·exact hm y z⟩
    have Ar:=c_ k hk
    have nQ:h k=h' k:=by
     rw[(a5 k Ar).2.2,(b5 k Ar).2.2,<- ht k Ar]
     congr 1
     refine ZE fun x jV=>?_
     obtain⟨x1,x2⟩:=a3.lt k Ar x jV
     rw[hx x x1 fun z=>by have:=D0 x z;omega]
    refine ih (l.erase k) (by rw[List.length_erase_of_mem hk];omega) (nd.erase k) (fun x jV=>c_ x (List.mem_of_mem_erase jV)) fun x xP Vh=>?_
    by_cases IK:x=k
    ·rw[IK];exact nQ
    ·exact hx x xP fun z=>Vh ((List.mem_erase_of_ne IK).mpr z)
 exact key _ (k9 n) (Qf _) (IE n) (fun x hx=>hx) (fun x hx z=>absurd hx z) top a7
open Classical in
theorem Vi(h:nR fb Ft Fg tab r):u_ fb Ft Fg [tab]=some (.int r,9):=by
 have hex:∃ r,nR fb Ft Fg tab r:=⟨r,h⟩
 have e:u_ fb Ft Fg [tab]=if h:∃ r,nR fb Ft Fg tab r then some (D.int (Classical.choose h),9)else none:=rfl
 rw[e,YU hex,(YG hex).uniq h]
end L3
namespace L3
open PySem PySem.Spec PyProof.Rows PySem.W L2
theorem aw.u1{k:Nat}{A:Around}(r:aw k A):A.units+1<cLine:=by have:=r.units;omega
end L3
namespace L3
open PySem PySem.SetTable
variable {xs:Array Nat}
def Rs (xs:Array Nat):Prop:=∀ a b,a<b->b<xs.size->xs.getD a 0<xs.getD b 0
theorem IL{i:Nat}(h:i<xs.size)(a b:Nat):xs.getD i a=xs.getD i b:=by
 unfold Array.getD
 rw[YU h,YU h]
theorem D1(r:Rs xs)(j:Nat):∀ (fuel lo hi:Nat),hi-lo<=fuel->lo<=hi->hi<=xs.size->(∀ i,i<lo->xs.getD i 0<j)->(∀ i,hi<=i->i<xs.size->j<=xs.getD i 0)->
  below.go xs j fuel lo hi<=xs.size/\(∀ i,i<below.go xs j fuel lo hi->xs.getD i 0<j)/\(∀ i,below.go xs j fuel lo hi<=i->i<xs.size->j<=xs.getD i 0)
 | 0,lo,hi,hf,hl,hs,h1,h2=>by
  unfold below.go
  exact⟨by omega,h1,fun i a b=>h2 i (by omega) b⟩
 | fuel+1,lo,hi,hf,hl,hs,h1,h2=>by
  unfold below.go
  by_cases c:lo<hi
  ·rw[Qe c]
   have hm:(lo+hi) / 2<xs.size:=by omega
   by_cases d:xs.getD ((lo+hi) / 2) j<j
   ·rw[Qe d]
    rw[IL hm j 0]at d
    refine D1 r j fuel _ hi (by omega) (by omega) hs (fun i eE=>?_) h2
    by_cases e:i=(lo+hi) / 2
    ·rw[e];exact d
    ·exact Ja (r i _ (by omega) hm) d
   ·rw[Qg d]
    rw[IL hm j 0]at d
    refine D1 r j fuel lo _ (by omega) (by omega) (by omega) h1 (fun i a b=>?_)
    by_cases e:i=(lo+hi) / 2
    ·rw[e];omega
    ·have:=r ((lo+hi) / 2) i (by omega) b
     omega
  ·rw[Qg c]
   exact⟨by omega,h1,fun i a b=>h2 i (by omega) b⟩
theorem As(r:Rs xs)(j:Nat):below xs j<=xs.size/\(∀ i,i<below xs j->xs.getD i 0<j)/\(∀ i,below xs j<=i->i<xs.size->j<=xs.getD i 0):=
 D1 r j xs.size 0 xs.size (by omega) (by omega) (Qf _) (fun _ h=>absurd h (JI _)) (fun i a b=>by omega)
def Vj (mask:Nat)(p:Probe):Probe:=if p.more > 0 then { p with j:=p.j+1,more:=p.more-1 }else { p with j:=(leap mask p.i p.perturb).1,more:=runEnd mask (leap mask p.i p.perturb).1-(leap mask p.i p.perturb).1,i:=(leap mask p.i p.perturb).1,perturb:=(leap mask p.i p.perturb).2 }
def IM (mask:Nat)(h:Int):Probe:={ j:=bits h % (mask+1),more:=runEnd mask (bits h % (mask+1))-bits h % (mask+1),i:=bits h % (mask+1),perturb:=bits h,dummy:=none }
def D2 (mask:Nat)(p:Probe):Nat->Probe
 | 0=>p
 | m+1=>D2 mask (Vj mask p) m
def lp (mask a pb:Nat):Probe:={ j:=a,more:=runEnd mask a-a,i:=a,perturb:=pb,dummy:=none }
def lst (mask:Nat):Nat->Nat×Nat->Nat×Nat
 | 0,x=>x
 | s+1,x=>lst mask s (leap mask x.1 x.2)
def D3 (mask:Nat):Nat->Nat->Nat
 | 0,a=>a
 | s+1,a=>D3 mask s ((a*5+1) % (mask+1))
structure Mk (mask:Nat):Prop where
 all:∀ e,e<=mask->∃ s,s<mask+1/\D3 mask s 0=e
 nC:D3 mask (mask+1) 0=0
 odd:mask % 2=1
 qH:mask<=511
structure Vk (t:SetTable) (hs:List Int):Prop where
 sz:t.place.size=hs.length
 rs:Rs t.place
 nd:t.dummies = #[]
 rd:Mk t.mask
 le:∀ (i j:Nat),t.place[i]? = some j->j<=t.mask
 room:hs.length<=t.mask
 rch:∀ (i j:Nat) (h:Int),t.place[i]? = some j->hs[i]? = some h->∃ m,m<10*turns t.mask/\(D2 t.mask (IM t.mask h) m).j=j/\∀ m',m'<m->∃ i',t.slot (D2 t.mask (IM t.mask h) m').j=.live i'
theorem vO{α:Type}(xs:Array α)(p:Nat)(x:α)(hp:p<=xs.size)(i:Nat):(insertAt xs p x)[i]? = if i<p then xs[i]? else if i=p then some x else xs[i-1]?:=by
 have e:(insertAt xs p x).toList=xs.toList.take p++x::xs.toList.drop p:=by
  unfold insertAt
  simp
  exact Jv (by rw[ZS,Zb];exact Qf _)
 rw[<- Z1,e]
 by_cases h1:i<p
 ·rw[Qe h1,QA (by rw[Q3,Zb];omega),ZP h1,Z1]
 ·rw[Qg h1,QO (by rw[Q3,Zb];omega),Q3,Zb,Nat.min_eq_left hp]
  by_cases h2:i=p
  ·rw[Qe h2,h2,YT];rfl
  ·rw[Qg h2]
   obtain⟨k,rfl⟩:∃ k,i=p+k+1:=⟨i-p-1,by omega⟩
   rw[show p+k+1-p=k+1 by omega,ZT,List.getElem?_drop,Z1]
   rfl
abbrev Vl:=Array (Option Nat)
def Il (ow:Vl)(j:Nat):Bool:=(ow.getD j (some 0)).isNone
end L3
namespace L3
open PySem PySem.Spec PyProof.Rows PySem.W L2
end L3
namespace L3
open PySem PySem.W PyProof.Rows
def pV {α:Type}(lt:Nat->Nat->Bool):KasT α->α
 | .ret a=>a
 | .ask i j k=>pV lt (k (lt i j))
variable {r:Nat->Int}
abbrev rj (r:Nat->Int)(i j:Nat):Bool:=decide (r i<r j)
abbrev xv (r:Nat->Int)(p:Array Nat)(i:Nat):Int:=r (p.getD i 0)
theorem IP{x:Nat->Int}{n:Nat}(h:∀ k,1<=k->k<n->x (k-1)<=x k):∀ (i j:Nat),i<=j->j<n->x i<=x j:=by
 intro i j
 induction j with
 | zero=>
  intro a _
  have:i=0:=by omega
  subst this
  exact Jm _
 | succ j ih=>
  intro a b
  by_cases z:i=j+1
  ·subst z;exact Jm _
  ·exact Int.le_trans (ih (by omega) (by omega)) (h (j+1) (by omega) b)
structure Dn (r:Nat->Int) (p0 p:Array Nat) (n q:Nat):Prop where
 pm:p.Perm p0
 le:n<=p0.size
 q1:q<n
 dn:∀ k,1<=k->k<n->xv r p k<=xv r p (k-1)
 eq:∀ k,n-(q+1)<=k->k<n->xv r p k=xv r p (n-1)
variable {r:Nat->Int}
theorem Au{p:Array Nat}{k:Nat}(up:∀ j,1<=j->j<k->xv r p (j-1)<=xv r p j):∀ (f l u:Nat),u-l<=f->l<=u->u<=k->(∀ i,i<l->xv r p i<=xv r p k)->(∀ i,u<=i->i<k->xv r p k<xv r p i)->
  pV (rj r) (kas_place p k f l u)<=k/\(∀ i,i<pV (rj r) (kas_place p k f l u)->xv r p i<=xv r p k)/\(∀ i,pV (rj r) (kas_place p k f l u)<=i->i<k->xv r p k<xv r p i)
 | 0,l,u,hf,hl,hu,h1,h2=>⟨by show l<=k;omega,h1,fun i a b=>h2 i (by have:l<=i:=a;omega) b⟩
 | f+1,l,u,hf,hl,hu,h1,h2=>by
  have e:pV (rj r) (kas_place p k (f+1) l u)=if l ≥ u then l else if xv r p k<xv r p ((l+u) / 2)then pV (rj r) (kas_place p k f l ((l+u) / 2))else pV (rj r) (kas_place p k f ((l+u) / 2+1) u):=by
   show pV (rj r) (if l ≥ u then KasT.ret l else KasT.ask (p.getD k 0) (p.getD ((l+u) / 2) 0) fun c=>if c=true then kas_place p k f l ((l+u) / 2)else kas_place p k f ((l+u) / 2+1) u)=_
   by_cases c:l ≥ u
   ·rw[Qe c,Qe c];rfl
   ·rw[Qg c,Qg c]
    show pV (rj r) (if decide (r (p.getD k 0)<r (p.getD ((l+u) / 2) 0))=true then kas_place p k f l ((l+u) / 2)else kas_place p k f ((l+u) / 2+1) u)=_
    by_cases d:xv r p k<xv r p ((l+u) / 2)
    ·rw[Qe d,Qe (QF d)]
    ·rw[Qg d,Qg (by rw[Z4];exact d)]
  rw[e]
  by_cases c:l ≥ u
  ·rw[Qe c]
   exact⟨by omega,h1,fun i a b=>h2 i (by omega) b⟩
  ·rw[Qg c]
   by_cases d:xv r p k<xv r p ((l+u) / 2)
   ·rw[Qe d]
    refine Au up f l _ (by omega) (by omega) (by omega) h1 fun i a b=>?_
    exact Int.lt_of_lt_of_le d (IP up _ i a b)
   ·rw[Qg d]
    refine Au up f _ u (by omega) (by omega) hu (fun i a=>?_) h2
    have:=IP up i ((l+u) / 2) (by omega) (by omega)
    omega
variable {lt:Nat->Nat->Bool}{n:Nat}
abbrev rk (x:Nat×Nat):Int:=Int.ofNat (x.1*1000+x.2)
end L3
namespace L3
open PySem PySem.Spec PyProof.Rows PySem.W L2
variable {C a l:Addr}{E:XK}{F:D->List D->Option D}{Fx:List D->Option Str}{H H':Hp}{K:PySem.W.Frag}{N cj ps:List Str}{P:Program}{Q:VK}{base:Heap}{body f1 f2 f3 g:aI}{d:D}{ds br cq:List D}{f m qual x:Str}{i n q t:Nat}{mg:Str->Option Value}{o o':Ow}{pl:Sem Bool}{st:Stmt}{u v:V}{vs:List V}{w w':Wn}{z:HO}{ρ:aS}{σ:St}
section
variable {α β:Type}[DecidableEq α]
def vL:List α->List β->α->Option β
 | x::ks,d::ds,k=>if x=k then some d else vL ks ds k
 | _,_,_=>none
def mj:List α->List β->α->β->List β
 | x::ks,d::ds,k,e=>(if x=k then e else d)::mj ks ds k e
 | _,_,_,_=>[]
end
theorem IQ{α β:Type}[DecidableEq α](k:α)(e:β):∀ {ks:List α} {ds:List β},ks.length=ds.length->(mj ks ds k e).length=ds.length
 | [],[],_=>rfl
 | x::ks,d::ds,h=>by
  show(mj ks ds k e).length+1=ds.length+1
  rw[IQ k e (JR h)]
section
variable {K:PySem.W.Frag}{H:Hp}{w:Wn}{o:Ow}
theorem ag.split(r:ag K H w o 0 (d::ds) vs []):∃ v us,vs=v::us/\Rep K H w o 0 d v []/\ag K H w o 0 ds us []:=by
 generalize hF:([]:List Addr)=F at r
 cases r with
 | @cons _ d' v' br iw F' G' r s _=>
  have h1:F'=[]:=r.zero
  have h2:G'=[]:=s.zero
  subst h1 h2
  exact⟨v',iw,rfl,r,s⟩
theorem ag.Av(r:Rep K H w o 0 d v [])(s:ag K H w o 0 ds vs []):ag K H w o 0 (d::ds) (v::vs) []:=.cons (F:=[]) (G:=[]) r s nM
theorem ag.tN(r:ag K H w o 0 [] vs []):vs=[]:=by
 have:=r.length
 cases vs with
 | nil=>rfl
 | cons _ _=>cases this
theorem IS{α:Type}[DecidableEq α](k:α):∀ {ks:List α} {ds:List D} {vs:List V},ag K H w o 0 ds vs []->
  (∀ d,vL ks ds k=some d->∃ v,vL ks vs k=some v/\Rep K H w o 0 d v [])/\(vL ks ds k=none->vL ks vs k=none)
 | [],ds,vs,r=>⟨fun d h=>by simp[vL]at h,fun _=>by simp[vL]⟩
 | x::ks,[],vs,r=>by
  rw[r.tN]
  exact⟨fun d h=>by simp[vL]at h,fun _=>by simp[vL]⟩
 | x::ks,d::ds,vs,r=>by
  obtain⟨v,us,rfl,r1,s⟩:=r.split
  have ih:=IS k (ks:=ks) s
  by_cases hx:x=k
  ·simp only[vL,Qe hx]
   exact⟨fun d' h=>by cases h;exact⟨v,rfl,r1⟩,fun h=>by cases h⟩
  ·simp only[vL,Qg hx]
   exact ih
theorem IU{α:Type}[DecidableEq α](k:α){e:D}(re:Rep K H w o 0 e u []):∀ {ks:List α} {ds:List D} {vs:List V},ag K H w o 0 ds vs []->ag K H w o 0 (mj ks ds k e) (mj ks vs k u) []
 | [],ds,vs,r=>by simp only[mj];exact .nil
 | x::ks,[],vs,r=>by
  rw[r.tN]
  simp only[mj];exact .nil
 | x::ks,d::ds,vs,r=>by
  obtain⟨v,us,rfl,r1,s⟩:=r.split
  simp only[mj]
  refine .Av ?_ (IU k re s)
  by_cases hx:x=k
  ·rw[Qe hx,Qe hx];exact re
  ·rw[Qg hx,Qg hx];exact r1
end
theorem Vm(v:OX):oG v.ho=false:=by cases v<;>rfl
theorem MK.IV{k:MK}{x:HO}(h:k.Is K a vs x):oG x=false:=by
 obtain⟨v,rfl⟩:=MK.ox h
 exact Vm v
section
variable {K:PySem.W.Frag}{σ:St}{ρ:aS}{t:Nat}
theorem Rep.D4{k:MK}{F:List Addr}(r:Rep K H w o q (.mp k ds) v F):∃ a vs z,v=.ref a/\H a=some z/\k.Is K a vs z/\k.len=ds.length/\ag K H w o 0 ds vs []:=by
 cases r with
 | oF h i e l r=>exact⟨_,_,_,rfl,h,i,l,r⟩
 | gz h i e l r=>exact⟨_,_,_,rfl,h,i,l,r⟩
theorem Good.xQ{k:MK}(g:Good K ρ σ H w t)(e:ρ[i]? = some (some (.mp k ds,q))) :
  ∃ l vs z,σ[i]? = some (some (.ref l))/\H l=some z/\k.Is K l vs z/\k.len=ds.length/\ag K H w .f 0 ds vs []:=by
 obtain⟨v,F,h1,h2⟩:=g.slot i _ _ e
 obtain⟨a,vs,z,rfl,x1,x2,x3,x4⟩:=h2.D4
 exact⟨a,vs,z,h1,x1,x2,x3,x4.any g.wl⟩
theorem Good.D5{k:MK}(g:Good K ρ σ H w t)(e:ρ[i]? = some (some (.mp k ds,1))) :
  ∃ l vs z,σ[i]? = some (some (.ref l))/\H l=some z/\k.Is K l vs z/\k.len=ds.length/\ag K H w .f 0 ds vs []/\∀ k' br iw z',k'.Is K l iw z'->k'.len=br.length->ag K H w .f 0 br iw []->
   Good K (ρ.set i (some (.mp k' br,1))) σ (upd H l z') w t/\Go H w (upd H l z') w:=by
 obtain⟨v,F,h1,h2⟩:=g.slot i _ _ e
 cases h2 with
 | @gz _ l vs _ _ z hl gS hw hlen rs=>
  refine⟨l,vs,z,h1,hl,gS,hlen,rs.any g.wl,fun k' br iw z' i' l' r'=>?_⟩
  have nl:∀ a o,w a=some o->o ≠ .s i->a≠l:=fun a o e n z=>by subst z;rw[hw]at e;exact n (Qt e).symm
  have nn:∀ a,w a=none->a≠l:=fun a e z=>by subst z;rw[hw]at e;cases e
  have st:cY H w (upd H l z') w:=fun a x h n=>⟨sm (by rw[aO (nn a n)];exact h),n⟩
  refine⟨⟨⟨fun a o h=>?_,g.wl.tb.upd (MK.IV i') (.inr (g.wl l _ hw))⟩,g.ws,g.wt,by rw[Qu];exact g.len,fun j d' q' e'=>?_⟩,⟨st,fun a o h n=>⟨aO (nl a o h (n i)),h⟩⟩⟩
  ·by_cases z:a=l
   ·subst z
    obtain⟨v,rfl⟩:=MK.ox i'
    exact⟨v,cT⟩
   ·obtain⟨us,q⟩:=g.wl a o h
    exact⟨us,by rw[aO z];exact q⟩
  ·by_cases hj:i=j
   ·subst hj
    rw[Qw (Qp.mp e).1]at e'
    cases e'
    exact⟨_,_,h1,.gz cT i' hw l' (ag.go g.wl st r' nM)⟩
   ·rw[Qr hj]at e'
    obtain⟨v',F',mX,eR⟩:=g.slot j d' q' e'
    exact⟨v',F',mX,Rep.go g.wl st eR fun a m=>⟨aO (nl a _ (eR.aA a m) (fun z=>hj (by cases z;rfl))),eR.aA a m⟩⟩
end
theorem Rep.D6(hl:H l=some z)(hz:(∀ xs,z ≠ .lst xs)/\∀ ob u,z ≠ .bZ ob u)(n:∀ a,a≠l->w a=none->w' a=none):∀ {q:Nat} {d:D} {v:V} {F:List Addr},Rep K H w o q d v F->gT d=true->(∀ a∈F,w' a=some o')->Rep K H w' o' q d v F:=by
 intro q d v F r
 refine Rep.rec (motive_1:=fun q d v F _=>gT d=true->(∀ a∈F,w' a=some o')->Rep K H w' o' q d v F) (motive_2:=fun q ds vs F _=>l8 ds=true->(∀ a∈F,w' a=some o')->ag K H w' o' q ds vs F) ?_ ?_ ?_ ?_ ?_ ?_ ?_ ?_ ?_ ?_ ?_ ?_ ?_ ?_ ?_ r
 ·intro q _ _;exact .au
 ·intro q b _ _;exact .bl b
 ·intro q i _ _;exact .int i
 ·intro q x _ _;exact .str x
 ·intro q a vs ds h r ih hn _;exact .tup h (ih (by unfold gT at hn;exact hn) nM)
 ·intro q a ks vs ds h e r ih hn _;cases hn
 ·intro q a nm ob u h x n hn _;cases hn
 ·intro q f c fo oc u u' vs ds h1 h2 x r ih hn _;cases hn
 ·intro a vs ds h r ih hn _;exact .kl h (ih (by unfold gT at hn;exact hn) nM)
 ·intro a vs ds h e r ih hn _
  refine .shr h (n a (fun q=>?_) e) (ih (by unfold gT at hn;exact hn) nM)
  subst q
  rcases h with h|⟨ob,h⟩
  ·rw[hl]at h;exact hz.1 _ (Qt h)
  ·rw[hl]at h;exact hz.2 _ _ (Qt h)
 ·intro q a vs ds F h e r ne ih hn k;exact .own h (k _ Qd) (ih (by unfold gT at hn;exact hn) fun a m=>k a (Qb _ m)) ne
 ·intro a vs ds k x h i e l r ih hn _;cases hn
 ·intro q a vs ds k x h i e l r ih hn _;cases hn
 ·intro q _ _;exact .nil
 ·intro q d v ds vs F G r s ne nA nB hn k
  unfold l8 at hn
  exact .cons (nA (QB.mp hn).1 fun a m=>k a (QU _ m)) (nB (QB.mp hn).2 fun a m=>k a (Qh _ m)) ne
def va:Nat->D->Bool
 | 0,d=>gT d
 | _+1,.mp _ ds=>l8 ds
 | _+1,d=>gT d
theorem Rep.D7(hl:H l=some z)(hz:(∀ xs,z ≠ .lst xs)/\∀ ob u,z ≠ .bZ ob u)(n:∀ a,a≠l->w a=none->w' a=none){F:List Addr}(r:Rep K H w o q d v F)(hd:va q d=true)(k:∀ a∈F,w' a=some o'):Rep K H w' o' q d v F:=by
 cases q with
 | zero=>exact Rep.D6 hl hz n r hd k
 | succ q=>
  cases d with
  | mp mk ds=>
   cases r with
   | gz h i e le rs=>
    refine .gz h i (k _ (QC.mpr rfl)) le ?_
    have hd:l8 ds=true:=hd
    have key:∀ {ds:List D} {vs:List V},l8 ds=true->ag K H w o 0 ds vs []->ag K H w' o' 0 ds vs []:=by
     intro ds
     induction ds with
     | nil=>intro vs _ r;rw[r.tN];exact .nil
     | cons d ds ih=>
      intro vs hn r
      obtain⟨v,us,rfl,r1,s⟩:=r.split
      unfold l8 at hn
      exact .Av (Rep.D6 hl hz n r1 (QB.mp hn).1 nM) (ih (QB.mp hn).2 s)
    exact key hd rs
  | _=>exact Rep.D6 hl hz n r hd k
theorem Vo{Fo:List Addr}(g:Good K ρ σ H w t)(hl:H l=some z)(hw:w l=some (.s i))(hz:(∀ xs,z ≠ .lst xs)/\(∀ ob u,z ≠ .bZ ob u))(Vp:oG z=false)
  (go:Go H (fun a=>if a=l then none else(w a).map fun _=>Ow.f) H' w') (jY:WL K w' H') (r:Rep K H' w' (.t 0) q d v Fo) (hd:va q d=true) :
  Good K ρ σ H' (fun a=>if a∈Fo then some (.t t)else w a) (t+1)/\Go H w H' (fun a=>if a∈Fo then some (.t t)else w a)/\Rep K H' (fun a=>if a∈Fo then some (.t t)else w a) (.t t) q d v Fo:=by
 obtain⟨s1,s2⟩:=go.ba l z hl (Qe rfl)
 have gZ:H' l=some z:=s1.eq Vp
 have kf:∀ a o,w a=some o->H' a=H a:=fun a o e=>by
  by_cases ha:a=l
  ·rw[ha,gZ,hl]
  ·exact(go.keep a .f (by show(if a=l then none else(w a).map _)=_;rw[Qg ha,e];rfl) (fun _ z=>nomatch z)).1
 have kw:∀ a o,w a=some o->a≠l->w' a=some .f:=fun a o e ha=>(go.keep a .f (by show(if a=l then none else(w a).map _)=_;rw[Qg ha,e];rfl) (fun _ z=>nomatch z)).2
 have nf:∀ a x,H a=some x->a ∉ Fo:=fun a x e m=>by
  have h1:=r.aA a m
  by_cases ha:a=l
  ·rw[ha,s2]at h1;cases h1
  ·cases ew:w a with
   | none=>
    have:=(go.ba a x e (by show(if a=l then none else(w a).map _)=_;rw[Qg ha,ew];rfl)).2
    rw[h1]at this;cases this
   | some o=>rw[kw a o ew ha]at h1;cases h1
 have nw:∀ a o,w a=some o->a ∉ Fo:=fun a o e=>by obtain⟨vs,q⟩:=g.wl a o e;exact nf a _ q
 have st:cY H w H' (fun a=>if a∈Fo then some (.t t)else w a):=fun a x e n=>by
  have ha:a≠l:=fun q=>by rw[q,hw]at n;cases n
  refine⟨(go.ba a x e (by show(if a=l then none else(w a).map _)=_;rw[Qg ha,n];rfl)).1,?_⟩
  show(if a∈Fo then _ else _)=_
  rw[Qg (nf a x e)];exact n
 have wv:∀ a o,(if a∈Fo then some (Ow.t t)else w a)=some o->(a∈Fo/\o=.t t)\/w a=some o:=fun a o e=>by
  split at e
  ·cases e;exact .inl ⟨by assumption,rfl⟩
  ·exact .inr e
 refine⟨⟨⟨fun a o e=>?_,jY.tb⟩,fun a i e=>?_,fun a i e=>?_,g.len,fun i d q e=>?_⟩,⟨st,fun a o e _=>⟨kf a o e,by show(if a∈Fo then _ else _)=_;rw[Qg (nw a o e)];exact e⟩⟩,?_⟩
 ·rcases wv a o e with⟨m,_⟩|z
  ·exact jY a _ (r.aA a m)
  ·obtain⟨vs,h⟩:=g.wl a o z
   exact⟨vs,(kf a o z).trans h⟩
 ·rcases wv a _ e with⟨_,z⟩|z
  ·cases z
  ·exact g.ws a i z
 ·rcases wv a _ e with⟨_,z⟩|z
  ·cases z;exact Q2 _
  ·exact Q7 (g.wt a i z)
 ·obtain⟨v,F,h1,h2⟩:=g.slot i d q e
  refine⟨v,F,h1,Rep.go g.wl st h2 fun a m=>⟨kf a _ (h2.aA a m),?_⟩⟩
  show(if a∈Fo then _ else _)=_
  rw[Qg (nw a _ (h2.aA a m))]
  exact h2.aA a m
 ·refine Rep.D7 gZ hz (fun a ha n=>?_) r hd fun a m=>Qe m
  show(if a∈Fo then _ else _)=_
  rw[Qg (fun m=>by have:=r.aA a m;rw[n]at this;cases this)]
  cases ew:w a with
  | none=>rfl
  | some o=>have:=kw a o ew ha;rw[n]at this;cases this
section
variable {X:Cx}{a b c e:Expr}{fa fb fc f:aF}{p p1 p2 pos pos' ar apos:Pos}{x y:Str}{i j:Nat}
theorem MK.Vq{a:Addr}{k:MK}(h:k.Is K a vs z):(∀ xs,z ≠ .lst xs)/\∀ ob u,z ≠ .bZ ob u:=by
 cases k with
 | t ks=>cases h;exact⟨(fun _ z=>nomatch z),(fun _ _ z=>nomatch z)⟩
 | k ks=>cases h;exact⟨(fun _ z=>nomatch z),(fun _ _ z=>nomatch z)⟩
 | i C fs p=>obtain⟨_,dx,_,rfl,_⟩:=h;exact⟨(fun _ z=>nomatch z),(fun _ _ z=>nomatch z)⟩
end
def nS (fs:List Str)(f:Str):List Str:=if f∈fs then fs else fs++[f]
def k_ {β:Type}(fs:List Str)(ds:List β)(f:Str)(d:β):List β:=if f∈fs then mj fs ds f d else ds++[d]
theorem D8:∀ {fs:List Str} {vs:List V} {f:Str},(fs.zip vs).lookup f=vL fs vs f
 | [],vs,f=>by simp[vL]
 | g::fs,[],f=>by simp[vL]
 | g::fs,v::vs,f=>by
  show List.lookup f ((g,v)::fs.zip vs)=(if g=f then some v else vL fs vs f)
  rw[QW]
  by_cases h:g=f
  ·subst h;rw[Qe rfl,ZG]
  ·rw[Qg h,beq_false_of_ne (fun z=>h z.symm)]
   exact D8
theorem D9{β:Type}:∀ {fs:List Str} {ds:List β} {f:Str} {d:β},vL fs ds f=some d->f∈fs
 | [],ds,f,d,h=>by simp[vL]at h
 | g::fs,[],f,d,h=>by simp[vL]at h
 | g::fs,x::ds,f,d,h=>by
  have h:(if g=f then some x else vL fs ds f)=some d:=h
  by_cases e:g=f
  ·rw[e];exact Qd
  ·rw[Qg e]at h;exact Qb _ (D9 h)
theorem IW{β:Type}{u:β}:∀ {fs:List Str} {vs:List β},fs.length=vs.length->f ∉ fs->mj fs vs f u=vs
 | [],[],_,_=>rfl
 | g::fs,v::vs,hl,h=>by
  show(if g=f then u else v)::mj fs vs f u=v::vs
  rw[Qg (fun z:g=f=>h (by rw[z];exact Qd)),IW (by simpa using hl) (fun z=>h (Qb _ z))]
theorem IX:∀ {fs:List Str} {vs:List V},fs.Nodup->fs.length=vs.length->iI f u (fs.zip vs)=(nS fs f).zip (k_ fs vs f u)
 | [],[],_,_=>by simp[iI,nS,k_]
 | g::fs,v::vs,nd,hl=>by
  have Ap:=Zv.mp nd
  have gZ:fs.length=vs.length:=by simpa using hl
  show(if g=f then(g,u)::fs.zip vs else(g,v)::iI f u (fs.zip vs))=_
  by_cases h:g=f
  ·subst h
   rw[Qe rfl]
   unfold nS k_
   rw[Qe Qd,Qe Qd]
   show _=(g::fs).zip ((if g=g then u else v)::mj fs vs g u)
   rw[Qe rfl,IW gZ Ap.1]
   rfl
  ·rw[Qg h,IX Ap.2 gZ]
   unfold nS k_
   by_cases hm:f∈fs
   ·rw[Qe hm,Qe hm,Qe (Qb _ hm),Qe (Qb _ hm)]
    show _=(g::fs).zip ((if g=f then u else v)::mj fs vs f u)
    rw[Qg h]
    rfl
   ·have oO:f ∉ g::fs:=fun z=>(Qi.mp z).elim (fun e=>h e.symm) hm
    rw[Qg hm,Qg hm,Qg oO,Qg oO]
    rfl
theorem Vr{β γ:Type}{fs:List Str}{ds:List β}{d:β}(hl:fs.length=ds.length):(nS fs f).length=(k_ fs ds f d).length:=by
 unfold nS k_
 by_cases h:f∈fs
 ·rw[Qe h,Qe h,IQ _ _ hl,hl]
 ·rw[Qg h,Qg h,Qo,Qo,hl]
  rfl
def eL (i:Nat)(f:Str):aF:=fun ρ=>match ρ[i]? with
 | some (some (.mp (.i _ fs _) ds,_))=>match vL fs ds f with
  | some d=>some (d,cH d,ρ)
  | none=>none
 | _=>none
def lg (nm:Str)(i:Nat)(f:Str)(fe:aF):aI:=fun ρ=>match fe ρ with
 | some (d,_,ρ1)=>match ρ1[i]? with
  | some (some (.mp (.i fL fs p) ds,1))=>if fL=nm/\fs.Nodup/\ds.length<999 then some (.nx (ρ1.set i (some (.mp (.i nm (nS fs f) p) (k_ fs ds f d),1))))else none
  | _=>none
 | none=>none
def kB (K:PySem.W.Frag)(nm f:Str):Prop:=∀ C,nsIn K mainGlobals nm=some (some (.ref C))->qz K C f
section
variable {X:Cx}{a b c e:Expr}{fa fb fc f:aF}{p p1 p2 pos pos' ar apos:Pos}{x g nm:Str}{i j:Nat}
theorem iE(h:QE X (.Name x p1) (eh i))(hb:attributeBase (.Name x p1) g X.env (eval (.Name x p1) X.env)=eval (.Name x p1) X.env:=by rfl):QD X (.Attribute (.Name x p1) g pos) (eL i g):=⟨have h:=h.o;PE.imp (OR h hb) fun σ H Q aj=>by
 obtain⟨ρ,w,t,r',q,ρ',gd,ee,kk⟩:=aj
 unfold eL at ee
 split at ee
 next nm fs pn ds q1 e1=>
  split at ee
  next d hg=>
   cases ee
   obtain⟨l,vs,z,gD,hH,gS,_,rs⟩:=gd.xQ e1
   obtain⟨C,dx,_,rfl,ic,na,_⟩:=gS
   obtain⟨v,hv,rd⟩:=(IS g rs).1 _ hg
   exact⟨_,gD,l,C,dx,_,v,rfl,hH,ic.cl,na g (D9 hg),by rw[D8];exact hv,kk _ H w [] gd.up Go.refl (rd.any gd.wl).ka⟩
  ·cases ee
 ·cases ee⟩
theorem oT(hn:kB X.K nm g)(h:QE X (.Name x p1) (eh i))(hv:QD X e f)(hs:swapsWith e (some (.Attribute (.Name x p1) g pos')) pos.line X.env=pure false:=by rfl):jm X (.Assign [.Attribute (.Name x p1) g pos'] e pos) (lg nm i g f):=⟨have h:=h.o;have hv:=hv.o;PS.imp (OS h hv hs) fun Dn σ H aj=>by
 obtain⟨ρ,w,o,gd,ee,kk⟩:=aj
 unfold lg at ee
 split at ee
 next d q0 ρ1 h0=>
  split at ee
  next fL fs pn ds e1=>
   split at ee
   next hh=>
    obtain⟨rfl,nd,qH⟩:=hh
    cases ee
    refine⟨ρ,w,0,_,_,_,gd,h0,fun u H1 w1 F1 g1 aD r1=>?_⟩
    have gg:=g1.drop (t':=0)
    obtain⟨l,vs,z,gD,hH,gS,hl,rs,mk⟩:=gg.D5 e1
    have rv:=r1.drop (o:=.f) (t':=0) (Qf 0)
    obtain⟨C,dx,dI,rfl,ic,na,IY⟩:=gS
    have hl:fs.length=ds.length:=hl
    have lv:=rs.length
    have Vs:fs.length=vs.length:=by omega
    have nI:ag X.K H1 (cA 0 w1) .f 0 (k_ fs ds g d) (k_ fs vs g u) []:=by
     unfold k_
     split
     ·exact IU g rv rs
     ·exact ag.snoc (F:=[]) (G:=[]) rv rs nM
    obtain⟨m1,m2⟩:=mk (.i fL (nS fs g) pn) (k_ fs ds g d) (k_ fs vs g u) (.ins C dx ((nS fs g).zip (k_ fs vs g u))) ⟨C,dx,dI,rfl,ic,fun y hy=>by
     unfold nS at hy
     split at hy
     ·exact na y hy
     ·rcases Q0.mp hy with z|z
      ·exact na y z
      ·rw[QC.mp z];exact hn C dI,IY⟩ (Vr (γ:=Unit) hl) nI
    refine⟨_,gD,l,C,dx,fs.zip vs,rfl,hH,ic.cl,hn C dI,by rw[List.length_zip];omega,?_⟩
    rw[IX nd Vs]
    exact kk σ _ _ rfl m1 ((aD.drop gd.wt).trans m2)
   ·cases ee
  ·cases ee
 ·cases ee⟩
end
def gj (l:Addr)(w:Wn):Wn:=fun a=>if a=l then some (.s 0)else(w a).map fun _=>Ow.f
theorem IZ:gj l w l=some (.s 0):=Qe rfl
theorem I0(h:w a=some o)(n:a≠l):gj l w a=some .f:=by unfold gj;rw[Qg n,h];rfl
theorem Aw(h:w a=none)(n:a≠l):gj l w a=none:=by unfold gj;rw[Qg n,h];rfl
theorem D_(h:gj l w a=some o):(a=l/\o=.s 0)\/(a≠l/\o=.f/\∃ o',w a=some o'):=by
 unfold gj at h
 split at h
 ·rename_i e;cases h;exact .inl ⟨e,rfl⟩
 next e=>
  cases ew:w a with
  | none=>rw[ew]at h;cases h
  | some o'=>rw[ew]at h;cases h;exact .inr ⟨e,rfl,o',rfl⟩
def Ax (K:PySem.W.Frag)(n:Nat)(F:D->List D->Option D):Sp:=fun vs H Q _=>vs.length=n/\∃ l us nm fs cq ds w cj br,vs=.ref l::us /\
 (∀ a o,w a=some o->(a=l/\o=.s 0)\/(a≠l/\o=.f))/\WL K w H/\Rep K H w (.s 0) 1 (.mp (.i nm fs (some l)) cq) (.ref l) [l]/\ag K H w .f 0 ds us [] /\
 F (.mp (.i nm fs (some l)) cq) ds=some (.mp (.i nm cj (some l)) br) /\
 ∀ H' w',Go H w H' w'->WL K w' H'->Rep K H' w' (.s 0) 1 (.mp (.i nm cj (some l)) br) (.ref l) [l]->Q .au H'
@[simp] def pW (n:Nat)(d:D)(ds:List D):aS:=some (d,1)::(ds.map (fun d=>some (d,cH d))++List.replicate (n-(ds.length+1)) none)
def ml (n:Nat)(body:aI):D->List D->Option D:=fun d ds=>match body (pW n d ds)with
 | some (.nx ρ)=>match (ρ[0]?:Option (OD))with
  | some (some (.mp k ds,1))=>some (.mp k ds)
  | _=>none
 | _=>none
theorem I_{us:List V}(hw:∀ a o,w a=some o->(a=l/\o=.s 0)\/(a≠l/\o=.f))(wl:WL K w H)(r0:Rep K H w (.s 0) 1 d (.ref l) [l])(r:ag K H w .f 0 ds us []):Good K (pW N.length d ds) (L2.start N (.ref l::us)) H w 0:=by
 refine⟨wl,(fun a i e=>by
  rcases hw a _ e with⟨_,z⟩|⟨_,z⟩
  ·cases z;unfold L2.start;simp
  ·cases z),(fun a i e=>by
  rcases hw a _ e with⟨_,z⟩|⟨_,z⟩<;>cases z),?_,fun i d' q e=>?_⟩
 ·unfold pW L2.start
  simp[r.length]
 ·unfold pW at e
  cases i with
  | zero=>
   cases e
   exact⟨_,_,by unfold L2.start;rfl,r0⟩
  | succ i=>
   rw[ZT]at e
   by_cases hi:i<ds.length
   ·rw[QA (by simpa using hi),QH]at e
    cases h:ds[i]? with
    | none=>rw[h]at e;cases e
    | some d1=>
     rw[h]at e
     cases e
     obtain⟨v,hv,rv⟩:=r.get h
     refine⟨v,[],?_,(rv.any wl:Rep K H w (.s (i+1)) 0 _ v []).ka⟩
     unfold L2.start
     rw[QR,Yq,ZT,QA (by rw[Qm,<- r.length];exact hi),QH,hv]
     rfl
   ·rw[QO (by simpa using hi),Zq]at e
    split at e<;>cases e
theorem Vt(h:Ax K n (ml N.length body) vs H Q E):pD K body { nx:=fun _ H'=>Q .au H',rt:=Q } (L2.start N vs) H:=by
 obtain⟨hn,l,us,nm,fs,cq,ds,w,cj,br,rfl,hw,wl,r0,rs,e,k⟩:=h
 unfold ml at e
 split at e
 next ρ' h1=>
  split at e
  next k0 d0 e0=>
   cases e
   refine⟨_,w,_,I_ hw wl r0 rs,h1,fun aP H' w' _ g' di=>k H' w' di g'.wl ?_⟩
   obtain⟨v,F,_,r⟩:=g'.slot 0 _ _ e0
   cases r with
   | @gz _ a vs _ _ z hH gS ho hl nI=>
    have ha:a=l:=by
     obtain⟨_,_,_,_,_,_,hp⟩:=gS
     exact hp l rfl
    subst ha
    exact .gz hH gS ho hl nI
  ·cases e
 ·cases e
structure jq (K:PySem.W.Frag) (nm m qual:Str) (st:Stmt) (ps:List Str):Prop where
 ex:∃ C f fd,nsIn K mainGlobals nm=some (some (.ref C))/\iJ K C m f/\kY K m qual st f fd/\iL K fd ps []
def jD (P:Program)(w:World)(K:PySem.W.Frag)(mg:Str->Option Value)(base:Heap)(k:Nat)(nm m:Str)(n:Nat)(F:D->List D->Option D):Prop:=
 ∃ C f fd ps,nsIn K mainGlobals nm=some (some (.ref C))/\iJ K C m f/\bW P w K mg base dh k f fd ps (Ax K n F)/\iL K fd ps []
def jE (P:Program)(w:World)(K:PySem.W.Frag)(mg:Str->Option Value)(base:Heap)(k:Nat)(nm m:Str)(n:Nat)(F:List D->OD):Prop:=
 ∃ C f fd ps,nsIn K mainGlobals nm=some (some (.ref C))/\iJ K C m f/\bW P w K mg base dh k f fd ps (lV K n F)/\iL K fd ps []
def pX (P:Program)(w:World)(K:PySem.W.Frag)(mg:Str->Option Value)(base:Heap)(k:Nat)(nm:Str)(n:Nat)(F:D->List D->Option D):Prop:=
 ∃ C f fd ps,nsIn K mainGlobals nm=some (some (.ref C))/\mg nm=some (.ref C)/\L2.Mk K C f/\hV K C/\bW P w K mg base dh k f fd ps (Ax K n F)/\iL K fd ps []
theorem J_{wd:World}{f:Addr}{fd:FuncData}{k:Nat}(F:kY K x qual st f fd)(S:af N ps (aJ st))
  (h:∀ (aN:Value) (A:Around) (outer:List Env) (s:Shared) (H:Hp) (E:XK),aw k (A.deeper (envOfC qual (aJ st) s.heap.objs.size f aN))->oM (fw dh P wd K mg base N qual (aJ st) f aN A outer s H E).cU (eP st) body) :
  bW P wd K mg base dh (k+1) f fd ps (Ax K ps.length (ml N.length body)):=
 F.ok S (fun vs H Q E h=>h.1) fun aN A outer s H vs Q E hr fz=>⟨_,h aN A outer s H E hr,Vt fz⟩
section
variable {P:Program}{w:World}{K:PySem.W.Frag}{mg:Str->Option Value}{base:Heap}{k:Nat}{x nm m qual:Str}{st:Stmt}{N ps:List Str}{body:aI}
theorem jD.mk(a:jq K nm m qual st ps)(S:af N ps (aJ st))
  (h:∀ (f:Addr) (aN:Value) (A:Around) (outer:List Env) (s:Shared) (H:Hp) (E:XK),aw k (A.deeper (envOfC qual (aJ st) s.heap.objs.size f aN))->oM (fw dh P w K mg base N qual (aJ st) f aN A outer s H E).cU (eP st) body) :
  jD P w K mg base (k+1) nm m ps.length (ml N.length body):=by
 obtain⟨C,f,fd,hC,hm,F,b⟩:=a.ex
 exact⟨C,f,fd,ps,hC,hm,J_ F S (h f),b⟩
theorem jE.mk(a:jq K nm m qual st ps)(S:af N ps (aJ st))
  (h:∀ (f:Addr) (aN:Value) (A:Around) (outer:List Env) (s:Shared) (H:Hp) (E:XK),aw k (A.deeper (envOfC qual (aJ st) s.heap.objs.size f aN))->oM (fw dh P w K mg base N qual (aJ st) f aN A outer s H E).cU (eP st) body) :
  jE P w K mg base (k+1) nm m ps.length (bH N.length body):=by
 obtain⟨C,f,fd,hC,hm,F,b⟩:=a.ex
 exact⟨C,f,fd,ps,hC,hm,Cv F S (h f),b⟩
theorem pX.mk(a:jq K nm "__init__" qual st ps)(hc:∀ C,nsIn K mainGlobals nm=some (some (.ref C))->mg nm=some (.ref C)/\makesIn K C=true/\keepIn K (.ref C)=true/\hV K C)(S:af N ps (aJ st))
  (h:∀ (f:Addr) (aN:Value) (A:Around) (outer:List Env) (s:Shared) (H:Hp) (E:XK),aw k (A.deeper (envOfC qual (aJ st) s.heap.objs.size f aN))->oM (fw dh P w K mg base N qual (aJ st) f aN A outer s H E).cU (eP st) body) :
  pX P w K mg base (k+1) nm ps.length (ml N.length body):=by
 obtain⟨C,f,fd,hC,hm,F,b⟩:=a.ex
 obtain⟨h1,h2,h3,h4⟩:=hc C hC
 exact⟨C,f,fd,ps,hC,h1,⟨h2,hm.at_,hm.fn,h3⟩,h4,J_ F S (h f),b⟩
end
def tO (F:D->List D->Option D)(nm:Str)(fs:List Str)(cq ds:List D):Option (List Str×List D):=
 open Classical in if h:∃ r:List Str×List D,∀ p,F (.mp (.i nm fs (some p)) cq) ds=some (.mp (.i nm r.1 (some p)) r.2)then some h.choose else none
theorem Ea{nm:Str}{fs:List Str}{r:List Str×List D}(h:tO F nm fs cq ds=some r)(p:Addr):F (.mp (.i nm fs (some p)) cq) ds=some (.mp (.i nm r.1 (some p)) r.2):=by
 unfold tO at h
 split at h
 next e=>
  cases h
  exact e.choose_spec p
 ·cases h
theorem Ka{nm:Str}{fs:List Str}(h:∀ p,F (.mp (.i nm fs (some p)) cq) ds=some (.mp (.i nm cj (some p)) br)):tO F nm fs cq ds=some (cj,br):=by
 have e:∃ r:List Str×List D,∀ p,F (.mp (.i nm fs (some p)) cq) ds=some (.mp (.i nm r.1 (some p)) r.2):=⟨(cj,br),h⟩
 have hm:tO F nm fs cq ds=some e.choose:=by
  unfold tO
  rw[YU e]
 have h2:=e.choose_spec 0
 rw[h 0]at h2
 rw[hm]
 generalize e.choose=r at h2 ⊢
 obtain⟨r1,r2⟩:=r
 injection h2 with h2
 injection h2 with h3 h4
 injection h3 with h5 h6
 subst h4
 subst h6
 rfl
theorem vb{nm:Str}{fs:List Str}{p0:Option Addr}(g:Good K ρ σ H w t)(e:ρ[i]? = some (some (.mp (.i nm fs p0) cq,1))) :
  ∃ l C dx vs,σ[i]? = some (some (.ref l))/\H l=some (.ins C dx (fs.zip vs))/\nsIn K mainGlobals nm=some (some (.ref C))/\hV K C/\WL K (gj l w) H/\Rep K H (gj l w) (.s 0) 1 (.mp (.i nm fs (some l)) cq) (.ref l) [l] /\
  (∀ d v,Rep K H w .f 0 d v []->Rep K H (gj l w) .f 0 d v [])/\(∀ ds us,ag K H w .f 0 ds us []->ag K H (gj l w) .f 0 ds us []) /\
  ∀ cj br H' w',Go H (gj l w) H' w'->WL K w' H'->Rep K H' w' (.s 0) 1 (.mp (.i nm cj (some l)) br) (.ref l) [l]->
   Good K (ρ.set i (some (.mp (.i nm cj p0) br,1))) σ H' w t/\Go H w H' w:=by
 obtain⟨v,F,h1,h2⟩:=g.slot i _ _ e
 cases h2 with
 | @gz _ l vs _ _ z hl gS hw hlen rs=>
  obtain⟨C,dx,dI,rfl,ic,na,hp⟩:=gS
  have xR:cY H w H (gj l w):=fun a x h n=>⟨sm h,Aw n (fun z=>by rw[z,hw]at n;cases n)⟩
  refine⟨l,C,dx,vs,h1,hl,dI,ic,⟨fun a o ee=>?_,g.wl.tb⟩,.gz hl ⟨C,dx,dI,rfl,ic,na,fun d z=>Qt z⟩ IZ hlen (ag.go g.wl xR rs nM),fun d v r=>Rep.go g.wl xR r nM,fun ds us r=>ag.go g.wl xR r nM,fun cj br H' w' go jY r'=>?_⟩
  ·rcases D_ ee with⟨rfl,_⟩|⟨_,_,o',ew⟩
   ·exact g.wl _ _ hw
   ·exact g.wl _ _ ew
  ·have kf:∀ a o,w a=some o->a≠l->H' a=H a/\w' a=some .f:=fun a o ea n=>go.keep a .f (I0 ea n) (fun _ z=>nomatch z)
   have nl:∀ a o,w a=some o->o ≠ .s i->a≠l:=fun a o ea n z=>by subst z;rw[hw]at ea;exact n (Qt ea).symm
   have st:cY H w H' w:=fun a x ea n=>⟨(go.ba a x ea (Aw n (fun z=>by rw[z,hw]at n;cases n))).1,n⟩
   have jh:cY H' w' H' w:=fun a x ea n=>⟨sm ea,by
    cases ew:w a with
    | none=>rfl
    | some o=>
     by_cases rm:a=l
     ·subst rm
      have:=r'.aA a (QC.mpr rfl)
      rw[n]at this;cases this
     ·have:=(kf a o ew rm).2
      rw[n]at this;cases this⟩
   have Iz:=r'
   cases r' with
   | @gz _ _ iw _ _ z' gZ tP nT nU nI=>
    refine⟨⟨⟨fun a o ea=>?_,jY.tb⟩,g.ws,g.wt,by rw[Qu];exact g.len,fun j d' q' e'=>?_⟩,⟨st,fun a o ea n=>⟨(kf a o ea (nl a o ea (n i))).1,ea⟩⟩⟩
    ·by_cases rm:a=l
     ·subst rm;exact jY _ _ nT
     ·obtain⟨us,q⟩:=g.wl a o ea
      exact⟨us,(kf a o ea rm).1.trans q⟩
    ·by_cases hj:i=j
     ·subst hj
      rw[Qw (Qp.mp e).1]at e'
      cases e'
      obtain⟨C',Eb,tR,rfl,Ec,Ed,_⟩:=tP
      exact⟨_,_,h1,.gz gZ ⟨C',Eb,tR,rfl,Ec,Ed,hp⟩ hw nU (ag.go jY jh nI nM)⟩
     ·rw[Qr hj]at e'
      obtain⟨v',F',mX,eR⟩:=g.slot j d' q' e'
      exact⟨v',F',mX,Rep.go g.wl st eR fun a m=>⟨(kf a _ (eR.aA a m) (nl a _ (eR.aA a m) (fun z=>hj (by cases z;rfl)))).1,eR.aA a m⟩⟩
theorem Ay:∀ a o,gj l w a=some o->(a=l/\o=.s 0)\/(a≠l/\o=.f):=fun a o e=>by
 rcases D_ e with z|⟨z1,z2,_⟩
 ·exact .inl z
 ·exact .inr ⟨z1,z2⟩
@[simp] def xS (nm m:Str):Option (OD)->Bool
 | some (some (.mp (.i fL fs _) _,1))=>decide (fL=nm) && !fs.contains m
 | _=>false
def mY (nm m:Str)(F:D->List D->Option D)(n i:Nat)(g:bN):aF:=fun ρ=>if xS nm m ρ[i]? = true then match g ρ with
 | some (ds,ρ1)=>match ρ1[i]? with
  | some (some (.mp (.i fL fs p0) cq,1))=>if fL=nm/\ds.length+1=n then match tO F nm fs cq ds with
   | some (cj,br)=>some (.au,9,ρ1.set i (some (.mp (.i nm cj p0) br,1)))
   | none=>none
   else none
  | _=>none
 | none=>none
 else none
def vc (nm:Str)(F:D->List D->Option D)(n:Nat)(g:bN):aF:=fun ρ=>match g ρ with
 | some (ds,ρ1)=>if ds.length+1=n then match tO F nm [] [] ds with
  | some (cj,br)=>some (.mp (.i nm cj none) br,1,ρ1)
  | none=>none
  else none
 | none=>none
def gH (nm m:Str)(F:List D->OD)(i:Nat):aF:=fun ρ=>match ρ[i]? with
 | some (some (.mp (.i fL fs p) ds,1))=>if fL=nm/\fs.contains m=false then match F [.mp (.i nm fs p) ds]with
  | some (r,q)=>if va q r=true then some (r,q,ρ)else none
  | none=>none
  else none
 | _=>none
theorem Az{fs:List Str}(h:fs.contains m=false):(fs.zip vs).lookup m=none:=by
 rw[D8]
 cases e:vL fs vs m with
 | none=>rfl
 | some d=>
  have:=D9 e
  rw[List.contains_iff_mem.mpr this]at h
  cases h
section
variable {X:Cx}{a b c e:Expr}{es:List Expr}{fa fb fc f:aF}{g:bN}{p p1 p2 pos pos' ar apos:Pos}{x y nm m:Str}{i j k n:Nat}
theorem Ee{o:Option (OD)}(h:xS nm m o=true):∃ fs p ds,o=some (some (.mp (.i nm fs p) ds,1))/\fs.contains m=false:=by
 unfold xS at h
 split at h
 next fL fs p ds=>
  obtain⟨h1,h2⟩:=QB.mp h
  cases Ze h1
  exact⟨fs,p,ds,rfl,by simpa using h2⟩
 ·cases h
theorem Kb{pl:Sem Bool}(Cm:jD X.prog X.w X.K X.mg X.base k nm m n F)(hr:aw j X.A)(hk:k<=j)(h:QE X (.Name x p1) (eh i))(ha:eV X (e::es) g)(ju:starEach (e::es) X.env=(false,eval e X.env)::starEach es X.env:=by rfl)(bG:(backTo pos (starEach es X.env)).any (·.1)=false:=by rfl)(ht:eval (.Call (.Attribute (.Name x p1) m apos) (e::es) [] pos) X.env=(do
   let ov <- eval (.Name x p1) X.env
   standAt apos.atName
   let (f,first) <- holding [ov] (getMethod ov m pl)
   callWith pos f first (backTo pos (starEach (e::es) X.env)) (backToKw pos (keywordEach [] X.env))):=by rfl):QD X (.Call (.Attribute (.Name x p1) m apos) (e::es) [] pos) (mY nm m F n i g):=⟨have h:=h.o;have ha:=ha.o;by
 obtain⟨C,f,fd,ps,hC,hm,G,hb⟩:=Cm
 intro pins s σ H Q I aj
 have hh:=aj
 obtain⟨ρ,w,t,r',q,ρ',gd,ee,kk⟩:=aj
 unfold mY at ee
 split at ee
 next xT=>
  split at ee
  next ds ρ1 h1=>
   split at ee
   next fL fs p0 cq e1=>
    split at ee
    next hn=>
     obtain⟨rfl,hn⟩:=hn
     split at ee
     next cj br hM=>
      cases ee
      obtain⟨Kc,rn,Kd,e0,hc⟩:=Ee xT
      obtain⟨l0,C0,xU,we,s0,qV,iV,vd,_⟩:=vb gd e0
      rw[hC]at iV
      cases iV
      refine O3 (E:=E0) (dvs:=[]) (pl:=pl) h vd.cl hm G (hr.mono hk) hb .nil uH ha ju bG ht pins s σ H Q I ?_
      refine⟨_,s0,l0,xU,_,rfl,qV,Az hc,ρ,w,t,ds,ρ1,gd,h1,fun vs H1 w1 g1 aD r1=>?_⟩
      obtain⟨l,C1,dx,Vu,s1,Vv,Ef,Vw,xV,rl,rep,mn,nC⟩:=vb g1 e1
      rw[s0]at s1
      cases s1
      rw[Za]
      refine⟨by rw[QL,<- r1.length,hn],l0,vs,fL,fs,cq,ds,gj l0 w1,cj,br,rfl,Ay,xV,rl,mn _ _ r1,Ea hM l0,fun H2 w2 bb ke r2=>?_⟩
      obtain⟨g2,dm⟩:=nC cj br H2 w2 bb ke r2
      exact kk .au H2 w1 [] g2.up (aD.trans dm) .au
     ·cases ee
    ·cases ee
   ·cases ee
  ·cases ee
 ·cases ee⟩
theorem Ke(Cm:jD X.prog X.w X.K X.mg X.base k nm m 1 F)(hr:aw j X.A)(hk:k<=j)(h:QE X (.Name x p1) (eh i))(ht:eval (.Call (.Attribute (.Name x p1) m apos) [] [] pos) X.env=(do
   let ov <- eval (.Name x p1) X.env
   standAt apos.atName
   let (f,first) <- holding [ov] (getMethod ov m pl)
   callWith pos f first (backTo pos (starEach [] X.env)) (backToKw pos (keywordEach [] X.env))):=by rfl):QD X (.Call (.Attribute (.Name x p1) m apos) [] [] pos) (mY nm m F 1 i ah):=⟨have h:=h.o;by
 obtain⟨C,f,fd,ps,hC,hm,G,hb⟩:=Cm
 intro pins s σ H Q I aj
 have hh:=aj
 obtain⟨ρ,w,t,r',q,ρ',gd,ee,kk⟩:=aj
 unfold mY at ee
 split at ee
 next xT=>
  split at ee
  next ds ρ1 h1=>
   split at ee
   next fL fs p0 cq e1=>
    split at ee
    next hn=>
     obtain⟨rfl,hn⟩:=hn
     split at ee
     next cj br hM=>
      cases ee
      cases h1
      obtain⟨Kc,rn,Kd,e0,hc⟩:=Ee xT
      obtain⟨l,C0,xU,we,s0,qV,iV,vd,xV,rl,rep,mn,nC⟩:=vb gd e1
      rw[e1]at e0
      cases e0
      rw[hC]at iV
      cases iV
      refine F0 (E:=E0) (dvs:=[]) (pl:=pl) h vd.cl hm G (hr.mono hk) hb .nil uH ht pins s σ H Q I ?_
      refine⟨_,s0,l,xU,_,rfl,qV,Az hc,rfl,l,[],fL,fs,cq,[],gj l w,cj,br,rfl,Ay,xV,rl,.nil,Ea hM l,fun H2 w2 bb ke r2=>?_⟩
      obtain⟨g2,dm⟩:=nC cj br H2 w2 bb ke r2
      exact kk .au H2 w [] g2.up dm .au
     ·cases ee
    ·cases ee
   ·cases ee
  ·cases ee
 ·cases ee⟩
end
section
variable {K:PySem.W.Frag}{σ:St}{ρ:aS}{t:Nat}
theorem Vx{H1:Hp}{w1:Wn}{x dx:Addr}{nm:Str}(g1:Good K ρ σ H1 w1 t)(dI:nsIn K mainGlobals nm=some (some (.ref C)))(ic:hV K C)(hx:H1 x=none)(AA:H1 dx=none)(ne:dx≠x) :
  WL K (gj x w1) (upd (upd H1 dx (.own x)) x (.ins C dx []))/\Rep K (upd (upd H1 dx (.own x)) x (.ins C dx [])) (gj x w1) (.s 0) 1 (.mp (.i nm [] (some x)) []) (.ref x) [x] /\
  (∀ ds us,ag K H1 w1 .f 0 ds us []->ag K (upd (upd H1 dx (.own x)) x (.ins C dx [])) (gj x w1) .f 0 ds us []) /\
  ∀ cj br H2 w2,Go (upd (upd H1 dx (.own x)) x (.ins C dx [])) (gj x w1) H2 w2->WL K w2 H2->Rep K H2 w2 (.s 0) 1 (.mp (.i nm cj (some x)) br) (.ref x) [x]->
   Good K ρ σ H2 (gA x (.t t) w1) (t+1)/\Go H1 w1 H2 (gA x (.t t) w1)/\Rep K H2 (gA x (.t t) w1) (.t t) 1 (.mp (.i nm cj none) br) (.ref x) [x]:=by
 have nx:∀ a y,H1 a=some y->a≠x/\a≠dx:=fun a y e=>⟨dY e hx,dY e AA⟩
 have up:∀ a y,H1 a=some y->upd (upd H1 dx (.own x)) x (.ins C dx []) a=some y:=fun a y e=>by rw[aO (nx a y e).1,aO (nx a y e).2];exact e
 have nw:∀ a o,w1 a=some o->a≠x:=fun a o e=>by obtain⟨vs,q⟩:=g1.wl a o e;exact(nx a _ q).1
 have xJ:WL K (gj x w1) (upd (upd H1 dx (.own x)) x (.ins C dx [])):=⟨fun a o e=>by
  rcases D_ e with⟨rfl,_⟩|⟨_,_,o',ew⟩
  ·exact⟨.i C dx [],cT⟩
  ·obtain⟨vs,q⟩:=g1.wl a o' ew
   exact⟨vs,up a _ q⟩,(g1.wl.tb.upd (p:=dx) (x:=.own x) rfl (.inl AA)).upd rfl (.inl (by rw[aO (ZR ne)];exact hx))⟩
 have xR:cY H1 w1 (upd (upd H1 dx (.own x)) x (.ins C dx [])) (gj x w1):=fun a y e n=>⟨sm (up a y e),Aw n (nx a y e).1⟩
 refine⟨xJ,.gz cT ⟨C,dx,dI,rfl,ic,(fun f z=>nomatch z),fun d z=>Qt z⟩ IZ rfl .nil,fun ds us r=>ag.go g1.wl xR r nM,fun cj br H2 w2 go ke r2=>?_⟩
 have kf:∀ a o,w1 a=some o->H2 a=H1 a/\w2 a=some .f:=fun a o e=>by
  obtain⟨h1,h2⟩:=go.keep a .f (I0 e (nw a o e)) (fun _ z=>nomatch z)
  obtain⟨vs,q⟩:=g1.wl a o e
  exact⟨by rw[h1,up a _ q,q],h2⟩
 have st:cY H1 w1 H2 (gA x (.t t) w1):=fun a y e n=>⟨(go.ba a y (up a y e) (Aw n (nx a y e).1)).1,by rw[eQ (nx a y e).1];exact n⟩
 have jh:cY H2 w2 H2 (gA x (.t t) w1):=fun a y e n=>⟨sm e,by
  by_cases nV:a=x
  ·subst nV
   have:=r2.aA a (QC.mpr rfl)
   rw[n]at this;cases this
  ·rw[eQ nV]
   cases ew:w1 a with
   | none=>rfl
   | some o=>
    have:=(kf a o ew).2
    rw[n]at this;cases this⟩
 cases r2 with
 | @gz _ _ iw _ _ z' gZ tP nT nU nI=>
  refine⟨⟨⟨fun a o e=>?_,ke.tb⟩,fun a i e=>?_,fun a i e=>?_,g1.len,fun i d q e=>?_⟩,⟨st,fun a o e _=>⟨(kf a o e).1,(eQ (nw a o e)).trans e⟩⟩,?_⟩
  ·by_cases nV:a=x
   ·subst nV;exact ke _ _ nT
   ·rw[eQ nV]at e
    obtain⟨us,q⟩:=g1.wl a o e
    exact⟨us,(kf a o e).1.trans q⟩
  ·by_cases nV:a=x
   ·subst nV;rw[lU]at e;cases e
   ·rw[eQ nV]at e;exact g1.ws a i e
  ·by_cases nV:a=x
   ·subst nV;rw[lU]at e;cases e;exact Q2 _
   ·rw[eQ nV]at e;exact Q7 (g1.wt a i e)
  ·obtain⟨v',F',mX,eR⟩:=g1.slot i d q e
   exact⟨v',F',mX,Rep.go g1.wl st eR fun a m=>⟨(kf a _ (eR.aA a m)).1,(eQ (nw a _ (eR.aA a m))).trans (eR.aA a m)⟩⟩
  ·obtain⟨C',Eb,tR,rfl,Ec,Ed,_⟩:=tP
   exact .gz gZ ⟨C',Eb,tR,rfl,Ec,Ed,fun d z=>nomatch z⟩ lU nU (ag.go ke jh nI nM)
end
section
variable {X:Cx}{a b c e:Expr}{es:List Expr}{fa fb fc f:aF}{g:bN}{p p1 p2 pos pos' ar apos:Pos}{x y nm m:Str}{i j k n:Nat}
theorem Kf(Cm:pX X.prog X.w X.K X.mg X.base k nm n F)(hr:aw j X.A)(hk:k+1<=j)(ha:eV X (e::es) g)(hg:Gl X nm:=by rfl)(fT:(nm==("__debug__":Str))=false:=by decide)(he:starEach (e::es) X.env=(false,eval e X.env)::starEach es X.env:=by rfl)(bG:(backTo pos (starEach es X.env)).any (·.1)=false:=by rfl):QD X (.Call (.Name nm p) (e::es) [] pos) (vc nm F n g):=⟨have ha:=ha.o;by
 obtain⟨C,f,fd,ps,hC,hmg,M,ic,G,hb⟩:=Cm
 refine PE.imp (O5 M G (hr.mono hk) hg hmg hb .nil uH ha fT he bG) fun σ H Q aj=>?_
 obtain⟨ρ,w,t,r',q,ρ',gd,ee,kk⟩:=aj
 unfold vc at ee
 split at ee
 next ds ρ1 h1=>
  split at ee
  next hn=>
   split at ee
   next cj br hM=>
    cases ee
    refine⟨ρ,w,t,ds,ρ',gd,h1,fun vs H1 w1 g1 aD r1=>fun x dx hx AA ne=>?_⟩
    obtain⟨xJ,r0,mn,nC⟩:=Vx g1 hC ic hx AA ne
    rw[Za]
    refine⟨by rw[QL,<- r1.length,hn],x,vs,nm,[],[],ds,gj x w1,cj,br,rfl,Ay,xJ,r0,mn _ _ r1,Ea hM x,fun H2 w2 bb ke r2=>⟨rfl,?_⟩⟩
    obtain⟨b1,b2,b3⟩:=nC cj br H2 w2 bb ke r2
    exact kk _ _ _ _ b1 (aD.trans b2) b3
   ·cases ee
  ·cases ee
 ·cases ee⟩
theorem oU{F:List D->OD}(Cm:jE X.prog X.w X.K X.mg X.base k nm m 1 F)(hr:aw j X.A)(hk:k<=j)(h:QE X (.Name x p1) (eh i))(ht:eval (.Call (.Attribute (.Name x p1) m apos) [] [] pos) X.env=(do
   let ov <- eval (.Name x p1) X.env
   standAt apos.atName
   let (f,first) <- holding [ov] (getMethod ov m pl)
   callWith pos f first (backTo pos (starEach [] X.env)) (backToKw pos (keywordEach [] X.env))):=by rfl):QD X (.Call (.Attribute (.Name x p1) m apos) [] [] pos) (gH nm m F i):=⟨have h:=h.o;by
 obtain⟨C,f,fd,ps,hC,hm,G,hb⟩:=Cm
 intro pins s σ H Q I aj
 obtain⟨ρ,w,t,r',q,ρ',gd,ee,kk⟩:=aj
 unfold gH at ee
 split at ee
 next fL fs pn ds e1=>
  split at ee
  next hn=>
   obtain⟨rfl,hc⟩:=hn
   split at ee
   next r q1 hF=>
    split at ee
    next az=>
     cases ee
     obtain⟨v,Fs,t1,t2⟩:=gd.slot i _ _ e1
     cases t2 with
     | @gz _ l vs _ _ z hH gS hw hlen rs=>
      obtain⟨C0,dx,dI,rfl,ic,na,IY⟩:=id gS
      rw[hC]at dI
      cases dI
      refine F0 (E:=E0) (dvs:=[]) (pl:=pl) h ic.cl hm G (hr.mono hk) hb .nil uH ht pins s σ H Q I ?_
      have fr:∀ a,w a=none->(fun a=>if a=l then none else(w a).map fun _=>Ow.f) a=none:=fun a n=>by
       show(if a=l then none else(w a).map _)=_
       split
       ·rfl
       ·rw[n];rfl
      refine⟨_,t1,l,dx,_,rfl,hH,Az hc,rfl,[.mp (.i fL fs pn) ds],fun a=>if a=l then none else(w a).map fun _=>Ow.f,r',q,fun a o e=>?_,⟨fun a o e=>?_,gd.wl.tb⟩,?_,hF,fun v H3 w3 Fo dm xH rr=>?_⟩
      ·have e:(if a=l then none else(w a).map fun _=>Ow.f)=some o:=e
       split at e
       ·cases e
       ·cases ew:w a with
        | none=>rw[ew]at e;cases e
        | some o'=>rw[ew]at e;cases e;rfl
      ·have e:(if a=l then none else(w a).map fun _=>Ow.f)=some o:=e
       split at e
       ·cases e
       ·cases ew:w a with
        | none=>rw[ew]at e;cases e
        | some o'=>exact gd.wl a o' ew
      ·exact .Av (.oF hH gS (Qe rfl) hlen (ag.freeze fr rs nM)) .nil
      ·obtain⟨b1,b2,b3⟩:=Vo gd hH hw (MK.Vq gS) (MK.IV gS) dm xH rr az
       exact kk _ _ _ _ b1 b2 b3
    ·cases ee
   ·cases ee
  ·cases ee
 ·cases ee⟩
end
section
variable {X:Cx}{e:Expr}{f:aF}{p1 p2 pos pos':Pos}{x y:Str}{i j:Nat}
theorem xW{T:String}(h:mroIn K C (.type T)=some false)(m:kitMeta T=true):kitOne K (.ref C) (.type T)=some false:=by
 have s:subIn K (.ref C) (.type T)=some false:=h
 unfold kitOne
 rw[Qg (by intro z;exact absurd z (by simp))]
 show(if kitMeta T=true then subIn K (.ref C) (.type T)else none)=_
 rw[Qe m,s]
theorem hV.Vy(h0:mroIn K C (.type "bool")=some false)(h1:mroIn K C (.type "int")=some false)(h2:mroIn K C (.type "tuple")=some false)(h3:mroIn K C (.type "list")=some false)(h4:mroIn K C (.type "str")=some false) :
  ∀ t∈(["bool","int","tuple","list","str"]:List String),kitOne K (.ref C) (.type t)=some false:=fun t ht=>by
 simp only[Qi,QS,or_false]at ht
 rcases ht with rfl|rfl|rfl|rfl|rfl
 ·exact xW h0 (by kernel_rfl)
 ·exact xW h1 (by kernel_rfl)
 ·exact xW h2 (by kernel_rfl)
 ·exact xW h3 (by kernel_rfl)
 ·exact xW h4 (by kernel_rfl)
theorem kB.of{nm f:Str}(n:nsIn K mainGlobals nm=some (some (.ref C)))(h:findIn K (.ref C) f=some none):kB K nm f:=fun C' e=>by
 rw[n]at e
 cases e
 exact h
end
def lh (P:Program)(w:World)(K:PySem.W.Frag)(mg:Str->Option Value)(base:Heap)(k:Nat)(nm m:Str)(n:Nat)(F:List D->Option Str):Prop:=
 ∃ C f fd ps,nsIn K mainGlobals nm=some (some (.ref C))/\iJ K C m f/\bW P w K mg base (zW P w) k f fd ps (z_ K n F)/\iL K fd ps []
theorem lh.mk{w:World}{k:Nat}{nm:Str}{xb:fD}(a:jq K nm m qual st ps)(S:af N ps (aJ st))
  (h:∀ (f:Addr) (aN:Value) (A:Around) (outer:List Env) (s:Shared) (H:Hp) (E:XK),aw k (A.deeper (envOfC qual (aJ st) s.heap.objs.size f aN))->fZ (jz P w K mg base N qual (aJ st) f aN A outer s H E) (eP st) (tX K xb E)) :
  lh P w K mg base (k+1) nm m ps.length (fnX N.length xb):=by
 obtain⟨C,f,fd,hC,hm,F,b⟩:=a.ex
 refine⟨C,f,fd,ps,hC,hm,?_,b⟩
 obtain⟨oc,od,kV,doc,pm,an,aN,ct,nr,rfl,lk,fR⟩:=F.ex
 refine y8 lk fR S (fun vs H Q E h=>h.1) fun A outer s H vs Q E hr fz=>⟨_,h f aN A outer s H E hr,?_⟩
 obtain⟨hn,ds,w,nm,hw,wl,rs,e,k⟩:=fz
 exact⟨_,w,nm,wJ hw wl rs,e,k⟩
def lj (nm m:Str)(Fx:List D->Option Str)(n i:Nat)(g:bN):pQ:=fun ρ=>if xS nm m ρ[i]? = true then match g ρ with
 | some (ds,ρ1)=>match ρ1[i]? with
  | some (some (.mp (.i fL fs p0) cq,1))=>if fL=nm/\ds.length+1=n then(Fx (.mp (.i nm fs p0) cq::ds)).map fun x=>(x,ρ1)else none
  | _=>none
 | none=>none
 else none
section
variable {Y:Cx}{c e e':Expr}{es kT:List Expr}{g g':bN}{gt:cf}{pos p1 apos ar:Pos}{x nm m:Str}{i j k n:Nat}
theorem Kg(CX:lh Y.prog Y.w Y.K Y.mg Y.base k nm m n Fx)(hr:aw j Y.A)(hk:k<=j)(hv:PE Y.cU (.Name x p1) (eh i))(ha:Cp Y.cU (e::es) g)
  (he:starEach (e::es) Y.env=(false,eval e Y.env)::starEach es Y.env) (bG:(backTo ar (starEach es Y.env)).any (·.1)=false)
  (ht:eval (.Call (.Attribute (.Name x p1) m apos) (e::es) [] ar) Y.env=(do
    let ov <- eval (.Name x p1) Y.env
    standAt apos.atName
    let (f,first) <- holding [ov] (getMethod ov m pl)
    callWith ar f first (backTo ar (starEach (e::es) Y.env)) (backToKw ar (keywordEach [] Y.env)))) :
  ∀ (pins:List (Addr×Obj)) (s:Shared) (σ:St) (H:Hp) (ρ:aS) (w:Wn) (nx:Str) (ρ1:aS),Inv Y.cU pins σ H s->Good Y.K ρ σ H w 0->lj nm m Fx n i g ρ=some (nx,ρ1)->wpAny (model Y.prog Y.w) Y.A (eval (.Call (.Attribute (.Name x p1) m apos) (e::es) [] ar) Y.env) (fun _ _=>False) (CE Y pins σ H w nx ρ1) s:=by
 intro pins s σ H ρ w nx ρ1 I gd ee
 obtain⟨C,f,fd,ps,hC,hm,G,hb⟩:=CX
 unfold lj at ee
 split at ee
 next xT=>
  split at ee
  next ds ρ2 h1=>
   split at ee
   next fL fs p0 cq e1=>
    split at ee
    next hn=>
     obtain⟨rfl,hn⟩:=hn
     obtain⟨nm2,hx,e0⟩:=Yz.mp ee
     cases e0
     obtain⟨Kc,rn,Kd,e0,hc⟩:=Ee xT
     obtain⟨l0,C0,xU,we,s0,qV,iV,vd,_⟩:=vb gd e0
     rw[hC]at iV
     cases iV
     refine Z0 (pl:=pl) (QV (hv pins s σ H (fun v H1=>v=.ref l0/\H1=H) I ⟨_,s0,rfl,rfl⟩) (fun u s1 hh=>?_) (fun _ _ z=>False.elim z)) ht
     obtain⟨v,H1,I1,rv,rfl,rfl⟩:=hh
     obtain rfl:u=Value.ref l0:=rv
     refine y7 (X:=Y.cU) I1 qV vd.cl hm (Az hc) ?_
     refine Jj (first:=[.ref l0]) (h₀:=Y.base) I.ok.mod.rX hm.kp (QV (ha ar pins s1 σ H1 (fun vs H2=>∃ w1,Good Y.K ρ1 σ H2 w1 0/\Go H1 w H2 w1/\ag Y.K H2 w1 .f 0 ds vs []) I1 ⟨ρ,w,0,ds,ρ1,gd,h1,fun vs H2 w1 g1 aD r1=>⟨w1,g1,aD,r1⟩⟩) (fun us s2 tj=>?_) (fun _ _ z=>False.elim z)) he bG
     obtain⟨vs,H2,I2,pJ,w1,g1,aD,r1⟩:=tj
     refine⟨I2.dC,?_⟩
     obtain⟨v3,Fs,t1,t2⟩:=g1.slot i _ _ e1
     cases t2 with
     | @gz _ l vs3 _ _ z hH gS hw hlen rs=>
      rw[s0]at t1
      cases t1
      have fr:∀ a,w1 a=none->(fun a=>if a=l0 then none else(w1 a).map fun _=>Ow.f) a=none:=fun a n=>by
       show(if a=l0 then none else(w1 a).map _)=_
       split
       ·rfl
       ·rw[n];rfl
      have fz:z_ Y.K n Fx (.ref l0::vs) H2 (fun _ _=>False) (fun c _ H'=>∃ C,c=.ref C/\nsIn Y.K mainGlobals nx=some (some (.ref C))/\(∀ b o,H2 b=some o->Sm o (H' b))/\TB Y.K H'):=by
       refine⟨by rw[QL,<- r1.length];exact hn,.mp (.i fL fs p0) cq::ds,fun a=>if a=l0 then none else(w1 a).map fun _=>Ow.f,nx,fun a o e=>?_,⟨fun a o e=>?_,g1.wl.tb⟩,?_,hx,fun C H3 w3 dI xH dm=>⟨C,rfl,dI,fun b o e=>?_,xH.tb⟩⟩
       ·have e:(if a=l0 then none else(w1 a).map fun _=>Ow.f)=some o:=e
        split at e
        ·cases e
        ·cases ew:w1 a with
         | none=>rw[ew]at e;cases e
         | some o'=>rw[ew]at e;cases e;rfl
       ·have e:(if a=l0 then none else(w1 a).map fun _=>Ow.f)=some o:=e
        split at e
        ·cases e
        ·cases ew:w1 a with
         | none=>rw[ew]at e;cases e
         | some o'=>exact g1.wl a o' ew
       ·exact .Av (.oF hH gS (Qe rfl) hlen (ag.freeze fr rs nM)) (ag.freeze fr r1 nM)
       ·by_cases hb:b=l0
        ·exact(dm.ba b o e (Qe hb)).1
        ·cases ew:w1 b with
         | none=>exact(dm.ba b o e (by show(if b=l0 then none else(w1 b).map _)=_;rw[Qg hb,ew];rfl)).1
         | some o'=>exact sm (((dm.keep b .f (by show(if b=l0 then none else(w1 b).map _)=_;rw[Qg hb,ew];rfl) (fun i z=>nomatch z)).1).trans e)
      have Kh:a_ (.ref l0::vs) (.ref l0::us):=.cons rfl pJ
      have hl:(Value.ref l0::us).length=ps.length:=by rw[<- Kh.length];exact G.len _ _ _ _ fz
      have AB:=hb s2 (.ref l0::us) I2.dC (by rw[Za];exact hl)
      rw[Za]at AB
      refine JV (Z8 (G.run Y.A Y.stack s2 H2 ⟨.ref l0::us,[]⟩ (.ref l0::us) (.ref l0::vs) _ _ (hr.mono hk) I2.sx AB Kh fz) fun r s' hq=>?_)
      cases r with
      | ok fl=>
       cases fl with
       | ret u=>obtain⟨_,_,_,z⟩:=I2.after hq;exact z.2.elim
       | next=>exact False.elim hq
       | brk=>exact False.elim hq
       | cont=>exact False.elim hq
      | error ev=>
       obtain⟨a,C,t,B,H',rfl,F',C',eC,dI,pR,u6⟩:=hq
       cases eC
       exact⟨s2,H2,w1,a,C,t,B,H',rfl,I2,g1,aD,F',dI,pR,u6⟩
    ·cases ee
   ·cases ee
  ·cases ee
 ·cases ee
theorem Vz{pl VA:Sem Bool}{u m':Str}{Ki:List D->Option Str}{k' n':Nat}{yp rn lq gJ jw xX:Pos}(CX:lh Y.prog Y.w Y.K Y.mg Y.base k nm m n Fx)(VB:lh Y.prog Y.w Y.K Y.mg Y.base k' nm m' n' Ki)(hr:aw j Y.A)(hk:k<=j)(jo:k'<=j)(hc:h_ Y.cU c gt)(hv:QE Y.cU (.Name x p1) (eh i))(vN:QE Y.cU (.Name x rn) (eh i))(ha:eV Y.cU (e::es) g)(hb:eV Y.cU (e'::kT) g')(xY:swapsWith (.IfExp c (.Call (.Attribute (.Name x p1) m apos) (e::es) [] ar) (.Call (.Attribute (.Name x rn) m' lq) (e'::kT) [] gJ) xX) (some (.Name u yp)) jw.line Y.env=pure false:=by rfl)(he:starEach (e::es) Y.env=(false,eval e Y.env)::starEach es Y.env:=by rfl)(bG:(backTo ar (starEach es Y.env)).any (·.1)=false:=by rfl)(VC:starEach (e'::kT) Y.env=(false,eval e' Y.env)::starEach kT Y.env:=by rfl)(Eg:(backTo gJ (starEach kT Y.env)).any (·.1)=false:=by rfl)(ht:eval (.Call (.Attribute (.Name x p1) m apos) (e::es) [] ar) Y.env=(do
   let ov <- eval (.Name x p1) Y.env
   standAt apos.atName
   let (f,first) <- holding [ov] (getMethod ov m pl)
   callWith ar f first (backTo ar (starEach (e::es) Y.env)) (backToKw ar (keywordEach [] Y.env))):=by rfl) (VD:eval (.Call (.Attribute (.Name x rn) m' lq) (e'::kT) [] gJ) Y.env=(do
   let ov <- eval (.Name x rn) Y.env
   standAt lq.atName
   let (f,first) <- holding [ov] (getMethod ov m' VA)
   callWith gJ f first (backTo gJ (starEach (e'::kT) Y.env)) (backToKw gJ (keywordEach [] Y.env))):=by rfl):H9 Y (.Assign [.Name u yp] (.IfExp c (.Call (.Attribute (.Name x p1) m apos) (e::es) [] ar) (.Call (.Attribute (.Name x rn) m' lq) (e'::kT) [] gJ) xX) jw) (tF gt (lj nm m Fx n i g) (lj nm m' Ki n' i g')):=⟨have hc:=hc.o;have hv:=hv.o;have vN:=vN.o;have ha:=ha.o;have hb:=hb.o;by
 intro pins s σ H ρ w nx ρ1 I gd ee
 unfold tF at ee
 split at ee
 next b' ρ2 h1=>
  refine wpAny_Assign_Name ?_ xY
  refine wpAny_IfExp (QV (hc pins s σ H (fun d H1=>d=b'/\∃ w1,Good Y.K ρ2 σ H1 w1 0/\Go H w H1 w1) I ⟨ρ,w,0,b',ρ2,gd,h1,fun H1 w1 g1 aD=>⟨rfl,w1,g1,aD⟩⟩) (fun d s1 hh=>?_) (fun _ _ z=>False.elim z))
  obtain⟨H1,I1,rfl,w1,g1,aD⟩:=hh
  cases d with
  | true=>exact QV (Kg CX hr hk hv ha he bG ht pins s1 σ H1 ρ2 w1 nx ρ1 I1 g1 ee) (fun _ _ z=>z.elim) fun _ _ z=>CE.go aD z
  | false=>exact QV (Kg VB hr jo vN hb VC Eg VD pins s1 σ H1 ρ2 w1 nx ρ1 I1 g1 ee) (fun _ _ z=>z.elim) fun _ _ z=>CE.go aD z
 ·cases ee⟩
end
def Kj (K:PySem.W.Frag)(n:Nat)(F:D->List D->Option (D×D)):Sp:=fun vs H Q _=>vs.length=n/\∃ l us nm fs cq ds w cj br r vr,vs=.ref l::us /\
 (∀ a o,w a=some o->(a=l/\o=.s 0)\/(a≠l/\o=.f))/\WL K w H/\Rep K H w (.s 0) 1 (.mp (.i nm fs (some l)) cq) (.ref l) [l]/\ag K H w .f 0 ds us [] /\
 F (.mp (.i nm fs (some l)) cq) ds=some (.mp (.i nm cj (some l)) br,r)/\jx r=some vr /\
 ∀ H' w',Go H w H' w'->WL K w' H'->Rep K H' w' (.s 0) 1 (.mp (.i nm cj (some l)) br) (.ref l) [l]->Q vr H'
def tS (n:Nat)(A B:aI):D->List D->Option (D×D):=fun d ds=>match A (pW n d ds)with
 | some (.nx ρ)=>match (ρ[0]?:Option (OD))with
  | some (some (.mp k ds,1))=>match B (ρ.set 0 none)with
   | some (.rt r _)=>some (.mp k ds,r)
   | _=>none
  | _=>none
 | _=>none
theorem Good.lay(g:Good K ρ σ H w 0)(hw:w l=some (.s 0)):Good K (ρ.set 0 none) σ H (gA l .f w) 0:=by
 have st:cY H w H (gA l .f w):=fun a x h n=>⟨sm h,by rw[eQ (fun z=>by rw[z,hw]at n;cases n)];exact n⟩
 refine⟨⟨fun a o e=>?_,g.wl.tb⟩,fun a i e=>?_,fun a i e=>?_,by rw[Qu];exact g.len,fun i d q e=>?_⟩
 ·by_cases h:a=l
  ·subst h;exact g.wl _ _ hw
  ·rw[eQ h]at e;exact g.wl _ _ e
 ·by_cases h:a=l
  ·subst h;rw[lU]at e;cases e
  ·rw[eQ h]at e;exact g.ws _ _ e
 ·by_cases h:a=l
  ·subst h;rw[lU]at e;cases e
  ·rw[eQ h]at e;exact g.wt _ _ e
 ·by_cases h:0=i
  ·subst h
   rw[List.getElem?_set]at e
   split at e
   ·split at e<;>cases e
   ·rename_i z;exact absurd rfl z
  ·rw[Qr h]at e
   obtain⟨v,F,h1,h2⟩:=g.slot i d q e
   exact⟨v,F,h1,Rep.go g.wl st h2 fun a m=>⟨rfl,by rw[eQ (fun z=>by have:=h2.aA a m;rw[z,hw]at this;cases this;exact h rfl)];exact h2.aA a m⟩⟩
theorem VE{nm:Str}{fs:List Str}(wl:WL K w H)(r:Rep K H w (.s 0) 1 (.mp (.i nm fs (some l)) ds) (.ref l) [l])(go:Go H (gA l .f w) H' w')(jY:WL K w' H') :
  Go H w H' (gA l (.s 0) w')/\WL K (gA l (.s 0) w') H'/\Rep K H' (gA l (.s 0) w') (.s 0) 1 (.mp (.i nm fs (some l)) ds) (.ref l) [l]:=by
 have hw:=r.aA l (QC.mpr rfl)
 obtain⟨k1,k2⟩:=go.keep l .f lU (fun _ z=>nomatch z)
 have ne:∀ a,w a=none->a≠l:=fun a n z=>by rw[z,hw]at n;cases n
 have st:cY H w H' (gA l (.s 0) w'):=fun a x h n=>by
  obtain⟨s1,s2⟩:=go.ba a x h (by rw[eQ (ne a n)];exact n)
  exact⟨s1,by rw[eQ (ne a n)];exact s2⟩
 refine⟨⟨st,fun a o e n=>?_⟩,⟨fun a o e=>?_,jY.tb⟩,?_⟩
 ·have rm:a≠l:=fun z=>by rw[z,hw]at e;cases e;exact n 0 rfl
  obtain⟨h1,h2⟩:=go.keep a o (by rw[eQ rm];exact e) n
  exact⟨h1,by rw[eQ rm];exact h2⟩
 ·by_cases h:a=l
  ·subst h;exact jY _ _ k2
  ·rw[eQ h]at e;exact jY _ _ e
 ·exact Rep.go wl st r fun a m=>by rw[QC.mp m];exact⟨k1,lU⟩
theorem VF(h:Kj K n (tS N.length (aB f1 (aB f2 f3)) g) vs H Q E) :
  yU (pD K f1) (yU (pD K f2) (yU (pD K f3) (pD K g))) { nx:=fun _ H'=>Q .au H',rt:=Q } (L2.start N vs) H:=by
 obtain⟨hn,l,us,nm,fs,cq,ds,w,cj,br,r,vr,rfl,hw,wl,r0,rs,e,xY,k⟩:=h
 unfold tS at e
 split at e
 next ρ' h1=>
  split at e
  next k0 d0 e0=>
   split at e
   next r1 q1 h2=>
    cases e
    unfold aB at h1
    cases h3:f1 (pW N.length (.mp (.i nm fs (some l)) cq) ds)with
    | none=>rw[h3]at h1;cases h1
    | some o1=>
     rw[h3]at h1
     cases o1 with
     | nx ρ1=>
      refine⟨_,w,.nx ρ1,I_ hw wl r0 rs,h3,fun vK H1 w1 l1 g1 aD=>?_⟩
      dsimp only at h1
      cases h4:f2 ρ1 with
      | none=>rw[h4]at h1;cases h1
      | some o2=>
       rw[h4]at h1
       cases o2 with
       | nx ρ2=>
        refine⟨ρ1,w1,.nx ρ2,g1,h4,fun lM H2 w2 l2 g2 bb=>?_⟩
        refine⟨ρ2,w2,.nx ρ',g2,h1,fun mH H3 w3 l3 g3 dm=>?_⟩
        obtain⟨v,F,_,rr⟩:=g3.slot 0 _ _ e0
        cases rr with
        | @gz _ a vs _ _ z hH gS ho hl nI=>
         have ha:a=l:=by
          obtain⟨_,_,_,_,_,_,hp⟩:=gS
          exact hp l rfl
         subst ha
         refine⟨ρ'.set 0 none,gA a .f w3,.rt r q1,g3.lay ho,h2,fun v4 H4 w4 F4 VG iS r4=>?_⟩
         obtain⟨b1,b2,b3⟩:=VE g3.wl (.gz hH gS ho hl nI) iS VG
         have ev:=r4.Cj xY
         subst ev
         exact k H4 _ (((aD.trans bb).trans dm).trans b1) b2 b3
       | rt d q=>cases h1
       | bk ρ2=>cases h1
       | ct ρ2=>cases h1
     | rt d q=>cases h1
     | bk ρ1=>cases h1
     | ct ρ1=>cases h1
   ·cases e
  ·cases e
 ·cases e
def pY (P:Program)(w:World)(K:PySem.W.Frag)(mg:Str->Option Value)(base:Heap)(k:Nat)(x:Str)(n:Nat)(F:D->List D->Option (D×D)):Prop:=
 ∃ f fd ps,bW P w K mg base dh k f fd ps (Kj K n F)/\mg x=some (.ref f)/\PySem.W.keepIn K (.ref f)=true/\iL K fd ps []
theorem pY.mk{w:World}{k:Nat}{s1 s2 s3:Stmt}{bw:List Stmt}(a:At K mg x st ps)(S:af N ps (aJ st))(hb:eP st=s1::s2::s3::bw)
  (h:∀ (f:Addr) (aN:Value) (A:Around) (outer:List Env) (s:Shared) (H:Hp) (E:XK),aw k (A.deeper (envOfC x (aJ st) s.heap.objs.size f aN))->zC (fw dh P w K mg base N x (aJ st) f aN A outer s H E).cU s1 f1/\zC (fw dh P w K mg base N x (aJ st) f aN A outer s H E).cU s2 f2/\zC (fw dh P w K mg base N x (aJ st) f aN A outer s H E).cU s3 f3/\oM (fw dh P w K mg base N x (aJ st) f aN A outer s H E).cU bw g) :
  pY P w K mg base (k+1) x ps.length (tS N.length (aB f1 (aB f2 f3)) g):=by
 obtain⟨f,fd,F,m,b⟩:=a
 refine⟨f,fd,ps,F.ok S (fun vs H Q E h=>h.1) fun aN A outer s H vs Q E hr fz=>?_,m,F.kp,b⟩
 obtain⟨p1,p2,p3,p4⟩:=h f aN A outer s H E hr
 exact⟨_,by rw[hb];exact sh p1 (sh p2 (sh p3 p4)),VF fz⟩
def vf (F:D->List D->Option (D×D))(nm:Str)(fs:List Str)(cq ds:List D):Option ((List Str×List D)×D):=
 open Classical in if h:∃ r:(List Str×List D)×D,∀ p,F (.mp (.i nm fs (some p)) cq) ds=some (.mp (.i nm r.1.1 (some p)) r.1.2,r.2)then some h.choose else none
theorem VH{F:D->List D->Option (D×D)}{nm:Str}{fs:List Str}{r:(List Str×List D)×D}(h:vf F nm fs cq ds=some r)(p:Addr):F (.mp (.i nm fs (some p)) cq) ds=some (.mp (.i nm r.1.1 (some p)) r.1.2,r.2):=by
 unfold vf at h
 split at h
 next e=>
  cases h
  exact e.choose_spec p
 ·cases h
theorem VI{F:D->List D->Option (D×D)}{nm:Str}{fs:List Str}{r:D}(h:∀ p,F (.mp (.i nm fs (some p)) cq) ds=some (.mp (.i nm cj (some p)) br,r)):vf F nm fs cq ds=some ((cj,br),r):=by
 have e:∃ r:(List Str×List D)×D,∀ p,F (.mp (.i nm fs (some p)) cq) ds=some (.mp (.i nm r.1.1 (some p)) r.1.2,r.2):=⟨((cj,br),r),h⟩
 have hm:vf F nm fs cq ds=some e.choose:=by
  unfold vf
  rw[YU e]
 have h2:=e.choose_spec 0
 rw[h 0]at h2
 rw[hm]
 generalize e.choose=c at h2 ⊢
 obtain⟨⟨r1,r2⟩,r3⟩:=c
 injection h2 with h2
 injection h2 with h3 h4
 injection h3 with h5 h6
 injection h5 with h7 h8
 subst h4
 subst h6
 subst h8
 rfl
def rp (F:D->List D->Option (D×D))(n i:Nat)(g:bN):aF:=fun ρ=>match ρ[i]? with
 | some (some (.mp (.i _ _ _) _,1))=>match g ρ with
  | some (ds,ρ1)=>match ρ1[i]? with
   | some (some (.mp (.i nm fs p0) cq,1))=>if ds.length+1=n then match vf F nm fs cq ds with
    | some ((cj,br),r)=>if(jx r).isSome=true then some (r,9,ρ1.set i (some (.mp (.i nm cj p0) br,1)))else none
    | none=>none
    else none
   | _=>none
  | none=>none
 | _=>none
section
variable {X:Cx}{e:Expr}{es:List Expr}{g:bN}{p p1 pos:Pos}{x y:Str}{i j k n:Nat}
theorem Kk{F:D->List D->Option (D×D)}(Cm:pY X.prog X.w X.K X.mg X.base k x n F)(hr:aw j X.A)(hk:k<=j)(hv:QE X (.Name y p1) (eh i))(ha:eV X (e::es) g)(hg:Gl X x:=by rfl)(fT:(x==("__debug__":Str))=false:=by decide)(s0:starEach (.Name y p1::e::es) X.env=(false,eval (.Name y p1) X.env)::starEach (e::es) X.env:=by rfl)(bG:(backTo pos (starEach (e::es) X.env)).any (·.1)=false:=by rfl):QD X (.Call (.Name x p) (.Name y p1::e::es) [] pos) (rp F n i g):=⟨have hv:=hv.o;have ha:=ha.o;by
 obtain⟨f,fd,ps,G,hm,wX,hb⟩:=Cm
 refine PE.imp (BK G (hr.mono hk) hg hm wX hb .nil uH (jU hv ha s0) fT s0 bG) fun σ H Q aj=>?_
 obtain⟨ρ,w,t,r',q,ρ',gd,ee,kk⟩:=aj
 unfold rp at ee
 split at ee
 next Kl vg pp0 pZ e0=>
  split at ee
  next ds ρ1 h1=>
   split at ee
   next fL fs p0 cq e1=>
    split at ee
    next hn=>
     split at ee
     next cj br r hM=>
      split at ee
      next xY=>
       cases ee
       obtain⟨vr,Km⟩:=Zm.mp xY
       obtain⟨l0,C0,xU,we,s0,qV,iV,vd,_⟩:=vb gd e0
       refine⟨_,s0,ρ,w,t,ds,ρ1,gd,h1,fun vs H1 w1 g1 aD r1=>?_⟩
       obtain⟨l,C1,dx,Vu,s1,Vv,Ef,Vw,xV,rl,rep,mn,nC⟩:=vb g1 e1
       rw[s0]at s1
       cases s1
       rw[Za]
       refine⟨by rw[QL,<- r1.length,hn],l0,vs,fL,fs,cq,ds,gj l0 w1,cj,br,r',vr,rfl,Ay,xV,rl,mn _ _ r1,VH hM l0,Km,fun H2 w2 bb ke r2=>?_⟩
       obtain⟨g2,dm⟩:=nC cj br H2 w2 bb ke r2
       exact kk vr H2 w1 [] g2.up (aD.trans dm) (wB Km)
      ·cases ee
     ·cases ee
    ·cases ee
   ·cases ee
  ·cases ee
 ·cases ee⟩
end
def rq (i:Nat):aF:=fun ρ=>match ρ[i]? with
 | some (some (.lst ds,q))=>if q<=1 then some (.tup ds,9,ρ)else none
 | _=>none
section
variable {X:Cx}{pos p p1:Pos}
theorem Kn(hm:X.mg "tuple" = none)(hb:bootBuiltins "tuple" = some (.type "tuple"))(h:QE X (.Name x p1) (eh i))(hg:Gl X "tuple":=by rfl)(he:starEach [.Name x p1] X.env=(false,eval (.Name x p1) X.env)::starEach [] X.env:=by rfl)(bG:(backTo pos (starEach [] X.env)).any (·.1)=false:=by rfl):QD X (.Call (.Name "tuple" p) [.Name x p1] [] pos) (rq i):=⟨have h:=h.o;PE.imp (vU Gk hg hm hb (jU h mL he) (by decide) (by decide) he bG) fun σ H Q aj=>by
 obtain⟨ρ,w,t,r',q,ρ',gd,ee,k⟩:=aj
 unfold rq at ee
 split at ee
 next ds q0 e0=>
  split at ee
  next hq=>
   cases ee
   obtain⟨v,F,h1,h2⟩:=gd.slot i _ q0 e0
   obtain⟨p,ys,rfl,hs,rs⟩:=h2.DD hq
   refine⟨_,h1,p,ys,rfl,.inl ⟨hs,fun l hl=>?_⟩⟩
   obtain⟨a1,a2,a3⟩:=uM gd hl (rs.any gd.wl)
   exact k _ _ _ _ a1 a2 a3
  ·cases ee
 ·cases ee⟩
end
end L3
namespace L3
open PySem PySem.Spec PyProof.Rows L2
variable {K:PySem.W.Frag}{N ps:List Str}{P:Program}{X:Cx}{base:Heap}{body:aI}{es:List Expr}{g:bN}{mg:Str->Option Value}{st:Stmt}{w:World}{x:Str}
theorem qv(i:Nat){pos:Pos}(hN:X.N[i]? = some x:=by rfl)(hv:uC X.env.scope x:=by first|exact Or.inl rfl|exact Or.inr (Or.inl rfl)|exact Or.inr (Or.inr rfl))(hd:(x==("__debug__":Str))=false:=by decide)(fR:(x==("__classdict__":Str))=false:=by decide):QE X (.Name x pos) (eh i):=⟨pv i hN hv hd fR⟩
theorem ql(i:Nat){pos:Pos}(hN:X.N[i]? = some x)(hv:X.env.scope.names.lookup x=some .local)(hd:(x==("__debug__":Str))=false:=by decide)(fR:(x==("__classdict__":Str))=false:=by decide):QE X (.Name x pos) (eh i):=⟨pv i hN (.inl hv) hd fR⟩
theorem tT{e:Expr}{f:cf}(h:sX X e f):h_ X e f:=⟨PW.pt h.o⟩
section
variable {X:Cx}{a b c e:Expr}{fa fb fc f:aF}{ga gb gc:cf}{pos:Pos}
theorem VJ{op:CmpOp}{g:D->D->Option D}{r:R2}(ho:cN X (compareOp op) r)(hr:∀ σ H Q,tD X.K (e2 g fa fb) σ H Q->jt r (tD X.K fa) (tD X.K fb) σ H Q)(ha:QD X a fa)(hb:QD X b fb)(hm:behindInMarks op b=false):QD X (.Compare a [op] [b] pos) (e2 g fa fb):=⟨Cr ho hr ha.o hb.o hm⟩
end
theorem aM(i:Nat){pos:Pos}(hN:X.N[i]? = some x)(hv:X.env.scope.names.lookup x=some .local)(hd:(x==("__debug__":Str))=false:=by decide)(fR:(x==("__classdict__":Str))=false:=by decide):QD X (.Name x pos) (aa i):=cI (ql i hN hv hd fR)
theorem aE(i:Nat){pos:Pos}(hN:X.N[i]? = some x)(hv:X.env.scope.names.lookup x=some .local)(hr:eV X es g)(hd:(x==("__debug__":Str))=false:=by decide)(fR:(x==("__classdict__":Str))=false:=by decide):eV X (.Name x pos::es) (ae (aa i) g):=av (aM i hN hv hd fR) hr eS
theorem cu{i:Int}{j:Nat}{pos:Pos}(hr:eV X es g):eV X (.Constant (.int i) j pos::es) (ae (eC (.int i)) g):=av bp hr nJ
theorem ay.bQ{k:Nat}(a:At K mg x st ps)(S:af N ps (aJ st))
  (h:∀ (f:Addr) (aN:Value) (A:Around) (outer:List Env) (s:Shared) (H:Hp) (E:XK),aw k (A.deeper (envOfC x (aJ st) s.heap.objs.size f aN))->dQ (fw dh P w K mg base N x (aJ st) f aN A outer s H E).cU (eP st) body) :
  ay P w K mg base (k+1) x ps.length (bH N.length body):=ay.mk a S fun f aN A outer s H E hr=>(h f aN A outer s H E hr).o
theorem VL{k:Nat}{f:Addr}{fd:FuncData}(F:kY K x x st f fd)(S:af N ps (aJ st))
  (h:∀ (f:Addr) (aN:Value) (A:Around) (outer:List Env) (s:Shared) (H:Hp) (E:XK),aw k (A.deeper (envOfC x (aJ st) s.heap.objs.size f aN))->dQ (fw dh P w K mg base N x (aJ st) f aN A outer s H E).cU (eP st) body) :
  bW P w K mg base dh (k+1) f fd ps (lV K ps.length (bH N.length body)):=S8 F S fun f aN A outer s H E hr=>(h f aN A outer s H E hr).o
end L3
namespace L3
open PySem PySem.Spec PyProof.Rows PySem.W L2
variable {C c f:Addr}{K:PySem.W.Frag}{L N ps:List Str}{P q:Program}{base:Heap}{fd:FuncData}{mg:Str->Option Value}{oc:Value}{od:Option Addr}{sl:Array (Option Value)}{st:Stmt}{w:World}{x:Str}{xb:fD}
theorem AD{K:Frag}{v:Value}{b:Bool}(h:mroIn K C v=some b):(clsIn K C).isSome=true:=by
 obtain⟨cd,a,_⟩:=Option.bind_eq_some_iff.mp h
 rw[a];rfl
theorem hJ.of{K:Frag}{nm:Str}(n:nsIn K mainGlobals nm=some (some (.ref C)))(x:fB K C)(ex:excIn K C zi "ValueError.__new__" = true)(v:mroIn K C (.type "ValueError")=some true)
  (a1:mroIn K C (.type "int")=some false) (a2:mroIn K C (.type "bool")=some false) (a3:mroIn K C (.type "tuple")=some false) (a4:mroIn K C (.type "list")=some false) (a5:mroIn K C (.type "str")=some false):hJ K nm C:=
 ⟨n,x,ex,v,fun T hT=>by
   rcases Qi.mp hT with rfl|hT
   ·exact a1
   rcases Qi.mp hT with rfl|hT
   ·exact a2
   rcases Qi.mp hT with rfl|hT
   ·exact a3
   rcases Qi.mp hT with rfl|hT
   ·exact a4
   rcases Qi.mp hT with rfl|hT
   ·exact a5
   cases hT⟩
theorem oQ.nil{K:Frag}{R:Str}{RA:Addr}(x:fB K RA)(t:typeIn K (.ref RA)=some (.type "type"))(m:mg R=some (.ref RA)):oQ K mg R []:=⟨RA,x,t,m,fun n hn=>nomatch hn⟩
theorem oQ.cons{K:Frag}{mg:Str->Option Value}{R nm:Str}{L:List Str}{C RA:Addr}(U:oQ K mg R L)(m:mg R=some (.ref RA))(k:hJ K nm C)(s:mroIn K C (.ref RA)=some true):oQ K mg R (nm::L):=by
 obtain⟨RB,x,t,m',h⟩:=U
 rw[m]at m'
 cases m'
 refine⟨RA,x,t,m,fun n hn C' e=>?_⟩
 rcases Qi.mp hn with rfl|hn
 ·have e':=k.ns
  rw[e]at e'
  cases e'
  exact⟨k,s⟩
 ·exact h n hn C' e
theorem dS.nil{K:Frag}{nm:Str}(m:mg nm=some (.ref C)):dS K mg [] nm:=⟨C,m,fun n hn=>nomatch hn⟩
theorem dS.self{K:Frag}{nm:Str}(U:dS K mg L nm)(n:nsIn K mainGlobals nm=some (some (.ref C)))(m:mg nm=some (.ref C)):dS K mg (nm::L) nm:=by
 obtain⟨C',m',h⟩:=U
 rw[m]at m'
 cases m'
 refine⟨C,m,fun n' hn B e=>?_⟩
 rcases Qi.mp hn with rfl|hn
 ·rw[e]at n
  cases n
  exact⟨fun _=>by unfold isIn;simp,fun z=>absurd rfl z⟩
 ·exact h n' hn B e
theorem dS.other{K:Frag}{nm n2:Str}{D:Addr}(U:dS K mg L n2)(n:nsIn K mainGlobals nm=some (some (.ref C)))(m:mg n2=some (.ref D))(hn:nm≠n2)(ne:C≠D)(t:typeIn K (.ref D)=some (.type "type"))(o:mroIn K D (.type "object")=some true)(s:mroIn K C (.ref D)=some false):dS K mg (nm::L) n2:=by
 obtain⟨D',m',h⟩:=U
 rw[m]at m'
 cases m'
 refine⟨D,m,fun n' nh B e=>?_⟩
 rcases Qi.mp nh with rfl|nh
 ·rw[e]at n
  cases n
  have s':subIn K (.ref C) (.ref D)=some false:=s
  exact⟨fun z=>absurd z hn,fun _=>by unfold kin_not;rw[AD o,t,s'];simp[ne]⟩
 ·exact h n' nh B e
theorem mh.bQ{k:Nat}(a:At K mg x st ps)(S:af N ps (aJ st))
  (h:∀ (f:Addr) (aN:Value) (A:Around) (outer:List Env) (s:Shared) (H:Hp) (E:XK),aw k (A.deeper (envOfC x (aJ st) s.heap.objs.size f aN))->nO (jz P w K mg base N x (aJ st) f aN A outer s H E) E (eP st) xb) :
  mh P w K mg base (k+1) x ps.length (fnX N.length xb):=mh.mk a S fun f aN A outer s H E hr=>(h f aN A outer s H E hr).o
def AE (X:Cx):List Str->List Nat->Prop
 | [],[]=>True
 | z::zs,i::is=>X.N[i]? = some z/\X.env.scope.names.lookup z=some .cell/\AE X zs is
 | _,_=>False
theorem AE.at{X:Cx}:∀ {zs:List Str} {is:List Nat},AE X zs is->∀ (j:Nat) (z:Str),zs[j]? = some z->∃ i,is[j]? = some i/\X.N[i]? = some z/\X.env.scope.names.lookup z=some .cell
 | [],[],_,_,_,e=>by simp at e
 | z::zs,i::is,h,0,_,e=>by simp at e;subst e;exact⟨i,rfl,h.1,h.2.1⟩
 | z::zs,i::is,h,j+1,y,e=>by
  obtain⟨i',a,b⟩:=h.2.2.at j y (by simpa using e)
  exact⟨i',by simpa using a,b⟩
theorem VM{h:Heap}{P:Addr}(X:K.In h)(G:h.Ns mainGlobals mg)(ht:tabIn K x=some (c,P))(hm:mg x=some (.ref f))(lk:K.lookup f=some ⟨oc,od,.func fd,sl⟩):fd.code=.ref c:=
 law_code X G ht hm (X _ _ lk) rfl
theorem ay.VN{k:Nat}{body:aI}(KX:K.In base)(G:base.Ns mainGlobals mg)(ht:∃ c Pt,tabIn K x=some (c,Pt))(a:At K mg x st ps)(S:af N ps (aJ st))
  (h:∀ (f c Pt:Addr) (A:Around) (outer:List Env) (s:Shared) (H:Hp) (E:XK),tabIn K x=some (c,Pt)->aw k (A.deeper (envOfC x (aJ st) s.heap.objs.size f (.ref c)))->dQ (fw dh P w K mg base N x (aJ st) f (.ref c) A outer s H E).cU (eP st) body) :
  ay P w K mg base (k+1) x ps.length (bH N.length body):=by
 obtain⟨f,fd,F,m,b⟩:=a
 obtain⟨c,Pt,ht⟩:=ht
 obtain⟨oc,od,kV,doc,pm,an,aN,ct,nr,rfl,lk,fR⟩:=F.ex
 have e:aN=.ref c:=VM KX G ht m lk
 subst e
 exact⟨f,_,ps,y8 lk fR S (fun vs H Q E h=>h.1) fun A outer s H vs Q E hr fz=>⟨_,(h f c Pt A outer s H E ht hr).o.cU,G4 fz⟩,m,F.kp,b⟩
theorem cB.of{cs:List Str}{sc:Scope}(kind:sc.kind=.function)(co:sc.isCoroutine=false)(gen:sc.isGenerator=false)(nd:(ps++cs).Nodup)(par:∀ x∈ps,sc.names.lookup x=some .local)(xw:∀ x∈cs,sc.names.lookup x=some .free)
  (iU:∀ y∈sc.names,y.2 ≠ .cell) (free:∀ y∈sc.names,y.2=.free->y.1∈cs):cB ps cs sc:=⟨kind,co,gen,nd,par,xw,iU,fun x e=>free _ (QG e) rfl⟩
theorem j7h{Pt:Addr}{o2:Value}{VO:Option Addr}{uE:Array (Option Value)}{vs:Array Value}(a:nsIn K mainGlobals x=some (some (.ref f)))(l:K.lookup f=some ⟨oc,od,.func fd,sl⟩)(hc:fd.code=.ref c)(m:K.lookup c=some ⟨o2,VO,.fields vs,uE⟩)(v:vs[11]? = some (.ref Pt)) :
  ∃ c Pt,tabIn K x=some (c,Pt):=⟨c,Pt,by unfold tabIn;rw[a];simp only[l,hc,m,v]⟩
theorem j5c(a:nsIn K mainGlobals x=some none):tabIn K x=none:=by unfold tabIn;rw[a]
def jF (K:PySem.W.Frag)(b:Addr):Bool:=pz.any fun x=>match tabIn K x with
 | some (_,P)=>P==b
 | none=>false
theorem VP{b:Addr}(h:jF K b=true):∃ x∈pz,∃ c,tabIn K x=some (c,b):=by
 obtain⟨x,hx,e⟩:=JB.mp h
 split at e
 next c P hP=>
  rw[eq_of_beq e]at hP
  exact⟨x,hx,c,hP⟩
 ·cases e
theorem VQ{P:Addr}(hx:x∈pz)(e:tabIn K x=some (c,P)):jF K P=true:=
 JB.mpr ⟨x,hx,by rw[e];exact ZG P⟩
theorem VR{P:Program}{w:World}{mb:Str->Option Value}{CX:lP}{k:Nat}{fa a:Addr}{fd:FuncData}{sp:Sp}{aL:Shared}{vs:List Value}{ns:List Int}
  (KX:K.In aL.heap) (dI:aL.heap.Ns mainGlobals mg) (hb:aL.heap.Ns builtinsNs mb) (AB:∀ x:Str,x ≠ "__name__"->mb x=bootBuiltins x) (Eh:aL.heap.NoLimit) (hg:aL.gens = #[])
  (Ei:∃ bm o,mg "__builtins__" = some (.ref bm)/\bm≠builtinsNs/\aL.heap.get? bm=some o/\o.cls=.type "module" /\ o.dict=some builtinsNs/\o.data=.plain)
  (hT:∀ x∈pz,∀ c Pt,tabIn K x=some (c,Pt)->CodeHd aL.heap c Pt/\aL.heap.get? Pt=some (tabObj #[])) (Ej:noTabs K=true)
  (ha:aL.heap.get? a=some { cls:=.type "list",data:=.seq vs.toArray }) (hi:IntsAre vs ns) (hl:ns.length<=sizeLine) (hr:aw k callerA)
  (F:∀ base:Heap,K.In base->base.Ns mainGlobals mg->Lm K mg base->bW P w K mg base CX k fa fd [x] sp) (jC:∀ (s:Shared) (u:Value),BindsTo s fd ⟨[u],[]⟩ [(x,u)])
  (fz:∀ H:Hp,TB K H->cL K H a (ns.map V.int)->sp [.ref a] H (fun v _=>v=.bl true) fun _ _ _=>False)
  (Ek:∀ H e s',CX [] H aL (fun _ _ _=>False) e s'->False) :
  codeAny (model P w) callerA (.call (.ref fa) ⟨[.ref a],[]⟩) (fun r s'=>r=.ok (.ret (.bool true))/\OldK aL.heap s'.heap/\s'.os=aL.os/\AllBare s'.gens) aL:=by
 have rv:=zb hi
 have El:=hi.length
 have kD:∀ b,jF K b=true->(∃ c,CodeHd aL.heap c b)/\aL.heap.get? b=some (tabObj #[]):=fun b h=>by
  obtain⟨x,hx,c,e⟩:=VP h
  obtain⟨h1,h2⟩:=hT x hx c b e
  exact⟨⟨c,h1⟩,h2⟩
 have core:∀ H:Hp,(∀ b,H b=none\/(b=a/\∃ o xs,H b=some (.bZ o (.lst xs)))\/(jF K b=true/\H b=some (.dB #[])))->(∀ b,jF K b=true->H b=some (.dB #[]))->cL K H a (ns.map V.int)->cX P w H aL.heap->(∀ o xs,H a=some (.bZ o (.lst xs))->K.lookup a=none)->
   codeAny (model P w) callerA (.call (.ref fa) ⟨[.ref a],[]⟩) (fun r s'=>r=.ok (.ret (.bool true))/\OldK aL.heap s'.heap/\s'.os=aL.os/\AllBare s'.gens) aL:=by
  intro H hO Ko hS az hK
  have gk:∀ {b:Addr} {o:Obj},aL.heap.get? b=some o->H b=none->(ou aL.heap H).get? b=some o:=fun e n=>Ny e n
  have oB:∀ {b:Addr} {o:Obj},aL.heap.get? b=some o->o.cls ≠ .type "list"->o.cls ≠ .none->H b=none:=fun {b o} e d1 d2=>by
   rcases hO b with z|⟨z,_⟩|⟨z,_⟩
   ·exact z
   ·subst z;rw[ha]at e;cases e;exact absurd rfl d1
   ·rw[(kD b z).2]at e;cases e;exact absurd rfl d2
  have VS:∀ {b:Addr} {o:Obj} {es:Array DictEntry} {ep:Nat},aL.heap.get? b=some o->o.data=.dict es ep->H b=none:=fun {b o es ep} e d=>by
   rcases hO b with z|⟨z,_⟩|⟨z,_⟩
   ·exact z
   ·subst z;rw[ha]at e;cases e;exact nomatch (show Data.seq vs.toArray _=Data.dict es ep from d)
   ·rw[(kD b z).2]at e;cases e;exact nomatch (show Data.fields _=Data.dict es ep from d)
  have AF:∀ {b:Addr} {m:Str->Option Value},aL.heap.Ns b m->(ou aL.heap H).Ns b m:=fun {b m} hh=>by
   obtain⟨o,es,ep,e,d,r⟩:=hh
   exact⟨o,es,ep,gk e (VS e d),d,r⟩
  have Kp:K.In (ou aL.heap H):=fun b o e=>gk (KX b o e) (by
   rcases hO b with z|⟨z,o',xs,z2⟩|⟨z,_⟩
   ·exact z
   ·subst z;rw[hK _ _ z2]at e;cases e
   ·have e2:=KX b o e
    rw[(kD b z).2]at e2
    cases e2
    have h2:=Zz.mp Ej (b,tabObj #[]) (mem_of_lookupK e)
    exact absurd (show false=true from h2) Zy)
  have hM:Mod K mg (ou aL.heap H):=by
   obtain⟨mc,h1,h2⟩:=Eh
   exact⟨Kp,AF dI,⟨mb,AF hb,AB⟩,⟨mc,AF h1,h2⟩⟩
  have hL:Lm K mg (ou aL.heap H):=by
   refine⟨?_,fun x hx c Pt e=>?_⟩
   ·obtain⟨bm,o,h1,h2,h3,h4,h5⟩:=Ei
    exact⟨bm,o,h1,h2,gk h3 (oB h3 (by rw[h4];decide) (by rw[h4];nofun)),h4,h5⟩
   ·obtain⟨o,v1,v2,v3,v4,v5,v6,v7,v8,e1,e2,r⟩:=(hT x hx c Pt e).1
    exact⟨o,v1,v2,v3,v4,v5,v6,v7,v8,gk e1 (oB e1 (by rw[e2];decide) (by rw[e2];nofun)),e2,r⟩
  have tb:TB K H:=by
   refine⟨fun Q ps e=>?_,fun Q ps e pos cv hc=>?_,fun x hx c Pt e=>⟨_,Ko Pt (VQ hx e)⟩⟩<;>rcases hO Q with z|⟨_,o',xs,z⟩|⟨_,z⟩<;>rw[e]at z<;>cases z
   ·exact True.intro
   ·cases hc
  have e0:iK P w K mg (ou aL.heap H) callerA [] aL H:=⟨rfl,hM,fun b o e=>Nz e,Yw (Nx _ _),trivial,fun b hb=>absurd (show b∈([]:List Addr)from hb) (by simp),az,.of_eq hg⟩
  refine Z8 ((F _ Kp (AF dI) hL).run callerA [] aL H ⟨[.ref a],[]⟩ [.ref a] [.ref a] _ _ hr e0 (jC aL (.ref a)) (.cons rfl .nil) (fz H tb hS)) fun r s' h=>?_
  cases r with
  | error e=>exact(Ek H e s' h).elim
  | ok fl=>
   cases fl with
   | next=>exact False.elim h
   | brk=>exact False.elim h
   | cont=>exact False.elim h
   | ret u=>
    obtain⟨v,H',os,bare,un,xZ,r',q⟩:=h
    have q':v=.bl true:=q
    subst q'
    obtain rfl:u=Value.bool true:=r'
    have kp:∀ b o,aL.heap.get? b=some o->jF K b=false->s'.heap.get? b=some o:=fun b o e nt=>by
     rcases hO b with z|⟨_,ob,xs,z⟩|⟨z,_⟩
     ·exact un.keep b o e z (by intro z;exact absurd (show b∈([]:List Addr)from z) (by simp)) (by simp)
     ·have z2:=un.dJ b ob _ z
      obtain⟨e1,_⟩:=az b _ z
      obtain⟨e2,_⟩:=xZ b _ z2
      rw[e]at e1;cases e1
      exact e2
     ·rw[z]at nt;cases nt
    have gr:∀ b,jF K b=true->∃ ps,s'.heap.get? b=some (tabObj ps):=fun b t=>by
     obtain⟨more,z⟩:=un.dM b _ (Ko b t)
     exact⟨_,xZ b _ z⟩
    refine⟨rfl,⟨fun b o e=>?_,fun b o e=>?_⟩,os,bare⟩
    ·cases t:jF K b with
     | false=>exact .inl (kp b o e t)
     | true=>
      obtain⟨⟨c,C⟩,e1⟩:=kD b t
      obtain⟨ps,e2⟩:=gr b t
      rw[e]at e1;cases e1
      exact .inr (.inl ⟨(C.tab e).isCodeTable,rfl,#[],ps,rfl,by rw[Array.empty_append];exact e2⟩)
    ·cases t:jF K b with
     | false=>exact⟨o,kp b o e t⟩
     | true=>obtain⟨ps,e2⟩:=gr b t;exact⟨_,e2⟩
 have aT:jF K a=false:=by
  cases t:jF K a with
  | false=>rfl
  | true=>
   have:=(kD a t).2
   rw[ha]at this;cases this
 cases hk:K.lookup a with
 | some o=>
  have e:=KX a o hk
  rw[ha]at e
  cases e
  refine core (fun b=>if jF K b=true then some (.dB #[])else none) (fun b=>?_) (fun b h=>Qe h) (.inr ⟨_,vs.toArray,_,hk,rfl,rfl,rfl,by rw[Qk,El];exact hl,by simpa using rv⟩) (fun b u z=>?_) fun o xs z=>?_
  ·by_cases hb:jF K b=true
   ·exact .inr (.inr ⟨hb,Qe hb⟩)
   ·exact .inl (Qg hb)
  ·by_cases hb:jF K b=true
   ·have z':=(Qe hb).symm.trans z
    cases z'
    exact(kD b hb).2
   ·have z':=(Qg hb).symm.trans z
    cases z'
  ·have z':=(Qg (by rw[aT];decide)).symm.trans z
   cases z'
 | none=>
  refine core (fun b=>if b=a then some (.bZ { cls:=.type "list",data:=.seq vs.toArray } (.lst (ns.map V.int)))else if jF K b=true then some (.dB #[])else none) (fun b=>?_) (fun b h=>?_) (.inl (.inr ⟨{ cls:=.type "list",data:=.seq vs.toArray },Qe rfl⟩)) (fun b u z=>?_) fun _ _ _=>hk
  ·by_cases hb:b=a
   ·exact .inr (.inl ⟨hb,_,_,Qe hb⟩)
   ·by_cases ht:jF K b=true
    ·exact .inr (.inr ⟨ht,(Qg hb).trans (Qe ht)⟩)
    ·exact .inl ((Qg hb).trans (Qg ht))
  ·have hb:b≠a:=fun z=>by rw[z,aT]at h;cases h
   exact(Qg hb).trans (Qe h)
  ·by_cases hb:b=a
   ·have z':=(Qe hb).symm.trans z
    cases z'
    subst hb
    exact⟨ha,by rw[Qm];exact hl,vs,_,rv,ha⟩
   ·by_cases ht:jF K b=true
    ·have z':=((Qg hb).trans (Qe ht)).symm.trans z
     cases z'
     exact(kD b ht).2
    ·have z':=((Qg hb).trans (Qg ht)).symm.trans z
     cases z'
def j5g (q:Program)(K:PySem.W.Frag):Prop:=∀ x∈pz,(∃ d,(recsOf q).find? (fun e=>e.name==x)=some d)\/tabIn K x=none
theorem j5g.of(h1:(∃ d,(recsOf q).find? (fun e=>e.name==("turned":Str))=some d)\/tabIn K "turned" = none)(h2:(∃ d,(recsOf q).find? (fun e=>e.name==("chain_ladder":Str))=some d)\/tabIn K "chain_ladder" = none)
  (h3:(∃ d,(recsOf q).find? (fun e=>e.name==("flat_ladder":Str))=some d)\/tabIn K "flat_ladder" = none) (h4:(∃ d,(recsOf q).find? (fun e=>e.name==("paired":Str))=some d)\/tabIn K "paired" = none) (h5:(∃ d,(recsOf q).find? (fun e=>e.name==("height_of":Str))=some d)\/tabIn K "height_of" = none) (h6:(∃ d,(recsOf q).find? (fun e=>e.name==("_law_high":Str))=some d)\/tabIn K "_law_high" = none):j5g q K:=fun x hx=>by
 rcases Qi.mp hx with rfl|hx
 ·exact h1
 rcases Qi.mp hx with rfl|hx
 ·exact h2
 rcases Qi.mp hx with rfl|hx
 ·exact h3
 rcases Qi.mp hx with rfl|hx
 ·exact h4
 rcases Qi.mp hx with rfl|hx
 ·exact h5
 rcases Qi.mp hx with rfl|hx
 ·exact h6
 cases hx
theorem VT{l:PySem.W.OpenLaw}{n k:Nat}{loose:List Str}{XP:(Str->Option Value)->Heap->Prop}{YP:World->Heap->Prop}{d:DefRec}{K:Params->PySem.W.Frag}{CX:World->lP}{sp:World->Sp}
  (hn:l.most=some n) (su:n<=sizeLine) (pq:d.params.defaults=[]) (hr:aw k callerA)
  (hY:∀ (w:World) (h:Heap),YP w h->(K w.params).In h)
  (F:∀ (w:World) (mg:Str->Option Value) (fa:Addr) (h:Heap),(K w.params).In h->h.Ns mainGlobals mg->mg d.name=some (.ref fa)->j5g q (K w.params)/\noTabs (K w.params)=true /\
    ∃ fd:FuncData,(∀ (s:Shared) (u:Value),BindsTo s fd ⟨[u],[]⟩ [(x,u)]) /\
     ∀ base:Heap,(K w.params).In base->base.Ns mainGlobals mg->Lm (K w.params) mg base->bW l.prog w (K w.params) mg base (CX w) k fa fd [x] (sp w))
  (fz:∀ (w:World) (H:Hp) (a:Addr) (ns:List Int),ns.length<=n->TB (K w.params) H->cL (K w.params) H a (ns.map V.int)->sp w [.ref a] H (fun v _=>v=.bl true) fun _ _ _=>False)
  (Ek:∀ (w:World) (H:Hp) (s:Shared) (e:Value) (s':Shared),CX w [] H s (fun _ _ _=>False) e s'->False) :
  PySem.W.WalkO q loose XP YP l.row.toRowW d [] (fun f vs=>PySem.call f vs):=by
 refine Gs.P4 hn pq fun w ax aL mg mb fa o pm cd doc a vs ns G Y ho hd fR hmg sG hints hlen hg=>?_
 have KX:=hY w _ Y
 obtain⟨tH,Ej,fd,hb,hF⟩:=F w mg fa _ KX G.T.g hmg
 have Ei:=G.T.bmain
 refine VR KX G.T.g G.T.b G.T.builtins G.T.nolimit hg ?_ (fun x hx c Pt e=>?_) Ej sG hints (Qv hlen su) hr hF hb (fun H hO hS=>fz w H a ns hlen hO hS) fun H e s'=>Ek w H aL e s'
 ·obtain⟨bm,ob,b1,b2,b3,b4,b5,b6⟩:=Ei
  exact⟨bm,ob,b1,b2,b3,b4,b5,b6⟩
 ·rcases tH x hx with⟨dd,hd⟩|z
  ·exact tab_of G.T KX hd e
  ·rw[z]at e;cases e
def hI (v:Nat):Int:=if v=7 then -2 else Int.ofNat v
section
variable {P:Program}{w:World}{K:PySem.W.Frag}{mg:Str->Option Value}{base:Heap}{k:Nat}{x nm m qual:Str}{st:Stmt}{N ps:List Str}{body:aI}
theorem jD.bQ(a:jq K nm m qual st ps)(S:af N ps (aJ st))
  (h:∀ (f:Addr) (aN:Value) (A:Around) (outer:List Env) (s:Shared) (H:Hp) (E:XK),aw k (A.deeper (envOfC qual (aJ st) s.heap.objs.size f aN))->dQ (fw dh P w K mg base N qual (aJ st) f aN A outer s H E).cU (eP st) body) :
  jD P w K mg base (k+1) nm m ps.length (ml N.length body):=jD.mk a S fun f aN A outer s H E hr=>(h f aN A outer s H E hr).o
theorem jE.bQ(a:jq K nm m qual st ps)(S:af N ps (aJ st))
  (h:∀ (f:Addr) (aN:Value) (A:Around) (outer:List Env) (s:Shared) (H:Hp) (E:XK),aw k (A.deeper (envOfC qual (aJ st) s.heap.objs.size f aN))->dQ (fw dh P w K mg base N qual (aJ st) f aN A outer s H E).cU (eP st) body) :
  jE P w K mg base (k+1) nm m ps.length (bH N.length body):=jE.mk a S fun f aN A outer s H E hr=>(h f aN A outer s H E hr).o
theorem pX.bQ(a:jq K nm "__init__" qual st ps)(hc:∀ C,nsIn K mainGlobals nm=some (some (.ref C))->mg nm=some (.ref C)/\makesIn K C=true/\keepIn K (.ref C)=true/\hV K C)(S:af N ps (aJ st))
  (h:∀ (f:Addr) (aN:Value) (A:Around) (outer:List Env) (s:Shared) (H:Hp) (E:XK),aw k (A.deeper (envOfC qual (aJ st) s.heap.objs.size f aN))->dQ (fw dh P w K mg base N qual (aJ st) f aN A outer s H E).cU (eP st) body) :
  pX P w K mg base (k+1) nm ps.length (ml N.length body):=pX.mk a hc S fun f aN A outer s H E hr=>(h f aN A outer s H E hr).o
theorem lh.bQ(a:jq K nm m qual st ps)(S:af N ps (aJ st))
  (h:∀ (f:Addr) (aN:Value) (A:Around) (outer:List Env) (s:Shared) (H:Hp) (E:XK),aw k (A.deeper (envOfC qual (aJ st) s.heap.objs.size f aN))->nO (jz P w K mg base N qual (aJ st) f aN A outer s H E) E (eP st) xb) :
  lh P w K mg base (k+1) nm m ps.length (fnX N.length xb):=lh.mk a S fun f aN A outer s H E hr=>(h f aN A outer s H E hr).o
theorem pY.bQ{s1 s2 s3:Stmt}{bw:List Stmt}{f1 f2 f3 g:aI}(a:At K mg x st ps)(S:af N ps (aJ st))(hb:eP st=s1::s2::s3::bw)
  (h:∀ (f:Addr) (aN:Value) (A:Around) (outer:List Env) (s:Shared) (H:Hp) (E:XK),aw k (A.deeper (envOfC x (aJ st) s.heap.objs.size f aN))->jm (fw dh P w K mg base N x (aJ st) f aN A outer s H E).cU s1 f1/\jm (fw dh P w K mg base N x (aJ st) f aN A outer s H E).cU s2 f2/\jm (fw dh P w K mg base N x (aJ st) f aN A outer s H E).cU s3 f3/\dQ (fw dh P w K mg base N x (aJ st) f aN A outer s H E).cU bw g) :
  pY P w K mg base (k+1) x ps.length (tS N.length (aB f1 (aB f2 f3)) g):=pY.mk a S hb fun f aN A outer s H E VU=>by
 obtain⟨h1,h2,h3,h4⟩:=h f aN A outer s H E VU
 exact⟨h1.o,h2.o,h3.o,h4.o⟩
end
end L3
namespace L3
open PySem PySem.Spec PyProof.Rows L2
theorem p6{k:Nat}{pt:iR}{tt:cf}{te:aF}{deep:Bool}:∀ (ds:List D) (S:Nat->aS) (b:Nat->Bool) (v:Nat->D),
  (∀ i (h:i<ds.length),∃ ρ1 ρ2,pt ds[i] (S i++List.replicate k none)=some ρ1/\tt ρ1=some (b i,ρ2) /\
    (if b i=true then ∃ q eW,te ρ2=some (v i,q,eW)/\¬ (deep=true/\(v i).bM=true/\q≠1)/\eW.take (S i).length=S (i+1)else ρ2.take (S i).length=S (i+1)))->
  km k pt tt te deep ds (S 0)=some (((List.range ds.length).filter b).map v,S ds.length)
 | [],S,b,v,_=>rfl
 | d::ds,S,b,v,h=>by
  obtain⟨ρ1,ρ2,h1,h2,h3⟩:=h 0 (by simp)
  have ih:=p6 ds (fun i=>S (i+1)) (fun i=>b (i+1)) (fun i=>v (i+1)) (fun i hi=>h (i+1) (by simpa using hi))
  have er:((List.range (d::ds).length).filter b).map v=(if b 0=true then [v 0]else [])++((List.range ds.length).filter fun i=>b (i+1)).map fun i=>v (i+1):=by
   rw[QL,ZV,Jc,List.filter_map]
   split<;>simp[Z5]
  rw[er]
  unfold km
  rw[show pt d (S 0++List.replicate k none)=some ρ1 from h1]
  simp only[h2]
  split at h3
  next hb=>
   obtain⟨q,eW,h4,h5,h6⟩:=h3
   simp only[hb,Z9,h4,Qg h5,h6,ih]
   rfl
  next hb=>
   simp only[hb,h3,ih]
   rfl
theorem p7{pt:iR}{body:aI}:∀ (ds:List D) (I:Nat->aS->Prop) (ρ:aS),(∀ i (h:i<ds.length) ρ,I i ρ->∃ ρ1 ρ2,pt ds[i] ρ=some ρ1/\(body ρ1=some (.nx ρ2)\/body ρ1=some (.ct ρ2))/\I (i+1) ρ2)->I 0 ρ->∃ ρ',gh pt body ds ρ=some (.nx ρ')/\I ds.length ρ'
 | [],I,ρ,_,h0=>⟨ρ,rfl,h0⟩
 | d::ds,I,ρ,h,h0=>by
  obtain⟨ρ1,ρ2,h1,h2,h3⟩:=h 0 (by simp) ρ h0
  obtain⟨ρ',e,h4⟩:=p7 ds (fun i=>I (i+1)) ρ2 (fun i hi=>h (i+1) (by simpa using hi)) h3
  refine⟨ρ',?_,h4⟩
  unfold gh
  rw[show pt d ρ=some ρ1 from h1]
  rcases h2 with h2|h2<;>(simp only[h2];exact e)
theorem aR{f g:aI}{ρ ρ1:aS}(h:f ρ=some (.nx ρ1)):aB f g ρ=g ρ1:=by unfold aB;rw[h]
theorem x6{f g:aI}{ρ:aS}{d:D}{q:Nat}(h:f ρ=some (.rt d q)):aB f g ρ=some (.rt d q):=by unfold aB;rw[h]
theorem fM{n:Nat}{body:aI}{ds:List D}{d:D}{q:Nat}(h:body (jZ n ds)=some (.rt d q)):bH n body ds=some (d,q):=by unfold bH;rw[h]
theorem ls{k:Nat}{it:lZ}{pt:iR}{tt:cf}{te:aF}{deep:Bool}{ρ ρ1 ρ2:aS}{ds vs:List D}(hi:it ρ=some (ds,ρ1))(hc:km k pt tt te deep ds ρ1=some (vs,ρ2)):fC k it pt tt te deep ρ=some (.lst vs,if deep=true then 2 else 1,ρ2):=by unfold fC;rw[hi];simp only[hc]
theorem VW{i:Nat}{f:aF}{ρ ρ1:aS}{d:D}{q:Nat}(h:f ρ=some (d,q,ρ1)):aY i f ρ=some (.nx (ρ1.set i (some (d,q)))):=by unfold aY;rw[h]
theorem iW{f:aF}{ρ ρ1:aS}{d:D}{q:Nat}(h:f ρ=some (d,q,ρ1)):bF f ρ=some (.rt d q):=by unfold bF;rw[h]
theorem mZ{it:lZ}{pt:iR}{body:aI}{ρ ρ1:aS}{ds:List D}(h:it ρ=some (ds,ρ1)):gi it pt body ρ=gh pt body ds ρ1:=by unfold gi;rw[h]
theorem tU{g:cf}{s s':aI}{ρ ρ1:aS}(h:g ρ=some (true,ρ1)):cS g s s' ρ=s ρ1:=by unfold cS;rw[h];rfl
theorem mq{g:cf}{s s':aI}{ρ ρ1:aS}(h:g ρ=some (false,ρ1)):cS g s s' ρ=s' ρ1:=by unfold cS;rw[h];rfl
theorem eZ{i:Nat}{f:aF}{ρ ρ1 ρ2:aS}{d:D}{q:Nat}(h:f ρ=some (d,q,ρ1))(e:ρ1.set i (some (d,q))=ρ2):aY i f ρ=some (.nx ρ2):=by rw[VW h,e]
theorem cP{f:aF}{ρ ρ1:aS}{d:D}{q:Nat}(h:f ρ=some (d,q,ρ1)):ae f ah ρ=some ([d],ρ1):=by unfold ae;rw[h];rfl
theorem cZ{f:aF}{g:bN}{ρ ρ1 ρ2:aS}{d:D}{q:Nat}{ds:List D}(h:f ρ=some (d,q,ρ1))(h':g ρ1=some (ds,ρ2)):ae f g ρ=some (d::ds,ρ2):=by unfold ae;rw[h];simp only[h']
theorem Em{g:bN}{ρ ρ1:aS}{ds:List D}(h:g ρ=some ([.lst ds],ρ1)):mW g ρ=some (.tup ds,9,ρ1):=by unfold mW;rw[h]
theorem En{g:bN}{ρ ρ1:aS}{ds:List D}(h:dj g ρ=some (ds,ρ1)):qO g ρ=some (.lst ds,1,ρ1):=by unfold qO;rw[h]
theorem du{F:List D->OD}{n:Nat}{g:bN}{ρ ρ1:aS}{ds:List D}{d:D}{q:Nat}(h:g ρ=some (ds,ρ1))(hl:ds.length=n)(hF:F ds=some (d,q)):aK F n g ρ=some (d,q,ρ1):=by unfold aK;rw[h];simp only[hl,Z9,hF]
def ao (l:List Nat):List D:=l.map fun i=>.int (Int.ofNat i)
abbrev iD (k:Nat):D:=.int (Int.ofNat k)
abbrev uL (v:List Nat):OD:=some (.lst (ao v),1)
abbrev v9 (v:List Nat):OD:=some (.tup (ao v),9)
abbrev b9 (b:Bool):OD:=some (.bl b,9)
abbrev i9 (k:Nat):OD:=some ((iD k),9)
def mr (n:Nat)(f:Nat->Nat->Nat)(i:Nat):D:=.tup (ao ((List.range n).map fun j=>f i j))
def aZ (n:Nat)(f:Nat->Nat->Nat):D:=.tup ((List.range n).map fun i=>mr n f i)
abbrev t9 (n:Nat)(f:Nat->Nat->Nat):OD:=some (aZ n f,9)
def e_ (n:Nat)(f:Nat->Nat->Nat)(i:Nat):D:=.lst (ao ((List.range n).map fun j=>f i j))
def bR (n:Nat)(f:Nat->Nat->Nat):D:=.lst ((List.range n).map fun i=>e_ n f i)
@[simp] theorem j5b{n:Nat}{f:Nat->Nat->Nat}:(aZ n f).bM=false:=rfl
@[simp] theorem j5i{n:Nat}{f:Nat->Nat->Nat}{i:Nat}:(mr n f i).bM=false:=rfl
@[simp] theorem j5n{n:Nat}{f:Nat->Nat->Nat}:(bR n f).bM=true:=rfl
@[simp] theorem j5k{n:Nat}{f:Nat->Nat->Nat}{i:Nat}:(e_ n f i).bM=true:=rfl
theorem fy(l:List Nat):(ao l).length=l.length:=by simp[ao]
theorem AG(l:List Nat)(i:Nat):(ao l)[i]? = (l[i]?).map fun x=>.int (Int.ofNat x):=by simp[ao]
theorem AH{n i:Nat}(h:i<n):jj n (Int.ofNat i)=some i:=by
 unfold jj
 rw[Qe (by exact Int.natCast_nonneg i),Qe (by show(i:Int)<n;omega)]
 rfl
theorem x8{α:Type}{xs:List α}{i:Nat}{x:α}(h:xs[i]? = some x):L2.dP xs (Int.ofNat i)=some x:=by
 unfold L2.dP
 rw[AH (Qp.mp h).1]
 exact h
theorem Kq{l:List Nat}{i x:Nat}(h:l[i]? = some x):L2.dP (ao l) (Int.ofNat i)=some (iD x):=x8 (by rw[AG,h];rfl)
theorem Kr{g:Nat->D}{n i:Nat}(h:i<n):L2.dP ((List.range n).map g) (Int.ofNat i)=some (g i):=x8 (by rw[QH,Zc h];rfl)
theorem tV{g:Nat->Nat}{n i:Nat}(h:i<n):L2.dP (ao ((List.range n).map g)) (Int.ofNat i)=some (iD (g i)):=Kq (by rw[QH,Zc h];rfl)
theorem vh{n:Nat}{f:Nat->Nat->Nat}{i:Nat}(h:i<n):cO (aZ n f) (Int.ofNat i)=some (mr n f i):=Kr h
theorem x9{n:Nat}{f:Nat->Nat->Nat}{i j:Nat}(h:j<n):cO (mr n f i) (Int.ofNat j)=some (iD (f i j)):=tV h
theorem VX{n:Nat}{f:Nat->Nat->Nat}{i:Nat}(h:i<n):cO (bR n f) (Int.ofNat i)=some (e_ n f i):=Kr h
theorem VY{n:Nat}{f:Nat->Nat->Nat}{i j:Nat}(h:j<n):cO (e_ n f i) (Int.ofNat j)=some (iD (f i j)):=tV h
theorem jr{n:Nat}{f:Nat->Nat->Nat}:eK (aZ n f)=some n:=by simp[aZ,eK]
theorem x_{n:Nat}{f:Nat->Nat->Nat}:eK (bR n f)=some n:=by simp[bR,eK]
theorem AI{n:Nat}{f g:Nat->Nat->Nat}(h:∀ a b,a<n->b<n->f a b=g a b):bR n f=bR n g:=by
 unfold bR e_
 refine Zx D.lst (ZE fun a ha=>?_)
 refine Zx (fun l=>D.lst (ao l)) (ZE fun b hb=>?_)
 exact h a b (Qz.mp ha) (Qz.mp hb)
theorem Ks{α:Type}{g:Nat->α}{n m:Nat}{x:α}:((List.range n).map g).set m x=(List.range n).map fun a=>if a=m then x else g a:=by
 apply Q8
 intro i
 by_cases hi:i<n
 ·by_cases h:m=i
  ·subst h
   rw[Qw (by simpa using hi),QH,Zc hi]
   simp
  ·rw[Qr h,QH,QH,Zc hi]
   simp
   exact fun z=>absurd z.symm h
 ·rw[Qq (by simp;omega),Qq (by simp;omega)]
theorem Eo{g:Nat->Nat}{n:Nat}:ao ((List.range n).map g)=(List.range n).map fun i=>.int (Int.ofNat (g i)):=by simp[ao]
theorem VZ{n:Nat}{f:Nat->Nat->Nat}{a b v:Nat}:D.lst (((List.range n).map fun i=>e_ n f i).set a (.lst ((ao ((List.range n).map fun j=>f a j)).set b (iD v))))=bR n fun i j=>if i=a/\j=b then v else f i j:=by
 unfold bR
 rw[Ks]
 refine Zx D.lst (ZE fun i hi=>?_)
 by_cases h:i=a
 ·subst h
  rw[Qe rfl,Eo,Ks]
  unfold e_
  rw[Eo]
  refine Zx D.lst (ZE fun j hj=>?_)
  by_cases hj:j=b<;>simp[hj]
 ·rw[Qg h]
  unfold e_
  simp[h]
theorem V0(n:Nat):D.lst (List.replicate n [D.int 0]).flatten=e_ n (fun _ _=>0) 0:=by
 unfold e_ ao
 congr 1
 simp[Jw,List.map_const']
theorem Ku:∀ ds:List D,dG ds=ds.map bP
 | []=>rfl
 | d::ds=>by rw[dG,Ku ds];rfl
def lay (d:D):Bool:=gT d&&(bP d).canLay0
theorem AJ{d:D}(h:lay d=true):gT d=true:=(QB.mp h).1
theorem Kv{d:D}(h:lay d=true):(bP d).canLay0=true:=(QB.mp h).2
theorem Ep:∀ {ds:List D},(∀ d∈ds,lay d=true)->l8 ds=true
 | [],_=>rfl
 | d::ds,h=>by
  show(gT d&&l8 ds)=true
  rw[AJ (h d Qd),Ep fun x m=>h x (Qb _ m)]
  rfl
def ka (d:D):Nat:=(bP d).depth
theorem Er:∀ {ds:List D},(∀ d∈ds,lay d=true)->PyData.canLayAll0 (dG ds)=true
 | [],_=>rfl
 | d::ds,h=>by
  rw[dG,PyData.canLayAll0,Er fun x m=>h x (Qb _ m),Bool.and_true]
  exact Kv (h d Qd)
theorem Es{k:Nat}:∀ {ds:List D},(∀ d∈ds,ka d<=k)->PyData.depthAll (dG ds)<=k
 | [],_=>Q9 _
 | d::ds,h=>by
  rw[dG,PyData.depthAll]
  exact Nat.max_le.mpr ⟨h d Qd,Es fun x m=>h x (Qb _ m)⟩
def Sh (k:Nat)(d:D):Prop:=lay d=true/\ka d<=k
theorem Sh.int{k:Nat}(i:Int):Sh k (.int i):=⟨rfl,Q9 _⟩
theorem Sh.bl{k:Nat}(i:Bool):Sh k (.bl i):=⟨rfl,Q9 _⟩
theorem Sh.au{k:Nat}:Sh k .au:=⟨rfl,Q9 _⟩
theorem Sh.tup{k:Nat}{ds:List D}(h:∀ d∈ds,Sh k d):Sh (k+1) (.tup ds):=⟨QB.mpr ⟨Ep fun d m=>(h d m).1,Er fun d m=>(h d m).1⟩,Yo (Es fun d m=>(h d m).2)⟩
theorem Sh.lst{k:Nat}{ds:List D}(h:∀ d∈ds,Sh k d):Sh (k+1) (.lst ds):=⟨QB.mpr ⟨Ep fun d m=>(h d m).1,Er fun d m=>(h d m).1⟩,Yo (Es fun d m=>(h d m).2)⟩
theorem Sh.ok{k:Nat}{d:D}(h:Sh k d)(hk:k<=64:=by decide):d7 d=true:=by
 show(gT d&&((bP d).canLay0&&decide ((bP d).depth<=64)))=true
 rw[AJ h.1,Kv h.1,ZZ,ZZ]
 exact QF (Qv h.2 hk)
theorem Kw{l:List Nat}{d:D}(m:d∈ao l):Sh 0 d:=by
 obtain⟨x,_,rfl⟩:=Qy.mp m
 exact .int _
theorem Et(l:List Nat):Sh 1 (.lst (ao l)):=.lst fun _ m=>Kw m
theorem tW(l:List Nat):Sh 1 (.tup (ao l)):=.tup fun _ m=>Kw m
theorem V1(n:Nat)(f:Nat->Nat->Nat):Sh 2 (aZ n f):=.tup fun d m=>by
 obtain⟨x,_,rfl⟩:=Qy.mp m
 exact tW _
theorem Eu:∀ l l':List Nat,PyData.eqvAll (dG (ao l)) (dG (ao l'))=decide (l=l')
 | [],[]=>rfl
 | [],_::_=>rfl
 | _::_,[]=>rfl
 | x::l,y::l'=>by
  show(((x:Int)==(y:Int))&&PyData.eqvAll (dG (ao l)) (dG (ao l')))=_
  rw[Eu l l']
  by_cases h:x=y
  ·subst h;simp
  ·have:((x:Int)==(y:Int))=false:=by simp;omega
   rw[this]
   simp[h]
theorem V2(l l':List Nat):nF (.lst (ao l)) (.lst (ao l'))=decide (l=l'):=Eu l l'
theorem Kx(l l':List Nat):nF (.tup (ao l)) (.tup (ao l'))=decide (l=l'):=Eu l l'
theorem Ew(i j:Int):nF (.int i) (.int j)=decide (i=j):=by
 show(i==j)=_
 rw[YH]
theorem Ky(i j:Nat):nF (iD i) (iD j)=decide (i=j):=by
 rw[Ew]
 exact decide_eq_decide.mpr ⟨fun h=>Int.ofNat.inj h,fun h=>by rw[h]⟩
theorem V3(i j:Bool):nF (.bl i) (.bl j)=decide (i=j):=by
 show(i==j)=_
 rw[YH]
theorem V4(l l':List Nat):de (.lst (ao l)) (.lst (ao l'))=some (.bl (decide (l=l'))):=by unfold de;rw[Qe ⟨(Et l).ok,(Et l').ok⟩,V2]
theorem AK(i j:Int):de (.int i) (.int j)=some (.bl (decide (i=j))):=by unfold de;rw[Qe ⟨(Sh.int (k:=0) i).ok,(Sh.int (k:=0) j).ok⟩,Ew]
theorem V5(i j:Int):cJ (.int i) (.int j)=some (.bl (!decide (i=j))):=by unfold cJ;rw[Qe ⟨(Sh.int (k:=0) i).ok,(Sh.int (k:=0) j).ok⟩,Ew]
theorem ya(i j:Nat):de (iD i) (iD j)=some (.bl (decide (i=j))):=by unfold de;rw[Qe ⟨(Sh.int (k:=0) _).ok,(Sh.int (k:=0) _).ok⟩,Ky]
theorem AL(i j:Nat):cJ (iD i) (iD j)=some (.bl (!decide (i=j))):=by unfold cJ;rw[Qe ⟨(Sh.int (k:=0) _).ok,(Sh.int (k:=0) _).ok⟩,Ky]
theorem V6(i j:Bool):cJ (.bl i) (.bl j)=some (.bl (!decide (i=j))):=by unfold cJ;rw[Qe ⟨(Sh.bl (k:=0) i).ok,(Sh.bl (k:=0) j).ok⟩,V3]
theorem Kz{α:Type}{p:α->Bool}:∀ {l:List α} {j:Nat} {x:α},l[j]? = some x->p x=true->(∀ i y,i<j->l[i]? = some y->p y=false)->l.findIdx? p=some j
 | [],j,x,h,_,_=>by simp at h
 | a::l,0,x,h,hp,_=>by
  simp at h;subst h
  simp[List.findIdx?_cons,hp]
 | a::l,j+1,x,h,hp,hn=>by
  have h0:p a=false:=hn 0 a (Nat.succ_pos _) rfl
  have ih:=Kz (l:=l) (j:=j) (x:=x) (by simpa using h) hp fun i y hi hy=>hn (i+1) y (Nat.succ_lt_succ hi) (by simpa using hy)
  simp[List.findIdx?_cons,h0,ih]
structure aW (n:Nat) (f:Nat->Nat->Nat):Prop where
 lo:0<n
 hi:n<=16
 cl:∀ i j,i<n->j<n->f i j<n
 idem:∀ i,i<n->f i i=i
 comm:∀ i j,i<n->j<n->f i j=f j i
 assoc:∀ i j k,i<n->j<n->k<n->f (f i j) k=f i (f j k)
 bot:∃ z,z<n/\∀ j,j<n->f z j=j
def Ex (n:Nat)(f:Nat->Nat->Nat):Bool:=
 decide (0<n)&&decide (n<=16)&&((List.range n).all fun i=>(List.range n).all fun j=>decide (f i j<n))&&((List.range n).all fun i=>decide (f i i=i))&&((List.range n).all fun i=>(List.range n).all fun j=>decide (f i j=f j i)) &&
 ((List.range n).all fun i=>(List.range n).all fun j=>(List.range n).all fun k=>decide (f (f i j) k=f i (f j k)))&&((List.range n).any fun z=>(List.range n).all fun j=>decide (f z j=j))
theorem V7{n:Nat}{f:Nat->Nat->Nat}(h:Ex n f=true):aW n f:=by
 unfold Ex at h
 simp only[Zg,Z4,Zz,JB,Qz]at h
 obtain⟨⟨⟨⟨⟨⟨h1,h2⟩,h3⟩,h4⟩,h5⟩,h6⟩,z,hz,h7⟩:=h
 exact⟨h1,h2,fun i j hi hj=>h3 i hi j hj,h4,fun i j hi hj=>h5 i hi j hj,fun i j k hi hj hk=>h6 i hi j hj k hk,z,hz,h7⟩
theorem aW.V8{n:Nat}{f:Nat->Nat->Nat}(L:aW n f){π ι:Nat->Nat}(h1:∀ i,i<n->π i<n)(h2:∀ i,i<n->ι i<n)(h3:∀ i,i<n->ι (π i)=i)(h4:∀ i,i<n->π (ι i)=i):aW n fun a b=>π (f (ι a) (ι b)):=by
 obtain⟨l1,l2,cl,idem,comm,assoc,z,hz,bot⟩:=L
 refine⟨l1,l2,fun i j hi hj=>h1 _ (cl _ _ (h2 i hi) (h2 j hj)),fun i hi=>?_,fun i j hi hj=>?_,fun i j k hi hj hk=>?_,π z,h1 z hz,fun j hj=>?_⟩
 ·show π (f (ι i) (ι i))=i
  rw[idem _ (h2 i hi),h4 i hi]
 ·show π (f (ι i) (ι j))=π (f (ι j) (ι i))
  rw[comm _ _ (h2 i hi) (h2 j hj)]
 ·show π (f (ι (π (f (ι i) (ι j)))) (ι k))=π (f (ι i) (ι (π (f (ι j) (ι k)))))
  rw[h3 _ (cl _ _ (h2 i hi) (h2 j hj)),h3 _ (cl _ _ (h2 j hj) (h2 k hk)),assoc _ _ _ (h2 i hi) (h2 j hj) (h2 k hk)]
 ·show π (f (ι (π z)) (ι j))=j
  rw[h3 z hz,bot _ (h2 j hj),h4 j hj]
def dw (p:Nat->Nat->Nat)(n:Nat):Nat->List Nat
 | 0=>List.range n
 | k+1=>(dw p n k).eraseIdx (p k (dw p n k).length)
def drawn (p:Nat->Nat->Nat)(n k:Nat):Nat:=(dw p n k).getD (p k (dw p n k).length) 0
theorem KA:∀ (l:List Nat) (j:Nat),(ao l).eraseIdx j=ao (l.eraseIdx j)
 | [],_=>rfl
 | _::_,0=>rfl
 | a::l,j+1=>Zx ((iD a) :: ·) (KA l j)
theorem yb{p:Nat->Nat->Nat}{n:Nat}(hp:∀ k m,0<m->p k m<m):∀ k,k<=n->(dw p n k).length=n-k
 | 0,_=>by simp[dw]
 | k+1,h=>by
  have ih:=yb hp k (Nat.le_of_succ_le h)
  have:=hp k (n-k) (by omega)
  rw[dw,List.length_eraseIdx,ih,Qe this]
  omega
theorem KC:∀ {l:List Nat} {j:Nat} (h:j<l.length),(l[j]::l.eraseIdx j).Perm l
 | a::l,0,_=>List.Perm.refl _
 | a::l,j+1,h=>(List.Perm.swap a (l[j]'(by simpa using h)) (l.eraseIdx j)).trans (List.Perm.cons a (KC (by simpa using h)))
theorem KD{p:Nat->Nat->Nat}{n:Nat}(hp:∀ k m,0<m->p k m<m):∀ k,k<=n->(((List.range k).map (drawn p n))++dw p n k).Perm (List.range n)
 | 0,_=>by simp[dw]
 | k+1,h=>by
  have ih:=KD hp k (Nat.le_of_succ_le h)
  have hl:=yb hp k (by omega:k<=n)
  have hj:p k (dw p n k).length<(dw p n k).length:=by rw[hl];exact hp k _ (by omega)
  refine List.Perm.trans ?_ ih
  rw[JK,Zo,Jr]
  refine List.Perm.append_left _ ?_
  have e:drawn p n k=(dw p n k)[p k (dw p n k).length]:=by unfold drawn;rw[QM,Qx hj];rfl
  show(drawn p n k::(dw p n (k+1))).Perm _
  rw[e,dw]
  exact KC hj
theorem AM{p:Nat->Nat->Nat}{n:Nat}(hp:∀ k m,0<m->p k m<m):((List.range n).map (drawn p n)).Perm (List.range n):=by
 have h:=KD hp n (Qf n)
 have hl:=yb hp n (Qf n)
 rw[YT]at hl
 rw[Zr.mp hl,Za]at h
 exact h
theorem KG{p:Nat->Nat->Nat}{n:Nat}(hp:∀ k m,0<m->p k m<m){i:Nat}(h:i<n):drawn p n i<n:=by
 have m:drawn p n i∈(List.range n).map (drawn p n):=Qy.mpr ⟨i,Qz.mpr h,rfl⟩
 exact Qz.mp ((AM hp).mem_iff.mp m)
def lu (p:Nat->Nat->Nat)(n a:Nat):Nat:=((List.range n).map (drawn p n)).idxOf a
theorem KH{p:Nat->Nat->Nat}{n:Nat}(hp:∀ k m,0<m->p k m<m){a:Nat}(h:a<n):lu p n a<n:=by
 have m:a∈(List.range n).map (drawn p n):=(AM hp).mem_iff.mpr (Qz.mpr h)
 have:=JS m
 rw[Qm,QP]at this
 exact this
theorem KI{p:Nat->Nat->Nat}{n:Nat}(hp:∀ k m,0<m->p k m<m){a:Nat}(h:a<n):drawn p n (lu p n a)=a:=by
 have m:a∈(List.range n).map (drawn p n):=(AM hp).mem_iff.mpr (Qz.mpr h)
 have:=List.getElem_idxOf (JS m)
 rw[List.getElem_map,List.getElem_range]at this
 exact this
theorem KJ{p:Nat->Nat->Nat}{n:Nat}(hp:∀ k m,0<m->p k m<m){i:Nat}(h:i<n):lu p n (drawn p n i)=i:=by
 have nd:((List.range n).map (drawn p n)).Nodup:=(AM hp).nodup_iff.mpr List.nodup_range
 have hi:i<((List.range n).map (drawn p n)).length:=by simpa using h
 have:=nd.idxOf_getElem i hi
 rw[List.getElem_map,List.getElem_range]at this
 exact this
theorem vi{i n:Nat}{tt:cf}{te:aF}{ρ:aS}{deep:Bool}(hi:ρ.length=i)(b:Nat->Bool)(v:Nat->D)(q:Nat->Nat)(ht:∀ j,j<n->tt (ρ++[(i9 j)])=some (b j,ρ++[(i9 j)]))
  (he:∀ j,j<n->b j=true->te (ρ++[(i9 j)])=some (v j,q j,ρ++[(i9 j)])) (hd:deep=true->∀ j,(v j).bM=true->q j=1:=by intro h;cases h) :
  km 1 (bg i) tt te deep (cV n) ρ=some (((List.range n).filter b).map v,ρ):=by
 have h:=p6 (k:=1) (pt:=bg i) (tt:=tt) (te:=te) (deep:=deep) (cV n) (fun _=>ρ) b v (fun j hj=>?_)
 ·rw[iA]at h
  exact h
 ·rw[iA]at hj
  refine⟨ρ++[(i9 j)],_,?_,ht j hj,?_⟩
  ·have:(cV n)[j]'(by rw[iA];exact hj)=(iD j):=by simp[cV]
   rw[this]
   unfold bg
   rw[Qe (by simp[hi])]
   subst hi
   simp[JL]
  ·by_cases hb:b j=true
   ·rw[Qe hb]
    exact⟨q j,_,he j hj hb,fun⟨h1,h2,h3⟩=>h3 (hd h1 j h2),by simp⟩
   ·rw[Qg hb]
    simp
theorem KN{z:Nat}:∀ n:Nat,(List.range n).filter (fun w=>decide (w=z))=if z<n then [z]else []
 | 0=>by simp
 | n+1=>by
  rw[JK,List.filter_append,KN n]
  by_cases h:n=z
  ·subst h;simp
  ·have:¬ (n=z):=h
   by_cases h2:z<n
   ·rw[Qe h2,Qe (by omega)];simp[h]
   ·rw[Qg h2,Qg (by omega)];simp[h]
theorem V9{n:Nat}{g:Nat->Nat}:(List.range n).map g=List.range n ↔ ∀ j,j<n->g j=j:=by
 constructor
 ·intro h j hj
  have:=Zx (fun l=>l[j]?) h
  simpa [hj]using this
 ·intro h
  have e:=ZE (l:=List.range n) (f:=g) (g:=id) fun a ha=>h a (Qz.mp ha)
  rw[e,List.map_id]
namespace aW
variable {z:Nat}
variable {n:Nat}{f:Nat->Nat->Nat}(L:aW n f)
include L
theorem nW{x:Nat}(hz:z<n)(bz:∀ j,j<n->f z j=j)(hx:x<n)(bx:∀ j,j<n->f x j=j):x=z:=by
 have h1:=bx z hz
 have h2:=bz x hx
 rw[L.comm x z hx hz]at h1
 omega
theorem fold_lt:∀ {l:List Nat} {a:Nat},a<n->(∀ x∈l,x<n)->l.foldl f a<n
 | [],a,ha,_=>ha
 | y::l,a,ha,h=>fold_lt (l:=l) (L.cl a y ha (h y Qd)) fun x m=>h x (Qb _ m)
theorem KO:∀ {l:List Nat} {a x:Nat},a<n->x<n->(∀ x∈l,x<n)->f x a=a->f x (l.foldl f a)=l.foldl f a
 | [],a,x,_,_,_,e=>e
 | y::l,a,x,ha,hx,h,e=>by
  have hy:=h y Qd
  refine KO (l:=l) (L.cl a y ha hy) hx (fun x m=>h x (Qb _ m)) ?_
  rw[<- L.assoc x a y hx ha hy,e]
theorem jG:∀ {l:List Nat} {a x:Nat},a<n->(∀ x∈l,x<n)->x∈l->f x (l.foldl f a)=l.foldl f a
 | y::l,a,x,ha,h,m=>by
  have hy:=h y Qd
  have hl:∀ x∈l,x<n:=fun x m=>h x (Qb _ m)
  rcases Qi.mp m with rfl|m
  ·refine KO L (l:=l) (L.cl a x ha hy) hy hl ?_
   rw[L.comm a x ha hy,<- L.assoc x x a hy hy ha,L.idem x hy]
  ·exact jG (l:=l) (L.cl a y ha hy) hl m
theorem nX(hz:z<n)(w:Nat)(hw:w<n):(∀ x,x<n->f x w=w) ↔ w=(List.range n).foldl f z:=by
 have hr:∀ x∈List.range n,x<n:=fun x m=>Qz.mp m
 have ht:=L.fold_lt hz hr
 have up:∀ x,x<n->f x ((List.range n).foldl f z)=(List.range n).foldl f z:=fun x hx=>L.jG hz hr (Qz.mpr hx)
 constructor
 ·intro h
  have h1:=h _ ht
  have h2:=up w hw
  rw[L.comm _ _ ht hw]at h1
  omega
 ·intro h x hx
  rw[h];exact up x hx
end aW
theorem Ey{pt:iR}{body:aI}{d:D}{q:Nat}:∀ (ds:List D) (I:aS->Prop) (ok:Nat->Bool) (ρ:aS),
  (∀ i (h:i<ds.length) ρ,I ρ->∃ ρ1,pt ds[i] ρ=some ρ1/\(ok i=true->∃ ρ2,body ρ1=some (.nx ρ2)/\I ρ2)/\(ok i=false->body ρ1=some (.rt d q)))->I ρ->
  ((List.range ds.length).all ok=true->∃ ρ',gh pt body ds ρ=some (.nx ρ')/\I ρ')/\((List.range ds.length).all ok=false->gh pt body ds ρ=some (.rt d q))
 | [],I,ok,ρ,_,h0=>⟨fun _=>⟨ρ,rfl,h0⟩,fun h=>by simp at h⟩
 | x::ds,I,ok,ρ,h,h0=>by
  obtain⟨ρ1,h1,h2,h3⟩:=h 0 (by simp) ρ h0
  have e1:pt x ρ=some ρ1:=h1
  have er:(List.range (x::ds).length).all ok=(ok 0&&(List.range ds.length).all fun i=>ok (i+1)):=by
   rw[QL,ZV,YR,YB];rfl
  rw[er]
  cases hk:ok 0 with
  | false=>
   refine⟨fun z=>by simp at z,fun _=>?_⟩
   unfold gh
   simp only[e1,h3 hk]
  | true=>
   obtain⟨ρ2,h4,h5⟩:=h2 hk
   obtain⟨i1,i2⟩:=Ey ds I (fun i=>ok (i+1)) ρ2 (fun i hi=>h (i+1) (by simpa using hi)) h5
   rw[ZZ]
   unfold gh
   simp only[e1,h4]
   exact⟨i1,i2⟩
theorem range_all{n:Nat}{p:Nat->Bool}:(List.range n).all p=true ↔ ∀ i,i<n->p i=true:=by
 rw[Zz]
 exact⟨fun h i hi=>h i (Qz.mpr hi),fun h i hi=>h i (Qz.mp hi)⟩
theorem KP(p:Nat->Bool):∀ l:List Nat,((List.range l.length).all fun i=>p (l.getD i 0))=l.all p
 | []=>rfl
 | a::l=>by
  rw[QL,ZV,YR,YB,YR,<- KP p l]
  rfl
theorem Ez{l:List Nat}{i:Nat}(h:i<(ao l).length):(ao l)[i]=(iD (l.getD i 0)):=by
 have h':i<l.length:=by rw[fy]at h;exact h
 simp[ao,h']
theorem yc{l:List Nat}{i:Nat}(h:i<l.length):l.getD i 0∈l:=by
 rw[QM,Qx h]
 exact Q6 h
theorem V_{i:Nat}{te:aF}{ρ:aS}{deep:Bool}(l:List Nat)(hi:ρ.length=i)(v:Nat->D)(q:Nat->Nat)
  (he:∀ x,x∈l->te (ρ++[(i9 x)])=some (v x,q x,ρ++[(i9 x)])) (hd:deep=true->∀ j,(v j).bM=true->q j=1:=by intro h;cases h) :
  km 1 (bg i) d5 te deep (ao l) ρ=some (l.map v,ρ):=by
 have h:=p6 (k:=1) (pt:=bg i) (tt:=d5) (te:=te) (deep:=deep) (ao l) (fun _=>ρ) (fun _=>true) (fun j=>v (l.getD j 0)) (fun j hj=>?_)
 ·rw[fy,show(List.range l.length).filter (fun _=>true)=List.range l.length by simp]at h
  rw[h]
  have e:(List.range l.length).map (fun j=>v (l.getD j 0))=l.map v:=by
   apply Q8
   intro k
   by_cases hk:k<l.length
   ·simp[hk]
   ·rw[Qq (by simp;omega),Qq (by simp;omega)]
  rw[e]
 ·have AN:j<l.length:=by rw[fy]at hj;exact hj
  refine⟨ρ++[(i9 (l.getD j 0))],_,?_,rfl,?_⟩
  ·rw[Ez hj]
   unfold bg
   rw[Qe (by simp[hi])]
   subst hi
   simp[JL]
  ·rw[Qe rfl]
   exact⟨q _,_,he _ (yc AN),fun⟨h1,h2,h3⟩=>h3 (hd h1 _ h2),by simp⟩
theorem Wa{i:Nat}{tt:cf}{te:aF}{ρ:aS}{deep:Bool}(l:List Nat)(hi:ρ.length=i)(b:Nat->Bool)(v:Nat->D)(q:Nat->Nat)
  (ht:∀ x,x∈l->tt (ρ++[(i9 x)])=some (b x,ρ++[(i9 x)]))
  (he:∀ x,x∈l->b x=true->te (ρ++[(i9 x)])=some (v x,q x,ρ++[(i9 x)])) (hd:deep=true->∀ j,(v j).bM=true->q j=1:=by intro h;cases h) :
  km 1 (bg i) tt te deep (ao l) ρ=some ((l.filter b).map v,ρ):=by
 have h:=p6 (k:=1) (pt:=bg i) (tt:=tt) (te:=te) (deep:=deep) (ao l) (fun _=>ρ) (fun j=>b (l.getD j 0)) (fun j=>v (l.getD j 0)) (fun j hj=>?_)
 ·rw[fy]at h
  rw[h]
  have e:((List.range l.length).filter fun j=>b (l.getD j 0)).map (fun j=>v (l.getD j 0))=(l.filter b).map v:=by
   have e1:(List.range l.length).map (fun j=>l.getD j 0)=l:=by
    apply Q8
    intro k
    by_cases hk:k<l.length
    ·simp[hk]
    ·rw[Qq (by simp;omega),Qq (by omega)]
   have e2:=Zx (fun m=>(List.filter b m).map v) e1
   simp only[List.filter_map,Zn]at e2
   exact e2
  rw[e]
 ·have AN:j<l.length:=by rw[fy]at hj;exact hj
  refine⟨ρ++[(i9 (l.getD j 0))],_,?_,ht _ (yc AN),?_⟩
  ·rw[Ez hj]
   unfold bg
   rw[Qe (by simp[hi])]
   subst hi
   simp[JL]
  ·by_cases hb:b (l.getD j 0)=true
   ·rw[Qe hb]
    exact⟨q _,_,he _ (yc AN) hb,fun⟨h1,h2,h3⟩=>h3 (hd h1 _ h2),by simp⟩
   ·rw[Qg hb]
    simp
theorem il{g:D->D->Option D}{fa fb:aF}{ρ ρ1 ρ2:aS}{x y d:D}{q q':Nat}(ha:fa ρ=some (x,q,ρ1))(hb:fb ρ1=some (y,q',ρ2))(hg:g x y=some d):e2 g fa fb ρ=some (d,9,ρ2):=by unfold e2;rw[ha];simp only[hb,hg]
theorem mv{f:aF}{ρ ρ1:aS}{b:Bool}{q:Nat}(h:f ρ=some (.bl b,q,ρ1)):bj f ρ=some (b,ρ1):=by unfold bj;rw[h]
theorem AO{i:Nat}{g:bN}{ρ ρ1 ρ2:aS}{ds:List D}{d:D}(hl:uV ρ[i]? = true)(hg:g ρ=some ([d],ρ1))(h1:ρ1[i]? = some (some (.lst ds,1)))(hn:ds.length<=1000)(e:ρ1.set i (some (.lst (ds++[d]),1))=ρ2):eI (jy i g) ρ=some (.nx ρ2):=by
 unfold eI jy
 rw[Qe hl,hg]
 simp only[h1,Qe hn,e]
theorem AQ{b:List D->Option D}{g:bN}{ρ ρ1:aS}{ds:List D}{d:D}(h:g ρ=some (ds,ρ1))(hd:b ds=some d):eB b g ρ=some (d,9,ρ1):=by unfold eB;rw[h];simp only[hd]
def dy (n:Nat)(r:Nat->Nat):D:=.tup (ao ((List.range n).map r))
abbrev r9 (n:Nat)(r:Nat->Nat):OD:=some (dy n r,9)
@[simp] theorem j2y{n:Nat}{r:Nat->Nat}:(dy n r).bM=false:=rfl
theorem yd{n i:Nat}{r:Nat->Nat}(h:i<n):cO (dy n r) (Int.ofNat i)=some (iD (r i)):=tV h
theorem vj(l l':List Nat):cJ (.tup (ao l)) (.tup (ao l'))=some (.bl (!decide (l=l'))):=by unfold cJ;rw[Qe ⟨(tW l).ok,(tW l').ok⟩,Kx]
theorem KQ(n:Nat)(r:Nat->Nat):Sh 1 (dy n r):=tW _
namespace aW
variable {x y z:Nat}
variable {n:Nat}{f:Nat->Nat->Nat}(L:aW n f)
include L
theorem le_trans(hx:x<n)(hy:y<n)(hz:z<n)(h1:f x y=y)(h2:f y z=z):f x z=z:=by
 rw[<- h2,<- L.assoc x y z hx hy hz,h1]
theorem iX(hx:x<n)(hy:y<n)(h1:f x y=y)(h2:f y x=x):x=y:=by
 rw[L.comm y x hy hx,h1]at h2;exact h2.symm
theorem tY(hx:x<n)(hy:y<n):f x (f x y)=f x y:=by rw[<- L.assoc x x y hx hx hy,L.idem x hx]
theorem EA(hx:x<n)(hy:y<n):f y (f x y)=f x y:=by rw[L.comm x y hx hy];exact L.tY hy hx
theorem lub(hx:x<n)(hy:y<n)(hz:z<n)(h1:f x z=z)(h2:f y z=z):f (f x y) z=z:=by rw[L.assoc x y z hx hy hz,h2,h1]
omit L
def low (n:Nat)(f:Nat->Nat->Nat)(x:Nat):List Nat:=(List.range n).filter fun y=>decide (f y x=x)
theorem gm:y∈low n f x ↔ y<n/\f y x=x:=by simp[low]
def lr (n:Nat)(f:Nat->Nat->Nat)(z:Nat)(r:Nat->Nat)(x:Nat):Nat:=((low n f x).map r).foldl f z
include L
variable {z:Nat}(hz:z<n)(bz:∀ j,j<n->f z j=j){r s:Nat->Nat}(hr:∀ i,i<n->r i<n)
include hz bz hr
theorem nY:∀ y∈(low n f x).map r,y<n:=fun y m=>by
 obtain⟨k,hk,rfl⟩:=Qy.mp m
 exact hr k (gm.mp hk).1
theorem ye(x:Nat):lr n f z r x<n:=L.fold_lt hz (nY L hz bz hr)
end aW
theorem j4{α:Type}{us:List α}(h:us.length=1):∃ a,us=[a]:=match us,h with|[a],_=>⟨a,rfl⟩
theorem gn{α:Type}{us:List α}(h:us.length=2):∃ a b,us=[a,b]:=by
 cases us with
 | nil=>cases h
 | cons a us=>
  obtain⟨b,hh⟩:=j4 (JR h)
  exact⟨a,b,by rw[hh]⟩
theorem m7{α:Type}{us:List α}(h:us.length=3):∃ a b c,us=[a,b,c]:=by
 cases us with
 | nil=>cases h
 | cons a us=>
  obtain⟨b,c,hh⟩:=gn (JR h)
  exact⟨a,b,c,by rw[hh]⟩
theorem yf{α:Type}{us:List α}(h:us.length=4):∃ a b c d,us=[a,b,c,d]:=by
 cases us with
 | nil=>cases h
 | cons a us=>
  obtain⟨b,c,d,hh⟩:=m7 (JR h)
  exact⟨a,b,c,d,by rw[hh]⟩
theorem Wb{α:Type}{us:List α}(h:us.length=5):∃ a b c d e,us=[a,b,c,d,e]:=by
 cases us with
 | nil=>cases h
 | cons a us=>
  obtain⟨b,c,d,e,hh⟩:=yf (JR h)
  exact⟨a,b,c,d,e,by rw[hh]⟩
theorem Wc{pt:iR}{body:aI}{d:D}{ds:List D}{ρ ρ1 ρ2:aS}(h1:pt d ρ=some ρ1)(h2:body ρ1=some (.nx ρ2)):gh pt body (d::ds) ρ=gh pt body ds ρ2:=by
 show(match pt d ρ with|none=>none|some ρ1=>_)=_
 simp only[h1,h2]
theorem KR{α J σ:Type}{pt:iR}{body:aI}(enc:α->D)(S:σ->J->aS)(g:σ->α->σ)(I:σ->Prop):∀ (l:List α) (s:σ) (j:J),I s->
  (∀ x∈l,∀ s j,I s->I (g s x)/\∃ ρ1 j',pt (enc x) (S s j)=some ρ1/\body ρ1=some (.nx (S (g s x) j')))->∃ j',gh pt body (l.map enc) (S s j)=some (.nx (S (l.foldl g s) j'))/\I (l.foldl g s)
 | [],s,j,i,_=>⟨j,rfl,i⟩
 | x::l,s,j,i,h=>by
  obtain⟨i1,ρ1,j1,h1,h2⟩:=h x Qd s j i
  obtain⟨j2,e,i2⟩:=KR enc S g I l (g s x) j1 i1 fun y m=>h y (Qb _ m)
  exact⟨j2,(Wc h1 h2).trans e,i2⟩
theorem KS{c:cf}{b:aI}{Q:aS->Prop}(I:Nat->aS->Prop)
  (h:∀ k ρ,I k ρ->(∃ ρ1,c ρ=some (false,ρ1)/\Q ρ1)\/(∃ ρ1 ρ2 k',c ρ=some (true,ρ1)/\b ρ1=some (.nx ρ2)/\k'<k/\I k' ρ2)):∀ m k ρ,k<m->I k ρ->∃ ρ',nK c b m ρ=some (.nx ρ')/\Q ρ'
 | 0,k,_,hk,_=>absurd hk (JI k)
 | m+1,k,ρ,hk,i=>by
  rcases h k ρ i with⟨ρ1,h1,h2⟩|⟨ρ1,ρ2,k',h1,h2,h3,h4⟩
  ·exact⟨ρ1,by unfold nK;simp[h1],h2⟩
  ·obtain⟨ρ',e,q⟩:=KS I h m k' ρ2 (by omega) h4
   refine⟨ρ',?_,q⟩
   unfold nK
   simp[h1,h2,e]
theorem Wd{c:cf}{b:aI}{Q:aS->Prop}(I:Nat->aS->Prop){k:Nat}{ρ:aS}(hk:k<1000)(i:I k ρ)
  (h:∀ k ρ,I k ρ->(∃ ρ1,c ρ=some (false,ρ1)/\Q ρ1)\/(∃ ρ1 ρ2 k',c ρ=some (true,ρ1)/\b ρ1=some (.nx ρ2)/\k'<k/\I k' ρ2)):∃ ρ',C7 c b ρ=some (.nx ρ')/\Q ρ':=KS I h 1000 k ρ hk i
def gv (v:List Nat)(i:Nat):Nat:=v.getD i 0
theorem EB{v:List Nat}{i:Nat}(h:i<v.length):v[i]? = some (gv v i):=by unfold gv;simp[h]
theorem We{v:List Nat}{i:Nat}(h:i<v.length):gv v i∈v:=yc h
theorem KU{v:List Nat}{i:Nat}(h:i<v.length):cO (.tup (ao v)) (Int.ofNat i)=some (iD (gv v i)):=Kq (EB h)
theorem Wf{v:List Nat}{i:Nat}(h:i<v.length)(x j:Nat):gv (v.set i x) j=if j=i then x else gv v j:=by
 unfold gv
 rw[QM,QM]
 by_cases e:j=i
 ·subst e;rw[Qe rfl,Qw h];rfl
 ·rw[Qg e,Qr (fun z=>e z.symm)]
theorem KW{u v:List Nat}(h:u.length=v.length)(k:∀ i,i<u.length->gv u i=gv v i):u=v:=by
 apply Q8
 intro i
 by_cases hi:i<u.length
 ·rw[EB hi,EB (by omega),k i hi]
 ·rw[Qq (by omega),Qq (by omega)]
structure Vn (n p:Nat) (v:List Nat):Prop where
 len:v.length=p
 lt:∀ x∈v,x<n
theorem Vn.gv{n p:Nat}{v:List Nat}(h:Vn n p v){i:Nat}(hi:i<p):gv v i<n:=h.lt _ (We (by rw[h.len];exact hi))
theorem Vn.set{n p:Nat}{v:List Nat}(h:Vn n p v){i x:Nat}(hx:x<n):Vn n p (v.set i x):=⟨by rw[Qu];exact h.len,fun y hy=>by
 rcases List.mem_or_eq_of_mem_set hy with h' | h'
 ·exact h.lt y h'
 ·rw[h'];exact hx⟩
def fN (f:Nat->Nat->Nat)(p:Nat)(u v:List Nat):Prop:=∀ i,i<p->f (gv u i) (gv v i)=gv v i
abbrev lx:=Nat×(List Nat->Nat)
def bC (f:Nat->Nat->Nat)(v:List Nat)(s:lx):List Nat:=v.set s.1 (f (gv v s.1) (s.2 v))
structure ly (n p:Nat) (f:Nat->Nat->Nat) (s:lx):Prop where
 pl:s.1<p
 lt:∀ v,Vn n p v->s.2 v<n
 mono:∀ u v,Vn n p u->Vn n p v->fN f p u v->f (s.2 u) (s.2 v)=s.2 v
def rA (f:Nat->Nat->Nat)(l:List lx)(v:List Nat):Prop:=∀ s∈l,f (s.2 v) (gv v s.1)=gv v s.1
namespace aW
variable {s:lx}{u v:List Nat}
variable {n:Nat}{f:Nat->Nat->Nat}(L:aW n f){p:Nat}
include L
theorem fg(h:Vn n p v):fN f p v v:=fun i hi=>L.idem _ (h.gv hi)
theorem iF{w:List Nat}(hu:Vn n p u)(hv:Vn n p v)(hw:Vn n p w)(a:fN f p u v)(b:fN f p v w):fN f p u w:=fun i hi=>L.le_trans (hu.gv hi) (hv.gv hi) (hw.gv hi) (a i hi) (b i hi)
theorem gK(hu:Vn n p u)(hv:Vn n p v)(a:fN f p u v)(b:fN f p v u):u=v:=
 KW (hu.len.trans hv.len.symm) fun i hi=>by
  rw[hu.len]at hi
  exact L.iX (hu.gv hi) (hv.gv hi) (a i hi) (b i hi)
theorem iG(hs:ly n p f s)(h:Vn n p v):Vn n p (bC f v s):=h.set (L.cl _ _ (h.gv hs.pl) (hs.lt v h))
theorem gL(hs:ly n p f s)(h:Vn n p v)(i:Nat):gv (bC f v s) i=if i=s.1 then f (gv v s.1) (s.2 v)else gv v i:=Wf (by rw[h.len];exact hs.pl) _ _
theorem iY(hs:ly n p f s)(h:Vn n p v):fN f p v (bC f v s):=fun i hi=>by
 rw[L.gL hs h]
 by_cases e:i=s.1
 ·subst e;rw[Qe rfl];exact L.tY (h.gv hi) (hs.lt v h)
 ·rw[Qg e];exact L.idem _ (h.gv hi)
theorem nZ(hs:ly n p f s)(hu:Vn n p u)(hv:Vn n p v)(a:fN f p u v):fN f p (bC f u s) (bC f v s):=fun i hi=>by
 rw[L.gL hs hu,L.gL hs hv]
 by_cases e:i=s.1
 ·subst e
  rw[Qe rfl,Qe rfl]
  have h1:=hu.gv hs.pl
  have h2:=hs.lt u hu
  have h3:=hv.gv hs.pl
  have h4:=hs.lt v hv
  exact L.lub h1 h2 (L.cl _ _ h3 h4) (L.le_trans h1 h3 (L.cl _ _ h3 h4) (a _ hs.pl) (L.tY h3 h4)) (L.le_trans h2 h4 (L.cl _ _ h3 h4) (hs.mono u v hu hv a) (L.EA h3 h4))
 ·rw[Qg e,Qg e];exact a i hi
theorem iZ(hs:ly n p f s)(h:Vn n p v):bC f v s=v ↔ f (s.2 v) (gv v s.1)=gv v s.1:=by
 constructor
 ·intro e
  have:=Zx (fun u=>gv u s.1) e
  rw[L.gL hs h,Qe rfl]at this
  rw[L.comm _ _ (hs.lt v h) (h.gv hs.pl)]
  exact this
 ·intro e
  refine KW (by unfold bC;rw[Qu]) fun i hi=>?_
  rw[L.gL hs h]
  by_cases e':i=s.1
  ·subst e';rw[Qe rfl,L.comm _ _ (h.gv hs.pl) (hs.lt v h)];exact e
  ·rw[Qg e']
theorem i5:∀ {l:List lx} {v:List Nat},(∀ s∈l,ly n p f s)->Vn n p v->Vn n p (l.foldl (bC f) v)
 | [],v,_,h=>h
 | s::l,v,hs,h=>i5 (l:=l) (fun t m=>hs t (Qb _ m)) (L.iG (hs s Qd) h)
theorem gM:∀ {l:List lx} {v:List Nat},(∀ s∈l,ly n p f s)->Vn n p v->fN f p v (l.foldl (bC f) v)
 | [],v,_,h=>L.fg h
 | s::l,v,hs,h=>by
  have h1:=L.iG (hs s Qd) h
  have hl:∀ t∈l,ly n p f t:=fun t m=>hs t (Qb _ m)
  exact L.iF h h1 (L.i5 (l:=l) hl h1) (L.iY (hs s Qd) h) (gM (l:=l) hl h1)
theorem fO{a:List Nat}(ha:Vn n p a):∀ {l:List lx} {v:List Nat},(∀ s∈l,ly n p f s)->Vn n p v->rA f l a->fN f p v a->fN f p (l.foldl (bC f) v) a
 | [],v,_,h,_,e=>e
 | s::l,v,hs,h,c,e=>by
  have s0:=hs s Qd
  have h1:=L.iG s0 h
  have hl:∀ t∈l,ly n p f t:=fun t m=>hs t (Qb _ m)
  refine fO ha (l:=l) hl h1 (fun t m=>c t (Qb _ m)) ?_
  have:=L.nZ s0 h ha e
  rw[(L.iZ s0 ha).mpr (c s Qd)]at this
  exact this
theorem fE:∀ {l:List lx} {v:List Nat},(∀ s∈l,ly n p f s)->Vn n p v->(l.foldl (bC f) v=v ↔ rA f l v)
 | [],v,_,h=>⟨fun _ _ m=>(QS m).elim,fun _=>rfl⟩
 | s::l,v,hs,h=>by
  have s0:=hs s Qd
  have h1:=L.iG s0 h
  have hl:∀ t∈l,ly n p f t:=fun t m=>hs t (Qb _ m)
  constructor
  ·intro e
   have e0:l.foldl (bC f) (bC f v s)=v:=e
   have up:=L.gM hl h1
   rw[e0]at up
   have e1:bC f v s=v:=L.gK h1 h up (L.iY s0 h)
   rw[e1]at e0
   have c:=(fE (l:=l) hl h).mp e0
   intro t m
   rcases Qi.mp m with rfl|m
   ·exact(L.iZ s0 h).mp e1
   ·exact c t m
  ·intro c
   show l.foldl (bC f) (bC f v s)=v
   rw[(L.iZ s0 h).mpr (c s Qd)]
   exact(fE (l:=l) hl h).mpr fun t m=>c t (Qb _ m)
def cnt (n:Nat)(f:Nat->Nat->Nat)(x:Nat):Nat:=((List.range n).filter fun y=>decide (f x y=y)).length
def mu (n:Nat)(f:Nat->Nat->Nat)(v:List Nat):Nat:=(v.map (cnt n f)).sum
omit L in
theorem Wg(x:Nat):cnt n f x<=n:=by
 have:=Zk (fun y=>decide (f x y=y)) (List.range n)
 rw[QP]at this
 exact this
omit L in
theorem yg(h:Vn n p v):mu n f v<=p*n:=by
 have key:∀ l:List Nat,(l.map (cnt n f)).sum<=l.length*n:=by
  intro l
  induction l with
  | nil=>simp
  | cons x l ih=>
   have:=Wg (n:=n) (f:=f) x
   simp only[QR,JE,QL,YS]
   omega
 have:=key v
 rw[h.len]at this
 exact this
omit L in
theorem KY{q r:Nat->Bool}{a:Nat}:∀ {l:List Nat},(∀ x∈l,r x=true->q x=true)->a∈l->q a=true->r a=false->(l.filter r).length<(l.filter q).length
 | y::l,h,ha,hq,hr=>by
  have hl:∀ x∈l,r x=true->q x=true:=fun x m=>h x (Qb _ m)
  have le:∀ l:List Nat,(∀ x∈l,r x=true->q x=true)->(l.filter r).length<=(l.filter q).length:=by
   intro l
   induction l with
   | nil=>intro _;simp
   | cons z l ih=>
    intro h
    have i:=ih fun x m=>h x (Qb _ m)
    by_cases hz:r z=true
    ·rw[Zf hz,Zf (h z Qd hz)]
     simp only[QL];omega
    ·rw[ZC hz]
     by_cases tZ:q z=true
     ·rw[Zf tZ];simp only[QL];omega
     ·rw[ZC tZ];exact i
  by_cases e:y=a
  ·subst e
   rw[ZC (by rw[hr];simp),Zf hq]
   have:=le l hl
   simp only[QL];omega
  ·have EC:a∈l:=by
    rcases Qi.mp ha with h' | h'
    ·exact absurd h'.symm e
    ·exact h'
   have i:=KY (l:=l) hl EC hq hr
   by_cases hz:r y=true
   ·rw[Zf hz,Zf (h y Qd hz)]
    simp only[QL];omega
   ·rw[ZC hz]
    by_cases tZ:q y=true
    ·rw[Zf tZ];simp only[QL];omega
    ·rw[ZC tZ];exact i
theorem t4{x y:Nat}(hx:x<n)(hy:y<n)(h:f x y=y)(ne:x≠y):cnt n f y<cnt n f x:=by
 refine KY (a:=x) (fun k m hk=>?_) (Qz.mpr hx) (QF (L.idem x hx)) (QJ fun e=>ne (L.iX hx hy h e))
 exact QF (L.le_trans hx hy (Qz.mp m) h (Ze hk))
theorem rB(hu:Vn n p u)(hv:Vn n p v)(a:fN f p u v)(ne:u≠v):mu n f v<mu n f u:=by
 have key:∀ (u v:List Nat),u.length=v.length->(∀ x∈u,x<n)->(∀ x∈v,x<n)->(∀ i,i<u.length->f (gv u i) (gv v i)=gv v i)->((v.map (cnt n f)).sum<=(u.map (cnt n f)).sum)/\(u≠v->(v.map (cnt n f)).sum<(u.map (cnt n f)).sum):=by
  intro u
  induction u with
  | nil=>
   intro v hl _ _ _
   have:v=[]:=Zr.mp hl.symm
   subst this
   exact⟨Qf _,fun h=>absurd rfl h⟩
  | cons x u ih=>
   intro v hl h1 h2 h3
   cases v with
   | nil=>cases hl
   | cons y v=>
    have gZ:u.length=v.length:=by simpa using hl
    obtain⟨i1,i2⟩:=ih v gZ (fun z m=>h1 z (Qb _ m)) (fun z m=>h2 z (Qb _ m)) (fun i hi=>h3 (i+1) (by simpa using hi))
    have e0:f x y=y:=h3 0 (by simp)
    have hx:=h1 x Qd
    have hy:=h2 y Qd
    simp only[QR,JE]
    by_cases e:x=y
    ·subst e
     exact⟨by omega,fun h=>by have:=i2 (fun z=>h (by rw[z]));omega⟩
    ·have:=L.t4 hx hy e0 e
     exact⟨by omega,fun _=>by omega⟩
 exact(key u v (hu.len.trans hv.len.symm) hu.lt hv.lt (fun i hi=>a i (by rw[<- hu.len];exact hi))).2 ne
end aW
end L3
namespace My
open PySem PySem.Spec PyProof.Rows L2 L3
variable {F:D->List D->Option D}{H r:Nat->Nat}{a d:D}{an od p0:Option Addr}{b:Nat×Nat}{body:aI}{cd ct dc oc pm:Value}{ds br cq pZ:List D}{f:Nat->Nat->Nat}{fa fb fc fe te:aF}{cj vg ps:List Str}{g:bN}{g1 g2:D->D->Option D}{h i j m n p q q':Nat}{l v v':List Nat}{ns:List Int}{qual x:Str}{s:lx}{sl:Array (Option Value)}{st:Stmt}{ρ ρ1 ρ2:aS}
def top (i:Nat):Stmt:=PySem.Challenge.pw_ladderhall_k60_whole_kept.main.body.getD i (.Pass ⟨0,0,0,0⟩)
structure Bt (mg:Str->Option Value):Prop where
 i6:mg "ValueError" = none
 rC:mg "all" = none
 t5:mg "bool" = none
 yh:mg "int" = none
 aG:mg "isinstance" = none
 aQ:mg "len" = none
 i7:mg "list" = none
 n4:mg "max" = none
 aH:mg "range" = none
 n6:mg "sorted" = none
 yi:mg "str" = none
 bV:mg "tuple" = none
structure Xt (K:PySem.W.Frag) (mg:Str->Option Value):Prop where
 u:oQ K mg "RiseError" ["NoPlace","NoRule"]
 mw:∃ C,zY K mg "NoPlace" C
 n8:∃ C,zY K mg "NoRule" C
 mx:dS K mg ["NoPlace","NoRule"] "NoHouse"
 p9:dS K mg ["NoPlace","NoRule"] "NoMap"
 my:dS K mg ["NoPlace","NoRule"] "NoPlace"
 n9:dS K mg ["NoPlace","NoRule"] "NoRule"
 n_:dS K mg ["NoPlace","NoRule"] "NoStep"
 kE:dS K mg ["NoPlace","NoRule"] "TooGreat"
structure Kt (K:PySem.W.Frag):Prop where
 jH:kB K "Keeper" "begins"
 oa:kB K "Keeper" "ladder"
 d8:kB K "Keeper" "many_raises"
 og:kB K "Keeper" "places"
 oh:kB K "Keeper" "ways"
 jI:kB K "Keeper" "worths"
section
variable {P:Program}{w:World}{K:PySem.W.Frag}{mg:Str->Option Value}{base:Heap}
def KZ:aI:=bF (e2 de (fJ (bU 0 (aa 1)) (aa 2)) (aa 2))
def oV:=bH 3 (KZ)
theorem Wh:af ["ladder","one","other"] ["ladder","one","other"] (aJ (top 17)):=ck (by decide +kernel)
theorem K0(B:Bt mg)(a:At K mg "is_below" (top 17) ["ladder","one","other"]):ay P w K mg base 1 "is_below" 3 (oV):=
 ay.bQ a Wh fun _ _ _ _ _ _ _ hr=>
  aX (bO (CB hr (jX (dA (ql 0 rfl rfl) (aM 1 rfl rfl)) (aM 2 rfl rfl)) (aM 2 rfl rfl)))
def K1:aI:=bF (fC 1 (dj (ae (bX 0) ah)) (bg 2) (f_ (aK oV 3 (ae (aa 0) (ae (aa 2) (ae (aa 1) ah))))) (aa 2) false)
def jJ:=bH 2 (K1)
theorem Wi:af ["ladder","worth"] ["ladder","worth"] (aJ (top 18)):=ck (by decide +kernel)
abbrev K2:List Str:=["ladder","worth","x"]
theorem Wj:(K2).Nodup:=by decide +kernel
theorem K3(B:Bt mg)(ED:ay P w K mg base 1 "is_below" 3 oV)(a:At K mg "below" (top 18) ["ladder","worth"]):ay P w K mg base 2 "below" 2 (jJ):=
 ay.bQ a Wi fun _ _ _ _ _ _ _ hr=>
  aX (bO (l7 (k:=1) (N':=K2) false rfl ⟨rfl,by decide +kernel,rfl,rfl,rfl⟩ (iB B.aH (av (eX B.aQ (qv 0)) ak cc)) (fun _ _ _ _=>eJ (i:=2) (show 2<=2 by decide) Wj rfl (Or.inl rfl) (Or.inr rfl)) (fun _ _ _ _=>zI (lX (bc ED hr (by decide) (av (cI (qv 0)) (av (cI (qv 2)) (av (cI (qv 1)) ak eS) eS) eS)))) (fun _ _ _ _=>cI (qv 2))))
def K4:aI:=aB (cS (bj (e2 iO (aa 1) (bX 0))) (bF (bU 0 (aa 1))) dR)
 (aB (cS (bj (e2 de (aa 0) (eG ah))) (bF (eC (.int 0))) dR)
 (bF (e2 bB (e2 iy (bU 0 (e2 sV (aa 1) (bX 0))) (eC (.int 31))) (aa 1))))
def yj:=bH 2 (K4)
theorem Wl:af ["_law_script","_law_k"] ["_law_script","_law_k"] (aJ (top 42)):=ck (by decide +kernel)
theorem Wm(B:Bt mg)(a:At K mg "_law_cell" (top 42) ["_law_script","_law_k"]):ay P w K mg base 1 "_law_cell" 2 (yj):=
 ay.bQ a Wl fun _ _ _ _ _ _ _ hr=>
  aV (fU (wG (aM 1 rfl rfl) (eX B.aQ (ql 0 rfl rfl))) (aX (bO (dA (ql 0 rfl rfl) (aM 1 rfl rfl)))) gf)
  (aV (fU (nG hr (aM 0 rfl rfl) (f9 ak)) (aX (bO bp)) gf)
  (aX (bO (eF (oI (dA (ql 0 rfl rfl) (uP (aM 1 rfl rfl) (eX B.aQ (ql 0 rfl rfl)))) bp) (aM 1 rfl rfl)))))
def K5:aI:=aB (aY 3 (e2 sV (e2 iy (e2 bB (aK yj 2 (ae (aa 0) (ae (aa 1) ah))) (e2 iy (eC (.int 6151)) (e2 bB (aa 1) (eC (.int 1))))) (eC (.int 40692))) (eC (.int 2147483399))))
 (bF (e2 sV (e2 sV (e2 bB (e2 iy (aa 3) (aa 3)) (e2 zz (aa 3) (eC (.int 31)))) (eC (.int 2147483629))) (aa 2)))
def cQ:=bH 4 (K5)
theorem K6:af ["_law_script","_law_k","_law_many","_law_drawn"] ["_law_script","_law_k","_law_many"] (aJ (top 43)):=ck (by decide +kernel)
theorem Wo(B:Bt mg)(Wp:ay P w K mg base 1 "_law_cell" 2 yj)(a:At K mg "_law_pick" (top 43) ["_law_script","_law_k","_law_many"]):ay P w K mg base 2 "_law_pick" 3 (cQ):=
 ay.bQ a K6 fun _ _ _ _ _ _ _ hr=>
  aV (bS (i:=3) K6.nd rfl (Or.inl rfl) (uP (oI (eF (bc Wp hr (by decide) (aE 0 rfl rfl (aE 1 rfl rfl ak))) (oI bp (eF (aM 1 rfl rfl) bp))) bp) bp))
  (aX (bO (uP (uP (eF (oI (aM 3 rfl rfl) (aM 3 rfl rfl)) (Cn (aM 3 rfl rfl) bp)) bp) (aM 2 rfl rfl))))
def Wq:aI:=bF (fC 1 (dj (ae (aa 0) ah)) (bg 1) d5 (fC 1 (dj (ae (aa 0) ah)) (bg 2) d5 (eB zL (ae (aa 1) (ae (aa 2) ah))) false) false)
def kF:=bH 1 (Wq)
theorem Wr:af ["_law_many"] ["_law_many"] (aJ (top 44)):=ck (by decide +kernel)
abbrev K7:List Str:=["_law_many","_law_one","_law_other"]
theorem Ws:(K7).Nodup:=by decide +kernel
abbrev K8:List Str:=["_law_many","_law_one"]
theorem Wt:(K8).Nodup:=by decide +kernel
theorem Wu(B:Bt mg)(a:At K mg "_law_chain" (top 44) ["_law_many"]):ay P w K mg base 1 "_law_chain" 1 (kF):=
 ay.bQ a Wr fun _ _ _ _ _ _ _ hr=>
  aX (bO (l7 (k:=1) (N':=K8) false rfl ⟨rfl,by decide +kernel,rfl,rfl,rfl⟩ (iB B.aH (av (cI (qv 0)) ak eS)) (fun _ _ _ _=>eJ (i:=1) (show 1<=1 by decide) Wt rfl (Or.inr rfl) (Or.inl rfl)) (fun _ _ _ _=>mQ) (fun _ _ _ _=>l7 (k:=1) (N':=K7) false rfl ⟨rfl,by decide +kernel,rfl,rfl,rfl⟩ (iB B.aH (av (cI (qv 0)) ak eS)) (fun _ _ _ _=>eJ (i:=2) (show 2<=2 by decide) Ws rfl (Or.inl rfl) (Or.inr rfl)) (fun _ _ _ _=>mQ) (fun _ _ _ _=>Hh rfl B.n4 YI (av (cI (qv 1)) (av (cI (qv 2)) ak eS) eS)))))
abbrev Wv:aI:=aB (aY 7 (fJ (bU 0 (e2 zz (aa 4) (aa 2))) (e2 zz (aa 6) (aa 2))))
 (eI (jy 5 (ae (e2 bB (e2 iy (aa 7) (aa 2)) (fJ (bU 1 (e2 sV (aa 4) (aa 2))) (e2 sV (aa 6) (aa 2)))) ah)))
abbrev Ww:aI:=aB (aY 5 (eG ah))
 (aB (gi (dj (ae (e2 iy (bX 0) (aa 2)) ah)) (bg 6) Wv)
 (eI (jy 3 (ae (aa 5) ah))))
def Wx:aI:=aB (aY 2 (bX 1))
 (aB (aY 3 (eG ah))
 (aB (gi (dj (ae (e2 iy (bX 0) (aa 2)) ah)) (bg 4) Ww)
 (bF (aa 3))))
def oW:=bH 8 (Wx)
theorem t6:af ["_law_one","_law_other","_law_many","_law_made","_law_here","_law_row","_law_there","_law_first"] ["_law_one","_law_other"] (aJ (top 45)):=ck (by decide +kernel)
theorem Wy(B:Bt mg)(a:At K mg "_law_couples" (top 45) ["_law_one","_law_other"]):ay P w K mg base 1 "_law_couples" 2 (oW):=
 ay.bQ a t6 fun _ _ _ _ _ _ _ hr=>
  aV (bS (i:=2) t6.nd rfl (Or.inl rfl) (eX B.aQ (ql 1 rfl rfl)))
  (aV (bS (i:=3) t6.nd rfl (Or.inl rfl) (f9 ak))
  (aV (kh QT rfl (iB B.aH (av (oI (eX B.aQ (ql 0 rfl rfl)) (aM 2 rfl rfl)) ak gU)) (eJ (i:=4) (show 0<=4 by decide) t6.nd rfl (Or.inl rfl)) (aV (bS (i:=5) t6.nd rfl (Or.inl rfl) (f9 ak))
  (aV (kh QT rfl (iB B.aH (av (oI (eX B.aQ (ql 0 rfl rfl)) (aM 2 rfl rfl)) ak gU)) (eJ (i:=6) (show 0<=6 by decide) t6.nd rfl (Or.inl rfl)) (aV (bS (i:=7) t6.nd rfl (Or.inl rfl) (jX (dA (ql 0 rfl rfl) (Cn (aM 4 rfl rfl) (aM 2 rfl rfl))) (Cn (aM 6 rfl rfl) (aM 2 rfl rfl))))
  (aX (iQ (pK (ql 5 rfl rfl) (av (eF (oI (aM 7 rfl rfl) (aM 2 rfl rfl)) (jX (dA (ql 1 rfl rfl) (uP (aM 4 rfl rfl) (aM 2 rfl rfl))) (uP (aM 6 rfl rfl) (aM 2 rfl rfl)))) ak gU))))))
  (aX (iQ (pK (ql 3 rfl rfl) (aE 5 rfl rfl ak)))))))
  (aX (bO (aM 3 rfl rfl)))))
abbrev Wz:aI:=eI (jy 3 (ae (oJ (jl (bj (e2 zJ (eC (.int 0)) (da (ae (aa 2) (ae (aa 4) ah))))) (bj (e2 de (aa 2) (aa 4)))) (eB zL (ae (aa 2) (ae (aa 4) ah))) (e2 bB (aa 0) (eC (.int 1)))) ah))
abbrev WA:aI:=aB (aY 3 (eG ah))
 (aB (gi (dj (ae (e2 bB (aa 0) (eC (.int 2))) ah)) (bg 4) Wz)
 (eI (jy 1 (ae (aa 3) ah))))
def WB:aI:=aB (aY 1 (eG ah))
 (aB (gi (dj (ae (e2 bB (aa 0) (eC (.int 2))) ah)) (bg 2) WA)
 (bF (aa 1)))
def p_:=bH 5 (WB)
theorem yk:af ["_law_many","_law_made","_law_one","_law_row","_law_other"] ["_law_many"] (aJ (top 46)):=ck (by decide +kernel)
theorem WC(B:Bt mg)(a:At K mg "_law_side_by_side" (top 46) ["_law_many"]):ay P w K mg base 1 "_law_side_by_side" 1 (p_):=
 ay.bQ a yk fun _ _ _ _ _ _ _ hr=>
  aV (bS (i:=1) yk.nd rfl (Or.inl rfl) (f9 ak))
  (aV (kh QT rfl (iB B.aH (av (eF (aM 0 rfl rfl) bp) ak gU)) (eJ (i:=2) (show 0<=2 by decide) yk.nd rfl (Or.inl rfl)) (aV (bS (i:=3) yk.nd rfl (Or.inl rfl) (f9 ak))
  (aV (kh QT rfl (iB B.aH (av (eF (aM 0 rfl rfl) bp) ak gU)) (eJ (i:=4) (show 0<=4 by decide) yk.nd rfl (Or.inl rfl)) (aX (iQ (pK (ql 3 rfl rfl) (av (Cs (tT (qM (SE hr bp (iz (aE 2 rfl rfl (aE 4 rfl rfl ak)))) (uS (nG hr (aM 2 rfl rfl) (aM 4 rfl rfl))))) (Hh rfl B.n4 YI (aE 2 rfl rfl (aE 4 rfl rfl ak))) (eF (aM 0 rfl rfl) bp)) ak S6)))))
  (aX (iQ (pK (ql 1 rfl rfl) (aE 3 rfl rfl ak)))))))
  (aX (bO (aM 1 rfl rfl))))
def K9:aI:=aB (aY 2 (aK cQ 3 (ae (aa 0) (ae (aa 1) (ae (eC (.int 9)) ah)))))
 (aB (cS (bj (e2 iO (aa 2) (eC (.int 3)))) (bF (aK kF 1 (ae (e2 bB (eC (.int 1)) (aK cQ 3 (ae (aa 0) (ae (e2 bB (aa 1) (eC (.int 1))) (ae (eC (.int 5)) ah))))) ah))) dR)
 (aB (cS (bj (e2 iO (aa 2) (eC (.int 5)))) (bF (aK oW 2 (ae (aK kF 1 (ae (eC (.int 2)) ah)) (ae (aK kF 1 (ae (fJ (eG (ae (eC (.int 2)) (ae (eC (.int 3)) (ae (eC (.int 4)) ah)))) (aK cQ 3 (ae (aa 0) (ae (e2 bB (aa 1) (eC (.int 1))) (ae (eC (.int 3)) ah))))) ah)) ah)))) dR)
 (aB (cS (bj (e2 iO (aa 2) (eC (.int 7)))) (bF (aK p_ 1 (ae (aK cQ 3 (ae (aa 0) (ae (e2 bB (aa 1) (eC (.int 1))) (ae (eC (.int 5)) ah)))) ah))) dR)
 (aB (cS (bj (e2 de (aa 2) (eC (.int 7)))) (bF (aK oW 2 (ae (aK kF 1 (ae (eC (.int 2)) ah)) (ae (aK oW 2 (ae (aK kF 1 (ae (eC (.int 2)) ah)) (ae (aK kF 1 (ae (eC (.int 2)) ah)) ah))) ah)))) dR)
 (aB (aY 3 (eG (ae (eG (ae (eC (.int 0)) (ae (eC (.int 1)) (ae (eC (.int 2)) (ae (eC (.int 3)) (ae (eC (.int 4)) ah)))))) (ae (eG (ae (eC (.int 1)) (ae (eC (.int 1)) (ae (eC (.int 2)) (ae (eC (.int 4)) (ae (eC (.int 4)) ah)))))) (ae (eG (ae (eC (.int 2)) (ae (eC (.int 2)) (ae (eC (.int 2)) (ae (eC (.int 4)) (ae (eC (.int 4)) ah)))))) (ae (eG (ae (eC (.int 3)) (ae (eC (.int 4)) (ae (eC (.int 4)) (ae (eC (.int 3)) (ae (eC (.int 4)) ah)))))) (ae (eG (ae (eC (.int 4)) (ae (eC (.int 4)) (ae (eC (.int 4)) (ae (eC (.int 4)) (ae (eC (.int 4)) ah)))))) ah)))))))
 (bF (aa 3)))))))
def yl:=bH 4 (K9)
theorem EE:af ["_law_script","_law_at","_law_kind","_law_rows"] ["_law_script","_law_at"] (aJ (top 47)):=ck (by decide +kernel)
theorem WD(B:Bt mg)(i8:ay P w K mg base 2 "_law_pick" 3 cQ)(vk:ay P w K mg base 1 "_law_chain" 1 kF)(EF:ay P w K mg base 1 "_law_couples" 2 oW)(WE:ay P w K mg base 1 "_law_side_by_side" 1 p_)(a:At K mg "_law_base" (top 47) ["_law_script","_law_at"]):ay P w K mg base 3 "_law_base" 2 (yl):=
 ay.bQ a EE fun _ _ _ _ _ _ _ hr=>
  aV (bS (i:=2) EE.nd rfl (Or.inl rfl) (bc i8 hr (by decide) (aE 0 rfl rfl (aE 1 rfl rfl (cu ak)))))
  (aV (fU (wG (aM 2 rfl rfl) bp) (aX (bO (bc vk hr (by decide) (av (eF bp (bc i8 hr (by decide) (aE 0 rfl rfl (av (eF (aM 1 rfl rfl) bp) (cu ak) gU)))) ak gU)))) gf)
  (aV (fU (wG (aM 2 rfl rfl) bp) (aX (bO (bc EF hr (by decide) (av (bc vk hr (by decide) (cu ak)) (av (bc vk hr (by decide) (av (jX (f9 (cu (cu (cu ak)))) (bc i8 hr (by decide) (aE 0 rfl rfl (av (eF (aM 1 rfl rfl) bp) (cu ak) gU)))) ak me)) ak cc) cc)))) gf)
  (aV (fU (wG (aM 2 rfl rfl) bp) (aX (bO (bc WE hr (by decide) (av (bc i8 hr (by decide) (aE 0 rfl rfl (av (eF (aM 1 rfl rfl) bp) (cu ak) gU))) ak cc)))) gf)
  (aV (fU (nG hr (aM 2 rfl rfl) bp) (aX (bO (bc EF hr (by decide) (av (bc vk hr (by decide) (cu ak)) (av (bc EF hr (by decide) (av (bc vk hr (by decide) (cu ak)) (av (bc vk hr (by decide) (cu ak)) ak cc) cc)) ak cc) cc)))) gf)
  (aV (bS (i:=3) EE.nd rfl (Or.inl rfl) (f9 (av (f9 (cu (cu (cu (cu (cu ak)))))) (av (f9 (cu (cu (cu (cu (cu ak)))))) (av (f9 (cu (cu (cu (cu (cu ak)))))) (av (f9 (cu (cu (cu (cu (cu ak)))))) (av (f9 (cu (cu (cu (cu (cu ak)))))) ak wW) wW) wW) wW) wW)))
  (aX (bO (aM 3 rfl rfl))))))))
abbrev WG:aI:=wV 5 (tu 4 (tq 6)) (tu 4 (tq 7)) (bU 4 (fJ (bU 2 (aa 6)) (aa 7)))
abbrev WH:aI:=gi (dj (ae (bX 2) ah)) (bg 7) (WG)
def K_:aI:=aB (aY 2 (aK yl 2 (ae (aa 0) (ae (aa 1) ah))))
 (aB (aY 3 (qO (ae (bX 2) ah)))
 (aB (aY 4 (fC 1 (dj (ae (bX 2) ah)) (bg 8) d5 (wQ 3 (ae (aK cQ 3 (ae (aa 0) (ae (e2 bB (e2 bB (aa 1) (eC (.int 2))) (aa 8)) (ae (bX 3) ah)))) ah)) false))
 (aB (aY 5 (fC 1 (fK (aa 2)) (bg 8) d5 (uW (eG (ae (eC (.int 0)) ah)) (bX 2)) true))
 (aB (gi (dj (ae (bX 2) ah)) (bg 6) WH)
 (bF (mW (ae (fC 1 (fK (aa 5)) (bg 8) d5 (mW (ae (aa 8) ah)) false) ah)))))))
def vm:=bH 8 (K_)
theorem t7:af ["_law_script","_law_at","_law_base_here","_law_left","_law_name","_law_made","_law_one","_law_other"] ["_law_script","_law_at"] (aJ (top 48)):=ck (by decide +kernel)
abbrev La:List Str:=["_law_script","_law_at","_law_base_here","_law_left","_law_name","_law_made","_law_one","_law_other","_law_k"]
theorem WI:(La).Nodup:=by decide +kernel
abbrev EG:List Str:=["_law_script","_law_at","_law_base_here","_law_left","_law_name","_law_made","_law_one","_law_other","_law_row"]
theorem Lb:(EG).Nodup:=by decide +kernel
theorem WJ(B:Bt mg)(WK:ay P w K mg base 3 "_law_base" 2 yl)(i8:ay P w K mg base 2 "_law_pick" 3 cQ)(a:At K mg "_law_ladder" (top 48) ["_law_script","_law_at"]):ay P w K mg base 4 "_law_ladder" 2 (vm):=
 ay.bQ a t7 fun _ _ _ _ _ _ _ hr=>
  aV (bS (i:=2) t7.nd rfl (Or.inr rfl) (bc WK hr (by decide) (av (cI (qv 0)) (av (cI (qv 1)) ak eS) eS)))
  (aV (bS (i:=3) t7.nd rfl (Or.inr rfl) (CK rfl B.i7 ZW B.aH (av (eX B.aQ (qv 2)) ak cc)))
  (aV (CA (i:=4) (k:=1) (N':=La) false t7.nd rfl (Or.inl rfl) rfl rfl ⟨rfl,by decide +kernel,rfl,rfl,rfl⟩ (iB B.aH (av (eX B.aQ (qv 2)) ak cc)) (fun _ _ _ _=>eJ (i:=8) (show 8<=8 by decide) WI rfl (Or.inl rfl) (Or.inr rfl)) (fun _ _ _ _=>mQ) (fun _ _ _ _=>SV (qv 3) (av (bc i8 hr (by decide) (av (cI (qv 0)) (av (eF (eF (cI (qv 1)) bp) (cI (qv 8))) (av (eX B.aQ (qv 3)) ak cc) gU) eS)) ak cc)))
  (aV (CA (i:=5) (k:=1) (N':=EG) true t7.nd rfl (Or.inl rfl) rfl rfl ⟨rfl,by decide +kernel,rfl,rfl,rfl⟩ (mP (cI (qv 2))) (fun _ _ _ _=>eJ (i:=8) (show 8<=8 by decide) Lb rfl (Or.inl rfl) (Or.inr rfl)) (fun _ _ _ _=>mQ) (fun _ _ _ _=>Hq (f9 (cu ak)) (eX B.aQ (qv 2))))
  (aV (kh QT rfl (iB B.aH (av (eX B.aQ (qv 2)) ak cc)) (eJ (i:=6) (show 0<=6 by decide) t7.nd rfl (Or.inl rfl)) (aX (kh QT rfl (iB B.aH (av (eX B.aQ (qv 2)) ak cc)) (eJ (i:=7) (show 0<=7 by decide) t7.nd rfl (Or.inl rfl)) (aX (S3 (ql 5 rfl rfl) (Ht (ql 4 rfl rfl) (Hs (ql 6 rfl rfl))) (Ht (ql 4 rfl rfl) (Hs (ql 7 rfl rfl))) (dA (ql 4 rfl rfl) (jX (dA (qv 2) (aM 6 rfl rfl)) (aM 7 rfl rfl))))))))
  (aX (bO (wN B.bV QX (av (l7 (k:=1) (N':=EG) false rfl ⟨rfl,by decide +kernel,rfl,rfl,rfl⟩ (mP (aM 5 rfl rfl)) (fun _ _ _ _=>eJ (i:=8) (show 8<=8 by decide) Lb rfl (Or.inl rfl) (Or.inr rfl)) (fun _ _ _ _=>mQ) (fun _ _ _ _=>wN B.bV QX (av (cI (qv 8)) ak eS))) ak uX))))))))
def Lc:aI:=bF (Hk (ae (aa 0) ah))
def ym:=bH 1 (Lc)
theorem WM:af ["many"] ["many"] (aJ (top 14)):=ck (by decide +kernel)
theorem WN(B:Bt mg)(a:At K mg "row_of_least" (top 14) ["many"]):ay P w K mg base 1 "row_of_least" 1 (ym):=
 ay.bQ a WM fun _ _ _ _ _ _ _ hr=>
  aX (bO (SM rfl B.bV QX B.aH (aE 0 rfl rfl ak)))
def Ld:aI:=bF (CU (aa 0) (ae (aK ym 1 (ae (bX 0) ah)) ah))
def t8:=bH 1 (Ld)
theorem WO:af ["ladder"] ["ladder"] (aJ (top 15)):=ck (by decide +kernel)
theorem WQ(B:Bt mg)(WR:ay P w K mg base 1 "row_of_least" 1 ym)(a:At K mg "least_of" (top 15) ["ladder"]):ay P w K mg base 2 "least_of" 1 (t8):=
 ay.bQ a WO fun _ _ _ _ _ _ _ hr=>
  aX (bO (SU hr (aM 0 rfl rfl) (av (bc WR hr (by decide) (av (eX B.aQ (ql 0 rfl rfl)) ak cc)) ak cc)))
def Le:aI:=bF (mW (ae (uW (eG (ae (aK t8 1 (ae (aa 0) ah)) ah)) (bU 1 (eC (.int 0)))) ah))
def t_:=bH 2 (Le)
theorem WS:af ["ladder","chart"] ["ladder","chart"] (aJ (top 30)):=ck (by decide +kernel)
theorem WT(B:Bt mg)(EH:ay P w K mg base 2 "least_of" 1 t8)(a:At K mg "lowest" (top 30) ["ladder","chart"]):ay P w K mg base 3 "lowest" 2 (t_):=
 ay.bQ a WS fun _ _ _ _ _ _ _ hr=>
  aX (bO (wN B.bV QX (av (Hq (f9 (av (bc EH hr (by decide) (aE 0 rfl rfl ak)) ak cc)) (dA (ql 1 rfl rfl) bp)) ak gU)))
def Lf:aI:=bF (da (ae (eL 0 "places") (ae (eL 0 "ways") (ae (eL 0 "begins") ah))))
def kG:=bH 1 Lf
theorem WU:af ["self"] ["self"] (aJ (gu (top 40) 4)):=ck (by decide +kernel)
theorem WV(B:Bt mg)(a:jq K "Keeper" "chart" "Keeper.chart" (gu (top 40) 4) ["self"]):jE P w K mg base 1 "Keeper" "chart" 1 kG:=
 jE.bQ (k:=0) a WU fun _ _ _ _ _ _ _ hr=>
  aX (bO (iz (av (iE (ql 0 rfl rfl)) (av (iE (ql 0 rfl rfl)) (av (iE (ql 0 rfl rfl)) ak kr) kr) kr)))
def Lg:aI:=aB (lg "Keeper" 0 "ladder" (aa 1))
 (aB (lg "Keeper" 0 "places" (aa 2))
 (aB (lg "Keeper" 0 "ways" (da ah))
 (aB (lg "Keeper" 0 "begins" (da ah))
 (aB (lg "Keeper" 0 "worths" (aK t_ 2 (ae (aa 1) (ae (gH "Keeper" "chart" kG 0) ah))))
 (lg "Keeper" 0 "many_raises" (eC (.int 0)))))))
def vn:D->List D->Option D:=ml 3 Lg
theorem WW:af ["self","ladder","places"] ["self","ladder","places"] (aJ (gu (top 40) 0)):=ck (by decide +kernel)
theorem WX(B:Bt mg)(N:Kt K)(EI:ay P w K mg base 3 "lowest" 2 t_)(vq:jE P w K mg base 1 "Keeper" "chart" 1 kG)(a:jq K "Keeper" "__init__" "Keeper.__init__" (gu (top 40) 0) ["self","ladder","places"])(hc:∀ C,PySem.W.nsIn K mainGlobals "Keeper" = some (some (.ref C))->mg "Keeper" = some (.ref C)/\PySem.W.makesIn K C=true/\PySem.W.keepIn K (.ref C)=true/\hV K C):pX P w K mg base 4 "Keeper" 3 vn:=
 pX.bQ (k:=3) a hc WW fun _ _ _ _ _ _ _ hr=>
  aV (oT N.oa (ql 0 rfl rfl) (aM 1 rfl rfl))
  (aV (oT N.og (ql 0 rfl rfl) (aM 2 rfl rfl))
  (aV (oT N.oh (ql 0 rfl rfl) (iz ak))
  (aV (oT N.jH (ql 0 rfl rfl) (iz ak))
  (aV (oT N.jI (ql 0 rfl rfl) (bc EI hr (by decide) (aE 1 rfl rfl (av (oU vq hr (by decide) (ql 0 rfl rfl)) ak cc))))
  (aX (oT N.d8 (ql 0 rfl rfl) bp))))))
def Lh:aI:=bF (eL 0 "worths")
def kH:=bH 1 Lh
theorem WY:af ["self"] ["self"] (aJ (gu (top 40) 5)):=ck (by decide +kernel)
theorem WZ(B:Bt mg)(a:jq K "Keeper" "answer" "Keeper.answer" (gu (top 40) 5) ["self"]):jE P w K mg base 1 "Keeper" "answer" 1 kH:=
 jE.bQ (k:=0) a WY fun _ _ _ _ _ _ _ hr=>
  aX (bO (iE (ql 0 rfl rfl)))
def Li:aI:=bF (eL 0 "many_raises")
def qc:=bH 1 Li
theorem W0:af ["self"] ["self"] (aJ (gu (top 40) 6)):=ck (by decide +kernel)
theorem W1(B:Bt mg)(a:jq K "Keeper" "raises" "Keeper.raises" (gu (top 40) 6) ["self"]):jE P w K mg base 1 "Keeper" "raises" 1 qc:=
 jE.bQ (k:=0) a W0 fun _ _ _ _ _ _ _ hr=>
  aX (bO (iE (ql 0 rfl rfl)))
def W2:aI:=aB (aY 1 (eG (ae (qZ ["NoPlace","NoRule"] "NoHouse" (aa 0)) (ae (qZ ["NoPlace","NoRule"] "NoMap" (aa 0)) (ae (qZ ["NoPlace","NoRule"] "NoPlace" (aa 0)) (ae (qZ ["NoPlace","NoRule"] "NoRule" (aa 0)) ah))))))
 (aB (eI (C5 1 (eG (ae (qZ ["NoPlace","NoRule"] "NoStep" (aa 0)) (ae (qZ ["NoPlace","NoRule"] "TooGreat" (aa 0)) ah)))))
 (aB (cS (jl (bj (e2 cJ (Dr (aa 1) (ae (eC (.bl true)) ah)) (eC (.int 1)))) (gC (f_ (Dp (aa 0))))) (bF (eC (.str "wrong"))) dR)
 (bF (fJ (eG (ae (eC (.str "no house")) (ae (eC (.str "no map")) (ae (eC (.str "no place")) (ae (eC (.str "no rule")) (ae (eC (.str "no step")) (ae (eC (.str "too great")) ah))))))) (Ds (aa 1) (ae (eC (.bl true)) ah))))))
def vt:=bH 2 (W2)
theorem Lj:af ["_law_kept","_law_kinds"] ["_law_kept"] (aJ (top 55)):=ck (by decide +kernel)
theorem W3(B:Bt mg)(T:Xt K mg)(a:At K mg "_law_word" (top 55) ["_law_kept"]):ay P w K mg base 1 "_law_word" 1 (vt):=
 ay.bQ a Lj fun _ _ _ _ _ _ _ hr=>
  aV (bS (i:=1) Lj.nd rfl (Or.inl rfl) (f9 (av (u0 T.mx B.aG (aM 0 rfl rfl)) (av (u0 T.p9 B.aG (aM 0 rfl rfl)) (av (u0 T.my B.aG (aM 0 rfl rfl)) (av (u0 T.n9 B.aG (aM 0 rfl rfl)) ak cc) cc) cc) cc)))
  (aV (iQ (Ts (ql 1 rfl rfl) (f9 (av (u0 T.n_ B.aG (aM 0 rfl rfl)) (av (u0 T.kE B.aG (aM 0 rfl rfl)) ak cc) cc))))
  (aV (fU (tT (qM (oN hr (Ug hr (aM 1 rfl rfl) (av oH ak nJ)) bp) (uS (mO (lX (T_ B.aG B.i6 (aM 0 rfl rfl))))))) (aX (bO mM)) gf)
  (aX (bO (jX (f9 (av mM (av mM (av mM (av mM (av mM (av mM ak nJ) nJ) nJ) nJ) nJ) nJ)) (Uh hr (aM 1 rfl rfl) (av oH ak nJ)))))))
def Lk:aI:=bF (pL (tw .int (aa 0)) (CZ (tw .bool (aa 0))))
def yn:=bH 1 (Lk)
theorem W4:af ["thing"] ["thing"] (aJ (top 9)):=ck (by decide +kernel)
theorem W5(B:Bt mg)(a:At K mg "is_whole" (top 9) ["thing"]):ay P w K mg base 1 "is_whole" 1 (yn):=
 ay.bQ a W4 fun _ _ _ _ _ _ _ hr=>
  aX (bO (zN (wY .int B.aG B.yh PyProof.Rows.boot_int (aM 0 rfl rfl)) (zM (S5 (wY .bool B.aG B.t5 PyProof.Rows.boot_bool (aM 0 rfl rfl))))))
def Ll:aI:=bF (pL (aK yn 1 (ae (aa 0) ah)) (ig iP iO (eC (.int 0)) (aa 0) (aa 1)))
def mz:=bH 2 (Ll)
theorem W6:af ["thing","many"] ["thing","many"] (aJ (top 10)):=ck (by decide +kernel)
theorem W7(B:Bt mg)(W8:ay P w K mg base 1 "is_whole" 1 yn)(a:At K mg "is_number_of" (top 10) ["thing","many"]):ay P w K mg base 2 "is_number_of" 2 (mz):=
 ay.bQ a W6 fun _ _ _ _ _ _ _ hr=>
  aX (bO (zN (bc W8 hr (by decide) (aE 0 rfl rfl ak)) (zM (Tg bp (aM 0 rfl rfl) (aM 1 rfl rfl)))))
def Ln:aI:=cS (gC (f_ (aK mz 2 (ae (aa 1) (ae (aa 0) ah))))) xa (dR)
def lz:=bH 2 (Ln)
theorem Lo:af ["places","place"] ["places","place"] (aJ (top 28)):=ck (by decide +kernel)
theorem W9(B:Bt mg)(ua:ay P w K mg base 2 "is_number_of" 2 mz)(a:At K mg "refuse_no_place" (top 28) ["places","place"]):ay P w K mg base 3 "refuse_no_place" 2 (lz):=
 ay.bQ a Lo fun _ _ _ _ _ _ _ hr=>
  aX (fU (mO (lX (bc ua hr (by decide) (aE 1 rfl rfl (aE 0 rfl rfl ak))))) (aX C6) gf)
def Lp:fD:=q9 (gC (f_ (aK mz 2 (ae (aa 1) (ae (aa 0) ah))))) (Du "NoPlace") (Dt)
def oX:List D->Option Str:=fnX 2 Lp
theorem W_(B:Bt mg)(T:Xt K mg)(ua:ay P w K mg base 2 "is_number_of" 2 mz)(a:At K mg "refuse_no_place" (top 28) ["places","place"]):mh P w K mg base 3 "refuse_no_place" 2 oX:=
 mh.bQ (k:=2) a Lo fun _ _ _ _ _ _ _ hr=>
  q_ (HY (mO (lX (bc ua hr (by decide) (aE 1 rfl rfl (aE 0 rfl rfl ak))))) (q_ (HZ hr T.mw)) HV)
def Lq:aI:=aB (cS (bj (e2 de (bU 2 (eC (.int 0))) (eC (.str "begin")))) (bF (fJ (bU 0 (eC (.int 2))) (bU 2 (eC (.int 1))))) dR)
 (aB (aY 3 (fJ (bU 0 (eC (.int 1))) (bU 2 (eC (.int 1)))))
 (bF (da (ae (bU 3 (eC (.int 1))) (ae (fJ (bU 3 (eC (.int 2))) (bU 1 (bU 3 (eC (.int 0))))) ah)))))
def yo:=bH 4 (Lq)
theorem Lr:af ["chart","worths","step","way"] ["chart","worths","step"] (aJ (top 35)):=ck (by decide +kernel)
theorem Xa(B:Bt mg)(a:At K mg "place_and_worth" (top 35) ["chart","worths","step"]):ay P w K mg base 1 "place_and_worth" 3 (yo):=
 ay.bQ a Lr fun _ _ _ _ _ _ _ hr=>
  aV (fU (nG hr (dA (ql 2 rfl rfl) bp) mM) (aX (bO (jX (dA (ql 0 rfl rfl) bp) (dA (ql 2 rfl rfl) bp)))) gf)
  (aV (bS (i:=3) Lr.nd rfl (Or.inl rfl) (jX (dA (ql 0 rfl rfl) bp) (dA (ql 2 rfl rfl) bp)))
  (aX (bO (iz (av (dA (ql 3 rfl rfl) bp) (av (jX (dA (ql 3 rfl rfl) bp) (dA (ql 1 rfl rfl) (dA (ql 3 rfl rfl) bp))) ak me) me)))))
def Ls:aI:=aB (aY 4 (aK yo 3 (ae (aa 1) (ae (aa 2) (ae (aa 3) ah)))))
 (aB (aY 5 (bU 4 (eC (.int 0))))
 (aB (aY 6 (fJ (bU 0 (bU 2 (aa 5))) (bU 4 (eC (.int 1)))))
 (bF (qS (qS (zU (aa 2) C4 (zT (aa 5))) (da (ae (aa 6) ah))) (zU (aa 2) (zT (e2 bB (aa 5) (eC (.int 1)))) C4)))))
def yq:=bH 7 (Ls)
theorem AR:af ["ladder","chart","worths","step","coming","place","joined"] ["ladder","chart","worths","step"] (aJ (top 36)):=ck (by decide +kernel)
theorem Xb(B:Bt mg)(Xc:ay P w K mg base 1 "place_and_worth" 3 yo)(a:At K mg "worths_behind" (top 36) ["ladder","chart","worths","step"]):ay P w K mg base 2 "worths_behind" 4 (yq):=
 ay.bQ a AR fun _ _ _ _ _ _ _ hr=>
  aV (bS (i:=4) AR.nd rfl (Or.inl rfl) (bc Xc hr (by decide) (aE 1 rfl rfl (aE 2 rfl rfl (aE 3 rfl rfl ak)))))
  (aV (bS (i:=5) AR.nd rfl (Or.inl rfl) (dA (ql 4 rfl rfl) bp))
  (aV (bS (i:=6) AR.nd rfl (Or.inl rfl) (jX (dA (ql 0 rfl rfl) (dA (ql 2 rfl rfl) (aM 5 rfl rfl))) (dA (ql 4 rfl rfl) bp)))
  (aX (bO (zO (zO (HD (aM 2 rfl rfl) HB (HC (aM 5 rfl rfl))) (iz (aE 6 rfl rfl ak))) (HD (aM 2 rfl rfl) (HC (eF (aM 5 rfl rfl) bp)) HB))))))
abbrev yr:aI:=aB (aY 7 (aK yq 4 (ae (aa 0) (ae (aa 1) (ae (aa 3) (ae (aa 6) ah))))))
 (aB (cS (bj (e2 cJ (aa 7) (aa 3))) (eI (jy 4 (ae (aa 6) ah))) dR)
 (aY 3 (aa 7)))
abbrev AS:aI:=aB (aY 5 (aa 3))
 (gi (fK (aa 2)) (bg 6) yr)
def Lu:aI:=aB (aY 4 (eG ah))
 (aB (aY 5 (eC .au))
 (aB (C7 (bj (e2 cJ (aa 3) (aa 5))) AS)
 (bF (da (ae (aa 3) (ae (aa 4) ah))))))
def rD:=bH 8 (Lu)
theorem ub:af ["ladder","chart","order","worths","raising","ahead","step","behind"] ["ladder","chart","order","worths"] (aJ (top 37)):=ck (by decide +kernel)
theorem Xd(B:Bt mg)(Xe:ay P w K mg base 2 "worths_behind" 4 yq)(a:At K mg "risen" (top 37) ["ladder","chart","order","worths"]):ay P w K mg base 3 "risen" 4 (rD):=
 ay.bQ a ub fun _ _ _ _ _ _ _ hr=>
  aV (bS (i:=4) ub.nd rfl (Or.inl rfl) (f9 ak))
  (aV (bS (i:=5) ub.nd rfl (Or.inl rfl) sU)
  (aV (Tt QT (oN hr (aM 3 rfl rfl) (aM 5 rfl rfl)) (aV (bS (i:=5) ub.nd rfl (Or.inl rfl) (aM 3 rfl rfl))
  (aX (kh QT rfl (mP (aM 2 rfl rfl)) (eJ (i:=6) (show 0<=6 by decide) ub.nd rfl (Or.inl rfl)) (aV (bS (i:=7) ub.nd rfl (Or.inl rfl) (bc Xe hr (by decide) (aE 0 rfl rfl (aE 1 rfl rfl (aE 3 rfl rfl (aE 6 rfl rfl ak))))))
  (aV (fU (oN hr (aM 7 rfl rfl) (aM 3 rfl rfl)) (aX (iQ (pK (ql 4 rfl rfl) (aE 6 rfl rfl ak)))) gf)
  (aX (bS (i:=3) ub.nd rfl (Or.inl rfl) (aM 7 rfl rfl)))))))))
  (aX (bO (iz (aE 3 rfl rfl (aE 4 rfl rfl ak)))))))
def Lv:aI:=aB (aY 1 (fC 1 (dj (ae (eB mV (ae (bU 0 (eC (.int 2))) ah)) ah)) (bg 2) d5 (da (ae (eC (.str "begin")) (ae (aa 2) ah))) false))
 (bF (zV (aa 1) (fC 1 (dj (ae (eB mV (ae (bU 0 (eC (.int 1))) ah)) ah)) (bg 2) d5 (da (ae (eC (.str "way")) (ae (aa 2) ah))) false)))
def uc:=bH 2 (Lv)
theorem Lw:af ["chart","begins"] ["chart"] (aJ (top 32)):=ck (by decide +kernel)
abbrev EJ:List Str:=["chart","begins","number"]
theorem Lx:(EJ).Nodup:=by decide +kernel
theorem Xf(B:Bt mg)(a:At K mg "all_steps" (top 32) ["chart"]):ay P w K mg base 1 "all_steps" 1 (uc):=
 ay.bQ a Lw fun _ _ _ _ _ _ _ hr=>
  aV (CA (i:=1) (k:=1) (N':=EJ) false Lw.nd rfl (Or.inl rfl) rfl rfl ⟨rfl,by decide +kernel,rfl,rfl,rfl⟩ (iB B.aH (av (wL B.aQ (av (dA (ql 0 rfl rfl) bp) ak me)) ak cc)) (fun _ _ _ _=>eJ (i:=2) (show 2<=2 by decide) Lx rfl (Or.inl rfl) (Or.inr rfl)) (fun _ _ _ _=>mQ) (fun _ _ _ _=>iz (av mM (av (cI (qv 2)) ak eS) nJ)))
  (aX (bO (Tx (aM 1 rfl rfl) (l7 (k:=1) (N':=EJ) false rfl ⟨rfl,by decide +kernel,rfl,rfl,rfl⟩ (iB B.aH (av (wL B.aQ (av (dA (ql 0 rfl rfl) bp) ak me)) ak cc)) (fun _ _ _ _=>eJ (i:=2) (show 2<=2 by decide) Lx rfl (Or.inl rfl) (Or.inr rfl)) (fun _ _ _ _=>mQ) (fun _ _ _ _=>iz (av mM (av (cI (qv 2)) ak eS) nJ))))))
def Ly:aI:=aB (aY 1 (gH "Keeper" "chart" kG 0))
 (aB (aY 2 (aK rD 4 (ae (eL 0 "ladder") (ae (aa 1) (ae (aK uc 1 (ae (aa 1) ah)) (ae (eL 0 "worths") ah))))))
 (aB (lg "Keeper" 0 "worths" (bU 2 (eC (.int 0))))
 (lg "Keeper" 0 "many_raises" (e2 bB (eL 0 "many_raises") (eB mV (ae (bU 2 (eC (.int 1))) ah))))))
def rE:D->List D->Option D:=ml 3 Ly
theorem EK:af ["self","chart","ended"] ["self"] (aJ (gu (top 40) 3)):=ck (by decide +kernel)
theorem Xg(B:Bt mg)(N:Kt K)(vq:jE P w K mg base 1 "Keeper" "chart" 1 kG)(EL:ay P w K mg base 3 "risen" 4 rD)(EM:ay P w K mg base 1 "all_steps" 1 uc)(a:jq K "Keeper" "rise" "Keeper.rise" (gu (top 40) 3) ["self"]):jD P w K mg base 4 "Keeper" "rise" 1 rE:=
 jD.bQ (k:=3) a EK fun _ _ _ _ _ _ _ hr=>
  aV (bS (i:=1) EK.nd rfl (Or.inl rfl) (oU vq hr (by decide) (ql 0 rfl rfl)))
  (aV (bS (i:=2) EK.nd rfl (Or.inl rfl) (bc EL hr (by decide) (av (iE (ql 0 rfl rfl)) (aE 1 rfl rfl (av (bc EM hr (by decide) (aE 1 rfl rfl ak)) (av (iE (ql 0 rfl rfl)) ak kr) cc)) kr)))
  (aV (oT N.jI (ql 0 rfl rfl) (dA (ql 2 rfl rfl) bp))
  (aX (oT N.d8 (ql 0 rfl rfl) (eF (iE (ql 0 rfl rfl)) (wL B.aQ (av (dA (ql 2 rfl rfl) bp) ak me)))))))
def Lz:aI:=aB (eI (aK lz 2 (ae (eL 0 "places") (ae (aa 1) ah))))
 (aB (lg "Keeper" 0 "begins" (qS (eL 0 "begins") (da (ae (da (ae (aa 1) (ae (aa 2) ah))) ah))))
 (eI (mY "Keeper" "rise" rE 1 0 ah)))
def rF:D->List D->Option D:=ml 3 Lz
theorem LA:af ["self","place","worth"] ["self","place","worth"] (aJ (gu (top 40) 1)):=ck (by decide +kernel)
theorem Xh(B:Bt mg)(N:Kt K)(ud:ay P w K mg base 3 "refuse_no_place" 2 lz)(EN:jD P w K mg base 4 "Keeper" "rise" 1 rE)(a:jq K "Keeper" "add_begin" "Keeper.add_begin" (gu (top 40) 1) ["self","place","worth"]):jD P w K mg base 5 "Keeper" "add_begin" 3 rF:=
 jD.bQ (k:=4) a LA fun _ _ _ _ _ _ _ hr=>
  aV (iQ (bc ud hr (by decide) (av (iE (ql 0 rfl rfl)) (aE 1 rfl rfl ak) kr)))
  (aV (oT N.jH (ql 0 rfl rfl) (zO (iE (ql 0 rfl rfl)) (iz (av (iz (aE 1 rfl rfl (aE 2 rfl rfl ak))) ak uY))))
  (aX (iQ (Ke EN hr (by decide) (ql 0 rfl rfl)))))
def LB:fD:=k7 oX 2 (ae (eL 0 "places") (ae (aa 1) ah))
def mB:List D->Option Str:=fnX 3 LB
theorem Xi(B:Bt mg)(T:Xt K mg)(AU:mh P w K mg base 3 "refuse_no_place" 2 oX)(a:jq K "Keeper" "add_begin" "Keeper.add_begin" (gu (top 40) 1) ["self","place","worth"]):lh P w K mg base 5 "Keeper" "add_begin" 3 mB:=
 lh.bQ (k:=4) a LA fun _ _ _ _ _ _ _ hr=>
  q_ (Ac (Ad AU hr (by decide) (av (iE (ql 0 rfl rfl)) (aE 1 rfl rfl ak) kr)))
def EO:aI:=aB (cS (jl (gC (f_ (tw .tuple (aa 0)))) (bj (e2 cJ (bX 0) (aa 1)))) (bF (eC (.bl false))) dR)
 (bF (eB qR (ae (fC 1 (fK (aa 0)) (bg 3) d5 (aK mz 2 (ae (aa 3) (ae (aa 2) ah))) false) ah)))
def ue:=bH 3 (EO)
theorem Xj:af ["thing","length","many"] ["thing","length","many"] (aJ (top 11)):=ck (by decide +kernel)
abbrev LC:List Str:=["thing","length","many","part"]
theorem Xk:(LC).Nodup:=by decide +kernel
theorem Xl(B:Bt mg)(ua:ay P w K mg base 2 "is_number_of" 2 mz)(a:At K mg "is_row_of" (top 11) ["thing","length","many"]):ay P w K mg base 3 "is_row_of" 3 (ue):=
 ay.bQ a Xj fun _ _ _ _ _ _ _ hr=>
  aV (fU (tT (qM (mO (lX (wY .tuple B.aG B.bV QX (aM 0 rfl rfl)))) (uS (oN hr (eX B.aQ (ql 0 rfl rfl)) (aM 1 rfl rfl))))) (aX (bO oH)) gf)
  (aX (bO (Hw rfl B.rC (av (l7 (k:=1) (N':=LC) false rfl ⟨rfl,by decide +kernel,rfl,rfl,rfl⟩ (mP (aM 0 rfl rfl)) (fun _ _ _ _=>eJ (i:=3) (show 3<=3 by decide) Xk rfl (Or.inl rfl) (Or.inr rfl)) (fun _ _ _ _=>mQ) (fun _ _ _ _=>bc ua hr (by decide) (av (cI (qv 3)) (av (cI (qv 2)) ak eS) eS))) ak uX))))
def LD:aI:=bF (aK ue 3 (ae (aa 1) (ae (bX 0) (ae (bX 0) ah))))
def yt:=bH 2 (LD)
theorem Xm:af ["ladder","thing"] ["ladder","thing"] (aJ (top 23)):=ck (by decide +kernel)
theorem Xn(B:Bt mg)(Xo:ay P w K mg base 3 "is_row_of" 3 ue)(a:At K mg "is_rule" (top 23) ["ladder","thing"]):ay P w K mg base 4 "is_rule" 2 (yt):=
 ay.bQ a Xm fun _ _ _ _ _ _ _ hr=>
  aX (bO (bc Xo hr (by decide) (aE 1 rfl rfl (av (eX B.aQ (ql 0 rfl rfl)) (av (eX B.aQ (ql 0 rfl rfl)) ak cc) cc))))
abbrev Xp:aI:=cS (gC (f_ (aK oV 3 (ae (aa 0) (ae (bU 1 (aa 3)) (ae (bU 1 (aa 2)) ah)))))) (bF (eC (.bl false))) (dR)
abbrev Xq:aI:=gi (fK (aK jJ 2 (ae (aa 0) (ae (aa 2) ah)))) (bg 3) (Xp)
def LF:aI:=aB (gi (dj (ae (bX 0) ah)) (bg 2) Xq)
 (bF (eC (.bl true)))
def oY:=bH 4 (LF)
theorem ER:af ["ladder","rule","y","x"] ["ladder","rule"] (aJ (top 24)):=ck (by decide +kernel)
theorem Xr(B:Bt mg)(ES:ay P w K mg base 2 "below" 2 jJ)(ED:ay P w K mg base 1 "is_below" 3 oV)(a:At K mg "rises" (top 24) ["ladder","rule"]):ay P w K mg base 3 "rises" 2 (oY):=
 ay.bQ a ER fun _ _ _ _ _ _ _ hr=>
  aV (kh QT rfl (iB B.aH (av (eX B.aQ (ql 0 rfl rfl)) ak cc)) (eJ (i:=2) (show 0<=2 by decide) ER.nd rfl (Or.inl rfl)) (aX (kh QT rfl (mP (bc ES hr (by decide) (aE 0 rfl rfl (aE 2 rfl rfl ak)))) (eJ (i:=3) (show 0<=3 by decide) ER.nd rfl (Or.inl rfl)) (aX (fU (mO (lX (bc ED hr (by decide) (aE 0 rfl rfl (av (dA (ql 1 rfl rfl) (aM 3 rfl rfl)) (av (dA (ql 1 rfl rfl) (aM 2 rfl rfl)) ak me) me))))) (aX (bO oH)) gf)))))
  (aX (bO oH))
def LG:aI:=bF (pL (aK yt 2 (ae (aa 0) (ae (aa 1) ah))) (aK oY 2 (ae (aa 0) (ae (aa 1) ah))))
def rG:=bH 2 (LG)
theorem Xs:af ["ladder","thing"] ["ladder","thing"] (aJ (top 25)):=ck (by decide +kernel)
theorem Xu(B:Bt mg)(Xv:ay P w K mg base 4 "is_rule" 2 yt)(ET:ay P w K mg base 3 "rises" 2 oY)(a:At K mg "is_rising_rule" (top 25) ["ladder","thing"]):ay P w K mg base 5 "is_rising_rule" 2 (rG):=
 ay.bQ a Xs fun _ _ _ _ _ _ _ hr=>
  aX (bO (zN (bc Xv hr (by decide) (aE 0 rfl rfl (aE 1 rfl rfl ak))) (zM (bc ET hr (by decide) (aE 0 rfl rfl (aE 1 rfl rfl ak))))))
def LH:aI:=cS (gC (f_ (aK rG 2 (ae (aa 0) (ae (aa 1) ah))))) xa (dR)
def yu:=bH 2 (LH)
theorem LJ:af ["ladder","thing"] ["ladder","thing"] (aJ (top 26)):=ck (by decide +kernel)
theorem Xw(B:Bt mg)(EU:ay P w K mg base 5 "is_rising_rule" 2 rG)(a:At K mg "refuse_unrising" (top 26) ["ladder","thing"]):ay P w K mg base 6 "refuse_unrising" 2 (yu):=
 ay.bQ a LJ fun _ _ _ _ _ _ _ hr=>
  aX (fU (mO (lX (bc EU hr (by decide) (aE 0 rfl rfl (aE 1 rfl rfl ak))))) (aX C6) gf)
def LK:fD:=q9 (gC (f_ (aK rG 2 (ae (aa 0) (ae (aa 1) ah))))) (Du "NoRule") (Dt)
def vw:List D->Option Str:=fnX 2 LK
theorem Xx(B:Bt mg)(T:Xt K mg)(EU:ay P w K mg base 5 "is_rising_rule" 2 rG)(a:At K mg "refuse_unrising" (top 26) ["ladder","thing"]):mh P w K mg base 6 "refuse_unrising" 2 vw:=
 mh.bQ (k:=5) a LJ fun _ _ _ _ _ _ _ hr=>
  q_ (HY (mO (lX (bc EU hr (by decide) (aE 0 rfl rfl (aE 1 rfl rfl ak))))) (q_ (HZ hr T.n8)) HV)
def LL:aI:=aB (eI (aK lz 2 (ae (eL 0 "places") (ae (aa 1) ah))))
 (aB (eI (aK lz 2 (ae (eL 0 "places") (ae (aa 2) ah))))
 (aB (eI (aK yu 2 (ae (eL 0 "ladder") (ae (aa 3) ah))))
 (aB (lg "Keeper" 0 "ways" (qS (eL 0 "ways") (da (ae (da (ae (aa 1) (ae (aa 2) (ae (aa 3) ah)))) ah))))
 (eI (mY "Keeper" "rise" rE 1 0 ah)))))
def rH:D->List D->Option D:=ml 4 LL
theorem LM:af ["self","start","goal","rule"] ["self","start","goal","rule"] (aJ (gu (top 40) 2)):=ck (by decide +kernel)
theorem Xy(B:Bt mg)(N:Kt K)(ud:ay P w K mg base 3 "refuse_no_place" 2 lz)(Xz:ay P w K mg base 6 "refuse_unrising" 2 yu)(EN:jD P w K mg base 4 "Keeper" "rise" 1 rE)(a:jq K "Keeper" "add_way" "Keeper.add_way" (gu (top 40) 2) ["self","start","goal","rule"]):jD P w K mg base 7 "Keeper" "add_way" 4 rH:=
 jD.bQ (k:=6) a LM fun _ _ _ _ _ _ _ hr=>
  aV (iQ (bc ud hr (by decide) (av (iE (ql 0 rfl rfl)) (aE 1 rfl rfl ak) kr)))
  (aV (iQ (bc ud hr (by decide) (av (iE (ql 0 rfl rfl)) (aE 2 rfl rfl ak) kr)))
  (aV (iQ (bc Xz hr (by decide) (av (iE (ql 0 rfl rfl)) (aE 3 rfl rfl ak) kr)))
  (aV (oT N.oh (ql 0 rfl rfl) (zO (iE (ql 0 rfl rfl)) (iz (av (iz (aE 1 rfl rfl (aE 2 rfl rfl (aE 3 rfl rfl ak)))) ak uY))))
  (aX (iQ (Ke EN hr (by decide) (ql 0 rfl rfl)))))))
def LN:fD:=u5 (k7 oX 2 (ae (eL 0 "places") (ae (aa 1) ah))) (xn (eI (aK lz 2 (ae (eL 0 "places") (ae (aa 1) ah)))) (u5 (k7 oX 2 (ae (eL 0 "places") (ae (aa 2) ah))) (xn (eI (aK lz 2 (ae (eL 0 "places") (ae (aa 2) ah)))) (k7 vw 2 (ae (eL 0 "ladder") (ae (aa 3) ah))))))
def oi:List D->Option Str:=fnX 4 LN
theorem XA(B:Bt mg)(T:Xt K mg)(ud:ay P w K mg base 3 "refuse_no_place" 2 lz)(AU:mh P w K mg base 3 "refuse_no_place" 2 oX)(XB:mh P w K mg base 6 "refuse_unrising" 2 vw)(a:jq K "Keeper" "add_way" "Keeper.add_way" (gu (top 40) 2) ["self","start","goal","rule"]):lh P w K mg base 7 "Keeper" "add_way" 4 oi:=
 lh.bQ (k:=6) a LM fun _ _ _ _ _ _ _ hr=>
  HW (q_ (Ac (Ad AU hr (by decide) (av (iE (ql 0 rfl rfl)) (aE 1 rfl rfl ak) kr)))) (HX (iQ (bc ud hr (by decide) (av (iE (ql 0 rfl rfl)) (aE 1 rfl rfl ak) kr))) (HW (q_ (Ac (Ad AU hr (by decide) (av (iE (ql 0 rfl rfl)) (aE 2 rfl rfl ak) kr)))) (HX (iQ (bc ud hr (by decide) (av (iE (ql 0 rfl rfl)) (aE 2 rfl rfl ak) kr))) (q_ (Ac (Ad XB hr (by decide) (av (iE (ql 0 rfl rfl)) (aE 3 rfl rfl ak) kr)))))))
def uf:aI:=aB (aY 5 (eC .au))
 (aB (aY 6 (eC .au)) (xp ["NoPlace","NoRule"] (aY 6 (oJ (bj (e2 de (aa 1) (eC (.int 0)))) (mY "Keeper" "add_begin" rF 3 0 (ae (aa 2) (ae (aa 4) ah))) (mY "Keeper" "add_way" rH 4 0 (ae (aa 2) (ae (aa 3) (ae (aa 4) ah)))))) (tF (bj (e2 de (aa 1) (eC (.int 0)))) (lj "Keeper" "add_begin" mB 3 0 (ae (aa 2) (ae (aa 4) ah))) (lj "Keeper" "add_way" oi 4 0 (ae (aa 2) (ae (aa 3) (ae (aa 4) ah))))) 7 5))
def ug:aI:=aB (cS (bj (e2 u4 (aa 5) (eC .au))) (bF (aa 6)) dR)
 (bF (aK vt 1 (ae (aa 5) ah)))
def kI:D->List D->Option (D×D):=tS 8 uf ug
theorem yv:af ["_law_keeper","_law_what","_law_start","_law_goal","_law_thing","_law_kept","_law_answer","e"] ["_law_keeper","_law_what","_law_start","_law_goal","_law_thing"] (aJ (top 56)):=ck (by decide +kernel)
theorem XD(B:Bt mg)(T:Xt K mg)(c6:jD P w K mg base 5 "Keeper" "add_begin" 3 rF)(c7:jD P w K mg base 7 "Keeper" "add_way" 4 rH)(XE:ay P w K mg base 1 "_law_word" 1 vt)(XF:lh P w K mg base 5 "Keeper" "add_begin" 3 mB)(XG:lh P w K mg base 7 "Keeper" "add_way" 4 oi)(a:At K mg "_law_tried" (top 56) ["_law_keeper","_law_what","_law_start","_law_goal","_law_thing"]):pY P w K mg base 8 "_law_tried" 5 kI:=
 pY.bQ (k:=7) a yv rfl fun _ _ _ _ _ _ _ hr=>
  ⟨bS (i:=5) yv.nd rfl (Or.inl rfl) (sU),bS (i:=6) yv.nd rfl (Or.inl rfl) (sU),Uq (ie:=7) (ik:=5) T.u (aX (bS (i:=6) yv.nd rfl (Or.inl rfl) (Cs (nG hr (aM 1 rfl rfl) bp) (Kb c6 hr (by decide) (ql 0 rfl rfl) (aE 2 rfl rfl (aE 4 rfl rfl ak))) (Kb c7 hr (by decide) (ql 0 rfl rfl) (aE 2 rfl rfl (aE 3 rfl rfl (aE 4 rfl rfl ak))))))) (Up (Vz XF XG hr (by decide) (by decide) (nG hr (aM 1 rfl rfl) bp) (ql 0 rfl rfl) (ql 0 rfl rfl) (aE 2 rfl rfl (aE 4 rfl rfl ak)) (aE 2 rfl rfl (aE 3 rfl rfl (aE 4 rfl rfl ak))))) yv.nd rfl rfl,
  aV (fU (HP (aM 5 rfl rfl) sU) (aX (bO (aM 6 rfl rfl))) gf)
  (aX (bO (bc XE hr (by decide) (aE 5 rfl rfl ak))))⟩
def LO:aI:=bF (fJ (fC 1 (dj (ae (bX 0) ah)) (bg 1) (bj (e2 de (wM (ae (bU 0 (aa 1)) ah)) (qO (ae (bX 0) ah)))) (aa 1) false) (eC (.int 0)))
def uh:=bH 1 (LO)
theorem XH:af ["_law_ladder_here"] ["_law_ladder_here"] (aJ (top 49)):=ck (by decide +kernel)
abbrev LP:List Str:=["_law_ladder_here","_law_worth"]
theorem XI:(LP).Nodup:=by decide +kernel
theorem XJ(B:Bt mg)(a:At K mg "_law_low" (top 49) ["_law_ladder_here"]):ay P w K mg base 1 "_law_low" 1 (uh):=
 ay.bQ a XH fun _ _ _ _ _ _ _ hr=>
  aX (bO (jX (l7 (k:=1) (N':=LP) false rfl ⟨rfl,by decide +kernel,rfl,rfl,rfl⟩ (iB B.aH (av (eX B.aQ (qv 0)) ak cc)) (fun _ _ _ _=>eJ (i:=1) (show 1<=1 by decide) XI rfl (Or.inl rfl) (Or.inr rfl)) (fun _ _ _ _=>zI (nG hr (SF B.i7 ZW (av (dA (qv 0) (cI (qv 1))) ak me)) (CK rfl B.i7 ZW B.aH (av (eX B.aQ (qv 0)) ak cc)))) (fun _ _ _ _=>cI (qv 1))) bp))
abbrev XM:aI:=aY 2 (fJ (bU 0 (aa 2)) (aa 3))
def LQ:aI:=aB (aY 2 (aK uh 1 (ae (aa 0) ah)))
 (aB (gi (fK (aa 1)) (bg 3) XM)
 (bF (aa 2)))
def ui:=bH 4 (LQ)
theorem AV:af ["_law_ladder_here","_law_worths","_law_here","_law_worth"] ["_law_ladder_here","_law_worths"] (aJ (top 50)):=ck (by decide +kernel)
theorem XN(B:Bt mg)(EV:ay P w K mg base 1 "_law_low" 1 uh)(a:At K mg "_law_join" (top 50) ["_law_ladder_here","_law_worths"]):ay P w K mg base 2 "_law_join" 2 (ui):=
 ay.bQ a AV fun _ _ _ _ _ _ _ hr=>
  aV (bS (i:=2) AV.nd rfl (Or.inl rfl) (bc EV hr (by decide) (aE 0 rfl rfl ak)))
  (aV (kh QT rfl (mP (aM 1 rfl rfl)) (eJ (i:=3) (show 0<=3 by decide) AV.nd rfl (Or.inl rfl)) (aX (bS (i:=2) AV.nd rfl (Or.inl rfl) (jX (dA (ql 0 rfl rfl) (aM 2 rfl rfl)) (aM 3 rfl rfl)))))
  (aX (bO (aM 2 rfl rfl))))
def LR:aI:=bF (fC 1 (dj (ae (bX 0) ah)) (bg 2) (bj (e2 de (fJ (bU 0 (aa 2)) (aa 1)) (aa 1))) (aa 2) false)
def rJ:=bH 2 (LR)
theorem XQ:af ["_law_ladder_here","_law_worth"] ["_law_ladder_here","_law_worth"] (aJ (top 51)):=ck (by decide +kernel)
abbrev LS:List Str:=["_law_ladder_here","_law_worth","_law_one"]
theorem XR:(LS).Nodup:=by decide +kernel
theorem XS(B:Bt mg)(a:At K mg "_law_under" (top 51) ["_law_ladder_here","_law_worth"]):ay P w K mg base 1 "_law_under" 2 (rJ):=
 ay.bQ a XQ fun _ _ _ _ _ _ _ hr=>
  aX (bO (l7 (k:=1) (N':=LS) false rfl ⟨rfl,by decide +kernel,rfl,rfl,rfl⟩ (iB B.aH (av (eX B.aQ (qv 0)) ak cc)) (fun _ _ _ _=>eJ (i:=2) (show 2<=2 by decide) XR rfl (Or.inl rfl) (Or.inr rfl)) (fun _ _ _ _=>zI (nG hr (jX (dA (qv 0) (cI (qv 2))) (cI (qv 1))) (cI (qv 1)))) (fun _ _ _ _=>cI (qv 2))))
abbrev XT:aI:=eI (jy 6 (ae (aK ui 2 (ae (aa 2) (ae (fC 1 (fK (aK rJ 2 (ae (aa 2) (ae (aa 5) ah)))) (bg 7) d5 (bU 4 (aa 7)) false) ah))) ah))
abbrev XU:aI:=eI (jy 4 (ae (fJ (eG (ae (aa 3) (ae (aa 5) (ae (aK cQ 3 (ae (aa 0) (ae (e2 bB (aa 1) (aa 5)) (ae (bX 2) ah)))) ah)))) (aK cQ 3 (ae (aa 0) (ae (e2 bB (e2 bB (aa 1) (eC (.int 8))) (aa 5)) (ae (eC (.int 3)) ah))))) ah))
def LU:aI:=aB (aY 3 (aK uh 1 (ae (aa 2) ah)))
 (aB (aY 4 (eG ah))
 (aB (gi (dj (ae (bX 2) ah)) (bg 5) XU)
 (aB (aY 6 (eG ah))
 (aB (gi (dj (ae (bX 2) ah)) (bg 5) XT)
 (bF (mW (ae (aa 6) ah)))))))
def yw:=bH 7 (LU)
theorem vx:af ["_law_script","_law_at","_law_ladder_here","_law_low_here","_law_drawn","_law_worth","_law_made"] ["_law_script","_law_at","_law_ladder_here"] (aJ (top 52)):=ck (by decide +kernel)
abbrev LV:List Str:=["_law_script","_law_at","_law_ladder_here","_law_low_here","_law_drawn","_law_worth","_law_made","_law_one"]
theorem XW:(LV).Nodup:=by decide +kernel
theorem XX(B:Bt mg)(EV:ay P w K mg base 1 "_law_low" 1 uh)(i8:ay P w K mg base 2 "_law_pick" 3 cQ)(XY:ay P w K mg base 2 "_law_join" 2 ui)(XZ:ay P w K mg base 1 "_law_under" 2 rJ)(a:At K mg "_law_rule" (top 52) ["_law_script","_law_at","_law_ladder_here"]):ay P w K mg base 3 "_law_rule" 3 (yw):=
 ay.bQ a vx fun _ _ _ _ _ _ _ hr=>
  aV (bS (i:=3) vx.nd rfl (Or.inl rfl) (bc EV hr (by decide) (aE 2 rfl rfl ak)))
  (aV (bS (i:=4) vx.nd rfl (Or.inr rfl) (f9 ak))
  (aV (kh QT rfl (iB B.aH (av (eX B.aQ (ql 2 rfl rfl)) ak cc)) (eJ (i:=5) (show 0<=5 by decide) vx.nd rfl (Or.inl rfl)) (aX (iQ (pK (qv 4) (av (jX (f9 (aE 3 rfl rfl (aE 5 rfl rfl (av (bc i8 hr (by decide) (aE 0 rfl rfl (av (eF (aM 1 rfl rfl) (aM 5 rfl rfl)) (av (eX B.aQ (ql 2 rfl rfl)) ak cc) gU))) ak cc)))) (bc i8 hr (by decide) (aE 0 rfl rfl (av (eF (eF (aM 1 rfl rfl) bp) (aM 5 rfl rfl)) (cu ak) gU)))) ak me)))))
  (aV (bS (i:=6) vx.nd rfl (Or.inl rfl) (f9 ak))
  (aV (kh QT rfl (iB B.aH (av (eX B.aQ (ql 2 rfl rfl)) ak cc)) (eJ (i:=5) (show 0<=5 by decide) vx.nd rfl (Or.inl rfl)) (aX (iQ (pK (ql 6 rfl rfl) (av (bc XY hr (by decide) (aE 2 rfl rfl (av (l7 (k:=1) (N':=LV) false rfl ⟨rfl,by decide +kernel,rfl,rfl,rfl⟩ (mP (bc XZ hr (by decide) (aE 2 rfl rfl (aE 5 rfl rfl ak)))) (fun _ _ _ _=>eJ (i:=7) (show 7<=7 by decide) XW rfl (Or.inl rfl) (Or.inr rfl)) (fun _ _ _ _=>mQ) (fun _ _ _ _=>dA (qv 4) (cI (qv 7)))) ak uX))) ak cc)))))
  (aX (bO (wN B.bV QX (aE 6 rfl rfl ak))))))))
def EW:aI:=aB (cS (bj (e2 de (aK cQ 3 (ae (aa 0) (ae (e2 bB (aa 1) (eC (.int 21))) (ae (eC (.int 5)) ah)))) (eC (.int 0)))) (bF (mW (ae (fC 1 (dj (ae (bX 2) ah)) (bg 3) d5 (aK cQ 3 (ae (aa 0) (ae (e2 bB (aa 1) (aa 3)) (ae (bX 2) ah)))) false) ah))) dR)
 (bF (aK yw 3 (ae (aa 0) (ae (aa 1) (ae (aa 2) ah)))))
def rK:=bH 3 (EW)
theorem X0:af ["_law_script","_law_at","_law_ladder_here"] ["_law_script","_law_at","_law_ladder_here"] (aJ (top 57)):=ck (by decide +kernel)
abbrev LW:List Str:=["_law_script","_law_at","_law_ladder_here","_law_k"]
theorem X1:(LW).Nodup:=by decide +kernel
theorem X2(B:Bt mg)(i8:ay P w K mg base 2 "_law_pick" 3 cQ)(X3:ay P w K mg base 3 "_law_rule" 3 yw)(a:At K mg "_law_any_rule" (top 57) ["_law_script","_law_at","_law_ladder_here"]):ay P w K mg base 4 "_law_any_rule" 3 (rK):=
 ay.bQ a X0 fun _ _ _ _ _ _ _ hr=>
  aV (fU (nG hr (bc i8 hr (by decide) (av (cI (qv 0)) (av (eF (cI (qv 1)) bp) (cu ak) gU) eS)) bp) (aX (bO (wN B.bV QX (av (l7 (k:=1) (N':=LW) false rfl ⟨rfl,by decide +kernel,rfl,rfl,rfl⟩ (iB B.aH (av (eX B.aQ (qv 2)) ak cc)) (fun _ _ _ _=>eJ (i:=3) (show 3<=3 by decide) X1 rfl (Or.inl rfl) (Or.inr rfl)) (fun _ _ _ _=>mQ) (fun _ _ _ _=>bc i8 hr (by decide) (av (cI (qv 0)) (av (eF (cI (qv 1)) (cI (qv 3))) (av (eX B.aQ (qv 2)) ak cc) gU) eS))) ak uX)))) gf)
  (aX (bO (bc X3 hr (by decide) (av (cI (qv 0)) (av (cI (qv 1)) (av (cI (qv 2)) ak eS) eS) eS))))
def LX:aI:=aB (cS (jl (gC (f_ (tw .tuple (aa 0)))) (jl (bj (e2 cJ (bX 0) (eC (.int 2)))) (gC (f_ (tw .str (bU 0 (eC (.int 0)))))))) (bF (eC (.bl false))) dR)
 (bF (aK mz 2 (ae (bU 0 (eC (.int 1))) (ae (C9 (aa 1) (bU 0 (eC (.int 0))) (eC (.int 0))) ah))))
def yx:=bH 2 (LX)
theorem X4:af ["thing","many_by_name"] ["thing","many_by_name"] (aJ (top 12)):=ck (by decide +kernel)
theorem X5(B:Bt mg)(ua:ay P w K mg base 2 "is_number_of" 2 mz)(a:At K mg "is_named_number" (top 12) ["thing","many_by_name"]):ay P w K mg base 3 "is_named_number" 2 (yx):=
 ay.bQ a X4 fun _ _ _ _ _ _ _ hr=>
  aV (fU (tT (qM (mO (lX (wY .tuple B.aG B.bV QX (aM 0 rfl rfl)))) (qM (oN hr (eX B.aQ (ql 0 rfl rfl)) bp) (uS (mO (lX (wY .str B.aG B.yi PyProof.Rows.boot_str (dA (ql 0 rfl rfl) bp)))))))) (aX (bO oH)) gf)
  (aX (bO (bc ua hr (by decide) (av (dA (ql 0 rfl rfl) bp) (av (TH hr (aM 1 rfl rfl) (dA (ql 0 rfl rfl) bp) bp) ak cc) me))))
def LY:aI:=bF (aK yx 2 (ae (aa 1) (ae (xf "begin" "way" (qU 0 2) (qU 0 1)) ah)))
def rL:=bH 2 (LY)
theorem X6:af ["chart","thing"] ["chart","thing"] (aJ (top 33)):=ck (by decide +kernel)
theorem X7(B:Bt mg)(X8:ay P w K mg base 3 "is_named_number" 2 yx)(a:At K mg "is_step" (top 33) ["chart","thing"]):ay P w K mg base 4 "is_step" 2 (rL):=
 ay.bQ a X6 fun _ _ _ _ _ _ _ hr=>
  aX (bO (bc X8 hr (by decide) (aE 1 rfl rfl (av (TC (by decide) (HI B.aQ (ql 0 rfl rfl)) (HI B.aQ (ql 0 rfl rfl))) ak TL))))
def LZ:aI:=cS (gC (f_ (eB qR (ae (fC 1 (fK (aa 1)) (bg 2) d5 (aK rL 2 (ae (aa 0) (ae (aa 2) ah))) false) ah)))) xa (dR)
def yy:=bH 2 (LZ)
theorem X9:af ["chart","steps"] ["chart","steps"] (aJ (top 34)):=ck (by decide +kernel)
abbrev L6:List Str:=["chart","steps","step"]
theorem X_:(L6).Nodup:=by decide +kernel
theorem YW(B:Bt mg)(YX:ay P w K mg base 4 "is_step" 2 rL)(a:At K mg "refuse_no_step" (top 34) ["chart","steps"]):ay P w K mg base 5 "refuse_no_step" 2 (yy):=
 ay.bQ a X9 fun _ _ _ _ _ _ _ hr=>
  aX (fU (mO (lX (Hw rfl B.rC (av (l7 (k:=1) (N':=L6) false rfl ⟨rfl,by decide +kernel,rfl,rfl,rfl⟩ (mP (aM 1 rfl rfl)) (fun _ _ _ _=>eJ (i:=2) (show 2<=2 by decide) X_ rfl (Or.inl rfl) (Or.inr rfl)) (fun _ _ _ _=>mQ) (fun _ _ _ _=>bc YX hr (by decide) (av (cI (qv 0)) (av (cI (qv 2)) ak eS) eS))) ak uX)))) (aX C6) gf)
def L7:aI:=aB (eI (aK yy 2 (ae (aa 1) (ae (aa 2) ah))))
 (aB (aY 3 (aK rD 4 (ae (aa 0) (ae (aa 1) (ae (aa 2) (ae (aK t_ 2 (ae (aa 0) (ae (aa 1) ah))) ah))))))
 (bF (da (ae (bU 3 (eC (.int 0))) (ae (eB mV (ae (bU 3 (eC (.int 1))) ah)) ah)))))
def yz:=bH 4 (L7)
theorem L8:af ["ladder","chart","order","ended"] ["ladder","chart","order"] (aJ (top 38)):=ck (by decide +kernel)
theorem YY(B:Bt mg)(YZ:ay P w K mg base 5 "refuse_no_step" 2 yy)(EL:ay P w K mg base 3 "risen" 4 rD)(EI:ay P w K mg base 3 "lowest" 2 t_)(a:At K mg "least_by" (top 38) ["ladder","chart","order"]):ay P w K mg base 6 "least_by" 3 (yz):=
 ay.bQ a L8 fun _ _ _ _ _ _ _ hr=>
  aV (iQ (bc YZ hr (by decide) (aE 1 rfl rfl (aE 2 rfl rfl ak))))
  (aV (bS (i:=3) L8.nd rfl (Or.inl rfl) (bc EL hr (by decide) (aE 0 rfl rfl (aE 1 rfl rfl (aE 2 rfl rfl (av (bc EI hr (by decide) (aE 0 rfl rfl (aE 1 rfl rfl ak))) ak cc))))))
  (aX (bO (iz (av (dA (ql 3 rfl rfl) bp) (av (wL B.aQ (av (dA (ql 3 rfl rfl) bp) ak me)) ak cc) me)))))
def L9:aI:=bF (fJ (aK yz 3 (ae (aa 0) (ae (aa 1) (ae (aK uc 1 (ae (aa 1) ah)) ah)))) (eC (.int 0)))
def rM:=bH 2 (L9)
theorem Y0:af ["ladder","chart"] ["ladder","chart"] (aJ (top 31)):=ck (by decide +kernel)
theorem Y1(B:Bt mg)(Y2:ay P w K mg base 6 "least_by" 3 yz)(EM:ay P w K mg base 1 "all_steps" 1 uc)(a:At K mg "least" (top 31) ["ladder","chart"]):ay P w K mg base 7 "least" 2 (rM):=
 ay.bQ a Y0 fun _ _ _ _ _ _ _ hr=>
  aX (bO (jX (bc Y2 hr (by decide) (aE 0 rfl rfl (aE 1 rfl rfl (av (bc EM hr (by decide) (aE 1 rfl rfl ak)) ak cc)))) bp))
abbrev Y3:aI:=aY 2 (fJ (bU 0 (aa 2)) (aa 3))
def L_:aI:=aB (aY 2 (aK t8 1 (ae (aa 0) ah)))
 (aB (gi (fK (aa 1)) (bg 3) Y3)
 (bF (aa 2)))
def yA:=bH 4 (L_)
theorem AW:af ["ladder","worths","joined","worth"] ["ladder","worths"] (aJ (top 20)):=ck (by decide +kernel)
theorem Y4(B:Bt mg)(EH:ay P w K mg base 2 "least_of" 1 t8)(a:At K mg "joined_all" (top 20) ["ladder","worths"]):ay P w K mg base 3 "joined_all" 2 (yA):=
 ay.bQ a AW fun _ _ _ _ _ _ _ hr=>
  aV (bS (i:=2) AW.nd rfl (Or.inl rfl) (bc EH hr (by decide) (aE 0 rfl rfl ak)))
  (aV (kh QT rfl (mP (aM 1 rfl rfl)) (eJ (i:=3) (show 0<=3 by decide) AW.nd rfl (Or.inl rfl)) (aX (bS (i:=2) AW.nd rfl (Or.inl rfl) (jX (dA (ql 0 rfl rfl) (aM 2 rfl rfl)) (aM 3 rfl rfl)))))
  (aX (bO (aM 2 rfl rfl))))
def Ma:aI:=bF (aK yA 2 (ae (aa 0) (ae (qO (ae (bX 0) ah)) ah)))
def uj:=bH 1 (Ma)
theorem Y5:af ["ladder"] ["ladder"] (aJ (top 16)):=ck (by decide +kernel)
theorem Y6(B:Bt mg)(Y7:ay P w K mg base 3 "joined_all" 2 yA)(a:At K mg "greatest_of" (top 16) ["ladder"]):ay P w K mg base 4 "greatest_of" 1 (uj):=
 ay.bQ a Y5 fun _ _ _ _ _ _ _ hr=>
  aX (bO (bc Y7 hr (by decide) (aE 0 rfl rfl (av (CK rfl B.i7 ZW B.aH (av (eX B.aQ (ql 0 rfl rfl)) ak cc)) ak cc))))
def Mb:aI:=bF (fC 1 (fK (aK jJ 2 (ae (aa 0) (ae (aa 1) ah)))) (bg 2) (bj (e2 cJ (aa 2) (aa 1))) (aa 2) false)
def uk:=bH 2 (Mb)
theorem Y8:af ["ladder","worth"] ["ladder","worth"] (aJ (top 19)):=ck (by decide +kernel)
abbrev Mc:List Str:=["ladder","worth","x"]
theorem Y9:(Mc).Nodup:=by decide +kernel
theorem Y_(B:Bt mg)(ES:ay P w K mg base 2 "below" 2 jJ)(a:At K mg "truly_below" (top 19) ["ladder","worth"]):ay P w K mg base 3 "truly_below" 2 (uk):=
 ay.bQ a Y8 fun _ _ _ _ _ _ _ hr=>
  aX (bO (l7 (k:=1) (N':=Mc) false rfl ⟨rfl,by decide +kernel,rfl,rfl,rfl⟩ (mP (bc ES hr (by decide) (aE 0 rfl rfl (av (cI (qv 1)) ak eS)))) (fun _ _ _ _=>eJ (i:=2) (show 2<=2 by decide) Y9 rfl (Or.inl rfl) (Or.inr rfl)) (fun _ _ _ _=>zI (oN hr (cI (qv 2)) (cI (qv 1)))) (fun _ _ _ _=>cI (qv 2))))
def AX:aF:=eB mV (ae (aK jJ 2 (ae (aa 1) (ae (aa 0) ah))) ah)
def Md:aI:=Aq AX uk uj
def rN:=bH 3 Md
theorem EX:af ["ladder","heights","worth"] ["ladder"] (aJ (top 21)):=ck (by decide +kernel)
abbrev Me:List Str:=["ladder","heights","worth","x"]
theorem Z_:(Me).Nodup:=by decide +kernel
theorem y8a(B:Bt mg)(L:Lm K mg base)(KX:K.In base)(NG:base.Ns mainGlobals mg)(tb:∃ c Pt,PySem.W.tabIn K "height_of" = some (c,Pt))(qd:∀ base:Heap,ay P w K mg base 2 "below" 2 jJ)(c53:ay P w K mg base 3 "truly_below" 2 uk)(c30:ay P w K mg base 4 "greatest_of" 1 uj)(a:At K mg "height_of" (top 21) ["ladder"]):ay P w K mg base 6 "height_of" 1 rN:=
 ay.VN (k:=5) KX NG tb a EX fun f c Pt A outer s H E ht hr=>⟨by
  refine Vd ?h1 ?h2 ?h4
  case h1=>exact Bv EX.nd rfl (Or.inr rfl) Rf
  case h4=>exact FG (GA (aw.u1 hr) (pv 1 rfl (Or.inr (Or.inl rfl))) (bc c30 hr (by decide) (av (cI (qv 0)) ak eS)).o (fun _ _=>rfl))
  case h2=>
   intro g
   refine FL QT rfl (G3 (UY (ps:=["x"]) (caps:=["ladder"]) (is:=[0]) (kb:=2) rfl L (by decide) ht rfl ?S rfl rfl B.n6 hr (by decide) ?body ?bind ?xw rfl ?ha)) (Bu EX.nd rfl (Or.inl rfl)) (yV (Rc (aw.u1 hr) (pv 1 rfl (Or.inr (Or.inl rfl))) (pv 2 rfl (Or.inl rfl)) ?hv rfl))
   case S=>exact cB.of rfl rfl rfl (by decide +kernel) (by decide +kernel) (by decide +kernel) (by decide +kernel) (by decide +kernel)
   case xw=>exact AE.at (zs:=["ladder"]) (is:=[0]) ⟨rfl,rfl,trivial⟩
   case body=>exact fun _ _ _ _ _ _ _ _ _ hr=>(wL B.aQ (av (bc (qd _) hr (by decide) (av (cI (qv 1)) (aE 0 rfl rfl ak) eS)) ak cc)).o
   case bind=>exact fun _ _ _ _ us h=>by obtain⟨_,rfl⟩:=List.length_eq_one_iff.mp h;rfl
   case ha=>exact jU (CF rfl B.aH (av (eX B.aQ (qv 0)) ak cc).o rfl) mL rfl
   case hv=>exact UI rfl rfl B.n4 (by kernel_rfl) (jU (GU (k:=1) (N':=Me) rfl ⟨rfl,by decide +kernel,rfl,rfl,rfl⟩ (mP (bc c53 hr (by decide) (av (cI (qv 0)) (aE 2 rfl rfl ak) eS))).o (fun _ _ _ _=>Bu Z_ rfl (Or.inl rfl)) (fun _ _ _ _=>GL) (fun _ _ _ _=>o_ FQ (GA (aw.u1 hr) (pv 1) (pv 3) (fun _ _=>rfl)) yR)) mL rfl) (F7 yR F5)⟩
abbrev AY:aI:=aB (aY 10 (e2 bB (eC (.int 30)) (e2 iy (eC (.int 30)) (aa 9))))
 (aB (aY 11 (e2 zy (aK cQ 3 (ae (aa 0) (ae (aa 10) (ae (e2 bB (aa 2) (eC (.int 2))) ah)))) (eC (.int 1))))
 (aB (aY 12 (aK cQ 3 (ae (aa 0) (ae (e2 bB (aa 10) (eC (.int 1))) (ae (e2 bB (aa 2) (eC (.int 1))) ah)))))
 (aB (aY 13 (eC (.str "no place")))
 (aB (cS (bj (e2 de (aK cQ 3 (ae (aa 0) (ae (e2 bB (aa 10) (eC (.int 2))) (ae (eC (.int 3)) ah)))) (eC (.int 0)))) (aB (aY 14 (aK cQ 3 (ae (aa 0) (ae (e2 bB (aa 10) (eC (.int 3))) (ae (bX 1) ah)))))
 (aB (cS (bj (ig iP iO (eC (.int 0)) (aa 11) (aa 2))) (aB (aY 13 (eC .au))
 (eI (jy 6 (ae (da (ae (aa 11) (ae (aa 14) ah))) ah)))) dR)
 (aY 15 (rp kI 5 3 (ae (eC (.int 0)) (ae (aa 11) (ae (aa 12) (ae (aa 14) ah)))))))) (aB (aY 16 (aK rK 3 (ae (aa 0) (ae (e2 bB (aa 10) (eC (.int 4))) (ae (aa 1) ah)))))
 (aB (cS (uR (bj (ig iP iO (eC (.int 0)) (aa 11) (aa 2))) (bj (e2 iO (aa 12) (aa 2)))) (aY 13 (oJ (f_ (aK oY 2 (ae (aa 1) (ae (aa 16) ah)))) (eC .au) (eC (.str "no rule")))) dR)
 (aB (cS (bj (e2 u4 (aa 13) (eC .au))) (eI (jy 5 (ae (da (ae (aa 11) (ae (aa 12) (ae (aa 16) ah)))) ah))) dR)
 (aY 15 (rp kI 5 3 (ae (eC (.int 1)) (ae (aa 11) (ae (aa 12) (ae (aa 16) ah))))))))))
 (aB (aY 17 (da (ae (aa 2) (ae (rq 5) (ae (rq 6) ah)))))
 (aB (cS (jl (bj (e2 cJ (aa 15) (aa 13))) (jl (bj (e2 cJ (gH "Keeper" "chart" kG 3) (aa 17))) (bj (e2 cJ (gH "Keeper" "answer" kH 3) (aK rM 2 (ae (aa 1) (ae (aa 17) ah))))))) (bF (eC (.bl false))) dR)
 (aB (aY 18 (gH "Keeper" "raises" qc 3))
 (aB (cS (jl (gC (bj (ig iP iP (aa 7) (aa 18) (e2 iy (aa 2) (aK rN 1 (ae (aa 1) ah)))))) (bj (e2 cJ (e2 wF (aa 18) (aa 7)) (e2 cJ (gH "Keeper" "answer" kH 3) (aa 8))))) (bF (eC (.bl false))) dR)
 (aB (aY 7 (aa 18))
 (aY 8 (gH "Keeper" "answer" kH 3)))))))))))
def Mf:aI:=aB (aY 1 (aK vm 2 (ae (aa 0) (ae (eC (.int 0)) ah))))
 (aB (aY 2 (e2 bB (eC (.int 1)) (aK cQ 3 (ae (aa 0) (ae (eC (.int 20)) (ae (eC (.int 5)) ah))))))
 (aB (aY 3 (vc "Keeper" vn 3 (ae (aa 1) (ae (aa 2) ah))))
 (aB (aY 4 (vc "Keeper" vn 3 (ae (aa 1) (ae (aa 2) ah))))
 (aB (aY 5 (eG ah))
 (aB (aY 6 (eG ah))
 (aB (aY 7 (eC (.int 0)))
 (aB (aY 8 (gH "Keeper" "answer" kH 3))
 (aB (gi (dj (ae (e2 bB (eC (.int 1)) (aK cQ 3 (ae (aa 0) (ae (eC (.int 21)) (ae (eC (.int 9)) ah))))) ah)) (bg 9) AY)
 (bF (pL (e2 de (gH "Keeper" "chart" kG 4) (da (ae (aa 2) (ae (da ah) (ae (da ah) ah))))) (e2 de (gH "Keeper" "raises" qc 4) (eC (.int 0)))))))))))))
def um:=bH 19 (Mf)
theorem gp:af ["_law_script","_law_ladder_here","_law_places","_law_keeper","_law_other","_law_ways","_law_begins","_law_by_now","_law_old","_law_j","_law_base_here","_law_start","_law_goal","_law_due","_law_worth","_law_answer","_law_rule_here","_law_chart","_law_many"] ["_law_script"] (aJ (top 58)):=ck (by decide +kernel)
theorem y97(B:Bt mg)(c19:ay P w K mg base 4 "_law_ladder" 2 vm)(i8:ay P w K mg base 2 "_law_pick" 3 cQ)(c5:pX P w K mg base 4 "Keeper" 3 vn)(c8:jE P w K mg base 1 "Keeper" "answer" 1 kH)(Mg:pY P w K mg base 8 "_law_tried" 5 kI)(c13:ay P w K mg base 4 "_law_any_rule" 3 rK)(ET:ay P w K mg base 3 "rises" 2 oY)(vq:jE P w K mg base 1 "Keeper" "chart" 1 kG)(c41:ay P w K mg base 7 "least" 2 rM)(Mh:jE P w K mg base 1 "Keeper" "raises" 1 qc)(c31:ay P w K mg base 6 "height_of" 1 rN)(a:At K mg "_law_once" (top 58) ["_law_script"]):ay P w K mg base 9 "_law_once" 1 (um):=
 ay.bQ a gp fun _ _ _ _ _ _ _ hr=>
  aV (bS (i:=1) gp.nd rfl (Or.inl rfl) (bc c19 hr (by decide) (aE 0 rfl rfl (cu ak))))
  (aV (bS (i:=2) gp.nd rfl (Or.inl rfl) (eF bp (bc i8 hr (by decide) (aE 0 rfl rfl (cu (cu ak))))))
  (aV (bS (i:=3) gp.nd rfl (Or.inl rfl) (Kf c5 hr (by decide) (aE 1 rfl rfl (aE 2 rfl rfl ak))))
  (aV (bS (i:=4) gp.nd rfl (Or.inl rfl) (Kf c5 hr (by decide) (aE 1 rfl rfl (aE 2 rfl rfl ak))))
  (aV (bS (i:=5) gp.nd rfl (Or.inl rfl) (f9 ak))
  (aV (bS (i:=6) gp.nd rfl (Or.inl rfl) (f9 ak))
  (aV (bS (i:=7) gp.nd rfl (Or.inl rfl) bp)
  (aV (bS (i:=8) gp.nd rfl (Or.inl rfl) (oU c8 hr (by decide) (ql 3 rfl rfl)))
  (aV (kh QT rfl (iB B.aH (av (eF bp (bc i8 hr (by decide) (aE 0 rfl rfl (cu (cu ak))))) ak gU)) (eJ (i:=9) (show 0<=9 by decide) gp.nd rfl (Or.inl rfl)) (aV (bS (i:=10) gp.nd rfl (Or.inl rfl) (eF bp (oI bp (aM 9 rfl rfl))))
  (aV (bS (i:=11) gp.nd rfl (Or.inl rfl) (R5 (bc i8 hr (by decide) (aE 0 rfl rfl (aE 10 rfl rfl (av (eF (aM 2 rfl rfl) bp) ak gU)))) bp))
  (aV (bS (i:=12) gp.nd rfl (Or.inl rfl) (bc i8 hr (by decide) (aE 0 rfl rfl (av (eF (aM 10 rfl rfl) bp) (av (eF (aM 2 rfl rfl) bp) ak gU) gU))))
  (aV (bS (i:=13) gp.nd rfl (Or.inl rfl) mM)
  (aV (fU (nG hr (bc i8 hr (by decide) (aE 0 rfl rfl (av (eF (aM 10 rfl rfl) bp) (cu ak) gU))) bp) (aV (bS (i:=14) gp.nd rfl (Or.inl rfl) (bc i8 hr (by decide) (aE 0 rfl rfl (av (eF (aM 10 rfl rfl) bp) (av (eX B.aQ (ql 1 rfl rfl)) ak cc) gU))))
  (aV (fU (HG bp (aM 11 rfl rfl) (aM 2 rfl rfl)) (aV (bS (i:=13) gp.nd rfl (Or.inl rfl) sU)
  (aX (iQ (pK (ql 6 rfl rfl) (av (iz (aE 11 rfl rfl (aE 14 rfl rfl ak))) ak uY))))) gf)
  (aX (bS (i:=15) gp.nd rfl (Or.inl rfl) (Kk Mg hr (by decide) (ql 3 rfl rfl) (cu (aE 11 rfl rfl (aE 12 rfl rfl (aE 14 rfl rfl ak))))))))) (aV (bS (i:=16) gp.nd rfl (Or.inl rfl) (bc c13 hr (by decide) (aE 0 rfl rfl (av (eF (aM 10 rfl rfl) bp) (aE 1 rfl rfl ak) gU))))
  (aV (fU (tT (Sb (HG bp (aM 11 rfl rfl) (aM 2 rfl rfl)) (Sa (wG (aM 12 rfl rfl) (aM 2 rfl rfl))))) (aX (bS (i:=13) gp.nd rfl (Or.inl rfl) (Cs (lX (bc ET hr (by decide) (aE 1 rfl rfl (aE 16 rfl rfl ak)))) sU mM))) gf)
  (aV (fU (HP (aM 13 rfl rfl) sU) (aX (iQ (pK (ql 5 rfl rfl) (av (iz (aE 11 rfl rfl (aE 12 rfl rfl (aE 16 rfl rfl ak)))) ak uY)))) gf)
  (aX (bS (i:=15) gp.nd rfl (Or.inl rfl) (Kk Mg hr (by decide) (ql 3 rfl rfl) (cu (aE 11 rfl rfl (aE 12 rfl rfl (aE 16 rfl rfl ak)))))))))))
  (aV (bS (i:=17) gp.nd rfl (Or.inl rfl) (iz (aE 2 rfl rfl (av (Kn B.bV QX (ql 5 rfl rfl)) (av (Kn B.bV QX (ql 6 rfl rfl)) ak cc) cc))))
  (aV (fU (tT (qM (oN hr (aM 15 rfl rfl) (aM 13 rfl rfl)) (qM (oN hr (oU vq hr (by decide) (ql 3 rfl rfl)) (aM 17 rfl rfl)) (uS (oN hr (oU c8 hr (by decide) (ql 3 rfl rfl)) (bc c41 hr (by decide) (aE 1 rfl rfl (aE 17 rfl rfl ak)))))))) (aX (bO oH)) gf)
  (aV (bS (i:=18) gp.nd rfl (Or.inl rfl) (oU Mh hr (by decide) (ql 3 rfl rfl)))
  (aV (fU (tT (qM (mO (Tr (aM 7 rfl rfl) (aM 18 rfl rfl) (oI (aM 2 rfl rfl) (bc c31 hr (by decide) (aE 1 rfl rfl ak))))) (uS (oN hr (VJ Oq R_ (aM 18 rfl rfl) (aM 7 rfl rfl) (sr _)) (SD hr (oU c8 hr (by decide) (ql 3 rfl rfl)) (aM 8 rfl rfl)))))) (aX (bO oH)) gf)
  (aV (bS (i:=7) gp.nd rfl (Or.inl rfl) (aM 18 rfl rfl))
  (aX (bS (i:=8) gp.nd rfl (Or.inl rfl) (oU c8 hr (by decide) (ql 3 rfl rfl)))))))))))))))
  (aX (bO (zN (CB hr (oU vq hr (by decide) (ql 4 rfl rfl)) (iz (aE 2 rfl rfl (av (iz ak) (av (iz ak) ak uY) uY)))) (zM (CB hr (oU Mh hr (by decide) (ql 4 rfl rfl)) bp)))))))))))))
abbrev yB:aI:=aB (cS (gC (f_ (aK um 1 (ae (fC 1 (fK (aa 0)) (bg 2) d5 (e2 bB (aa 2) (e2 iy (eC (.int 7919)) (aa 1))) false) ah)))) (bF (eC (.bl false))) dR)
 (cS (bj (e2 de (aa 0) (eG ah))) G0 dR)
def Mi:aI:=aB (gi (dj (ae (eC (.int 8)) ah)) (bg 1) yB)
 (bF (eC (.bl true)))
def vy:=bH 2 (Mi)
theorem Mj:af ["_law_script","_law_turn"] ["_law_script"] (aJ (top 59)):=ck (by decide +kernel)
abbrev Ml:List Str:=["_law_script","_law_turn","_law_cell_here"]
theorem j0h:(Ml).Nodup:=by decide +kernel
theorem j1f(B:Bt mg)(c21:ay P w K mg base 9 "_law_once" 1 um){f:Addr}{fd:FuncData}(F:kY K "law" "law" (top 59) f fd):bW P w K mg base dh 10 f fd ["_law_script"] (lV K 1 vy):=
 VL (k:=9) F Mj fun _ _ _ _ _ _ _ hr=>
  aV (kh QT rfl (iB B.aH (cu ak)) (eJ (i:=1) (show 0<=1 by decide) Mj.nd rfl (Or.inr rfl)) (aV (fU (mO (lX (bc c21 hr (by decide) (av (l7 (k:=1) (N':=Ml) false rfl ⟨rfl,by decide +kernel,rfl,rfl,rfl⟩ (mP (aM 0 rfl rfl)) (fun _ _ _ _=>eJ (i:=2) (show 2<=2 by decide) j0h rfl (Or.inl rfl) (Or.inr rfl)) (fun _ _ _ _=>mQ) (fun _ _ _ _=>eF (cI (qv 2)) (oI bp (cI (qv 1))))) ak uX)))) (aX (bO oH)) gf)
  (aX (fU (nG hr (aM 0 rfl rfl) (f9 ak)) (aX Sd) gf))))
  (aX (bO oH))
end
abbrev cC (ns:List Int):D:=.lst (ns.map D.int)
abbrev n0 (l:List Int):OD:=some (cC l,0)
def AZ (ns:List Int)(k:Int):Int:=if k<ns.length then ns.getD k.toNat 0 else if ns=[]then 0 else ns.getD (k % ns.length).toNat 0*31+k
theorem Mm{k:Int}(h0:0<=k)(h:k<ns.length):L2.dP (ns.map D.int) k=some (.int (ns.getD k.toNat 0)):=by
 obtain⟨m,rfl⟩:∃ m:Nat,k=Int.ofNat m:=⟨k.toNat,by show k=(k.toNat:Int);omega⟩
 have hk:m<ns.length:=by have:(m:Int)<ns.length:=h;omega
 apply x8
 rw[QH,Qx hk]
 simp[hk]
theorem j3k(ns:List Int):Sh 1 (cC ns):=.lst fun d m=>by
 obtain⟨x,_,rfl⟩:=Qy.mp m
 exact .int _
theorem EY(ns:List Int):de (cC ns) (.lst [])=some (.bl (decide (ns=[]))):=by
 unfold de
 rw[Qe ⟨(j3k ns).ok,(Et []).ok⟩]
 cases ns<;>rfl
theorem z96(ns:List Int)(k:Int)(h0:0<=k):yj [cC ns,.int k]=some (.int (AZ ns k),9):=by
 unfold yj K4 AZ
 by_cases h:k<ns.length
 ·simp[h,Mm h0 h,eK,cO]
 ·by_cases hn:ns=[]
  ·subst hn
   have h':¬ k<0:=by omega
   simp[h',eK,EY]
  ·have hp:(0:Int)<ns.length:=by have:=JP.mpr hn;omega
   have h1:=YF k (Int.ne_of_gt hp)
   have h2:=Ya k hp
   have h3:=Mm h1 h2
   have sP:=JP.mpr hn
   simp[h,eK,cO,EY,hn,sP,h3]
def rO (ns:List Int)(k:Int):Int:=(AZ ns k+6151*(k+1))*40692 % 2147483399
def i_ (ns:List Int)(k m:Int):Int:=(rO ns k*rO ns k+rO ns k / 31) % 2147483629 % m
theorem rP(ns:List Int)(k m:Int)(h0:0<=k)(hm:0<m):cQ [cC ns,.int k,.int m]=some (.int (i_ ns k m),9):=by
 have d0:0<=rO ns k:=YF _ (by decide)
 have d1:rO ns k<2147483399:=Ya _ (by decide)
 have g1:-18446744073709551616<rO ns k:=by omega
 have g2:rO ns k<18446744073709551616:=by omega
 have hd:(AZ ns k+6151*(k+1))*40692 % 2147483399=rO ns k:=rfl
 unfold cQ K5 i_
 simp[z96 ns k h0,hm,hd,g1,g2]
theorem oZ(ns:List Int)(k:Int){m:Int}(hm:0<m):0<=i_ ns k m:=YF _ (Int.ne_of_gt hm)
theorem rQ(ns:List Int)(k:Int){m:Int}(hm:0<m):i_ ns k m<m:=Ya _ hm
def tf (rows:List (List Nat))(i j:Nat):Nat:=(rows.getD i []).getD j 0
def eT (rows:List (List Nat)):D:=bR rows.length (tf rows)
def ch (n:Nat):List (List Nat):=(List.range n).map fun i=>(List.range n).map fun j=>max i j
def cp (a b:List (List Nat)):List (List Nat):=(List.range (a.length*b.length)).map fun i=>(List.range (a.length*b.length)).map fun j=>tf a (i / b.length) (j / b.length)*b.length+tf b (i % b.length) (j % b.length)
def sb (n:Nat):List (List Nat):=(List.range (n+2)).map fun i=>(List.range (n+2)).map fun j=>if i=0\/j=0\/i=j then max i j else n+1
def n5:List (List Nat):=[[0,1,2,3,4],[1,1,2,4,4],[2,2,2,4,4],[3,4,4,3,4],[4,4,4,4,4]]
def qe:List (List (List Nat)):=[ch 1,ch 2,ch 3,ch 4,ch 5,cp (ch 2) (ch 2),cp (ch 2) (ch 3),cp (ch 2) (ch 4),sb 0,sb 1,sb 2,sb 3,sb 4,cp (ch 2) (cp (ch 2) (ch 2)),n5]
theorem ch1:kF [.int 1]=some (eT (ch 1),1):=by rfl
theorem A_:kF [.int 2]=some (eT (ch 2),1):=by rfl
theorem Mn:kF [.int 3]=some (eT (ch 3),1):=by rfl
theorem Mp:kF [.int 4]=some (eT (ch 4),1):=by rfl
theorem ch5:kF [.int 5]=some (eT (ch 5),1):=by rfl
theorem sb0:p_ [.int 0]=some (eT (sb 0),0):=by rfl
theorem sb1:p_ [.int 1]=some (eT (sb 1),0):=by rfl
theorem sb2:p_ [.int 2]=some (eT (sb 2),0):=by rfl
theorem sb3:p_ [.int 3]=some (eT (sb 3),0):=by rfl
theorem sb4:p_ [.int 4]=some (eT (sb 4),0):=by rfl
theorem Mq:oW [eT (ch 2),eT (ch 2)]=some (eT (cp (ch 2) (ch 2)),0):=by rfl
theorem j82:oW [eT (ch 2),eT (ch 3)]=some (eT (cp (ch 2) (ch 3)),0):=by rfl
theorem j80:oW [eT (ch 2),eT (ch 4)]=some (eT (cp (ch 2) (ch 4)),0):=by rfl
theorem j6r:oW [eT (ch 2),eT (cp (ch 2) (ch 2))]=some (eT (cp (ch 2) (cp (ch 2) (ch 2))),0):=by rfl
theorem j1o(ns:List Int)(t:Int)(h0:0<=t):∃ rows∈qe,∃ q,yl [cC ns,.int t]=some (eT rows,q):=by
 have k0:=oZ ns t (m:=9) (by decide)
 have k1:=rQ ns t (m:=9) (by decide)
 have p0:=oZ ns (t+1) (m:=5) (by decide)
 have p1:=rQ ns (t+1) (m:=5) (by decide)
 have r0:=oZ ns (t+1) (m:=3) (by decide)
 have r1:=rQ ns (t+1) (m:=3) (by decide)
 have e9:=rP ns t 9 h0 (by decide)
 have e5:=rP ns (t+1) 5 (by omega) (by decide)
 have e3:=rP ns (t+1) 3 (by omega) (by decide)
 have mem:∀ i:Nat,i<15->qe.getD i []∈qe:=fun i hi=>by
  rw[QM,Qx (show i<qe.length from hi)]
  exact Q6 _
 have hc:∀ p:Int,0<=p->p<5->∃ rows∈qe,kF [.int (1+p)]=some (eT rows,1):=fun p a b=>by
  have:p=0\/p=1\/p=2\/p=3\/p=4:=by omega
  rcases this with rfl|rfl|rfl|rfl|rfl
  ·exact⟨_,mem 0 (by decide),ch1⟩
  ·exact⟨_,mem 1 (by decide),A_⟩
  ·exact⟨_,mem 2 (by decide),Mn⟩
  ·exact⟨_,mem 3 (by decide),Mp⟩
  ·exact⟨_,mem 4 (by decide),ch5⟩
 have hs:∀ p:Int,0<=p->p<5->∃ rows∈qe,p_ [.int p]=some (eT rows,0):=fun p a b=>by
  have:p=0\/p=1\/p=2\/p=3\/p=4:=by omega
  rcases this with rfl|rfl|rfl|rfl|rfl
  ·exact⟨_,mem 8 (by decide),sb0⟩
  ·exact⟨_,mem 9 (by decide),sb1⟩
  ·exact⟨_,mem 10 (by decide),sb2⟩
  ·exact⟨_,mem 11 (by decide),sb3⟩
  ·exact⟨_,mem 12 (by decide),sb4⟩
 have hp:∀ r:Int,0<=r->r<3->∃ x oj rows,cO (.lst [.int 2,.int 3,.int 4]) r=some (.int x)/\kF [.int x]=some (eT oj,1)/\rows∈qe/\oW [eT (ch 2),eT oj]=some (eT rows,0):=fun r a b=>by
  have:r=0\/r=1\/r=2:=by omega
  rcases this with rfl|rfl|rfl
  ·exact⟨2,_,_,rfl,A_,mem 5 (by decide),Mq⟩
  ·exact⟨3,_,_,rfl,Mn,mem 6 (by decide),j82⟩
  ·exact⟨4,_,_,rfl,Mp,mem 7 (by decide),j80⟩
 unfold yl K9
 generalize i_ ns t 9=k at *
 generalize i_ ns (t+1) 5=p at *
 generalize i_ ns (t+1) 3=r at *
 by_cases h3:k<3
 ·obtain⟨rows,hm,e⟩:=hc p p0 p1
  exact⟨rows,hm,1,by simp[e9,e5,h3,e]⟩
 by_cases h5:k<5
 ·obtain⟨x,oj,rows,ea,e1,hm,mf⟩:=hp r r0 r1
  exact⟨rows,hm,0,by simp[e9,e3,h3,h5,A_,ea,e1,mf]⟩
 by_cases h7:k<7
 ·obtain⟨rows,hm,e⟩:=hs p p0 p1
  exact⟨rows,hm,0,by simp[e9,e5,h3,h5,h7,e]⟩
 have:k=7\/k=8:=by omega
 rcases this with rfl|rfl
 ·exact⟨_,mem 13 (by decide),0,by simp[e9,AK,A_,Mq];exact j6r⟩
 ·refine⟨_,mem 14 (by decide),0,?_⟩
  simp[e9,AK]
  rfl
theorem z5s:∀ rows∈qe,Ex rows.length (tf rows)=true:=by decide +kernel
def pk (ns:List Int)(t:Int)(k m:Nat):Nat:=(i_ ns (t+2+Int.ofNat k) (Int.ofNat m)).toNat
theorem EZ(ns:List Int)(t:Int)(k m:Nat)(h:0<m):pk ns t k m<m:=by
 have h1:=oZ ns (t+2+Int.ofNat k) (m:=Int.ofNat m) (by show(0:Int)<m;omega)
 have h2:=rQ ns (t+2+Int.ofNat k) (m:=Int.ofNat m) (by show(0:Int)<m;omega)
 have h3:(Int.ofNat m)=(m:Int):=rfl
 unfold pk
 omega
theorem j6j(ns:List Int)(t:Int)(k m:Nat)(h:0<m):i_ ns (t+2+Int.ofNat k) (Int.ofNat m)=Int.ofNat (pk ns t k m):=by
 have h1:=oZ ns (t+2+Int.ofNat k) (m:=Int.ofNat m) (by show(0:Int)<m;omega)
 unfold pk
 show _=((i_ ns (t+2+Int.ofNat k) (Int.ofNat m)).toNat:Int)
 omega
section
variable (ns:List Int)(t:Int)(n:Nat)(B:Nat->Nat->Nat)(q:Nat)
theorem z5n(h0:0<=t)(hn:n<=16):km 1 (bg 8) d5 (wQ 3 (ae (aK cQ 3 (ae (aa 0) (ae (e2 bB (e2 bB (aa 1) (eC (.int 2))) (aa 8)) (ae (bX 3) ah)))) ah)) false (cV n)
  [(n0 ns),some (.int t,9),some (bR n B,q),some (.lst (cV n),1),none,none,none,none] =
  some (ao ((List.range n).map (drawn (pk ns t) n)),[(n0 ns),some (.int t,9),some (bR n B,q),some (.lst [],1),none,none,none,none]):=by
 have hp:=EZ ns t
 have h:=p6 (k:=1) (pt:=bg 8) (tt:=d5) (te:=wQ 3 (ae (aK cQ 3 (ae (aa 0) (ae (e2 bB (e2 bB (aa 1) (eC (.int 2))) (aa 8)) (ae (bX 3) ah)))) ah)) (deep:=false) (cV n)
  (fun k=>[(n0 ns),some (.int t,9),some (bR n B,q),(uL (dw (pk ns t) n k)),none,none,none,none]) (fun _=>true) (fun k=>(iD (drawn (pk ns t) n k))) (fun k hk=>?_)
 ·rw[iA]at h
  have hl:dw (pk ns t) n n=[]:=Zr.mp (by rw[yb hp n (Qf n)];omega)
  rw[hl]at h
  have e1:(List.range n).filter (fun _=>true)=List.range n:=by simp
  rw[e1]at h
  simp only[ao,Zn,Z5]
  exact h
 ·rw[iA]at hk
  have hl:=yb hp k (ZF hk)
  have Mr:0<(dw (pk ns t) n k).length:=by rw[hl];omega
  have e:=j6j ns t k _ Mr
  have hj:=EZ ns t k _ Mr
  have Ms:=rP ns (t+2+Int.ofNat k) (Int.ofNat (dw (pk ns t) n k).length) (by show 0<=t+2+(k:Int);omega) (by show(0:Int)<((dw (pk ns t) n k).length:Int);omega)
  have hs:seqIndex? (Int.ofNat (pk ns t k (dw (pk ns t) n k).length)) (ao (dw (pk ns t) n k)).length=some (pk ns t k (dw (pk ns t) n k).length):=(BN (AH (by rw[fy];exact hj))).1
  have hg:(ao (dw (pk ns t) n k))[pk ns t k (dw (pk ns t) n k).length]? = some (iD (drawn (pk ns t) n k)):=by
   rw[AG]
   unfold drawn
   rw[QM,Qx hj]
   rfl
  have hb:pk ns t k (dw (pk ns t) n k).length<=16:=by omega
  have he:(ao (dw (pk ns t) n k)).eraseIdx (pk ns t k (dw (pk ns t) n k).length)=ao (dw (pk ns t) n (k+1)):=by rw[dw,KA]
  refine⟨[(n0 ns),some (.int t,9),some (bR n B,q),(uL (dw (pk ns t) n k)),none,none,none,none,(i9 k)],_,by simp[cV],rfl,?_⟩
  rw[Qe rfl]
  refine⟨9,[(n0 ns),some (.int t,9),some (bR n B,q),(uL (dw (pk ns t) n (k+1))),none,none,none,none,(i9 k)],?_,by simp,by simp⟩
  have b1:(-1000:Int)<=Int.ofNat (pk ns t k (dw (pk ns t) n k).length):=by show(-1000:Int)<=(pk ns t k (dw (pk ns t) n k).length:Int);omega
  have b2:Int.ofNat (pk ns t k (dw (pk ns t) n k).length)<=1000:=by show(pk ns t k (dw (pk ns t) n k).length:Int)<=1000;omega
  have gZ:eK (.lst (ao (dw (pk ns t) n k)))=some (dw (pk ns t) n k).length:=by simp[eK,fy]
  rw[e]at Ms
  simp[-Int.ofNat_eq_natCast,gZ,Ms,hs,hg,he,b1,b2]
theorem j1j(hn:n<=16)(x:OD):km 1 (bg 8) d5 (uW (eG (ae (eC (.int 0)) ah)) (bX 2)) true ((List.range n).map fun i=>e_ n B i)
  [(n0 ns),some (.int t,9),some (bR n B,0),some (.lst [],1),x,none,none,none] =
  some ((List.range n).map fun i=>e_ n (fun _ _=>0) i,[(n0 ns),some (.int t,9),some (bR n B,0),some (.lst [],1),x,none,none,none]):=by
 have h:=p6 (k:=1) (pt:=bg 8) (tt:=d5) (te:=uW (eG (ae (eC (.int 0)) ah)) (bX 2)) (deep:=true) ((List.range n).map fun i=>e_ n B i)
  (fun _=>[(n0 ns),some (.int t,9),some (bR n B,0),some (.lst [],1),x,none,none,none]) (fun _=>true) (fun i=>e_ n (fun _ _=>0) i) (fun k hk=>?_)
 ·rw[Qm,QP,show(List.range n).filter (fun _=>true)=List.range n by simp]at h
  exact h
 ·refine⟨[(n0 ns),some (.int t,9),some (bR n B,0),some (.lst [],1),x,none,none,none,some (e_ n B k,0)],_,by simp[e_],rfl,?_⟩
  rw[Qe rfl]
  refine⟨1,[(n0 ns),some (.int t,9),some (bR n B,0),some (.lst [],1),x,none,none,none,some (e_ n B k,0)],?_,by simp,by simp⟩
  have z:e_ n (fun _ _=>0) k=D.lst (List.replicate n [D.int 0]).flatten:=(V0 n).symm
  have b1:(-1000:Int)<=n:=by omega
  have b2:(n:Int)<=1000:=by omega
  have b3:n<=1000:=by omega
  rw[z]
  simp[x_,b1,b2,b3]
def gW (π ι:Nat->Nat)(i j a b:Nat):Nat:=if ι a<i\/(ι a=i/\ι b<j)then π (B (ι a) (ι b))else 0
abbrev uo:aI:=wV 5 (tu 4 (tq 6)) (tu 4 (tq 7)) (bU 4 (fJ (bU 2 (aa 6)) (aa 7)))
section
variable {n B}{π ι:Nat->Nat}(cl:∀ i j,i<n->j<n->B i j<n)(h1:∀ i,i<n->π i<n)(h2:∀ i,i<n->ι i<n)(h3:∀ i,i<n->ι (π i)=i)(h4:∀ i,i<n->π (ι i)=i)
include cl h1 h2 h3 h4
theorem z4s(hi:i<n)(hj:j<n){y:OD} :
  uo [(n0 ns),some (.int t,9),some (bR n B,0),some (.lst [],1),(uL ((List.range n).map π)),some (bR n f,2),(i9 i),(i9 j)] =
  some (.nx [(n0 ns),some (.int t,9),some (bR n B,0),some (.lst [],1),(uL ((List.range n).map π)),some (bR n (fun a b=>if a=π i/\b=π j then π (B i j)else f a b),2),(i9 i),(i9 j)]):=by
 have a1:=VX (f:=B) hi
 have a2:=VY (f:=B) (i:=i) hj
 have a3:cO (.lst (ao ((List.range n).map π))) (Int.ofNat (B i j))=some (iD (π (B i j))):=tV (cl i j hi hj)
 have a4:cO (.lst (ao ((List.range n).map π))) (Int.ofNat i)=some (iD (π i)):=tV hi
 have a5:cO (.lst (ao ((List.range n).map π))) (Int.ofNat j)=some (iD (π j)):=tV hj
 have a6:jj ((List.range n).map fun a=>e_ n f a).length (Int.ofNat (π i))=some (π i):=AH (by simpa using h1 i hi)
 have a7:((List.range n).map fun a=>e_ n f a)[π i]? = some (.lst (ao ((List.range n).map fun b=>f (π i) b))):=by rw[QH,Zc (h1 i hi)];rfl
 have a8:jj (ao ((List.range n).map fun b=>f (π i) b)).length (Int.ofNat (π j))=some (π j):=AH (by simpa [fy]using h1 j hj)
 have a9:=VZ (n:=n) (f:=f) (a:=π i) (b:=π j) (v:=π (B i j))
 rw[<- a9]
 show uo [(n0 ns),some (.int t,9),some (bR n B,0),some (.lst [],1),(uL ((List.range n).map π)),some (.lst ((List.range n).map fun a=>e_ n f a),2),(i9 i),(i9 j)]=_
 unfold uo
 simp only[wV,bU,fJ,aa,tu,tq,ZT,List.getElem?_cons_zero,D.bM,Z9,a1,a2,a3,a4,a5,a6,a7,a8,ne_eq,not_true_eq_false,false_and,and_false,JF,ZI,reduceCtorEq,JI,QN,cH,List.set_cons_succ,List.set_cons_zero]
abbrev lA (f:Nat->Nat->Nat)(x y:OD):aS:=[(n0 ns),some (.int t,9),some (bR n B,0),some (.lst [],1),(uL ((List.range n).map π)),some (bR n f,2),x,y]
omit cl h1 h2 h3 h4
theorem Ba(h:i<(cV n).length):(cV n)[i]=(iD i):=by simp[cV]
include cl h1 h2 h3 h4
theorem z57(hi:i<n)(hj:j<n):bR n (fun a b=>if a=π i/\b=π j then π (B i j)else gW B π ι i j a b)=bR n (gW B π ι i (j+1)):=by
 refine AI fun a b ha hb=>?_
 unfold gW
 by_cases h:a=π i/\b=π j
 ·obtain⟨rfl,rfl⟩:=h
  rw[Qe ⟨rfl,rfl⟩,h3 i hi,h3 j hj,Qe (.inr ⟨rfl,Q2 _⟩)]
 ·rw[Qg h]
  have:¬ (ι a=i/\ι b=j):=fun⟨e1,e2⟩=>h ⟨by rw[<- e1,h4 a ha],by rw[<- e2,h4 b hb]⟩
  by_cases c:ι a<i\/ι a=i/\ι b<j
  ·rw[Qe c,Qe (by omega)]
  ·rw[Qg c,Qg (by omega)]
theorem j28:bR n (gW B π ι i n)=bR n (gW B π ι (i+1) 0):=by
 refine AI fun a b ha hb=>?_
 have:=h2 b hb
 unfold gW
 by_cases c:ι a<i\/ι a=i/\ι b<n
 ·rw[Qe c,Qe (by omega)]
 ·rw[Qg c,Qg (by omega)]
theorem z6w(hn:n<=16)(hi:i<n)(y:OD):∃ y',gh (bg 7) uo (cV n) (lA ns t (n:=n) (B:=B) (π:=π) (gW B π ι i 0) ((i9 i)) y) =
  some (.nx (lA ns t (n:=n) (B:=B) (π:=π) (gW B π ι (i+1) 0) ((i9 i)) y')):=by
 obtain⟨ρ',e,y',rfl⟩:=p7 (pt:=bg 7) (body:=uo) (cV n) (fun j ρ=>∃ y,ρ=lA ns t (n:=n) (B:=B) (π:=π) (gW B π ι i j) ((i9 i)) y) (lA ns t (n:=n) (B:=B) (π:=π) (gW B π ι i 0) ((i9 i)) y) (fun j hj ρ aj=>by
  obtain⟨y,hy⟩:=aj
  subst hy
  rw[iA]at hj
  refine⟨lA ns t (n:=n) (B:=B) (π:=π) (gW B π ι i j) ((i9 i)) ((i9 j)),_,by rw[Ba];simp,.inl (z4s ns t cl h1 h2 h3 h4 hi hj (y:=none)),?_⟩
  rw[z57 cl h1 h2 h3 h4 hi hj]
  exact⟨_,rfl⟩) ⟨y,rfl⟩
 refine⟨y',?_⟩
 rw[e,iA]
 show some (Out.nx [_,_,_,_,_,some (bR n (gW B π ι i n),2),_,_])=_
 rw[j28 cl h1 h2 h3 h4]
theorem z6y(hn:n<=16)(x y:OD):∃ x' y',gh (bg 6) (gi (dj (ae (bX 2) ah)) (bg 7) uo) (cV n) (lA ns t (n:=n) (B:=B) (π:=π) (fun _ _=>0) x y) =
  some (.nx (lA ns t (n:=n) (B:=B) (π:=π) (fun a b=>π (B (ι a) (ι b))) x' y')):=by
 have z:bR n (fun _ _=>0)=bR n (gW B π ι 0 0):=AI fun a b _ _=>by unfold gW;rw[Qg (by omega)]
 have z':bR n (gW B π ι n 0)=bR n (fun a b=>π (B (ι a) (ι b))):=AI fun a b ha _=>by unfold gW;rw[Qe (.inl (h2 a ha))]
 obtain⟨ρ',e,x',y',rfl⟩:=p7 (pt:=bg 6) (body:=gi (dj (ae (bX 2) ah)) (bg 7) uo) (cV n) (fun i ρ=>∃ x y,ρ=lA ns t (n:=n) (B:=B) (π:=π) (gW B π ι i 0) x y) (lA ns t (n:=n) (B:=B) (π:=π) (gW B π ι 0 0) x y) (fun i hi ρ aj=>by
  obtain⟨x,y,hy⟩:=aj
  subst hy
  rw[iA]at hi
  obtain⟨y',uq⟩:=z6w ns t cl h1 h2 h3 h4 hn hi y
  refine⟨lA ns t (n:=n) (B:=B) (π:=π) (gW B π ι i 0) ((i9 i)) y,_,by rw[Ba];simp,.inl (show _=some (Out.nx (lA ns t (n:=n) (B:=B) (π:=π) (gW B π ι (i+1) 0) ((i9 i)) y'))from ?_),⟨_,_,rfl⟩⟩
  have b1:(-1000:Int)<=Int.ofNat n:=by show(-1000:Int)<=n;omega
  have b2:Int.ofNat n<=1000:=by show(n:Int)<=1000;omega
  have e:dj (ae (bX 2) ah) (lA ns t (n:=n) (B:=B) (π:=π) (gW B π ι i 0) ((i9 i)) y)=some (cV n,lA ns t (n:=n) (B:=B) (π:=π) (gW B π ι i 0) ((i9 i)) y):=by
   simp[-Int.ofNat_eq_natCast,x_,b1,b2]
   rfl
  unfold gi
  rw[e]
  exact uq) ⟨x,y,rfl⟩
 refine⟨x',y',?_⟩
 show gh _ _ _ [_,_,_,_,_,some (bR n (fun _ _=>0),2),_,_]=some (.nx [_,_,_,_,_,some (bR n (fun a b=>π (B (ι a) (ι b))),2),_,_])
 rw[z,<- z']
 rw[iA]at e
 exact e
end
end
theorem z69{a b c d e:OD}{x y:OD}:km 1 (bg 8) d5 (mW (ae (aa 8) ah)) false ((List.range n).map fun i=>e_ n f i) [a,b,c,d,e,some (bR n f,0),x,y] =
  some ((List.range n).map fun i=>mr n f i,[a,b,c,d,e,some (bR n f,0),x,y]):=by
 have h:=p6 (k:=1) (pt:=bg 8) (tt:=d5) (te:=mW (ae (aa 8) ah)) (deep:=false) ((List.range n).map fun i=>e_ n f i)
  (fun _=>[a,b,c,d,e,some (bR n f,0),x,y]) (fun _=>true) (fun i=>mr n f i) (fun k hk=>?_)
 ·rw[Qm,QP,show(List.range n).filter (fun _=>true)=List.range n by simp]at h
  exact h
 ·refine⟨[a,b,c,d,e,some (bR n f,0),x,y,some (e_ n f k,0)],_,by simp[e_],rfl,?_⟩
  rw[Qe rfl]
  exact⟨9,[a,b,c,d,e,some (bR n f,0),x,y,some (e_ n f k,0)],by simp[e_,mr],by simp,by simp⟩
theorem mC(hn:n<=1000)(h:ρ[i]? = some (some (d,q)))(hl:eK d=some n):dj (ae (bX i) ah) ρ=some (cV n,ρ):=by
 have b1:(-1000:Int)<=Int.ofNat n:=by show(-1000:Int)<=n;omega
 have b2:Int.ofNat n<=1000:=by show(n:Int)<=1000;omega
 simp only[dj,ae,bX,ah,h,hl]
 rw[Qe ⟨b1,b2⟩]
 rfl
theorem z9f:∀ rows∈qe,rows.length<=8:=by decide +kernel
theorem j0r(ns:List Int)(t:Int)(h0:0<=t):∃ n f,aW n f/\n<=8/\vm [cC ns,.int t]=(t9 n f):=by
 obtain⟨rows,hm,q,hb⟩:=j1o ns t h0
 have L:=V7 (z5s rows hm)
 have h8:=z9f rows hm
 unfold eT at hb
 revert hb L h8
 generalize rows.length=n
 generalize tf rows=B
 intro hb L h8
 have hp:=EZ ns t
 have hn:n<=1000:=Qv L.hi (by decide)
 refine⟨n,fun a b=>drawn (pk ns t) n (B (lu (pk ns t) n a) (lu (pk ns t) n b)),L.V8 (fun i hi=>KG hp hi) (fun i hi=>KH hp hi) (fun i hi=>KJ hp hi) (fun i hi=>KI hp hi),h8,?_⟩
 unfold vm K_
 refine fM ?_
 have s0:jZ 8 [cC ns,.int t]=[(n0 ns),some (.int t,9),none,none,none,none,none,none]:=rfl
 rw[s0]
 refine(aR (ρ1:=[(n0 ns),some (.int t,9),some (bR n B,q),none,none,none,none,none]) ?_).trans ?_
 ·simp[hb]
 refine(aR (ρ1:=[(n0 ns),some (.int t,9),some (bR n B,q),some (.lst (cV n),1),none,none,none,none]) ?_).trans ?_
 ·exact eZ (En (mC hn rfl x_)) rfl
 refine(aR (ρ1:=[(n0 ns),some (.int t,9),some (bR n B,q),some (.lst [],1),(uL ((List.range n).map (drawn (pk ns t) n))),none,none,none]) ?_).trans ?_
 ·exact eZ (ls (mC hn rfl x_) (z5n ns t n B q h0 L.hi)) rfl
 refine(aR (ρ1:=[(n0 ns),some (.int t,9),some (bR n B,0),some (.lst [],1),(uL ((List.range n).map (drawn (pk ns t) n))),some (bR n (fun _ _=>0),2),none,none]) ?_).trans ?_
 ·have e:fK (aa 2) [(n0 ns),some (.int t,9),some (bR n B,q),some (.lst [],1),(uL ((List.range n).map (drawn (pk ns t) n))),none,none,none]=some ((List.range n).map fun i=>e_ n B i,[(n0 ns),some (.int t,9),some (bR n B,0),some (.lst [],1),(uL ((List.range n).map (drawn (pk ns t) n))),none,none,none]):=by
   by_cases hq:q=0
   ·subst hq;simp[bR,hn]
   ·simp[bR,hn,hq]
  exact eZ (ls e (j1j ns t n B L.hi _)) rfl
 obtain⟨x',y',hf⟩:=z6y ns t (n:=n) (B:=B) (π:=drawn (pk ns t) n) (ι:=lu (pk ns t) n) L.cl (fun i hi=>KG hp hi) (fun i hi=>KH hp hi) (fun i hi=>KJ hp hi) (fun i hi=>KI hp hi) L.hi none none
 refine(aR ((mZ (mC hn rfl x_)).trans hf)).trans ?_
 refine iW (ρ1:=[(n0 ns),some (.int t,9),some (bR n B,0),some (.lst [],1),(uL ((List.range n).map (drawn (pk ns t) n))),some (bR n (fun a b=>drawn (pk ns t) n (B (lu (pk ns t) n a) (lu (pk ns t) n b))),0),x',y']) ?_
 have e:fK (aa 5) (lA ns t (n:=n) (B:=B) (π:=drawn (pk ns t) n) (fun a b=>drawn (pk ns t) n (B (lu (pk ns t) n a) (lu (pk ns t) n b))) x' y')=some ((List.range n).map fun i=>e_ n (fun a b=>drawn (pk ns t) n (B (lu (pk ns t) n a) (lu (pk ns t) n b))) i,[(n0 ns),some (.int t,9),some (bR n B,0),some (.lst [],1),(uL ((List.range n).map (drawn (pk ns t) n))),some (bR n (fun a b=>drawn (pk ns t) n (B (lu (pk ns t) n a) (lu (pk ns t) n b))),0),x',y']):=by
  simp[bR,hn]
 have e2:=ls (k:=1) (pt:=bg 8) (tt:=d5) (te:=mW (ae (aa 8) ah)) (deep:=false) e z69
 exact Em (cP e2)
theorem j4b(ns:List Int)(t:Int)(h0:0<=t):∃ n f,aW n f/\vm [cC ns,.int t]=(t9 n f):=by
 obtain⟨n,f,L,_,e⟩:=j0r ns t h0
 exact⟨n,f,L,e⟩
section
variable {n:Nat}{f:Nat->Nat->Nat}
theorem E1{x w:Nat}(hx:x<n)(hw:w<n):oV [aZ n f,(iD x),(iD w)]=(b9 (decide (f x w=w))):=by
 unfold oV KZ
 simp[-Int.ofNat_eq_natCast,vh hx,x9 hw,ya]
theorem As(hn:n<=1000){w:Nat}(hw:w<n):jJ [aZ n f,(iD w)]=(uL ((List.range n).filter fun x=>decide (f x w=w))):=by
 unfold jJ K1
 refine fM (iW (ls (deep:=false) (ρ2:=[(t9 n f),(i9 w)]) (mC hn rfl jr) ?_))
 refine vi (i:=2) (ρ:=[(t9 n f),(i9 w)]) (deep:=false) rfl (fun x=>decide (f x w=w)) (fun x=>(iD x)) (fun _=>9) (fun j hj=>?_) (fun j hj _=>?_)
 ·simp[-Int.ofNat_eq_natCast,E1 hj hw]
 ·simp[-Int.ofNat_eq_natCast]
theorem z7h(hn:n<=1000){w:Nat}(hw:w<n):rJ [aZ n f,(iD w)]=(uL ((List.range n).filter fun x=>decide (f x w=w))):=by
 unfold rJ LR
 refine fM (iW (ls (deep:=false) (ρ2:=[(t9 n f),(i9 w)]) (mC hn rfl jr) ?_))
 refine vi (i:=2) (ρ:=[(t9 n f),(i9 w)]) (deep:=false) rfl (fun x=>decide (f x w=w)) (fun x=>(iD x)) (fun _=>9) (fun j hj=>?_) (fun j hj _=>?_)
 ·simp[-Int.ofNat_eq_natCast,vh hj,x9 hw,ya]
 ·simp[-Int.ofNat_eq_natCast]
variable (L:aW n f){z:Nat}(hz:z<n)(bz:∀ j,j<n->f z j=j)
include L hz bz
theorem Mt{w:Nat}(hw:w<n):decide ((List.range n).map (fun j=>f w j)=List.range n)=decide (w=z):=by
 rw[decide_eq_decide,V9]
 exact⟨fun h=>L.nW hz bz hw h,fun h=>by subst h;exact bz⟩
theorem Mu(hn:n<=1000):uh [aZ n f]=(i9 z):=by
 unfold uh LO
 refine fM (iW (ρ1:=[(t9 n f)]) ?_)
 have hc:fC 1 (dj (ae (bX 0) ah)) (bg 1) (bj (e2 de (wM (ae (bU 0 (aa 1)) ah)) (qO (ae (bX 0) ah)))) (aa 1) false (jZ 1 [aZ n f])=some (.lst (ao [z]),1,[(t9 n f)]):=by
  refine(ls (deep:=false) (ρ2:=[(t9 n f)]) (mC hn rfl jr) (vi rfl (fun x=>decide (x=z)) (fun x=>(iD x)) (fun _=>9) (fun j hj=>?_) (fun j hj _=>?_))).trans ?_
  ·have e1:wM (ae (bU 0 (aa 1)) ah) ([(t9 n f)]++[(i9 j)])=some (.lst (ao ((List.range n).map fun k=>f j k)),1,[(t9 n f),(i9 j)]):=by
    simp[-Int.ofNat_eq_natCast,vh hj,mr]
   have mf:qO (ae (bX 0) ah) [(t9 n f),(i9 j)]=some (.lst (ao (List.range n)),1,[(t9 n f),(i9 j)]):=En (mC hn rfl jr)
   unfold bj e2
   rw[e1]
   simp only[mf,V4,Mt L hz bz hj]
   rfl
  ·simp[-Int.ofNat_eq_natCast]
  ·rw[KN,Qe hz]
   rfl
 unfold fJ
 rw[hc]
 simp[-Int.ofNat_eq_natCast,cO,ao,L2.dP,jj]
theorem j11(hn:n<=1000)(hl:l.length<=1000)(hm:∀ x∈l,x<n):ui [aZ n f,.lst (ao l)]=(i9 (l.foldl f z)):=by
 unfold ui LQ
 refine fM ?_
 refine(aR (ρ1:=[(t9 n f),some (.lst (ao l),0),(i9 z),none]) ?_).trans ?_
 ·simp[-Int.ofNat_eq_natCast,Mu L hz bz hn]
 obtain⟨ρ',e,y,rfl⟩:=p7 (pt:=bg 3) (body:=aY 2 (fJ (bU 0 (aa 2)) (aa 3))) (ao l) (fun i ρ=>∃ y,ρ=[(t9 n f),some (.lst (ao l),0),(i9 ((l.take i).foldl f z)),y]) [(t9 n f),some (.lst (ao l),0),(i9 z),none] (fun i hi ρ aj=>by
  obtain⟨y,hy⟩:=aj
  subst hy
  have eE:i<l.length:=by rw[fy]at hi;exact hi
  have hg:(ao l)[i]=.int (Int.ofNat l[i]):=by simp[ao]
  have hx:l[i]<n:=hm _ (Q6 eE)
  have ha:(l.take i).foldl f z<n:=L.fold_lt hz fun x m=>hm x (YN m)
  refine⟨[(t9 n f),some (.lst (ao l),0),(i9 ((l.take i).foldl f z)),some (.int (Int.ofNat l[i]),9)],[(t9 n f),some (.lst (ao l),0),(i9 ((l.take (i+1)).foldl f z)),some (.int (Int.ofNat l[i]),9)],?_,.inl ?_,⟨_,rfl⟩⟩
  ·rw[hg];simp
  ·rw[Jx eE,Yi]
   simp[-Int.ofNat_eq_natCast,vh ha,x9 hx]) ⟨none,rfl⟩
 rw[fy,Jb]at e
 refine(aR ((mZ (ds:=ao l) (ρ1:=[(t9 n f),some (.lst (ao l),0),(i9 z),none]) ?_).trans e)).trans ?_
 ·simp[fy,hl]
 ·simp[-Int.ofNat_eq_natCast]
end
section
variable {n:Nat}{f:Nat->Nat->Nat}
variable (L:aW n f){z:Nat}(hz:z<n)(bz:∀ j,j<n->f z j=j)
include L hz bz
theorem Mv(hn:n<=1000):t8 [aZ n f]=(i9 z):=by
 have b1:(-1000:Int)<=Int.ofNat n:=by show(-1000:Int)<=n;omega
 have b2:Int.ofNat n<=1000:=by show(n:Int)<=1000;omega
 have hr:ym [(iD n)]=(v9 (List.range n)):=by
  unfold ym Lc
  simp[-Int.ofNat_eq_natCast,b1,b2]
  rfl
 have hi:uU (.tup (ao (List.range n))) ((List.range n).map fun i=>mr n f i)=some z:=by
  unfold uU
  rw[Ku,Zn]
  have ev:∀ i,i<n->PyData.eqv (bP (mr n f i)) (bP (.tup (ao (List.range n))))=decide (i=z):=fun i hi=>(Kx _ _).trans (Mt L hz bz hi)
  refine Kz (x:=bP (mr n f z)) ?_ ?_ ?_
  ·rw[QH,Zc hz];rfl
  ·rw[ev z hz];simp
  ·intro i y hi hy
   have eE:i<n:=Ja hi hz
   rw[QH,Zc eE]at hy
   cases hy
   refine(ev i eE).trans ?_
   simp;omega
 have h1:d7 (.tup ((List.range n).map fun i=>mr n f i))=true:=(V1 n f).ok
 have h2:d7 (.tup (ao (List.range n)))=true:=(tW _).ok
 have hl:eK (.tup ((List.range n).map fun i=>mr n f i))=some n:=jr (f:=f)
 unfold t8 Ld aZ
 simp[-Int.ofNat_eq_natCast,hr,hl,h1,h2,hi]
theorem z3i(hn:n<=1000)(hl:l.length<=1000)(hm:∀ x∈l,x<n):yA [aZ n f,.lst (ao l)]=(i9 (l.foldl f z)):=by
 unfold yA L_
 refine fM ?_
 refine(aR (ρ1:=[(t9 n f),some (.lst (ao l),0),(i9 z),none]) ?_).trans ?_
 ·simp[-Int.ofNat_eq_natCast,Mv L hz bz hn]
 obtain⟨ρ',e,y,rfl⟩:=p7 (pt:=bg 3) (body:=aY 2 (fJ (bU 0 (aa 2)) (aa 3))) (ao l) (fun i ρ=>∃ y,ρ=[(t9 n f),some (.lst (ao l),0),(i9 ((l.take i).foldl f z)),y]) [(t9 n f),some (.lst (ao l),0),(i9 z),none] (fun i hi ρ aj=>by
  obtain⟨y,hy⟩:=aj
  subst hy
  have eE:i<l.length:=by rw[fy]at hi;exact hi
  have hg:(ao l)[i]=.int (Int.ofNat l[i]):=by simp[ao]
  have hx:l[i]<n:=hm _ (Q6 eE)
  have ha:(l.take i).foldl f z<n:=L.fold_lt hz fun x m=>hm x (YN m)
  refine⟨[(t9 n f),some (.lst (ao l),0),(i9 ((l.take i).foldl f z)),some (.int (Int.ofNat l[i]),9)],[(t9 n f),some (.lst (ao l),0),(i9 ((l.take (i+1)).foldl f z)),some (.int (Int.ofNat l[i]),9)],?_,.inl ?_,⟨_,rfl⟩⟩
  ·rw[hg];simp
  ·rw[Jx eE,Yi]
   simp[-Int.ofNat_eq_natCast,vh ha,x9 hx]) ⟨none,rfl⟩
 rw[fy,Jb]at e
 refine(aR ((mZ (ds:=ao l) (ρ1:=[(t9 n f),some (.lst (ao l),0),(i9 z),none]) ?_).trans e)).trans ?_
 ·simp[fy,hl]
 ·simp[-Int.ofNat_eq_natCast]
include L hz bz
theorem y8g(hn:n<=1000):uj [aZ n f]=(i9 ((List.range n).foldl f z)):=by
 unfold uj Ma
 refine fM (iW (ρ1:=[(t9 n f)]) (du (ds:=[aZ n f,.lst (ao (List.range n))]) (cZ (q:=9) (ρ1:=[(t9 n f)]) rfl (cP (En (mC hn rfl jr)))) rfl (z3i L hz bz hn (by simpa using hn) fun x m=>Qz.mp m)))
end
section
variable {n:Nat}{f:Nat->Nat->Nat}
def jK (n:Nat)(f:Nat->Nat->Nat)(r:Nat->Nat):Bool:=(List.range n).all fun y=>(aW.low n f y).all fun x=>decide (f (r x) (r y)=r y)
theorem Bb:jK n f r=true ↔ ∀ y x,y<n->x<n->f x y=y->f (r x) (r y)=r y:=by
 unfold jK
 rw[L3.range_all]
 simp only[Zz,aW.gm,Z4]
 exact⟨fun h y x hy hx e=>h y hy x ⟨hx,e⟩,fun h y hy x e=>h y x hy e.1 e.2⟩
theorem Mw(hn:n<=1000)(hr:∀ i,i<n->r i<n):oY [aZ n f,dy n r]=(b9 (jK n f r)):=by
 unfold oY LF
 refine fM ?_
 have hs:jZ 4 [aZ n f,dy n r]=[(t9 n f),(r9 n r),none,none]:=rfl
 rw[hs]
 obtain⟨h1,h2⟩:=Ey (pt:=bg 2) (body:=gi (fK (aK jJ 2 (ae (aa 0) (ae (aa 2) ah)))) (bg 3) (cS (gC (f_ (aK oV 3 (ae (aa 0) (ae (bU 1 (aa 3)) (ae (bU 1 (aa 2)) ah)))))) (bF (eC (.bl false))) dR)) (d:=.bl false) (q:=9) (cV n) (fun ρ=>∃ x y,ρ=[(t9 n f),(r9 n r),x,y]) (fun y=>(aW.low n f y).all fun x=>decide (f (r x) (r y)=r y)) [(t9 n f),(r9 n r),none,none] (fun y hy ρ ⟨a,b,e⟩=>by
  subst e
  have uq:y<n:=by rw[iA]at hy;exact hy
  refine⟨[(t9 n f),(r9 n r),(i9 y),b],by rw[show(cV n)[y]=(iD y)by simp[cV]];simp,?_⟩
  have hl:(ao (aW.low n f y)).length<=1000:=by
   rw[fy]
   have:=Zk (fun x=>decide (f x y=y)) (List.range n)
   rw[QP]at this
   exact Qv this hn
  have hi:fK (aK jJ 2 (ae (aa 0) (ae (aa 2) ah))) [(t9 n f),(r9 n r),(i9 y),b]=some (ao (aW.low n f y),[(t9 n f),(r9 n r),(i9 y),b]):=by
   have hb:jJ [aZ n f,(iD y)]=(uL (aW.low n f y)):=As hn uq
   simp[-Int.ofNat_eq_natCast,hb,hl]
  obtain⟨i1,i2⟩:=Ey (pt:=bg 3) (body:=cS (gC (f_ (aK oV 3 (ae (aa 0) (ae (bU 1 (aa 3)) (ae (bU 1 (aa 2)) ah)))))) (bF (eC (.bl false))) dR) (d:=.bl false) (q:=9) (ao (aW.low n f y)) (fun ρ=>∃ b,ρ=[(t9 n f),(r9 n r),(i9 y),b]) (fun i=>decide (f (r ((aW.low n f y).getD i 0)) (r y)=r y)) [(t9 n f),(r9 n r),(i9 y),b] (fun i eE ρ ⟨b,e⟩=>by
   subst e
   have hm:=yc (l:=aW.low n f y) (i:=i) (by rw[fy]at eE;exact eE)
   have hx:=(aW.gm.mp hm).1
   rw[Ez eE]
   refine⟨[(t9 n f),(r9 n r),(i9 y),(i9 ((aW.low n f y).getD i 0))],by simp,fun ok=>⟨[(t9 n f),(r9 n r),(i9 y),(i9 ((aW.low n f y).getD i 0))],?_,⟨_,rfl⟩⟩,fun no=>?_⟩
   ·have ok':=Ze ok
    simp[-Int.ofNat_eq_natCast,-List.getD_eq_getElem?_getD,yd hx,yd uq,E1 (f:=f) (hr _ hx) (hr _ uq),ok']
   ·have no':=of_decide_eq_false no
    simp[-Int.ofNat_eq_natCast,-List.getD_eq_getElem?_getD,yd hx,yd uq,E1 (f:=f) (hr _ hx) (hr _ uq),no']) ⟨b,rfl⟩
  rw[fy,KP (fun x=>decide (f (r x) (r y)=r y))]at i1 i2
  refine⟨fun ok=>?_,fun no=>(mZ hi).trans (i2 no)⟩
  obtain⟨ρ2,e,b',rfl⟩:=i1 ok
  exact⟨_,(mZ hi).trans e,_,_,rfl⟩) ⟨none,none,rfl⟩
 rw[iA]at h1 h2
 cases h:jK n f r with
 | true=>
  obtain⟨ρ',e,x,y,rfl⟩:=h1 h
  exact(aR ((mZ (mC hn rfl jr)).trans e)).trans rfl
 | false=>exact x6 ((mZ (mC hn rfl jr)).trans (h2 h))
end
section
variable {n:Nat}{f:Nat->Nat->Nat}
variable (L:aW n f){z:Nat}(hz:z<n)(bz:∀ j,j<n->f z j=j)
include L hz bz
theorem y87(ns:List Int)(t:Int)(h0:0<=t):∃ d:Nat->Nat,(∀ i,i<n->d i<n)/\yw [cC ns,.int t,aZ n f]=some (dy n (aW.lr n f z d),9):=by
 have hn:n<=1000:=Qv L.hi (by decide)
 have m8:(0:Int)<Int.ofNat n:=by show(0:Int)<(n:Int);omega
 have dr:∀ i,∃ v,v<n/\(i<n->∀ ρ:aS,ρ[0]? = some (some (cC ns,0))->ρ[1]? = some (some (.int t,9))->ρ[2]? = some (some (aZ n f,9))->ρ[3]? = some (some (.int (Int.ofNat z),9))->ρ[5]? = some (some (.int (Int.ofNat i),9))->
   fJ (eG (ae (aa 3) (ae (aa 5) (ae (aK cQ 3 (ae (aa 0) (ae (e2 bB (aa 1) (aa 5)) (ae (bX 2) ah)))) ah)))) (aK cQ 3 (ae (aa 0) (ae (e2 bB (e2 bB (aa 1) (eC (.int 8))) (aa 5)) (ae (eC (.int 3)) ah)))) ρ=some (.int (Int.ofNat v),9,ρ)):=fun i=>by
  have e1:=rP ns (t+Int.ofNat i) (Int.ofNat n) (by show 0<=t+(i:Int);omega) m8
  have mf:=rP ns (t+8+Int.ofNat i) 3 (by show 0<=t+8+(i:Int);omega) (by decide)
  have l1:=oZ ns (t+Int.ofNat i) m8
  have l2:=rQ ns (t+Int.ofNat i) m8
  have k1:=oZ ns (t+8+Int.ofNat i) (m:=3) (by decide)
  have k2:=rQ ns (t+8+Int.ofNat i) (m:=3) (by decide)
  generalize i_ ns (t+Int.ofNat i) (Int.ofNat n)=a at *
  generalize i_ ns (t+8+Int.ofNat i) 3=b at *
  obtain⟨a',rfl⟩:∃ a':Nat,a=Int.ofNat a':=⟨a.toNat,by show a=(a.toNat:Int);omega⟩
  have EC:a'<n:=by have:(a':Int)<(n:Int):=l2;omega
  by_cases hi:i<n
  ·have hb:b=0\/b=1\/b=2:=by omega
   rcases hb with rfl|rfl|rfl
   ·refine⟨z,hz,fun _ ρ h0 h1 h2 h3 h5=>?_⟩
    simp[-Int.ofNat_eq_natCast,h0,h1,h2,h3,h5,jr,e1,mf,cO,L2.dP,jj]
   ·refine⟨i,hi,fun _ ρ h0 h1 h2 h3 h5=>?_⟩
    simp[-Int.ofNat_eq_natCast,h0,h1,h2,h3,h5,jr,e1,mf,cO,L2.dP,jj]
   ·refine⟨a',EC,fun _ ρ h0 h1 h2 h3 h5=>?_⟩
    simp[-Int.ofNat_eq_natCast,h0,h1,h2,h3,h5,jr,e1,mf,cO,L2.dP,jj]
  ·exact⟨z,hz,fun h=>absurd h hi⟩
 obtain⟨d,hd⟩:∃ d:Nat->Nat,∀ i,d i<n/\(i<n->∀ ρ:aS,ρ[0]? = some (some (cC ns,0))->ρ[1]? = some (some (.int t,9))->ρ[2]? = some (some (aZ n f,9))->ρ[3]? = some (some (.int (Int.ofNat z),9))->ρ[5]? = some (some (.int (Int.ofNat i),9))->
   fJ (eG (ae (aa 3) (ae (aa 5) (ae (aK cQ 3 (ae (aa 0) (ae (e2 bB (aa 1) (aa 5)) (ae (bX 2) ah)))) ah)))) (aK cQ 3 (ae (aa 0) (ae (e2 bB (e2 bB (aa 1) (eC (.int 8))) (aa 5)) (ae (eC (.int 3)) ah)))) ρ=some (.int (Int.ofNat (d i)),9,ρ)):=
  ⟨fun i=>(dr i).choose,fun i=>(dr i).choose_spec⟩
 refine⟨d,fun i _=>(hd i).1,?_⟩
 unfold yw LU
 refine fM ?_
 have hs:jZ 7 [cC ns,.int t,aZ n f]=[some (cC ns,0),some (.int t,9),some (aZ n f,9),none,none,none,none]:=rfl
 rw[hs]
 refine(aR (ρ1:=[some (cC ns,0),some (.int t,9),some (aZ n f,9),some (.int (Int.ofNat z),9),none,none,none]) ?_).trans ?_
 ·simp[-Int.ofNat_eq_natCast,Mu L hz bz hn]
 refine(aR (ρ1:=[some (cC ns,0),some (.int t,9),some (aZ n f,9),some (.int (Int.ofNat z),9),some (.lst [],1),none,none]) ?_).trans ?_
 ·simp
 obtain⟨ρ',e,y,rfl⟩:=p7 (pt:=bg 5) (body:=eI (jy 4 (ae (fJ (eG (ae (aa 3) (ae (aa 5) (ae (aK cQ 3 (ae (aa 0) (ae (e2 bB (aa 1) (aa 5)) (ae (bX 2) ah)))) ah)))) (aK cQ 3 (ae (aa 0) (ae (e2 bB (e2 bB (aa 1) (eC (.int 8))) (aa 5)) (ae (eC (.int 3)) ah))))) ah))) (cV n)
  (fun i ρ=>∃ y,ρ=[some (cC ns,0),some (.int t,9),some (aZ n f,9),some (.int (Int.ofNat z),9),some (.lst (ao ((List.range i).map d)),1),y,none])
  [some (cC ns,0),some (.int t,9),some (aZ n f,9),some (.int (Int.ofNat z),9),some (.lst [],1),none,none] (fun i hi ρ aj=>by
   obtain⟨y,hy⟩:=aj
   subst hy
   have eE:i<n:=by rw[iA]at hi;exact hi
   have hdi:=(hd i).2 eE [some (cC ns,0),some (.int t,9),some (aZ n f,9),some (.int (Int.ofNat z),9),some (.lst (ao ((List.range i).map d)),1),some (.int (Int.ofNat i),9),none] rfl rfl rfl rfl rfl
   refine⟨[some (cC ns,0),some (.int t,9),some (aZ n f,9),some (.int (Int.ofNat z),9),some (.lst (ao ((List.range i).map d)),1),some (.int (Int.ofNat i),9),none],[some (cC ns,0),some (.int t,9),some (aZ n f,9),some (.int (Int.ofNat z),9),some (.lst (ao ((List.range (i+1)).map d)),1),some (.int (Int.ofNat i),9),none],?_,.inl ?_,⟨_,rfl⟩⟩
   ·rw[show(cV n)[i]=.int (Int.ofNat i)by simp[cV]];simp
   ·have ex:ao ((List.range (i+1)).map d)=ao ((List.range i).map d)++[.int (Int.ofNat (d i))]:=by rw[JK];simp[ao]
    have hl:(ao ((List.range i).map d)).length<=1000:=by rw[fy,Qm,QP];omega
    exact AO rfl (cP hdi) rfl hl (by rw[ex];rfl)) ⟨none,rfl⟩
 rw[iA]at e
 refine(aR ((mZ (mC hn rfl jr)).trans e)).trans ?_
 refine(aR (ρ1:=[some (cC ns,0),some (.int t,9),some (aZ n f,9),some (.int (Int.ofNat z),9),some (.lst (ao ((List.range n).map d)),1),y,some (.lst [],1)]) ?_).trans ?_
 ·simp
 have xj:∀ i,i<n->d i<n:=fun i _=>(hd i).1
 obtain⟨ρ',e,y',rfl⟩:=p7 (pt:=bg 5) (body:=eI (jy 6 (ae (aK ui 2 (ae (aa 2) (ae (fC 1 (fK (aK rJ 2 (ae (aa 2) (ae (aa 5) ah)))) (bg 7) d5 (bU 4 (aa 7)) false) ah))) ah))) (cV n)
  (fun i ρ=>∃ y,ρ=[some (cC ns,0),some (.int t,9),some (aZ n f,9),some (.int (Int.ofNat z),9),some (.lst (ao ((List.range n).map d)),1),y,some (.lst (ao ((List.range i).map (aW.lr n f z d))),1)])
  [some (cC ns,0),some (.int t,9),some (aZ n f,9),some (.int (Int.ofNat z),9),some (.lst (ao ((List.range n).map d)),1),y,some (.lst [],1)] (fun i hi ρ aj=>by
   obtain⟨y,hy⟩:=aj
   subst hy
   have eE:i<n:=by rw[iA]at hi;exact hi
   refine⟨[some (cC ns,0),some (.int t,9),some (aZ n f,9),some (.int (Int.ofNat z),9),some (.lst (ao ((List.range n).map d)),1),some (.int (Int.ofNat i),9),some (.lst (ao ((List.range i).map (aW.lr n f z d))),1)],[some (cC ns,0),some (.int t,9),some (aZ n f,9),some (.int (Int.ofNat z),9),some (.lst (ao ((List.range n).map d)),1),some (.int (Int.ofNat i),9),some (.lst (ao ((List.range (i+1)).map (aW.lr n f z d))),1)],?_,.inl ?_,⟨_,rfl⟩⟩
   ·rw[show(cV n)[i]=.int (Int.ofNat i)by simp[cV]];simp
   ·have ex:ao ((List.range (i+1)).map (aW.lr n f z d))=ao ((List.range i).map (aW.lr n f z d))++[.int (Int.ofNat (aW.lr n f z d i))]:=by rw[JK];simp[ao]
    have hl:(ao ((List.range i).map (aW.lr n f z d))).length<=1000:=by rw[fy,Qm,QP];omega
    have ur:(aW.low n f i).length<=1000:=by
     have:=Zk (fun y=>decide (f y i=i)) (List.range n)
     rw[QP]at this
     exact Qv this hn
    have hit:fK (aK rJ 2 (ae (aa 2) (ae (aa 5) ah))) [some (cC ns,0),some (.int t,9),some (aZ n f,9),some (.int (Int.ofNat z),9),some (.lst (ao ((List.range n).map d)),1),some (.int (Int.ofNat i),9),some (.lst (ao ((List.range i).map (aW.lr n f z d))),1)]=some (ao (aW.low n f i),[some (cC ns,0),some (.int t,9),some (aZ n f,9),some (.int (Int.ofNat z),9),some (.lst (ao ((List.range n).map d)),1),some (.int (Int.ofNat i),9),some (.lst (ao ((List.range i).map (aW.lr n f z d))),1)]):=by
     have hb:rJ [aZ n f,.int (Int.ofNat i)]=some (.lst (ao (aW.low n f i)),1):=z7h hn eE
     simp[-Int.ofNat_eq_natCast,hb,fy,ur]
    have hc:=ls (k:=1) (te:=bU 4 (aa 7)) (deep:=false) hit (V_ (i:=7) (aW.low n f i) rfl (fun y=>.int (Int.ofNat (d y))) (fun _=>9) (fun y hy=>by
     have hyn:=(aW.gm.mp hy).1
     have tm:cO (.lst (ao ((List.range n).map d))) (Int.ofNat y)=some (.int (Int.ofNat (d y))):=tV hyn
     simp[-Int.ofNat_eq_natCast,tm]))
    have hm:∀ y∈(aW.low n f i).map d,y<n:=aW.nY L hz bz xj
    have e':((aW.low n f i).map fun y=>D.int (Int.ofNat (d y)))=ao ((aW.low n f i).map d):=by simp[ao]
    rw[e']at hc
    have hj:ui [aZ n f,.lst (ao ((aW.low n f i).map d))]=some (.int (Int.ofNat (aW.lr n f z d i)),9):=j11 L hz bz hn (by rw[Qm];exact ur) hm
    have ha:=cP (du (n:=2) (cZ (f:=aa 2) (q:=9) (d:=aZ n f) (ρ:=[some (cC ns,0),some (.int t,9),some (aZ n f,9),some (.int (Int.ofNat z),9),some (.lst (ao ((List.range n).map d)),1),some (.int (Int.ofNat i),9),some (.lst (ao ((List.range i).map (aW.lr n f z d))),1)]) (ρ1:=[some (cC ns,0),some (.int t,9),some (aZ n f,9),some (.int (Int.ofNat z),9),some (.lst (ao ((List.range n).map d)),1),some (.int (Int.ofNat i),9),some (.lst (ao ((List.range i).map (aW.lr n f z d))),1)]) rfl (cP hc)) rfl hj)
    exact AO rfl ha rfl hl (by rw[ex];rfl)) ⟨y,rfl⟩
 rw[iA]at e
 refine(aR ((mZ (mC hn rfl jr)).trans e)).trans ?_
 exact iW (Em (cP (q:=0) (ρ1:=[some (cC ns,0),some (.int t,9),some (aZ n f,9),some (.int (Int.ofNat z),9),some (.lst (ao ((List.range n).map d)),1),y',some (.lst (ao ((List.range n).map (aW.lr n f z d))),0)]) rfl))
end
def cD (n:Nat):D->Bool
 | .int i=>decide (0<=i)&&decide (i<(n:Int))
 | _=>false
def fP (m n:Nat):D->Bool
 | .tup ds=>decide (ds.length=m)&&ds.all (cD n)
 | _=>false
theorem o3(d:D):yn [d]=(b9 (match d with|.int _=>true|_=>false)):=by
 unfold yn Lk
 cases d<;>simp[ib]
theorem Bc(n:Nat)(d:D):mz [d,(iD n)]=(b9 (cD n d)):=by
 unfold mz Ll
 cases d with
 | int i=>
  have h:=o3 (.int i)
  by_cases h0:0<=i
  ·by_cases h1:i<(n:Int)
   ·simp[h,cD,h0,h1]
   ·simp[h,cD,h0,h1]
  ·simp[h,cD,h0]
 | au=>simp[o3,cD]
 | bl b=>simp[o3,cD]
 | str x=>simp[o3,cD]
 | tup ds=>simp[o3,cD]
 | lst ds=>simp[o3,cD]
 | gy ks ds=>simp[o3,cD]
 | exc nm=>simp[o3,cD]
 | ob f fo vs ds=>simp[o3,cD]
 | mp k ds=>simp[o3,cD]
theorem z38(m n:Nat)(d:D)(hl:∀ ds,d=.tup ds->ds.length<=1000):ue [d,(iD m),(iD n)]=(b9 (fP m n d)):=by
 unfold ue EO
 cases d with
 | tup ds=>
  have hl:=hl ds rfl
  refine fM ?_
  have hs:jZ 3 [.tup ds,(iD m),(iD n)]=[some (.tup ds,9),(i9 m),(i9 n)]:=rfl
  rw[hs]
  by_cases hm:ds.length=m
  ·refine(aR (ρ1:=[some (.tup ds,9),(i9 m),(i9 n)]) ?_).trans ?_
   ·simp[-Int.ofNat_eq_natCast,ib,eK,hm,AL]
   ·have hi:fK (aa 0) [some (.tup ds,9),(i9 m),(i9 n)]=some (ds,[some (.tup ds,9),(i9 m),(i9 n)]):=by simp[hl]
    have hc:=p6 (k:=1) (pt:=bg 3) (tt:=d5) (te:=aK mz 2 (ae (aa 3) (ae (aa 2) ah))) (deep:=false) ds (fun _=>[some (.tup ds,9),(i9 m),(i9 n)]) (fun _=>true) (fun i=>.bl (cD n (ds.getD i .au))) (fun i hi=>by
     have hg:ds.getD i .au=ds[i]:=by simp[hi]
     refine⟨[some (.tup ds,9),(i9 m),(i9 n),some (ds[i],cH ds[i])],[some (.tup ds,9),(i9 m),(i9 n),some (ds[i],cH ds[i])],by simp[-cH],rfl,?_⟩
     rw[Qe rfl]
     refine⟨9,[some (.tup ds,9),(i9 m),(i9 n),some (ds[i],cH ds[i])],?_,by simp,by simp⟩
     have hv:∃ q,aa 3 [some (.tup ds,9),(i9 m),(i9 n),some (ds[i],cH ds[i])]=some (ds[i],q,[some (.tup ds,9),(i9 m),(i9 n),some (ds[i],cH ds[i])]):=by
      cases hL:(ds[i]).bM with
      | false=>exact⟨9,by simp[-cH,hL]⟩
      | true=>exact⟨0,by simp[hL]⟩
     obtain⟨q,hv⟩:=hv
     rw[hg]
     exact du (cZ hv (cP (q:=9) rfl)) rfl (Bc n _))
    rw[show(List.range ds.length).filter (fun _=>true)=List.range ds.length by simp]at hc
    have e:(List.range ds.length).map (fun i=>D.bl (cD n (ds.getD i .au)))=ds.map fun d=>.bl (cD n d):=by
     apply Q8
     intro k
     by_cases hk:k<ds.length
     ·simp[hk]
     ·rw[Qq (by simp;omega),Qq (by simp;omega)]
    rw[e]at hc
    refine iW (AQ (cP (ls (deep:=false) hi hc)) ?_)
    simp only[qR,Hx,Zw,fP,hm]
    simp[YB,Z5]
  ·have e:fP m n (.tup ds)=false:=by simp[fP,hm]
   rw[e]
   refine x6 ?_
   simp[-Int.ofNat_eq_natCast,ib,eK,AL,hm]
 | au=>simp[ib,fP]
 | bl b=>simp[ib,fP]
 | int i=>simp[ib,fP]
 | str x=>simp[ib,fP]
 | lst ds=>simp[ib,fP]
 | gy ks ds=>simp[ib,fP]
 | exc nm=>simp[ib,fP]
 | ob f fo vs ds=>simp[ib,fP]
 | mp k ds=>simp[ib,fP]
theorem z0k(m n:Nat)(hm:m<=1000)(d:D):ue [d,(iD m),(iD n)]=(b9 (fP m n d)):=by
 by_cases h:∀ ds,d=.tup ds->ds.length<=1000
 ·exact z38 m n d h
 ·cases d with
  | tup ds=>
   have fI:ds.length≠m:=fun e=>h fun br e'=>by cases e';omega
   have e:fP m n (.tup ds)=false:=by simp[fP,fI]
   unfold ue EO
   refine fM ?_
   rw[e]
   refine x6 ?_
   simp[-Int.ofNat_eq_natCast,ib,eK,AL,fI]
  | _=>exact absurd (fun ds e=>nomatch e) h
theorem z0s(hr:∀ i,i<n->r i<n):fP n n (dy n r)=true:=by
 unfold fP dy
 simp only[fy,Qm,QP,decide_true,ZZ]
 rw[Zz]
 intro d m
 obtain⟨x,hx,rfl⟩:=Qy.mp m
 obtain⟨i,hi,rfl⟩:=Qy.mp hx
 have:=hr i (Qz.mp hi)
 show(decide ((0:Int)<=(r i:Int))&&decide ((r i:Int)<(n:Int)))=true
 simp;omega
theorem y8m(hn:n<=1000)(d:D):yt [aZ n f,d]=(b9 (fP n n d)):=by
 unfold yt LD
 have hv:∃ q ρ',aa 1 [(t9 n f),some (d,cH d)]=some (d,q,ρ')/\ρ'[0]? = some ((t9 n f)):=by
  cases hL:d.bM with
  | false=>exact⟨9,[(t9 n f),some (d,cH d)],by simp[-cH,hL],rfl⟩
  | true=>exact⟨0,[(t9 n f),some (d,0)],by simp[hL],rfl⟩
 obtain⟨q,ρ',hv,h0⟩:=hv
 have Mx:bX 0 ρ'=some ((iD n),9,ρ'):=by unfold bX;simp only[h0,jr]
 exact fM (iW (du (cZ (ρ:=[(t9 n f),some (d,cH d)]) hv (cZ Mx (cP Mx))) rfl (z0k n n hn d)))
theorem z67(h:ρ[i]? = some (some (d,cH d))):aa i ρ=some (d,cH d,ρ):=by
 unfold aa
 rw[h]
 cases hL:d.bM with
 | false=>simp[hL]
 | true=>simp[hL]
theorem Mz(ds:List D)(hi:ρ.length=i)(v:D->D)(q:D->Nat)
  (he:∀ d,d∈ds->te (ρ++[some (d,cH d)])=some (v d,q d,ρ++[some (d,cH d)])) :
  km 1 (bg i) d5 te false ds ρ=some (ds.map v,ρ):=by
 have h:=p6 (k:=1) (pt:=bg i) (tt:=d5) (te:=te) (deep:=false) ds (fun _=>ρ) (fun _=>true) (fun j=>v (ds.getD j .au)) (fun j hj=>?_)
 ·rw[show(List.range ds.length).filter (fun _=>true)=List.range ds.length by simp]at h
  rw[h]
  have e:(List.range ds.length).map (fun j=>v (ds.getD j .au))=ds.map v:=by
   apply Q8
   intro k
   by_cases hk:k<ds.length
   ·simp[hk]
   ·rw[Qq (by simp;omega),Qq (by simp;omega)]
  rw[e]
 ·have hg:ds.getD j .au=ds[j]:=by simp[hj]
  refine⟨ρ++[some (ds[j],cH ds[j])],_,?_,rfl,?_⟩
  ·unfold bg
   rw[Qe (by simp[hi])]
   subst hi
   simp[-cH,JL]
  ·rw[Qe rfl,hg]
   exact⟨q _,_,he _ (Q6 hj),by simp,by simp⟩
theorem z5z{it:lZ}(hi:ρ.length=i)(hit:it ρ=some (ds,ρ))(b:D->Bool)(q:D->Nat)
  (he:∀ d,d∈ds->te (ρ++[some (d,cH d)])=some (.bl (b d),q d,ρ++[some (d,cH d)])) :
  eB qR (ae (fC 1 it (bg i) d5 te false) ah) ρ=some (.bl (ds.all b),9,ρ):=by
 refine AQ (cP (ls (deep:=false) hit (Mz ds hi (fun d=>.bl (b d)) q he))) ?_
 simp only[qR,Hx,Zw]
 simp[YB,Z5]
def o4 (ds:List D)(i:Nat):Nat:=match ds[i]? with
 | some (.int k)=>k.toNat
 | _=>0
theorem MA(h:fP m n (.tup ds)=true):ds.length=m/\∀ i,i<m->ds[i]? = some (iD (o4 ds i))/\o4 ds i<n:=by
 unfold fP at h
 simp only[Zg,Z4,Zz]at h
 obtain⟨hl,ha⟩:=h
 refine⟨hl,fun i hi=>?_⟩
 have eE:i<ds.length:=by omega
 have hm:=ha ds[i] (Q6 eE)
 have hg:ds[i]? = some ds[i]:=Qx eE
 unfold o4
 rw[hg]
 cases e:ds[i]with
 | int k=>
  rw[e]at hm
  unfold cD at hm
  simp only[Zg,Z4]at hm
  refine⟨?_,?_⟩
  ·show some (D.int k)=some (D.int ((k.toNat:Nat):Int))
   rw[Int.toNat_of_nonneg hm.1]
  ·show k.toNat<n
   omega
 | _=>rw[e]at hm;cases hm
theorem j2p(h:fP m n (.tup ds)=true):D.tup ds=dy m (o4 ds):=by
 obtain⟨hl,key⟩:=MA h
 unfold dy
 congr 1
 apply Q8
 intro i
 by_cases hi:i<m
 ·rw[(key i hi).1,AG,QH,Zc hi]
  rfl
 ·rw[Qq (by omega),Qq (by simp[fy];omega)]
theorem z6r(h:fP n n (.tup ds)=true):D.tup ds=dy n (o4 ds)/\∀ i,i<n->o4 ds i<n:=⟨j2p h,fun i hi=>((MA h).2 i hi).2⟩
theorem z15(hi:i<n):o4 (ao ((List.range n).map r)) i=r i:=by
 unfold o4
 rw[AG,QH,Zc hi]
 rfl
def rr (n:Nat)(f:Nat->Nat->Nat)(d:D):Bool:=match d with
 | .tup ds=>fP n n (.tup ds)&&jK n f (o4 ds)
 | _=>false
theorem y7h{s:Nat->Nat}(h:∀ i,i<n->r i=s i):jK n f r=jK n f s:=by
 rw[Bool.eq_iff_iff,Bb,Bb]
 constructor
 ·intro k y x hy hx e
  rw[<- h x hx,<- h y hy];exact k y x hy hx e
 ·intro k y x hy hx e
  rw[h x hx,h y hy];exact k y x hy hx e
theorem MB(hr:∀ i,i<n->r i<n):rr n f (dy n r)=jK n f r:=by
 have h:=z0s hr
 show(fP n n (dy n r)&&jK n f (o4 (ao ((List.range n).map r))))=_
 rw[h,ZZ]
 exact y7h fun i hi=>z15 hi
theorem MC(hn:n<=1000)(d:D):rG [aZ n f,d]=(b9 (rr n f d)):=by
 have h1:=y8m (n:=n) (f:=f) hn d
 have v1:aa 1 [(t9 n f),some (d,cH d)]=some (d,cH d,[(t9 n f),some (d,cH d)]):=z67 rfl
 have v0:aa 0 [(t9 n f),some (d,cH d)]=some (aZ n f,9,[(t9 n f),some (d,cH d)]):=rfl
 have c1:=du (n:=2) (cZ v0 (cP v1)) rfl h1
 unfold rG LG
 refine fM (iW (ρ1:=[(t9 n f),some (d,cH d)]) ?_)
 show pL _ _ [(t9 n f),some (d,cH d)]=_
 unfold pL
 rw[c1]
 cases hR:fP n n d with
 | false=>
  have:rr n f d=false:=by cases d<;>simp_all [rr]
  simp[this]
 | true=>
  cases d with
  | tup ds=>
   obtain⟨e,hb⟩:=z6r hR
   have r:=Mw (f:=f) hn hb
   rw[<- e]at r
   have c2:=du (n:=2) (cZ v0 (cP v1)) rfl r
   simp only[Z9,c2]
   simp[rr,hR]
  | _=>cases hR
structure bA where
 p:Nat
 W:List (Nat×Nat×(Nat->Nat))
 B:List (Nat×Nat)
def bq (n:Nat)(w:Nat×Nat×(Nat->Nat)):D:=.tup [(iD w.1),(iD w.2.1),dy n w.2.2]
def bu (b:Nat×Nat):D:=.tup [(iD b.1),(iD b.2)]
def dU (n:Nat)(C:bA):D:=.tup [(iD C.p),.tup (C.W.map (bq n)),.tup (C.B.map bu)]
abbrev c9 (n:Nat)(C:bA):OD:=some (dU n C,9)
def E2 (n:Nat)(f:Nat->Nat->Nat)(p:Nat)(w:Nat×Nat×(Nat->Nat)):Prop:=w.1<p/\w.2.1<p/\(∀ i,i<n->w.2.2 i<n)/\∀ x y,x<n->y<n->f x y=y->f (w.2.2 x) (w.2.2 y)=w.2.2 y
def E3 (n:Nat)(p:Nat)(b:Nat×Nat):Prop:=b.1<p/\b.2<n
structure bA.Ok (n:Nat) (f:Nat->Nat->Nat) (C:bA):Prop where
 p1:1<=C.p
 p8:C.p<=8
 E4:C.W.length<=60
 E5:C.B.length<=60
 ws:∀ w∈C.W,E2 n f C.p w
 bs:∀ b∈C.B,E3 n C.p b
@[simp] theorem j2i{C:bA}:(dU n C).bM=false:=rfl
@[simp] theorem j5e{w:Nat×Nat×(Nat->Nat)}:(bq n w).bM=false:=rfl
@[simp] theorem j5o:(bu b).bM=false:=rfl
theorem E6(hm:m<=1000){ρ':aS}(h:fe ρ=some ((iD m),q,ρ')):dj (ae fe ah) ρ=some (cV m,ρ'):=by
 have b1:(-1000:Int)<=Int.ofNat m:=by show(-1000:Int)<=m;omega
 have b2:Int.ofNat m<=1000:=by show(m:Int)<=1000;omega
 simp only[dj,ae,ah,h]
 rw[Qe ⟨b1,b2⟩]
 rfl
def uv (b:Nat×Nat):lx:=(b.1,fun _=>b.2)
def yC (w:Nat×Nat×(Nat->Nat)):lx:=(w.2.1,fun v=>w.2.2 (gv v w.1))
def ja (C:bA):List lx:=C.B.map uv++C.W.map yC
section
variable {n:Nat}{f:Nat->Nat->Nat}(L:aW n f){C:bA}(hC:C.Ok n f)
include L hC
theorem Bd:∀ s∈ja C,ly n C.p f s:=fun s hs=>by
 unfold ja at hs
 rcases Q0.mp hs with h|h
 ·obtain⟨b,hb,rfl⟩:=Qy.mp h
  have k:=hC.bs b hb
  exact⟨k.1,fun _ _=>k.2,fun _ _ _ _ _=>L.idem _ k.2⟩
 ·obtain⟨w,hw,rfl⟩:=Qy.mp h
  have k:=hC.ws w hw
  exact⟨k.2.1,fun v hv=>k.2.2.1 _ (hv.gv k.1),fun u v hu hv e=>k.2.2.2 _ _ (hu.gv k.1) (hv.gv k.1) (e _ k.1)⟩
end
abbrev Sn:=Bool×Nat
def aC (s:Sn):D:=.tup [.str (if s.1 then "begin" else "way"),(iD s.2)]
@[simp] theorem j45{s:Sn}:(aC s).bM=false:=rfl
def okN (C:bA)(s:Sn):Prop:=s.2<(if s.1 then C.B.length else C.W.length)
def bD (C:bA)(s:Sn):lx:=if s.1 then uv (C.B.getD s.2 (0,0))else yC (C.W.getD s.2 (0,0,id))
def qf (C:bA):List Sn:=(List.range C.B.length).map (fun k=>(true,k))++(List.range C.W.length).map (fun k=>(false,k))
theorem E7(C:bA):∀ s∈qf C,okN C s:=fun s hs=>by
 unfold qf at hs
 rcases Q0.mp hs with h|h
 ·obtain⟨k,hk,rfl⟩:=Qy.mp h
  exact Qz.mp hk
 ·obtain⟨k,hk,rfl⟩:=Qy.mp h
  exact Qz.mp hk
theorem MD{α β:Type}(l:List α)(d:α)(g:α->β):(List.range l.length).map (fun k=>g (l.getD k d))=l.map g:=by
 apply Q8
 intro k
 by_cases hk:k<l.length
 ·simp[hk]
 ·rw[Qq (by simp;omega),Qq (by simp;omega)]
theorem ME(C:bA):(qf C).map (bD C)=ja C:=by
 unfold qf ja
 rw[Zo,Zn,Zn,<- MD C.B (0,0) uv,<- MD C.W (0,0,id) yC]
 rfl
theorem Be{C:bA}{s:Sn}(h:okN C s):bD C s∈ja C:=by
 unfold okN at h
 unfold bD ja
 cases hb:s.1 with
 | true=>
  rw[hb]at h
  have h':s.2<C.B.length:=h
  refine QU _ (Qy.mpr ⟨C.B.getD s.2 (0,0),?_,rfl⟩)
  rw[QM,Qx h']
  exact Q6 h'
 | false=>
  rw[hb]at h
  have h':s.2<C.W.length:=h
  refine Qh _ (Qy.mpr ⟨C.W.getD s.2 (0,0,id),?_,rfl⟩)
  rw[QM,Qx h']
  exact Q6 h'
theorem z5x:de (.str "begin") (.str "begin")=some (.bl true):=by
 have h:d7 (.str "begin")=true:=by decide +kernel
 unfold de
 rw[Qe ⟨h,h⟩]
 rfl
theorem j3r:de (.str "way") (.str "begin")=some (.bl false):=by
 have h:d7 (.str "begin")=true:=by decide +kernel
 have h':d7 (.str "way")=true:=by decide +kernel
 have e:nF (.str "way") (.str "begin")=false:=by decide +kernel
 unfold de
 rw[Qe ⟨h',h⟩,e]
theorem j43(hp:p<v.length):L3.pN (ao v) none (some (Int.ofNat p))=ao (v.take p):=by
 unfold L3.pN
 have e1:HT.bo (ao v).length 0 none=0:=rfl
 have e2:HT.bo (ao v).length (ao v).length (some (Int.ofNat p))=p:=by
  rw[fy]
  have:¬ ((p:Int)<0):=by omega
  simp[HT.bo,this]
  omega
 rw[e1,e2,List.drop_zero,Nat.sub_zero]
 simp only[ao,List.map_take]
theorem z71(hp:p<v.length):L3.pN (ao v) (some (Int.ofNat p+1)) none=ao (v.drop (p+1)):=by
 unfold L3.pN
 have e1:HT.bo (ao v).length 0 (some (Int.ofNat p+1))=p+1:=by
  rw[fy]
  have:¬ ((p:Int)+1<0):=by omega
  simp[HT.bo,this]
  omega
 have e2:HT.bo (ao v).length (ao v).length none=(ao v).length:=rfl
 rw[e1,e2,Jv (by rw[ZS];exact Qf _)]
 simp only[ao,List.map_drop]
theorem j1w{x:Nat}(hp:p<v.length):ao (v.take p)++[(iD x)]++ao (v.drop (p+1))=ao (v.set p x):=by
 rw[List.set_eq_take_append_cons_drop,Qe hp]
 simp[ao]
def Rz (f:Nat->Nat->Nat)(C:bA):List Nat->List Sn->Prop
 | _,[]=>True
 | v,s::R=>bC f v (bD C s)≠v/\Rz f C (bC f v (bD C s)) R
theorem Rz.snoc{C:bA}{s:Sn}:∀ {R:List Sn} {v:List Nat},Rz f C v R->bC f ((R.map (bD C)).foldl (bC f) v) (bD C s)≠(R.map (bD C)).foldl (bC f) v->Rz f C v (R++[s])
 | [],_,_,h=>⟨h,trivial⟩
 | _::_,_,r,h=>⟨r.1,Rz.snoc r.2 h⟩
section
variable {n:Nat}{f:Nat->Nat->Nat}(L:aW n f){C:bA}(hC:C.Ok n f)
include L hC
theorem Au(hv:Vn n C.p v){s:Sn}(hs:okN C s):yo [dU n C,.tup (ao v),aC s]=some (.tup [.int (Int.ofNat (bD C s).1),(iD ((bD C s).2 v))],9):=by
 obtain⟨b,k⟩:=s
 unfold okN at hs
 unfold yo Lq
 have c1:cO (dU n C) 1=some (.tup (C.W.map (bq n))):=rfl
 have c2:cO (dU n C) 2=some (.tup (C.B.map bu)):=rfl
 cases b with
 | true=>
  have hk:k<C.B.length:=hs
  have s0:cO (aC (true,k)) 0=some (.str "begin"):=rfl
  have s1:cO (aC (true,k)) 1=some (iD k):=rfl
  have e:cO (.tup (C.B.map bu)) (Int.ofNat k)=some (bu (C.B.getD k (0,0))):=x8 (by rw[QH,Qx hk];simp[hk])
  have ju:bD C (true,k)=uv (C.B.getD k (0,0)):=rfl
  rw[ju]
  generalize C.B.getD k (0,0)=b at *
  generalize aC (true,k)=sd at *
  have hb:bu b=.tup [.int (Int.ofNat (uv b).1),(iD ((uv b).2 v))]:=rfl
  rw[<- hb]
  simp[-Int.ofNat_eq_natCast,s0,s1,c2,e,z5x]
 | false=>
  have hk:k<C.W.length:=hs
  have s0:cO (aC (false,k)) 0=some (.str "way"):=rfl
  have s1:cO (aC (false,k)) 1=some (iD k):=rfl
  have e:cO (.tup (C.W.map (bq n))) (Int.ofNat k)=some (bq n (C.W.getD k (0,0,id))):=x8 (by rw[QH,Qx hk];simp[hk])
  have ju:bD C (false,k)=yC (C.W.getD k (0,0,id)):=rfl
  have hw:C.W.getD k (0,0,id)∈C.W:=by
   rw[QM,Qx hk]
   exact Q6 hk
  have ok:=hC.ws _ hw
  rw[ju]
  generalize C.W.getD k (0,0,id)=w at *
  have w0:cO (bq n w) 0=some (iD w.1):=rfl
  have w1:cO (bq n w) 1=some (iD w.2.1):=rfl
  have w2:cO (bq n w) 2=some (dy n w.2.2):=rfl
  have a0:=KU (v:=v) (i:=w.1) (by rw[hv.len];exact ok.1)
  have a1:=yd (r:=w.2.2) (hv.gv ok.1)
  have Dj:aC (false,k)=aC (false,k):=rfl
  generalize hsd:aC (false,k)=sd at *
  have hL:sd.bM=false:=by rw[<- hsd];rfl
  show _=some (D.tup [(iD w.2.1),(iD (w.2.2 (gv v w.1)))],9)
  generalize hwt:bq n w=wt at *
  have hL2:wt.bM=false:=by rw[<- hwt];rfl
  simp[-Int.ofNat_eq_natCast,s0,s1,c1,e,j3r,w0,w1,w2,a0,a1,hL,hL2]
theorem z45(hv:Vn n C.p v){s:Sn}(hs:okN C s):yq [aZ n f,dU n C,.tup (ao v),aC s]=(v9 (bC f v (bD C s))):=by
 have ok:=Bd L hC _ (Be hs)
 have hp:=Au L hC hv hs
 have hx:=ok.lt v hv
 have hg:=hv.gv ok.pl
 have bG:(bD C s).1<v.length:=by rw[hv.len];exact ok.pl
 have rR:=hC.p8
 have hl:=hv.len
 unfold bC
 generalize (bD C s).1=g at *
 generalize (bD C s).2 v=x at *
 have a0:=KU bG
 have a1:=vh (f:=f) hg
 have a2:=x9 (f:=f) (i:=gv v g) hx
 have s1:=j43 bG
 have s2:=z71 bG
 have s3:=j1w (x:=f (gv v g) x) bG
 have l1:(ao (v.take g)).length=g:=by rw[fy,Q3];omega
 have l2:(ao (v.drop (g+1))).length=v.length-(g+1):=by rw[fy,ZS]
 unfold yq Ls
 refine fM ?_
 show aB _ _ [(t9 n f),(c9 n C),(v9 v),some (aC s,9),none,none,none]=_
 refine(aR (ρ1:=[(t9 n f),(c9 n C),(v9 v),some (aC s,9),some (.tup [(iD g),(iD x)],9),none,none]) (by simp[-Int.ofNat_eq_natCast,hp])).trans ?_
 have t0:cO (.tup [(iD g),(iD x)]) 0=some (iD g):=rfl
 have t1:cO (.tup [(iD g),(iD x)]) 1=some (iD x):=rfl
 refine(aR (ρ1:=[(t9 n f),(c9 n C),(v9 v),some (aC s,9),some (.tup [(iD g),(iD x)],9),(i9 g),none]) (by simp[-Int.ofNat_eq_natCast,t0])).trans ?_
 refine(aR (ρ1:=[(t9 n f),(c9 n C),(v9 v),some (aC s,9),some (.tup [(iD g),(iD x)],9),(i9 g),(i9 (f (gv v g) x))]) (by simp[-Int.ofNat_eq_natCast,a0,a1,a2,t1])).trans ?_
 rw[<- s3]
 have m1:(ao (v.take g)).length+1<=1000:=by omega
 have m2:(ao (v.take g)).length+1+(ao (v.drop (g+1))).length<=1000:=by omega
 generalize ao (v.take g)=u1 at *
 generalize ao (v.drop (g+1))=u2 at *
 have m1':u1.length<=999:=by omega
 simp[-Int.ofNat_eq_natCast,s1,s2,m1,m1',m2]
structure kJ (n:Nat) (f:Nat->Nat->Nat) (p:Nat) (l:List lx) (v u:List Nat):Prop where
 V:Vn n p u
 cl:rA f l u
 up:fN f p v u
 le:∀ a,Vn n p a->rA f l a->fN f p v a->fN f p u a
theorem MF(hv:Vn n C.p v){l:List Sn}(hl:∀ s∈l,okN C s)(hlen:l.length<=1000) :
  ∃ (u:List Nat) (R:List Sn),kJ n f C.p (l.map (bD C)) v u/\(∀ s∈R,s∈l)/\(R.map (bD C)).foldl (bC f) v=u/\(aW.mu n f u+R.length<=aW.mu n f v/\Rz f C v R)/\rD [aZ n f,dU n C,.lst (l.map aC),.tup (ao v)]=some (.tup [.tup (ao u),.lst (R.map aC)],9):=by
 have rR:=hC.p8
 have hn8:=L.hi
 have hmu:=aW.yg (f:=f) hv
 have hmu':C.p*n<=8*16:=Nat.mul_le_mul rR hn8
 have hS:∀ t∈l.map (bD C),ly n C.p f t:=fun t ht=>by
  obtain⟨s,hs,rfl⟩:=Qy.mp ht
  exact Bd L hC _ (Be (hl s hs))
 have round:∀ (w:List Nat) (R:List Sn) (a:OD) (j:(OD×OD)),Vn n C.p w->(∀ s∈R,s∈l)->(R.map (bD C)).foldl (bC f) v=w->(aW.mu n f w+R.length<=aW.mu n f v/\Rz f C v R)->
   ∃ (R':List Sn) (j':(OD×OD)),(∀ s∈R',s∈l)/\(R'.map (bD C)).foldl (bC f) v=(l.map (bD C)).foldl (bC f) w/\(aW.mu n f ((l.map (bD C)).foldl (bC f) w)+R'.length<=aW.mu n f v/\Rz f C v R') /\
    gh (bg 6) yr (l.map aC) [(t9 n f),(c9 n C),some (.lst (l.map aC),0),(v9 w),some (.lst ((R).map aC),1),a,(j).1,(j).2]=some (.nx [(t9 n f),(c9 n C),some (.lst (l.map aC),0),(v9 ((l.map (bD C)).foldl (bC f) w)),some (.lst ((R').map aC),1),a,(j').1,(j').2]):=fun w R a j hw h1 h2 h3=>by
  obtain⟨j',e,i1,i2,i3,i4⟩:=KR (J:=(OD×OD)) (pt:=bg 6) (body:=yr) aC (fun(σ:List Nat×List Sn) j=>[(t9 n f),(c9 n C),some (.lst (l.map aC),0),(v9 σ.1),some (.lst ((σ.2).map aC),1),a,(j).1,(j).2]) (fun σ s=>(bC f σ.1 (bD C s),if bC f σ.1 (bD C s)=σ.1 then σ.2 else σ.2++[s]))
   (fun σ=>Vn n C.p σ.1/\(∀ s∈σ.2,s∈l)/\(σ.2.map (bD C)).foldl (bC f) v=σ.1/\(aW.mu n f σ.1+σ.2.length<=aW.mu n f v/\Rz f C v σ.2)) l (w,R) j ⟨hw,h1,h2,h3⟩ (fun s hs σ j aj=>by
    obtain⟨k1,k2,k3,k4⟩:=aj
    obtain⟨x,Q⟩:=σ
    dsimp only at k1 k2 k3 k4 ⊢
    have ok:=Bd L hC _ (Be (hl s hs))
    have hb:=z45 L hC k1 (hl s hs)
    have jV:=L.iG ok k1
    by_cases he:bC f x (bD C s)=x
    ·rw[Qe he]
     refine⟨⟨jV,k2,by rw[he];exact k3,by rw[he];exact k4⟩,[(t9 n f),(c9 n C),some (.lst (l.map aC),0),(v9 x),some (.lst ((Q).map aC),1),a,(((some (aC s,9),j.2):(OD×OD))).1,(((some (aC s,9),j.2):(OD×OD))).2],(some (aC s,9),(v9 (bC f x (bD C s)))),by simp,?_⟩
     unfold yr
     refine(aR (ρ1:=[(t9 n f),(c9 n C),some (.lst (l.map aC),0),(v9 x),some (.lst ((Q).map aC),1),a,(((some (aC s,9),(v9 (bC f x (bD C s)))):(OD×OD))).1,(((some (aC s,9),(v9 (bC f x (bD C s)))):(OD×OD))).2]) (by simp[hb])).trans ?_
     refine(aR (ρ1:=[(t9 n f),(c9 n C),some (.lst (l.map aC),0),(v9 x),some (.lst ((Q).map aC),1),a,(((some (aC s,9),(v9 (bC f x (bD C s)))):(OD×OD))).1,(((some (aC s,9),(v9 (bC f x (bD C s)))):(OD×OD))).2]) (by rw[he];simp[vj])).trans ?_
     simp
    ·rw[Qg he]
     have dZ:=L.rB k1 jV (L.iY ok k1) (fun z=>he z.symm)
     refine⟨⟨jV,fun t ht=>?_,?_,⟨by rw[Qo];show _+(Q.length+1)<=_;have:=k4.1;omega,k4.2.snoc (by rw[k3];exact he)⟩⟩,[(t9 n f),(c9 n C),some (.lst (l.map aC),0),(v9 x),some (.lst ((Q).map aC),1),a,(((some (aC s,9),j.2):(OD×OD))).1,(((some (aC s,9),j.2):(OD×OD))).2],(some (aC s,9),(v9 (bC f x (bD C s)))),by simp,?_⟩
     ·rcases Q0.mp ht with h|h
      ·exact k2 t h
      ·rw[QC.mp h];exact hs
     ·rw[Zo,Yi,k3];rfl
     ·unfold yr
      have hQ:Q.length<=1000:=by have:=k4.1;omega
      refine(aR (ρ1:=[(t9 n f),(c9 n C),some (.lst (l.map aC),0),(v9 x),some (.lst ((Q).map aC),1),a,(((some (aC s,9),(v9 (bC f x (bD C s)))):(OD×OD))).1,(((some (aC s,9),(v9 (bC f x (bD C s)))):(OD×OD))).2]) (by simp[hb])).trans ?_
      refine(aR (ρ1:=[(t9 n f),(c9 n C),some (.lst (l.map aC),0),(v9 x),some (.lst (((Q++[s])).map aC),1),a,(((some (aC s,9),(v9 (bC f x (bD C s)))):(OD×OD))).1,(((some (aC s,9),(v9 (bC f x (bD C s)))):(OD×OD))).2]) (by
       generalize bC f x (bD C s)=y at *
       simp[vj,he,hQ])).trans ?_
      simp)
  have ef:∀ (l:List Sn) (σ:List Nat×List Sn),(l.foldl (fun(σ:List Nat×List Sn) s=>(bC f σ.1 (bD C s),if bC f σ.1 (bD C s)=σ.1 then σ.2 else σ.2++[s])) σ).1=(l.map (bD C)).foldl (bC f) σ.1:=by
   intro l
   induction l with
   | nil=>intro σ;rfl
   | cons s l ih=>intro σ;exact ih _
  have MG:=ef l (w,R)
  generalize l.foldl (fun(σ:List Nat×List Sn) s=>(bC f σ.1 (bD C s),if bC f σ.1 (bD C s)=σ.1 then σ.2 else σ.2++[s])) (w,R)=σ at *
  obtain⟨x,Q⟩:=σ
  dsimp only at MG i1 i2 i3 i4 e
  have ef2:x=(l.map (bD C)).foldl (bC f) w:=MG
  subst ef2
  exact⟨Q,j',i2,i3,i4,e⟩
 obtain⟨ρ',e,u,R,j,hu,hR1,DN,hR3,rfl⟩:=Wd (c:=bj (e2 cJ (aa 3) (aa 5))) (b:=AS)
  (Q:=fun ρ=>∃ (u:List Nat) (R:List Sn),∃ j:(OD×OD),kJ n f C.p (l.map (bD C)) v u/\(∀ s∈R,s∈l)/\(R.map (bD C)).foldl (bC f) v=u/\(aW.mu n f u+R.length<=aW.mu n f v/\Rz f C v R)/\ρ=[(t9 n f),(c9 n C),some (.lst (l.map aC),0),(v9 u),some (.lst ((R).map aC),1),(v9 u),(j).1,(j).2])
  (fun k ρ=>∃ (w:List Nat) (R:List Sn),∃ j:(OD×OD),∃ a:D,Vn n C.p w/\fN f C.p v w/\(∀ x,Vn n C.p x->rA f (l.map (bD C)) x->fN f C.p v x->fN f C.p w x)/\(∀ s∈R,s∈l)/\(R.map (bD C)).foldl (bC f) v=w/\(aW.mu n f w+R.length<=aW.mu n f v/\Rz f C v R) /\
    ((a=.au/\k=aW.mu n f w+1)\/∃ y,a=.tup (ao y)/\Vn n C.p y/\w=(l.map (bD C)).foldl (bC f) y/\k=aW.mu n f w+(if y=w then 0 else 1))/\ρ=[(t9 n f),(c9 n C),some (.lst (l.map aC),0),(v9 w),some (.lst ((R).map aC),1),some (a,9),(j).1,(j).2])
  (k:=aW.mu n f v+1) (ρ:=[(t9 n f),(c9 n C),some (.lst (l.map aC),0),(v9 v),some (.lst ((([]:List Sn)).map aC),1),some (.au,9),(((none,none):(OD×OD))).1,(((none,none):(OD×OD))).2]) (by omega) ⟨v,[],(none,none),.au,hv,L.fg hv,fun x _ _ h=>h,(fun _ z=>nomatch z),rfl,⟨Qf _,trivial⟩,.inl ⟨rfl,rfl⟩,rfl⟩ (fun k ρ aj=>by
   obtain⟨w,R,j,a,hw,h1,h2,h3,h4,h5,h6,hr⟩:=aj
   subst hr
   have next:(bj (e2 cJ (aa 3) (aa 5)) [(t9 n f),(c9 n C),some (.lst (l.map aC),0),(v9 w),some (.lst ((R).map aC),1),some (a,9),(j).1,(j).2]=some (true,[(t9 n f),(c9 n C),some (.lst (l.map aC),0),(v9 w),some (.lst ((R).map aC),1),some (a,9),(j).1,(j).2]))->aW.mu n f w+1<=k->∃ ρ1 ρ2 k',bj (e2 cJ (aa 3) (aa 5)) [(t9 n f),(c9 n C),some (.lst (l.map aC),0),(v9 w),some (.lst ((R).map aC),1),some (a,9),(j).1,(j).2]=some (true,ρ1)/\AS ρ1=some (.nx ρ2)/\k'<k/\∃ (w:List Nat) (R:List Sn),∃ j:(OD×OD),∃ a:D,Vn n C.p w/\fN f C.p v w/\(∀ x,Vn n C.p x->rA f (l.map (bD C)) x->fN f C.p v x->fN f C.p w x)/\(∀ s∈R,s∈l)/\(R.map (bD C)).foldl (bC f) v=w/\(aW.mu n f w+R.length<=aW.mu n f v/\Rz f C v R) /\
   ((a=.au/\k'=aW.mu n f w+1)\/∃ y,a=.tup (ao y)/\Vn n C.p y/\w=(l.map (bD C)).foldl (bC f) y/\k'=aW.mu n f w+(if y=w then 0 else 1))/\ρ2=[(t9 n f),(c9 n C),some (.lst (l.map aC),0),(v9 w),some (.lst ((R).map aC),1),some (a,9),(j).1,(j).2]:=fun ht hk=>by
    obtain⟨R',j',r1,r2,r3,r4⟩:=round w R ((v9 w)) j hw h3 h4 h5
    have nT:=L.i5 hS hw
    have up:=L.gM hS hw
    refine⟨_,[(t9 n f),(c9 n C),some (.lst (l.map aC),0),(v9 ((l.map (bD C)).foldl (bC f) w)),some (.lst ((R').map aC),1),(v9 w),(j').1,(j').2],aW.mu n f ((l.map (bD C)).foldl (bC f) w)+(if w=(l.map (bD C)).foldl (bC f) w then 0 else 1),ht,?_,?_,_,R',j',.tup (ao w),nT,L.iF hv hw nT h1 up,fun x hx cx hvx=>L.fO hx hS hw cx (h2 x hx cx hvx),r1,r2,r3,.inr ⟨w,rfl,hw,rfl,rfl⟩,rfl⟩
    ·unfold AS
     refine(aR (ρ1:=[(t9 n f),(c9 n C),some (.lst (l.map aC),0),(v9 w),some (.lst ((R).map aC),1),(v9 w),(j).1,(j).2]) (by simp)).trans ?_
     exact(mZ (ds:=l.map aC) (ρ1:=[(t9 n f),(c9 n C),some (.lst (l.map aC),0),(v9 w),some (.lst ((R).map aC),1),(v9 w),(j).1,(j).2]) (by simp[hlen])).trans r4
    ·by_cases he:w=(l.map (bD C)).foldl (bC f) w
     ·rw[Qe he,<- he];omega
     ·rw[Qg he]
      have:=L.rB hw nT up he
      omega
   rcases h6 with⟨rfl,hk⟩|⟨y,rfl,hy,hwy,hk⟩
   ·refine .inr (next ?_ (by omega))
    have fI:cJ (.tup (ao w)) .au=some (.bl true):=by
     unfold cJ
     rw[Qe ⟨(tW w).ok,(Sh.au (k:=0)).ok⟩]
     rfl
    simp[fI]
   ·by_cases E8:y=w
    ·subst E8
     refine .inl ⟨[(t9 n f),(c9 n C),some (.lst (l.map aC),0),(v9 y),some (.lst ((R).map aC),1),(v9 y),(j).1,(j).2],by simp[vj],y,R,j,⟨hw,(L.fE hS hw).mp hwy.symm,h1,h2⟩,h3,h4,h5,rfl⟩
    ·rw[Qg E8]at hk
     refine .inr (next ?_ (by omega))
     have:¬ (w=y):=fun z=>E8 z.symm
     simp[vj,this])
 refine⟨u,R,hu,hR1,DN,hR3,?_⟩
 unfold rD Lu
 refine fM ?_
 show aB _ _ [(t9 n f),(c9 n C),some (.lst (l.map aC),0),(v9 v),none,none,none,none]=_
 refine(aR (ρ1:=[(t9 n f),(c9 n C),some (.lst (l.map aC),0),(v9 v),some (.lst [],1),none,none,none]) (by simp)).trans ?_
 refine(aR (ρ1:=[(t9 n f),(c9 n C),some (.lst (l.map aC),0),(v9 v),some (.lst ((([]:List Sn)).map aC),1),some (.au,9),(((none,none):(OD×OD))).1,(((none,none):(OD×OD))).2]) (by simp)).trans ?_
 refine(aR e).trans ?_
 simp
theorem z6d(hv:Vn n C.p v){l:List Sn}(hl:∀ s∈l,okN C s)(hlen:l.length<=1000) :
  ∃ (u:List Nat) (R:List Sn),kJ n f C.p (l.map (bD C)) v u/\(∀ s∈R,s∈l)/\(R.map (bD C)).foldl (bC f) v=u/\aW.mu n f u+R.length<=aW.mu n f v/\rD [aZ n f,dU n C,.lst (l.map aC),.tup (ao v)]=some (.tup [.tup (ao u),.lst (R.map aC)],9):=by
 obtain⟨u,R,h1,h2,h3,h4,e⟩:=MF L hC hv hl hlen
 exact⟨u,R,h1,h2,h3,h4.1,e⟩
end
theorem Ao(a b:D):j3 ["begin","way"] [a,b] "begin" = some a:=by unfold j3;rw[Qe rfl]
theorem xK(a b:D):j3 ["begin","way"] [a,b] "way" = some b:=by
 unfold j3
 rw[Qg (by decide)]
 unfold j3
 rw[Qe rfl]
section
variable {n:Nat}{f:Nat->Nat->Nat}{C:bA}
def E9 (C:bA)(s:Sn):Bool:=decide (s.2<(if s.1 then C.B.length else C.W.length))
theorem z7c{s:Sn}:E9 C s=true ↔ okN C s:=decide_eq_true_iff
theorem MH(m k:Nat):cD m (iD k)=decide (k<m):=by
 show(decide ((0:Int)<=(k:Int))&&decide ((k:Int)<(m:Int)))=_
 simp
theorem z4t(s:Sn):yx [aC s,.gy ["begin","way"] [(iD C.B.length),(iD C.W.length)]]=(b9 (E9 C s)):=by
 obtain⟨b,k⟩:=s
 have l2:cJ (.int 2) (.int 2)=some (.bl false):=(V5 _ _).trans (by simp)
 have n1:=fun m=>Bc m (iD k)
 have g1:=Ao (iD C.B.length) (iD C.W.length)
 have g2:=xK (iD C.B.length) (iD C.W.length)
 have s0:∀ x:Str,cO (.tup [.str x,(iD k)]) 0=some (.str x):=fun _=>rfl
 have s1:∀ x:Str,cO (.tup [.str x,(iD k)]) 1=some (iD k):=fun _=>rfl
 have ll:∀ x:Str,eK (.tup [.str x,(iD k)])=some 2:=fun _=>rfl
 unfold yx LX
 cases b with
 | true=>
  show bH _ _ [.tup [.str "begin",(iD k)],_]=(b9 (decide (k<C.B.length)))
  simp[-Int.ofNat_eq_natCast,ib,ll,l2,s0,s1,g1,n1,MH]
 | false=>
  show bH _ _ [.tup [.str "way",(iD k)],_]=(b9 (decide (k<C.W.length)))
  simp[-Int.ofNat_eq_natCast,ib,ll,l2,s0,s1,g2,n1,MH]
theorem y92(s:Sn):rL [dU n C,aC s]=(b9 (E9 C s)):=by
 have h:=z4t (C:=C) s
 unfold rL LY
 have e1:qU 0 2 [(c9 n C),some (aC s,9)]=some (Int.ofNat C.B.length):=by
  show some (Int.ofNat (C.B.map bu).length)=_
  rw[Qm]
 have mf:qU 0 1 [(c9 n C),some (aC s,9)]=some (Int.ofNat C.W.length):=by
  show some (Int.ofNat (C.W.map (bq n)).length)=_
  rw[Qm]
 have ed:xf "begin" "way" (qU 0 2) (qU 0 1) [(c9 n C),some (aC s,9)]=some (.gy ["begin","way"] [(iD C.B.length),(iD C.W.length)],9,[(c9 n C),some (aC s,9)]):=by
  unfold xf
  rw[e1,mf]
 exact fM (iW (du (cZ (f:=aa 1) (d:=aC s) (q:=9) (ρ:=[(c9 n C),some (aC s,9)]) (ρ1:=[(c9 n C),some (aC s,9)]) rfl (cP ed)) rfl h))
theorem z16{s:Sn}(hs:okN C s):rL [dU n C,aC s]=(b9 true):=by rw[y92,z7c.mpr hs]
theorem y07{l:List Sn}(hl:∀ s∈l,okN C s)(hlen:l.length<=1000):yy [dU n C,.lst (l.map aC)]=some (.au,9):=by
 have hit:fK (aa 1) [(c9 n C),some (.lst (l.map aC),0)]=some (l.map aC,[(c9 n C),some (.lst (l.map aC),0)]):=by simp[hlen]
 have e:=z5z (i:=2) (te:=aK rL 2 (ae (aa 0) (ae (aa 2) ah))) (ρ:=[(c9 n C),some (.lst (l.map aC),0)]) rfl hit (fun _=>true) (fun _=>9) (fun d hd=>by
  obtain⟨s,hs,rfl⟩:=Qy.mp hd
  simp[z16 (n:=n) (hl s hs)])
 have ea:(l.map aC).all (fun _=>true)=true:=by simp
 rw[ea]at e
 unfold yy LZ
 show(match cS _ _ _ [(c9 n C),some (.lst (l.map aC),0)]with|some (.rt d q)=>some (d,q)|some (.nx _)=>some (D.au,9)|_=>none)=_
 have ei:cS (gC (f_ (eB qR (ae (fC 1 (fK (aa 1)) (bg 2) d5 (aK rL 2 (ae (aa 0) (ae (aa 2) ah))) false) ah)))) xa dR [(c9 n C),some (.lst (l.map aC),0)]=some (.nx [(c9 n C),some (.lst (l.map aC),0)]):=by
  refine(mq ?_).trans rfl
  unfold gC f_
  rw[e]
  rfl
 rw[ei]
theorem MI:(qf C).length=C.B.length+C.W.length:=by simp[qf]
theorem MJ(hB:C.B.length<=60)(hW:C.W.length<=60):uc [dU n C]=some (.lst ((qf C).map aC),1):=by
 unfold uc Lv
 refine fM ?_
 show aB _ _ [(c9 n C),none]=_
 have c1:cO (dU n C) 1=some (.tup (C.W.map (bq n))):=rfl
 have c2:cO (dU n C) 2=some (.tup (C.B.map bu)):=rfl
 have lB:eK (.tup (C.B.map bu))=some C.B.length:=by simp[eK]
 have lW:eK (.tup (C.W.map (bq n)))=some C.W.length:=by simp[eK]
 have h1:=ls (k:=1) (tt:=d5) (te:=da (ae (eC (.str "begin")) (ae (aa 2) ah))) (deep:=false) (E6 (m:=C.B.length) (by omega) (fe:=eB mV (ae (bU 0 (eC (.int 2))) ah)) (ρ:=[(c9 n C),none]) (ρ':=[(c9 n C),none]) (q:=9) (by simp[-Int.ofNat_eq_natCast,c2,lB])) (vi (i:=2) rfl (fun _=>true) (fun k=>aC (true,k)) (fun _=>9) (fun k hk=>rfl) (fun k hk _=>by simp[-Int.ofNat_eq_natCast,aC]))
 rw[show(List.range C.B.length).filter (fun _=>true)=List.range C.B.length by simp]at h1
 refine(aR (ρ1:=[(c9 n C),some (.lst ((List.range C.B.length).map fun k=>aC (true,k)),1)]) (eZ h1 rfl)).trans ?_
 have h2:=ls (k:=1) (tt:=d5) (te:=da (ae (eC (.str "way")) (ae (aa 2) ah))) (deep:=false) (E6 (m:=C.W.length) (by omega) (fe:=eB mV (ae (bU 0 (eC (.int 1))) ah)) (ρ:=[(c9 n C),some (.lst ((List.range C.B.length).map fun k=>aC (true,k)),0)]) (ρ':=[(c9 n C),some (.lst ((List.range C.B.length).map fun k=>aC (true,k)),0)]) (q:=9) (by simp[-Int.ofNat_eq_natCast,c1,lW])) (vi (i:=2) rfl (fun _=>true) (fun k=>aC (false,k)) (fun _=>9) (fun k hk=>rfl) (fun k hk _=>by simp[-Int.ofNat_eq_natCast,aC]))
 rw[show(List.range C.W.length).filter (fun _=>true)=List.range C.W.length by simp]at h2
 have ea:(qf C).map aC=((List.range C.B.length).map fun k=>aC (true,k))++((List.range C.W.length).map fun k=>aC (false,k)):=by
  unfold qf
  rw[Zo,Zn,Zn]
  rfl
 rw[ea]
 refine iW (ρ1:=[(c9 n C),some (.lst ((List.range C.B.length).map fun k=>aC (true,k)),0)]) ?_
 have v1:aa 1 [(c9 n C),some (.lst ((List.range C.B.length).map fun k=>aC (true,k)),1)]=some (.lst ((List.range C.B.length).map fun k=>aC (true,k)),0,[(c9 n C),some (.lst ((List.range C.B.length).map fun k=>aC (true,k)),0)]):=rfl
 unfold zV
 rw[v1]
 have hl:((List.range C.B.length).map fun k=>aC (true,k)).length+((List.range C.W.length).map fun k=>aC (false,k)).length<=1000:=by
  rw[Qm,Qm,QP,QP];omega
 generalize ((List.range C.B.length).map fun k=>aC (true,k))=x at *
 generalize ((List.range C.W.length).map fun k=>aC (false,k))=y at *
 rw[Qg (by decide)]at h2
 simp only[h2,Qe hl]
end
section
variable {n:Nat}{f:Nat->Nat->Nat}(L:aW n f){z:Nat}(hz:z<n)(bz:∀ j,j<n->f z j=j){C:bA}(hC:C.Ok n f)
def df (p z:Nat):List Nat:=List.replicate p z
theorem Bf(hz:z<n):Vn n p (df p z):=⟨by simp[df],fun x hx=>by rw[(List.mem_replicate.mp hx).2];exact hz⟩
theorem z9o(hi:i<p):gv (df p z) i=z:=by unfold gv df;simp[hi]
theorem j0q(bz:∀ j,j<n->f z j=j)(hv:Vn n p v):fN f p (df p z) v:=fun i hi=>by rw[z9o hi];exact bz _ (hv.gv hi)
include L hz bz hC
theorem ML:t_ [aZ n f,dU n C]=(v9 (df C.p z)):=by
 have hn:n<=1000:=Qv L.hi (by decide)
 have rR:=hC.p8
 have c0:cO (dU n C) 0=some (iD C.p):=rfl
 have hl:=Mv L hz bz hn
 unfold t_ Le
 have e:(List.replicate C.p [(iD z)]).flatten=ao (df C.p z):=by
  simp[ao,df,Jw]
 have b1:(-1000:Int)<=Int.ofNat C.p:=by show(-1000:Int)<=(C.p:Int);omega
 have b2:Int.ofNat C.p<=1000:=by show(C.p:Int)<=1000;omega
 have b3:(Int.ofNat C.p).toNat=C.p:=rfl
 have b4:C.p<=1000:=by omega
 simp[-Int.ofNat_eq_natCast,-List.flatten_replicate_singleton,hl,c0,b1,b2,b3,b4,e]
theorem y8c{l:List Sn}(hl:∀ s∈l,okN C s)(hlen:l.length<=1000) :
  ∃ (u:List Nat) (R:List Sn),kJ n f C.p (l.map (bD C)) (df C.p z) u/\(∀ s∈R,s∈l)/\(R.map (bD C)).foldl (bC f) (df C.p z)=u/\aW.mu n f u+R.length<=aW.mu n f (df C.p z)/\yz [aZ n f,dU n C,.lst (l.map aC)]=some (.tup [.tup (ao u),(iD R.length)],9):=by
 obtain⟨u,R,h1,h2,h3,h4,e⟩:=z6d L hC (Bf (p:=C.p) hz) hl hlen
 refine⟨u,R,h1,h2,h3,h4,?_⟩
 have r0:=y07 (n:=n) hl hlen
 have r1:=ML L hz bz hC
 have a0:cO (.tup [.tup (ao u),.lst (R.map aC)]) 0=some (.tup (ao u)):=rfl
 have a1:cO (.tup [.tup (ao u),.lst (R.map aC)]) 1=some (.lst (R.map aC)):=rfl
 have a2:eK (.lst (R.map aC))=some R.length:=by simp[eK]
 unfold yz L7
 simp[-Int.ofNat_eq_natCast,r0,r1,e,a0,a1,a2]
theorem y8b:∃ u,kJ n f C.p (ja C) (df C.p z) u/\rM [aZ n f,dU n C]=(v9 u):=by
 have hB:=hC.E5
 have hW:=hC.E4
 obtain⟨u,R,h1,h2,h3,h4,e⟩:=y8c L hz bz hC (E7 C) (by rw[MI];omega)
 rw[ME]at h1
 refine⟨u,h1,?_⟩
 have r0:=MJ (n:=n) hB hW
 have a0:cO (.tup [.tup (ao u),(iD R.length)]) 0=some (.tup (ao u)):=rfl
 unfold rM L9
 simp[-Int.ofNat_eq_natCast,r0,e,a0]
end
theorem E_{g h:cf}(e:g ρ=some (false,ρ1)):jl g h ρ=h ρ1:=by unfold jl;rw[e];rfl
theorem yD{g:cf}{b:Bool}(e:g ρ=some (b,ρ1)):gC g ρ=some (!b,ρ1):=by unfold gC;rw[e]
theorem yE{f:aF}{b:Bool}(h:f ρ=some (.bl b,q,ρ1)):f_ f ρ=some (b,ρ1):=by unfold f_;rw[h];cases b<;>rfl
theorem MM(h:ρ[i]? = some (some (d,q)))(hl:eK d=some n):bX i ρ=some ((iD n),9,ρ):=by unfold bX;rw[h];simp only[hl]
theorem vz(h:ρ[i]? = some (some (d,q)))(hd:d.bM=false):aa i ρ=some (d,9,ρ):=by unfold aa;rw[h];simp[hd]
theorem uw(ns:List Int){c:Int}(hc:0<=c)(hn:0<n):∃ v,v<n/\cQ [cC ns,.int c,(iD n)]=(i9 v):=by
 have m8:(0:Int)<Int.ofNat n:=by show(0:Int)<(n:Int);omega
 have h1:=oZ ns c m8
 have h2:=rQ ns c m8
 have h3:Int.ofNat n=(n:Int):=rfl
 obtain⟨v,hv⟩:=Jn h1
 refine⟨v,by rw[hv,h3]at h2;omega,?_⟩
 rw[rP ns c _ hc m8,hv]
 rfl
theorem vA(i:Int):PyData.eqv (bP (.int i)) (bP (.int i))=true:=by show(i==i)=true;simp
theorem vB(h:∀ d∈ds,PyData.eqv (bP d) (bP d)=true):PyData.eqv (bP (.tup ds)) (bP (.tup ds))=true:=by
 have go:∀ ds:List D,(∀ d∈ds,PyData.eqv (bP d) (bP d)=true)->PyData.eqvAll (dG ds) (dG ds)=true:=by
  intro ds
  induction ds with
  | nil=>intro _;rfl
  | cons d ds ih=>
   intro h
   show(PyData.eqv (bP d) (bP d)&&PyData.eqvAll (dG ds) (dG ds))=true
   rw[h d Qd,ih fun x m=>h x (Qb _ m)]
   rfl
 exact go ds h
theorem z6b(n:Nat)(r:Nat->Nat):PyData.eqv (bP (dy n r)) (bP (dy n r))=true:=vB fun d hd=>by
 obtain⟨x,_,rfl⟩:=Qy.mp hd
 exact vA _
theorem Bg{P:D->Prop}{b c:D}(h1:P a)(h2:P b)(h3:P c):∀ d ∈ [a,b,c],P d:=fun d hd=>by
 rcases Qi.mp hd with rfl|hd
 ·exact h1
 ·rcases Qi.mp hd with rfl|hd
  ·exact h2
  ·rcases Qi.mp hd with rfl|hd
   ·exact h3
   ·cases hd
theorem MN{P:D->Prop}{b:D}(h1:P a)(h2:P b):∀ d ∈ [a,b],P d:=fun d hd=>by
 rcases Qi.mp hd with rfl|hd
 ·exact h1
 ·rcases Qi.mp hd with rfl|hd
  ·exact h2
  ·cases hd
theorem MO(n:Nat)(C:bA):PyData.eqv (bP (dU n C)) (bP (dU n C))=true:=vB (Bg (vA _)
 (vB fun d hd=>by obtain⟨w,_,rfl⟩:=Qy.mp hd;exact vB (Bg (vA _) (vA _) (z6b _ _)))
 (vB fun d hd=>by obtain⟨b,_,rfl⟩:=Qy.mp hd;exact vB (MN (vA _) (vA _))))
theorem yF(n:Nat)(C:bA):Sh 4 (dU n C):=.tup (Bg (.int _)
 (.tup fun d hd=>by obtain⟨w,_,rfl⟩:=Qy.mp hd;exact .tup (Bg (.int _) (.int _) ⟨(KQ _ _).1,(KQ _ _).2⟩))
 (.tup fun d hd=>by obtain⟨b,_,rfl⟩:=Qy.mp hd;exact .tup (MN (.int _) (.int _))))
theorem z3o(n:Nat)(C:bA):de (dU n C) (dU n C)=some (.bl true):=by
 unfold de
 rw[Qe ⟨(yF n C).ok,(yF n C).ok⟩]
 show some (D.bl (PyData.eqv (bP (dU n C)) (bP (dU n C))))=_
 rw[MO]
theorem z3q(n:Nat)(C:bA):cJ (dU n C) (dU n C)=some (.bl false):=by
 unfold cJ
 rw[Qe ⟨(yF n C).ok,(yF n C).ok⟩]
 show some (D.bl (!PyData.eqv (bP (dU n C)) (bP (dU n C))))=_
 rw[MO]
 rfl
theorem z5k{pt:iR}(h1:pt d ρ=some ρ1)(h2:body ρ1=some (.bk ρ2)):gh pt body (d::ds) ρ=some (.nx ρ2):=by
 unfold gh
 rw[h1]
 simp only[h2]
theorem z65(MP:ns.length<=63)(hm:m+1<=1000)(once:∀ ns':List Int,um [cC ns']=(b9 true)):∃ x,gi (dj (ae (eC (iD (m+1))) ah)) (bg 1) yB [(n0 ns),none]=some (.nx [(n0 ns),x]):=by
 have hl:(ns.map D.int).length<=1000:=by rw[Qm];omega
 have hc:∀ (t:Nat),fC 1 (fK (aa 0)) (bg 2) d5 (e2 bB (aa 2) (e2 iy (eC (.int 7919)) (aa 1))) false [(n0 ns),(i9 t)]=some (cC (ns.map fun x=>x+7919*Int.ofNat t),1,[(n0 ns),(i9 t)]):=fun t=>by
  have h:=Mz (i:=2) (te:=e2 bB (aa 2) (e2 iy (eC (.int 7919)) (aa 1))) (ρ:=[(n0 ns),(i9 t)]) (ns.map D.int) rfl (fun d=>match d with|.int x=>.int (x+7919*Int.ofNat t)|d=>d) (fun _=>9) (fun d hd=>by
   obtain⟨x,_,rfl⟩:=Qy.mp hd
   simp[-Int.ofNat_eq_natCast])
  have gZ:ns.length<=1000:=by omega
  refine(ls (deep:=false) (by simp[gZ]) h).trans ?_
  simp[-Int.ofNat_eq_natCast,Z5]
 have step:∀ (t:Nat),yB [(n0 ns),(i9 t)]=some (if ns=[]then .bk [(n0 ns),(i9 t)]else .nx [(n0 ns),(i9 t)]):=fun t=>by
  have h1:=once (ns.map fun x=>x+7919*Int.ofNat t)
  unfold yB
  refine(aR (ρ1:=[(n0 ns),(i9 t)]) ?_).trans ?_
  ·have e:=du (F:=um) (n:=1) (cP (hc t)) rfl h1
   simp only[cS,gC,f_,e]
   rfl
  ·have e:=EY ns
   by_cases dI:ns=[]
   ·rw[Qe dI]
    rw[QF dI]at e
    simp[-Int.ofNat_eq_natCast,e]
   ·rw[Qg dI]
    rw[QJ dI]at e
    simp[-Int.ofNat_eq_natCast,e]
 have hr:dj (ae (eC (iD (m+1))) ah) [(n0 ns),none]=some (cV (m+1),[(n0 ns),none]):=by
  simp only[dj,cP (f:=eC (iD (m+1))) (q:=9) (ρ:=[(n0 ns),none]) rfl]
  rw[Qe ⟨by show(-1000:Int)<=((m+1:Nat):Int);omega,by show((m+1:Nat):Int)<=1000;omega⟩]
  rfl
 rw[mZ hr]
 by_cases dI:ns=[]
 ·refine⟨(i9 0),?_⟩
  have h:=step 0
  rw[Qe dI]at h
  have e:cV (m+1)=(iD 0)::(cV (m+1)).tail:=by
   unfold cV
   rw[ZV]
   rfl
  rw[e]
  exact z5k (ρ1:=[(n0 ns),(i9 0)]) (by simp) h
 ·obtain⟨ρ',e,x,rfl⟩:=p7 (pt:=bg 1) (body:=yB) (cV (m+1)) (fun _ ρ=>∃ x,ρ=[(n0 ns),x]) [(n0 ns),none] (fun i hi ρ ⟨x,hx⟩=>by
   subst hx
   have h:=step i
   rw[Qg dI]at h
   refine⟨[(n0 ns),(i9 i)],_,by rw[Ba];simp,.inl h,_,rfl⟩) ⟨none,rfl⟩
  exact⟨x,e⟩
def mt (n:Nat)(f:Nat->Nat->Nat)(z a b:Nat):Nat:=(((List.range n).filter fun x=>decide (f x a=a)).filter fun x=>decide (f x b=b)).foldl f z
section
variable {n:Nat}{f:Nat->Nat->Nat}
variable (L:aW n f){z:Nat}(hz:z<n)(bz:∀ j,j<n->f z j=j)
include L hz bz
theorem MQ:(List.range n).foldl f z<n:=L.fold_lt hz fun x m=>Qz.mp m
end
theorem MR{α:Type}{p q:α->Bool}:∀ {l:List α},(∀ a∈l,p a=true->q a=true)->(∃ a∈l,q a=true/\p a=false)->(l.filter p).length<(l.filter q).length
 | [],_,h=>by obtain⟨a,ha,_⟩:=h;cases ha
 | b::l,h1,h2=>by
  have le:(l.filter p).length<=(l.filter q).length:=by
   have mX:∀ a∈l,p a=true->q a=true:=fun a m=>h1 a (Qb _ m)
   clear h1 h2
   induction l with
   | nil=>exact Qf _
   | cons c l ih=>
    have ih':=ih fun a m=>mX a (Qb _ m)
    rw[Jc,Jc]
    cases hp:p c with
    | true=>rw[mX c Qd hp];simpa using ih'
    | false=>cases q c<;>simp<;>omega
  obtain⟨a,ha,hq,hp⟩:=h2
  rw[Jc,Jc]
  rcases Qi.mp ha with rfl|ha
  ·rw[hq,hp]
   simp
   omega
  ·have ih:=MR (fun a m=>h1 a (Qb _ m)) ⟨a,ha,hq,hp⟩
   cases hpb:p b with
   | true=>rw[h1 b Qd hpb];simpa using ih
   | false=>cases q b<;>simp<;>omega
def cb (n:Nat)(f:Nat->Nat->Nat)(w:Nat):Nat:=((List.range n).filter fun x=>decide (f x w=w)).length
def om (n:Nat)(f:Nat->Nat->Nat)(w:Nat):List Nat:=((List.range n).filter fun x=>decide (f x w=w)).filter fun x=>!decide (x=w)
theorem vC{w x:Nat}:x∈om n f w ↔ x<n/\f x w=w/\x≠w:=by
 unfold om
 rw[ZJ,ZJ,Qz]
 simp
 constructor
 ·rintro ⟨⟨a,b⟩,c⟩;exact⟨a,b,c⟩
 ·rintro ⟨a,b,c⟩;exact⟨⟨a,b⟩,c⟩
theorem j12{w:Nat}:(om n f w).length<=n:=by
 unfold om
 refine Qv (Zk _ _) (Qv (Zk _ _) ?_)
 rw[QP]
 exact Qf _
theorem z5g(hn:n<=1000){w:Nat}(hw:w<n):uk [aZ n f,(iD w)]=(uL (om n f w)):=by
 unfold uk Mb
 have hit:fK (aK jJ 2 (ae (aa 0) (ae (aa 1) ah))) [(t9 n f),(i9 w)]=some (ao ((List.range n).filter fun x=>decide (f x w=w)),[(t9 n f),(i9 w)]):=by
  have e:=du (F:=jJ) (n:=2) (g:=ae (aa 0) (ae (aa 1) ah)) (ρ:=[(t9 n f),(i9 w)]) (ds:=[aZ n f,(iD w)]) rfl rfl (As hn hw)
  unfold fK
  rw[e]
  exact Qe (by
   rw[fy]
   refine Qv (Zk _ _) ?_
   rw[QP];exact hn)
 exact fM (iW (ls (deep:=false) hit (Wa (i:=2) _ rfl (fun x=>!decide (x=w)) (fun x=>(iD x)) (fun _=>9) (fun x hx=>mv (il (fa:=aa 2) (fb:=aa 1) (q:=9) (q':=9) rfl rfl (AL x w))) (fun x hx _=>rfl))))
structure yG (n:Nat) (f:Nat->Nat->Nat) (H:Nat->Nat):Prop where
 up:∀ x w,x<n->w<n->f x w=w->x≠w->H x+1<=H w
 at':∀ w,w<n->0<H w->∃ x,x<n/\f x w=w/\x≠w/\H x+1=H w
theorem MS:∀ {l:List Nat} {a:Nat},a∈l->a<=l.foldr max 0
 | b::l,a,h=>by
  rcases Qi.mp h with rfl|h
  ·exact Nat.le_max_left _ _
  ·exact Qv (MS h) (Nat.le_max_right _ _)
theorem MT:∀ {l:List Nat},0<l.foldr max 0->l.foldr max 0∈l
 | [],h=>absurd h (QN _)
 | b::l,h=>by
  show max b (l.foldr max 0)∈b::l
  by_cases hb:l.foldr max 0<=b
  ·rw[Nat.max_eq_left hb];exact Qd
  ·rw[Nat.max_eq_right (by omega)]
   exact Qb _ (MT (by omega))
section
variable {n:Nat}{f:Nat->Nat->Nat}(L:aW n f)
include L
theorem MU{x w:Nat}(hx:x<n)(hw:w<n)(h:f x w=w)(ne:x≠w):cb n f x<cb n f w:=by
 refine MR (fun a ha hp=>?_) ⟨w,Qz.mpr hw,QF (L.idem w hw),QJ fun z=>ne (L.iX hx hw h z)⟩
 exact QF (L.le_trans (Qz.mp ha) hx hw (Ze hp) h)
theorem j2z{w:Nat}(hw:w<n):0<cb n f w:=JP.mpr (List.ne_nil_of_mem (ZJ.mpr ⟨Qz.mpr hw,QF (L.idem w hw)⟩))
theorem j8k(c:Nat):∃ H:Nat->Nat,∀ w,w<n->cb n f w<=c->(∀ x,x<n->f x w=w->x≠w->H x+1<=H w)/\(0<H w->∃ x,x<n/\f x w=w/\x≠w/\H x+1=H w):=by
 induction c with
 | zero=>exact⟨fun _=>0,fun w hw h=>absurd (j2z L hw) (by omega)⟩
 | succ c ih=>
  obtain⟨H,hH⟩:=ih
  refine⟨fun w=>if cb n f w<=c then H w else((om n f w).map fun x=>H x+1).foldr max 0,fun w hw hc=>?_⟩
  have old:∀ x,x<n->f x w=w->x≠w->(if cb n f x<=c then H x else((om n f x).map fun x=>H x+1).foldr max 0)=H x:=fun x hx h ne=>Qe (by have:=MU L hx hw h ne;omega)
  dsimp only
  by_cases nT:cb n f w<=c
  ·rw[Qe nT]
   obtain⟨h1,h2⟩:=hH w hw nT
   refine⟨fun x hx h ne=>by rw[old x hx h ne];exact h1 x hx h ne,fun p=>?_⟩
   obtain⟨x,hx,h,ne,e⟩:=h2 p
   exact⟨x,hx,h,ne,by rw[old x hx h ne];exact e⟩
  ·rw[Qg nT]
   refine⟨fun x hx h ne=>by rw[old x hx h ne];exact MS (Qy.mpr ⟨x,vC.mpr ⟨hx,h,ne⟩,rfl⟩),fun p=>?_⟩
   obtain⟨x,hx,e⟩:=Qy.mp (MT p)
   obtain⟨a,b,c'⟩:=vC.mp hx
   exact⟨x,a,b,c',by rw[old x a b c'];exact e⟩
theorem j74:∃ H,yG n f H:=by
 obtain⟨H,hH⟩:=j8k L n
 have cn:∀ w,cb n f w<=n:=fun w=>by
  have:=Zk (fun x=>decide (f x w=w)) (List.range n)
  rw[QP]at this
  exact this
 exact⟨H,fun x w hx hw h ne=>(hH w hw (cn w)).1 x hx h ne,fun w hw p=>(hH w hw (cn w)).2 p⟩
end
theorem j0k{l:List Int}{M:Int}(h1:∀ a∈l,a<=M)(h2:M∈l\/(l=[]/\M=0)):u7 0 l=M:=by
 cases l with
 | nil=>
  rcases h2 with h|h
  ·cases h
  ·rw[h.2];rfl
 | cons k ks=>
  obtain⟨a,b,c⟩:=DE ks k
  show pS k ks=M
  rcases h2 with h|h
  ·have le:=h1 _ c
   rcases Qi.mp h with z|z
   ·omega
   ·have:=b M z;omega
  ·cases h.1
section
variable {n:Nat}{f:Nat->Nat->Nat}(L:aW n f){z:Nat}(hz:z<n)(bz:∀ j,j<n->f z j=j)
include L hz bz
theorem z4o(hH:yG n f H):rN [aZ n f]=(i9 (H ((List.range n).foldl f z))):=by
 have hn:n<=1000:=Qv L.hi (by decide)
 have h16:=L.hi
 have mem:∀ k∈k9 n,∃ w:Nat,w<n/\k=Int.ofNat w:=fun k hk=>by
  obtain⟨w,hw,rfl⟩:=Qy.mp hk
  exact⟨w,Qz.mp hw,rfl⟩
 have hg:nR AX uk uj (aZ n f) (Int.ofNat (H ((List.range n).foldl f z))):=by
  refine⟨rfl,n,fun k=>Int.ofNat (cb n f k.toNat),fun k=>(om n f k.toNat).map Int.ofNat,fun k=>Int.ofNat (H k.toNat),Int.ofNat ((List.range n).foldl f z),jr,by omega,⟨IE n,by rw[Qm,QP];omega,fun k hk x hx=>?_⟩,fun k hk=>?_,fun k hk=>?_,⟨9,y8g L hz bz hn⟩,Qy.mpr ⟨_,Qz.mpr (MQ L hz bz),rfl⟩,rfl⟩
  ·obtain⟨w,hw,rfl⟩:=mem k hk
   obtain⟨y,hy,rfl⟩:=Qy.mp hx
   obtain⟨a,b,c⟩:=vC.mp hy
   refine⟨Qy.mpr ⟨y,Qz.mpr a,rfl⟩,?_⟩
   have:=MU L a hw b c
   show((cb n f y:Nat):Int)<((cb n f w:Nat):Int)
   omega
  ·obtain⟨w,hw,rfl⟩:=mem k hk
   have e:AX (jZ ([(iD w)]++[aZ n f]).length ([(iD w)]++[aZ n f]))=some ((iD (cb n f w)),9,[(i9 w),(t9 n f)]):=by
    have e1:=du (F:=jJ) (n:=2) (g:=ae (aa 1) (ae (aa 0) ah)) (ρ:=[(i9 w),(t9 n f)]) (ds:=[aZ n f,(iD w)]) rfl rfl (As hn hw)
    have e2:eB mV (ae (aK jJ 2 (ae (aa 1) (ae (aa 0) ah))) ah) [(i9 w),(t9 n f)]=some ((iD (cb n f w)),9,[(i9 w),(t9 n f)]):=AQ (cP e1) (by
     show some (D.int (Int.ofNat (ao ((List.range n).filter fun x=>decide (f x w=w))).length))=_
     rw[fy];rfl)
    exact e2
   unfold rf
   rw[e]
   rfl
  ·obtain⟨w,hw,rfl⟩:=mem k hk
   refine⟨⟨1,?_⟩,?_,?_⟩
   ·rw[z5g hn hw]
    show _=some (D.lst (((om n f w).map Int.ofNat).map D.int),1)
    rw[Zn]
    rfl
   ·rw[Qm]
    exact Qv j12 hn
   ·refine(j0k (fun a ha=>?_) ?_).symm
    ·obtain⟨x,hx,rfl⟩:=Qy.mp ha
     obtain⟨y,hy,rfl⟩:=Qy.mp hx
     obtain⟨a,b,c⟩:=vC.mp hy
     have:=hH.up y w a hw b c
     show((H y:Nat):Int)+1<=((H w:Nat):Int)
     omega
    ·by_cases h0:0<H w
     ·obtain⟨x,a,b,c,e⟩:=hH.at' w hw h0
      refine .inl (Qy.mpr ⟨Int.ofNat x,Qy.mpr ⟨x,vC.mpr ⟨a,b,c⟩,rfl⟩,?_⟩)
      show((H x:Nat):Int)+1=((H w:Nat):Int)
      omega
     ·refine .inr ⟨?_,by show((H w:Nat):Int)=0;omega⟩
      have:om n f w=[]:=List.eq_nil_iff_forall_not_mem.mpr fun x hx=>by
       obtain⟨a,b,c⟩:=vC.mp hx
       have:=hH.up x w a hw b c
       omega
      show(((om n f w).map Int.ofNat).map _)=[]
      rw[this]
      rfl
 unfold rN
 refine fM ?_
 unfold Md Aq
 show(match u_ AX uk uj [aZ n f]with|some (d,q)=>some (Out.rt d q)|none=>none)=_
 rw[Vi hg]
end
def hs (H:Nat->Nat)(v:List Nat):Nat:=(v.map H).sum
theorem MV(h:yG n f H):∀ (u v:List Nat),u.length=v.length->(∀ x∈u,x<n)->(∀ x∈v,x<n)->(∀ i,i<u.length->f (gv u i) (gv v i)=gv v i)->hs H u<=hs H v/\(u≠v->hs H u<hs H v)
 | [],[],_,_,_,_=>⟨Qf _,fun h=>absurd rfl h⟩
 | [],_::_,hl,_,_,_=>nomatch hl
 | _::_,[],hl,_,_,_=>nomatch hl
 | x::u,y::v,hl,h1,h2,h3=>by
  obtain⟨i1,i2⟩:=MV h u v (by simpa using hl) (fun z m=>h1 z (Qb _ m)) (fun z m=>h2 z (Qb _ m)) fun i hi=>h3 (i+1) (by simpa using hi)
  have e0:f x y=y:=h3 0 (by simp)
  have e1:hs H (x::u)=H x+hs H u:=by unfold hs;rw[QR,JE]
  have e2:hs H (y::v)=H y+hs H v:=by unfold hs;rw[QR,JE]
  rw[e1,e2]
  by_cases e:x=y
  ·subst e
   exact⟨by omega,fun h=>by have:=i2 (fun z=>h (by rw[z]));omega⟩
  ·have:=h.up x y (h1 x Qd) (h2 y Qd) e0 e
   exact⟨by omega,fun _=>by omega⟩
theorem MW:∀ {v:List Nat},(∀ x∈v,H x<=m)->hs H v<=v.length*m
 | [],_=>Q9 _
 | x::v,h=>by
  have i:=MW (v:=v) fun y hy=>h y (Qb _ hy)
  have:=h x Qd
  show hs H (x::v)<=(v.length+1)*m
  have e1:hs H (x::v)=H x+hs H v:=by unfold hs;rw[QR,JE]
  rw[e1,YS]
  omega
section
variable {n:Nat}{f:Nat->Nat->Nat}{C:bA}(L:aW n f)(hC:C.Ok n f)
include L hC
theorem MX(h:yG n f H):∀ {R:List Sn} {v:List Nat},Vn n C.p v->Rz f C v R->(∀ s∈R,okN C s)->R.length+hs H v<=hs H ((R.map (bD C)).foldl (bC f) v)
 | [],_,_,_,_=>by rw[YC,Nat.zero_add];exact Qf _
 | s::R,v,hv,r,ok=>by
  have o:=Bd L hC _ (Be (ok s Qd))
  have V:=L.iG o hv
  have i:=MX h V r.2 fun t ht=>ok t (Qb _ ht)
  have up:=L.iY o hv
  have:=(MV h v (bC f v (bD C s)) (hv.len.trans V.len.symm) hv.lt V.lt fun i hi=>up i (by rw[<- hv.len];exact hi)).2 fun e=>r.1 e.symm
  show R.length+1+hs H v<=hs H ((R.map (bD C)).foldl (bC f) (bC f v (bD C s)))
  omega
end
theorem iH{f nm:Str}{fs:List Str}{p:Option Addr}(h:ρ[i]? = some (some (.mp (.i nm fs p) ds,q)))(hv:vL fs ds f=some d):eL i f ρ=some (d,cH d,ρ):=by
 unfold eL
 rw[h]
 simp only[hv]
theorem o5{f nm:Str}{fs:List Str}{p:Option Addr}(he:fe ρ=some (d,q,ρ1))(h:ρ1[i]? = some (some (.mp (.i nm fs p) ds,1)))(nd:fs.Nodup)(qH:ds.length<999)(e:ρ1.set i (some (.mp (.i nm (nS fs f) p) (k_ fs ds f d),1))=ρ2):lg nm i f fe ρ=some (.nx ρ2):=by
 unfold lg
 rw[he]
 simp only[h]
 rw[Qe ⟨trivial,nd,qH⟩,e]
theorem o7{nm m:Str}{F:List D->OD}{fs:List Str}{p:Option Addr}{r:D}(h:ρ[i]? = some (some (.mp (.i nm fs p) ds,1)))(hc:fs.contains m=false)(hF:F [.mp (.i nm fs p) ds]=some (r,q))(hl:va q r=true):gH nm m F i ρ=some (r,q,ρ):=by
 unfold gH
 rw[h]
 simp only[hF]
 rw[Qe ⟨trivial,hc⟩,Qe hl]
theorem Bh{nm m:Str}{fs:List Str}{p:Option Addr}(h0:ρ[i]? = some (some (.mp (.i nm vg p0) pZ,1)))(hc:vg.contains m=false)(hg:g ρ=some (ds,ρ1))(h:ρ1[i]? = some (some (.mp (.i nm fs p) cq,1)))(hn:ds.length+1=n)
  (hF:∀ a,F (.mp (.i nm fs (some a)) cq) ds=some (.mp (.i nm cj (some a)) br)) (e:ρ1.set i (some (.mp (.i nm cj p) br,1))=ρ2):mY nm m F n i g ρ=some (.au,9,ρ2):=by
 unfold mY
 have hi:xS nm m (some (some (.mp (.i nm vg p0) pZ,1)))=true:=by
  show(decide (nm=nm) && !vg.contains m)=true
  rw[hc]
  simp
 rw[h0,Qe hi]
 simp only[hg,h]
 rw[Qe ⟨trivial,hn⟩,Ka hF]
 simp only[e]
theorem MY{nm:Str}(hg:g ρ=some (ds,ρ1))(hn:ds.length+1=n)(hF:∀ a,F (.mp (.i nm [] (some a)) []) ds=some (.mp (.i nm cj (some a)) br)):vc nm F n g ρ=some (.mp (.i nm cj none) br,1,ρ1):=by
 unfold vc
 rw[hg]
 simp only
 rw[Qe hn,Ka hF]
theorem Bi{k:MK}(h:body (pW n d ds)=some (.nx ρ))(e:ρ[0]? = some (some (.mp k br,1))):ml n body d ds=some (.mp k br):=by
 unfold ml
 rw[h]
 simp only[e]
theorem rS{f:aF}(h:f ρ=some (d,q,ρ1)):eI f ρ=some (.nx ρ1):=by unfold eI;rw[h]
theorem MZ(h:g ρ=some (ds,ρ1))(hl:ds.length<=1000):da g ρ=some (.tup ds,9,ρ1):=by unfold da;rw[h];exact Qe hl
abbrev rT:List Str:=["ladder","places","ways","begins","worths","many_raises"]
def rU (n:Nat)(f:Nat->Nat->Nat)(C:bA)(v:List Nat)(m:Nat):List D:=[aZ n f,(iD C.p),.tup (C.W.map (bq n)),.tup (C.B.map bu),.tup (ao v),(iD m)]
abbrev kpr (p:Option Addr)(n:Nat)(f:Nat->Nat->Nat)(C:bA)(v:List Nat)(m:Nat):D:=.mp (.i "Keeper" rT p) (rU n f C v m)
theorem Fb{C:bA}:vL rT (rU n f C v m) "ladder" = some (aZ n f):=rfl
theorem qh{C:bA}:vL rT (rU n f C v m) "places" = some (iD C.p):=rfl
theorem M0{C:bA}:vL rT (rU n f C v m) "ways" = some (.tup (C.W.map (bq n))):=rfl
theorem M1{C:bA}:vL rT (rU n f C v m) "begins" = some (.tup (C.B.map bu)):=rfl
theorem M3{C:bA}:vL rT (rU n f C v m) "worths" = some (.tup (ao v)):=rfl
theorem M4{C:bA}:vL rT (rU n f C v m) "many_raises" = some (iD m):=rfl
theorem Fc{p:Option Addr}{C:bA}:kG [kpr p n f C v m]=(c9 n C):=by
 unfold kG Lf
 refine fM (iW (ρ1:=[some (kpr p n f C v m,0)]) ?_)
 have h0:jZ 1 [kpr p n f C v m]=[some (kpr p n f C v m,0)]:=rfl
 rw[h0]
 exact MZ (cZ (iH rfl qh) (cZ (iH rfl M0) (cP (iH rfl M1)))) (show 3<=1000 by decide)
theorem Fd(n:Nat)(C:bA):va 9 (dU n C)=true:=AJ (yF n C).1
theorem Bj(v:List Nat):va 9 (.tup (ao v))=true:=AJ (tW v).1
theorem Bk{p:Option Addr}{C:bA}:kH [kpr p n f C v m]=(v9 v):=by
 unfold kH Lh
 exact fM (iW (ρ1:=[some (kpr p n f C v m,0)]) (iH rfl M3))
theorem M5{p:Option Addr}{C:bA}:qc [kpr p n f C v m]=(i9 m):=by
 unfold qc Li
 exact fM (iW (ρ1:=[some (kpr p n f C v m,0)]) (iH rfl M4))
section
variable {n:Nat}{f:Nat->Nat->Nat}(L:aW n f){z:Nat}(hz:z<n)(bz:∀ j,j<n->f z j=j)
include L hz bz
theorem j0s(a:Addr)(h1:1<=p)(h8:p<=8):vn (.mp (.i "Keeper" [] (some a)) []) [aZ n f,(iD p)]=some (kpr (some a) n f ⟨p,[],[]⟩ (df p z) 0):=by
 have hC:bA.Ok n f ⟨p,[],[]⟩:=⟨h1,h8,by show 0<=60;decide,by show 0<=60;decide,(fun _ z=>nomatch z),(fun _ z=>nomatch z)⟩
 have hl:=ML L hz bz hC
 unfold vn Lg
 refine Bi (ρ:=[some (.mp (.i "Keeper" rT (some a)) (rU n f ⟨p,[],[]⟩ (df p z) 0),1),(t9 n f),(i9 p)]) ?_ rfl
 show aB _ _ [some (.mp (.i "Keeper" [] (some a)) [],1),(t9 n f),(i9 p)]=_
 refine(aR (ρ1:=[some (.mp (.i "Keeper" ["ladder"] (some a)) [aZ n f],1),(t9 n f),(i9 p)]) (o5 (d:=aZ n f) (q:=9) (ρ1:=[some (.mp (.i "Keeper" [] (some a)) [],1),(t9 n f),(i9 p)]) rfl rfl (by decide) (by show 0<999;decide) rfl)).trans ?_
 refine(aR (ρ1:=[some (.mp (.i "Keeper" (["ladder","places"]) (some a)) [aZ n f,(iD p)],1),(t9 n f),(i9 p)]) (o5 (d:=(iD p)) (q:=9) (ρ1:=[some (.mp (.i "Keeper" ["ladder"] (some a)) [aZ n f],1),(t9 n f),(i9 p)]) rfl rfl (by decide) (by show 1<999;decide) rfl)).trans ?_
 refine(aR (ρ1:=[some (.mp (.i "Keeper" (["ladder","places","ways"]) (some a)) [aZ n f,(iD p),.tup []],1),(t9 n f),(i9 p)]) (o5 (d:=.tup []) (q:=9) (ρ1:=[some (.mp (.i "Keeper" (["ladder","places"]) (some a)) [aZ n f,(iD p)],1),(t9 n f),(i9 p)]) rfl rfl (by decide) (by show 2<999;decide) rfl)).trans ?_
 refine(aR (ρ1:=[some (.mp (.i "Keeper" (["ladder","places","ways","begins"]) (some a)) [aZ n f,(iD p),.tup [],.tup []],1),(t9 n f),(i9 p)]) (o5 (d:=.tup []) (q:=9) (ρ1:=[some (.mp (.i "Keeper" (["ladder","places","ways"]) (some a)) [aZ n f,(iD p),.tup []],1),(t9 n f),(i9 p)]) rfl rfl (by decide) (by show 3<999;decide) rfl)).trans ?_
 have hc:kG [.mp (.i "Keeper" ["ladder","places","ways","begins"] (some a)) [aZ n f,(iD p),.tup [],.tup []]]=some (dU n ⟨p,[],[]⟩,9):=rfl
 refine(aR (ρ1:=[some (.mp (.i "Keeper" (["ladder","places","ways","begins","worths"]) (some a)) [aZ n f,(iD p),.tup [],.tup [],.tup (ao (df p z))],1),(t9 n f),(i9 p)]) (o5 (d:=.tup (ao (df p z))) (q:=9) (ρ1:=[some (.mp (.i "Keeper" (["ladder","places","ways","begins"]) (some a)) [aZ n f,(iD p),.tup [],.tup []],1),(t9 n f),(i9 p)]) (du (cZ (f:=aa 1) (q:=9) rfl (cP (o7 rfl rfl hc rfl))) rfl hl) rfl (by decide) (by show 4<999;decide) rfl)).trans ?_
 exact o5 (d:=.int 0) (q:=9) (ρ1:=[some (.mp (.i "Keeper" (["ladder","places","ways","begins","worths"]) (some a)) [aZ n f,(iD p),.tup [],.tup [],.tup (ao (df p z))],1),(t9 n f),(i9 p)]) rfl rfl (by decide) (by show 5<999;decide) rfl
def Fe (f:Nat->Nat->Nat)(C:bA)(v u:List Nat)(r:Nat):Prop:=∃ R:List Sn,R.length=r/\Rz f C v R/\(∀ s∈R,okN C s)/\(R.map (bD C)).foldl (bC f) v=u
omit hz bz in
theorem j1b{C:bA}(hC:C.Ok n f)(hv:Vn n C.p v)(m:Nat):∃ u r,kJ n f C.p (ja C) v u/\(u=v->r=0)/\(u≠v->0<r)/\Fe f C v u r/\∀ a,rE (kpr (some a) n f C v m) []=some (kpr (some a) n f C u (m+r)):=by
 have hB:=hC.E5
 have hW:=hC.E4
 obtain⟨u,R,h1,h2,h3,⟨h4,h5⟩,e⟩:=MF L hC hv (E7 C) (by rw[MI];omega)
 rw[ME]at h1
 refine⟨u,R.length,h1,fun z=>by rw[z]at h4;omega,fun z=>?_,⟨R,rfl,h5,fun s hs=>E7 C s (h2 s hs),h3⟩,fun a=>?_⟩
 ·cases R with
  | nil=>exact absurd h3.symm z
  | cons x R=>exact Nat.succ_pos _
 have r0:=MJ (n:=n) hB hW
 have a0:cO (.tup [.tup (ao u),.lst (R.map aC)]) 0=some (.tup (ao u)):=rfl
 have a1:cO (.tup [.tup (ao u),.lst (R.map aC)]) 1=some (.lst (R.map aC)):=rfl
 have a2:eK (.lst (R.map aC))=some R.length:=by simp[eK]
 unfold rE Ly
 refine Bi (ρ:=[some (kpr (some a) n f C u (m+R.length),1),(c9 n C),some (.tup [.tup (ao u),.lst (R.map aC)],9)]) ?_ rfl
 show aB _ _ [some (kpr (some a) n f C v m,1),none,none]=_
 refine(aR (ρ1:=[some (kpr (some a) n f C v m,1),(c9 n C),none]) (eZ (o7 (ρ:=[some (kpr (some a) n f C v m,1),none,none]) rfl rfl Fc (Fd n C)) rfl)).trans ?_
 refine(aR (ρ1:=[some (kpr (some a) n f C v m,1),(c9 n C),some (.tup [.tup (ao u),.lst (R.map aC)],9)]) (eZ (du (ρ:=[some (kpr (some a) n f C v m,1),(c9 n C),none]) (cZ (iH rfl Fb) (cZ (f:=aa 1) (q:=9) rfl (cZ (du (cP (f:=aa 1) (q:=9) rfl) rfl r0) (cP (iH rfl M3))))) rfl e) rfl)).trans ?_
 refine(aR (ρ1:=[some (kpr (some a) n f C u m,1),(c9 n C),some (.tup [.tup (ao u),.lst (R.map aC)],9)]) (o5 (ρ1:=[some (kpr (some a) n f C v m,1),(c9 n C),some (.tup [.tup (ao u),.lst (R.map aC)],9)]) (d:=.tup (ao u)) (q:=9) rfl rfl (by decide) (by show 6<999;decide) rfl)).trans ?_
 refine o5 (ρ1:=[some (kpr (some a) n f C u m,1),(c9 n C),some (.tup [.tup (ao u),.lst (R.map aC)],9)]) (d:=(iD (m+R.length))) (q:=9) (il (iH rfl M4) (AQ (d:=(iD R.length)) (cP (f:=bU 2 (eC (.int 1))) (d:=.lst (R.map aC)) (q:=0) rfl) ?_) rfl) rfl (by decide) (by show 6<999;decide) rfl
 simp only[mV,a2]
 rfl
structure Kept (n:Nat) (f:Nat->Nat->Nat) (z:Nat) (C:bA) (v:List Nat):Prop where
 ok:C.Ok n f
 low:kJ n f C.p (ja C) (df C.p z) v
theorem Kept.more{C C':bA}(k:Kept n f z C v)(hC:C'.Ok n f)(hp:C'.p=C.p)(hs:∀ s∈ja C,s∈ja C')(m:Nat):∃ u r,Kept n f z C' u/\fN f C.p v u/\(u=v->r=0)/\(u≠v->0<r)/\Fe f C' v u r/\(rA f (ja C') v->u=v)/\∀ a,rE (kpr (some a) n f C' v m) []=some (kpr (some a) n f C' u (m+r)):=by
 have hv:Vn n C'.p v:=by rw[hp];exact k.low.V
 obtain⟨u,r,h1,h2,eR,h3,h4⟩:=j1b L hC hv m
 have ur:=Bf (n:=n) (p:=C'.p) hz
 refine⟨u,r,⟨hC,h1.V,h1.cl,j0q bz h1.V,fun b hb cb lb=>h1.le b hb cb ?_⟩,by rw[<- hp];exact h1.up,h2,eR,h3,fun cv=>L.gK h1.V hv (h1.le v hv cv (L.fg hv)) h1.up,h4⟩
 have:=k.low.le b (by rw[<- hp];exact hb) (fun s sQ=>cb s (hs s sQ)) (by rw[<- hp];exact lb)
 rw[hp]
 exact this
end
theorem j1n{k:Nat}(hk:k<h):cD h (iD k)=true:=by
 show(decide ((0:Int)<=(k:Int))&&decide ((k:Int)<(h:Int)))=true
 rw[QF (by omega),QF (by omega)];rfl
theorem M6(h:body (jZ n ds)=some (.nx ρ)):bH n body ds=some (.au,9):=by unfold bH;rw[h]
theorem Bl{k:Nat}(hk:k<h):lz [(iD h),(iD k)]=some (.au,9):=by
 have e:=Bc h (iD k)
 rw[j1n hk]at e
 unfold lz Ln
 exact M6 ((mq (yD (yE (du (ds:=[(iD k),(iD h)]) rfl rfl e)))).trans rfl)
theorem y08(hn:n<=1000)(hr:∀ i,i<n->r i<n)(hm:∀ x y,x<n->y<n->f x y=y->f (r x) (r y)=r y):yu [aZ n f,dy n r]=some (.au,9):=by
 have e:=MC (f:=f) hn (dy n r)
 rw[MB hr,Bb.mpr fun y x hy hx h=>hm x y hx hy h]at e
 unfold yu LH
 exact M6 ((mq (yD (yE (du (ds:=[aZ n f,dy n r]) rfl rfl e)))).trans rfl)
structure qk (n:Nat) (f:Nat->Nat->Nat) (z:Nat) (C:bA) (v:List Nat) (C':bA) (u:List Nat) (r:Nat):Prop where
 kept:Kept n f z C' u
 up:fN f C.p v u
 r0:u=v->r=0
 r1:u≠v->0<r
 rz:Fe f C' v u r
 st:rA f (ja C') v->u=v
def bA.lC (C:bA)(b:Nat×Nat):bA:=⟨C.p,C.W,C.B++[b]⟩
def bA.way (C:bA)(w:Nat×Nat×(Nat->Nat)):bA:=⟨C.p,C.W++[w],C.B⟩
theorem j1s{C:bA}:s∈ja (C.lC b) ↔ s∈ja C\/s=uv b:=by
 unfold ja bA.lC
 simp only[Zo,QR,JQ,Q0,QC]
 constructor
 ·rintro ((h|h)|h)
  ·exact .inl (.inl h)
  ·exact .inr h
  ·exact .inl (.inr h)
 ·rintro ((h|h)|h)
  ·exact .inl (.inl h)
  ·exact .inr h
  ·exact .inl (.inr h)
theorem j2a{C:bA}{w:Nat×Nat×(Nat->Nat)}:s∈ja (C.way w) ↔ s∈ja C\/s=yC w:=by
 unfold ja bA.way
 simp only[Zo,QR,JQ,Q0,QC,or_assoc]
section
variable {n:Nat}{f:Nat->Nat->Nat}(L:aW n f){z:Nat}(hz:z<n)(bz:∀ j,j<n->f z j=j)
theorem M7{xs ys:List D}(ha:fa ρ=some (.tup xs,q,ρ1))(hb:fb ρ1=some (.tup ys,q',ρ2))(hl:xs.length+ys.length<=1000):qS fa fb ρ=some (.tup (xs++ys),9,ρ2):=by
 unfold qS
 rw[ha]
 simp only[hb]
 rw[Qe hl]
include L hz bz
theorem z5m{C:bA}(k:Kept n f z C v)(hb:E3 n C.p b)(hl:C.B.length<60)(m:Nat):∃ u r,qk n f z C v (C.lC b) u r/\∀ a,rF (kpr (some a) n f C v m) [(iD b.1),(iD b.2)]=some (kpr (some a) n f (C.lC b) u (m+r)):=by
 have hC:=k.ok
 have xi:(C.lC b).Ok n f:=⟨hC.p1,hC.p8,hC.E4,by show(C.B++[b]).length<=60;simp;omega,hC.ws,fun x hx=>by
  rcases Q0.mp hx with h|h
  ·exact hC.bs x h
  ·rw[QC.mp h];exact hb⟩
 obtain⟨u,r,h1,h2,h3,wx,h4,h5,h6⟩:=k.more L hz bz xi rfl (fun s hs=>j1s.mpr (.inl hs)) m
 refine⟨u,r,⟨h1,h2,h3,wx,h4,h5⟩,fun a=>?_⟩
 unfold rF Lz
 refine Bi (ρ:=[some (kpr (some a) n f (C.lC b) u (m+r),1),(i9 b.1),(i9 b.2)]) ?_ rfl
 show aB _ _ [some (kpr (some a) n f C v m,1),(i9 b.1),(i9 b.2)]=_
 refine(aR (ρ1:=[some (kpr (some a) n f C v m,1),(i9 b.1),(i9 b.2)]) (rS (du (cZ (iH rfl qh) (cP (f:=aa 1) (q:=9) rfl)) rfl (Bl hb.1)))).trans ?_
 have hm:C.B.map bu++[bu b]=(C.lC b).B.map bu:=by show _=(C.B++[b]).map bu;simp
 have gZ:(C.B.map bu).length + [bu b].length<=1000:=by simp;omega
 have e1:=M7 (fa:=eL 0 "begins") (fb:=da (ae (da (ae (aa 1) (ae (aa 2) ah))) ah)) (ρ:=[some (kpr (some a) n f C v m,1),(i9 b.1),(i9 b.2)]) (ρ2:=[some (kpr (some a) n f C v m,1),(i9 b.1),(i9 b.2)]) (q':=9) (ys:=[bu b]) (iH rfl M1) rfl gZ
 rw[hm]at e1
 refine(aR (ρ1:=[some (kpr (some a) n f (C.lC b) v m,1),(i9 b.1),(i9 b.2)]) (o5 e1 rfl (by decide) (by show 6<999;decide) rfl)).trans ?_
 exact rS (Bh (ρ:=[some (kpr (some a) n f (C.lC b) v m,1),(i9 b.1),(i9 b.2)]) (ρ1:=[some (kpr (some a) n f (C.lC b) v m,1),(i9 b.1),(i9 b.2)]) (ds:=[]) rfl rfl rfl rfl rfl h6 rfl)
theorem j4m{C:bA}(k:Kept n f z C v){w:Nat×Nat×(Nat->Nat)}(hw:E2 n f C.p w)(hl:C.W.length<60)(m:Nat):∃ u r,qk n f z C v (C.way w) u r/\∀ a,rH (kpr (some a) n f C v m) [(iD w.1),(iD w.2.1),dy n w.2.2]=some (kpr (some a) n f (C.way w) u (m+r)):=by
 have hn:n<=1000:=Qv L.hi (by decide)
 have hC:=k.ok
 have xi:(C.way w).Ok n f:=⟨hC.p1,hC.p8,by show(C.W++[w]).length<=60;simp;omega,hC.E5,fun x hx=>by
  rcases Q0.mp hx with h|h
  ·exact hC.ws x h
  ·rw[QC.mp h];exact hw,hC.bs⟩
 obtain⟨u,r,h1,h2,h3,wx,h4,h5,h6⟩:=k.more L hz bz xi rfl (fun s hs=>j2a.mpr (.inl hs)) m
 refine⟨u,r,⟨h1,h2,h3,wx,h4,h5⟩,fun a=>?_⟩
 unfold rH LL
 refine Bi (ρ:=[some (kpr (some a) n f (C.way w) u (m+r),1),(i9 w.1),(i9 w.2.1),(r9 n w.2.2)]) ?_ rfl
 show aB _ _ [some (kpr (some a) n f C v m,1),(i9 w.1),(i9 w.2.1),(r9 n w.2.2)]=_
 refine(aR (ρ1:=[some (kpr (some a) n f C v m,1),(i9 w.1),(i9 w.2.1),(r9 n w.2.2)]) (rS (du (cZ (iH rfl qh) (cP (f:=aa 1) (q:=9) rfl)) rfl (Bl hw.1)))).trans ?_
 refine(aR (ρ1:=[some (kpr (some a) n f C v m,1),(i9 w.1),(i9 w.2.1),(r9 n w.2.2)]) (rS (du (cZ (iH rfl qh) (cP (f:=aa 2) (q:=9) rfl)) rfl (Bl hw.2.1)))).trans ?_
 refine(aR (ρ1:=[some (kpr (some a) n f C v m,1),(i9 w.1),(i9 w.2.1),(r9 n w.2.2)]) (rS (du (cZ (iH rfl Fb) (cP (f:=aa 3) (q:=9) rfl)) rfl (y08 hn hw.2.2.1 hw.2.2.2)))).trans ?_
 have hm:C.W.map (bq n)++[bq n w]=(C.way w).W.map (bq n):=by show _=(C.W++[w]).map (bq n);simp
 have gZ:(C.W.map (bq n)).length + [bq n w].length<=1000:=by simp;omega
 have e1:=M7 (fa:=eL 0 "ways") (fb:=da (ae (da (ae (aa 1) (ae (aa 2) (ae (aa 3) ah)))) ah)) (ρ:=[some (kpr (some a) n f C v m,1),(i9 w.1),(i9 w.2.1),(r9 n w.2.2)]) (ρ2:=[some (kpr (some a) n f C v m,1),(i9 w.1),(i9 w.2.1),(r9 n w.2.2)]) (q':=9) (ys:=[bq n w]) (iH rfl M0) rfl gZ
 rw[hm]at e1
 refine(aR (ρ1:=[some (kpr (some a) n f (C.way w) v m,1),(i9 w.1),(i9 w.2.1),(r9 n w.2.2)]) (o5 e1 rfl (by decide) (by show 6<999;decide) rfl)).trans ?_
 exact rS (Bh (ρ:=[some (kpr (some a) n f (C.way w) v m,1),(i9 w.1),(i9 w.2.1),(r9 n w.2.2)]) (ρ1:=[some (kpr (some a) n f (C.way w) v m,1),(i9 w.1),(i9 w.2.1),(r9 n w.2.2)]) (ds:=[]) rfl rfl rfl rfl rfl h6 rfl)
end
theorem M8:vt [.exc "NoPlace"]=some (.str "no place",9):=by rfl
theorem j1l:vt [.exc "NoRule"]=some (.str "no rule",9):=by rfl
theorem Ff(p:Nat)(i:Int):oX [(iD p),.int i]=if cD p (.int i)=true then none else some ("NoPlace":Str):=by
 have e:=Bc p (.int i)
 have t:=yD (yE (du (F:=mz) (n:=2) (g:=ae (aa 1) (ae (aa 0) ah)) (ρ:=[(i9 p),some (.int i,9)]) (ds:=[.int i,(iD p)]) rfl rfl e))
 unfold oX fnX Lp
 show q9 _ _ _ [(i9 p),some (.int i,9)]=_
 unfold q9
 rw[t]
 cases cD p (.int i)<;>rfl
theorem y6r(hn:n<=1000)(hr:∀ i,i<n->r i<n):vw [aZ n f,dy n r]=if jK n f r=true then none else some ("NoRule":Str):=by
 have e:=MC (f:=f) hn (dy n r)
 rw[MB hr]at e
 have t:=yD (yE (du (F:=rG) (n:=2) (g:=ae (aa 0) (ae (aa 1) ah)) (ρ:=[(t9 n f),(r9 n r)]) (ds:=[aZ n f,dy n r]) rfl rfl e))
 unfold vw fnX LK
 show q9 _ _ _ [(t9 n f),(r9 n r)]=_
 unfold q9
 rw[t]
 cases jK n f r<;>rfl
section
variable {n:Nat}{f:Nat->Nat->Nat}{C:bA}{v:List Nat}{m:Nat}{p:Option Addr}
theorem M9(i:Int)(d:D)(hd:d.bM=false):mB [kpr p n f C v m,.int i,d]=if cD C.p (.int i)=true then none else some ("NoPlace":Str):=by
 rw[<- Ff]
 unfold mB fnX LB
 show k7 _ _ _ [some (kpr p n f C v m,0),some (.int i,9),some (d,cH d)]=_
 unfold k7
 rw[cZ (iH rfl qh) (cP (f:=aa 1) (q:=9) rfl)]
 rfl
theorem j6q(hn:n<=1000)(i j:Int)(hr:∀ i,i<n->r i<n):oi [kpr p n f C v m,.int i,.int j,dy n r]=if cD C.p (.int i)=true/\cD C.p (.int j)=true then(if jK n f r=true then none else some ("NoRule":Str))else some ("NoPlace":Str):=by
 unfold oi fnX LN
 show u5 _ _ [some (kpr p n f C v m,0),some (.int i,9),some (.int j,9),(r9 n r)]=_
 have c1:k7 oX 2 (ae (eL 0 "places") (ae (aa 1) ah)) [some (kpr p n f C v m,0),some (.int i,9),some (.int j,9),(r9 n r)]=if cD C.p (.int i)=true then none else some ("NoPlace":Str):=by
  rw[<- Ff]
  unfold k7
  rw[cZ (iH rfl qh) (cP (f:=aa 1) (q:=9) rfl)]
  rfl
 have c2:k7 oX 2 (ae (eL 0 "places") (ae (aa 2) ah)) [some (kpr p n f C v m,0),some (.int i,9),some (.int j,9),(r9 n r)]=if cD C.p (.int j)=true then none else some ("NoPlace":Str):=by
  rw[<- Ff]
  unfold k7
  rw[cZ (iH rfl qh) (cP (f:=aa 2) (q:=9) rfl)]
  rfl
 have c3:k7 vw 2 (ae (eL 0 "ladder") (ae (aa 3) ah)) [some (kpr p n f C v m,0),some (.int i,9),some (.int j,9),(r9 n r)]=if jK n f r=true then none else some ("NoRule":Str):=by
  rw[<- y6r hn hr]
  unfold k7
  rw[cZ (iH rfl Fb) (cP (f:=aa 3) (q:=9) rfl)]
  rfl
 have num:∀ k:Int,cD C.p (.int k)=true->lz [(iD C.p),.int k]=some (.au,9):=fun k hk=>by
  have jo:(0:Int)<=k:=by
   have:=(QB.mp (show(decide (0<=k)&&decide (k<(C.p:Int)))=true from hk)).1
   exact Ze this
  have hk2:k<(C.p:Int):=by
   have:=(QB.mp (show(decide (0<=k)&&decide (k<(C.p:Int)))=true from hk)).2
   exact Ze this
  obtain⟨a,rfl⟩:=Jn jo
  exact Bl (by omega)
 unfold u5
 rw[c1]
 by_cases h1:cD C.p (.int i)=true
 ·rw[Qe h1]
  simp only
  have d1:eI (aK lz 2 (ae (eL 0 "places") (ae (aa 1) ah))) [some (kpr p n f C v m,0),some (.int i,9),some (.int j,9),(r9 n r)]=some (.nx [some (kpr p n f C v m,0),some (.int i,9),some (.int j,9),(r9 n r)]):=rS (du (cZ (iH rfl qh) (cP (f:=aa 1) (q:=9) rfl)) rfl (num i h1))
  unfold xn
  rw[d1]
  simp only
  rw[c2]
  by_cases h2:cD C.p (.int j)=true
  ·have d2:eI (aK lz 2 (ae (eL 0 "places") (ae (aa 2) ah))) [some (kpr p n f C v m,0),some (.int i,9),some (.int j,9),(r9 n r)]=some (.nx [some (kpr p n f C v m,0),some (.int i,9),some (.int j,9),(r9 n r)]):=rS (du (cZ (iH rfl qh) (cP (f:=aa 2) (q:=9) rfl)) rfl (num j h2))
   rw[Qe h2,Qe ⟨h1,h2⟩]
   simp only
   rw[d2]
   exact c3
  ·rw[Qg h2,Qg (fun z=>h2 z.2)]
 ·rw[Qg h1,Qg (fun z=>h1 z.1)]
end
section
variable {n:Nat}{f:Nat->Nat->Nat}{C:bA}{v:List Nat}{m:Nat}
theorem Fh{w i j:Int}(hd:d.bM=false){r:D}(hx:x∈(["NoPlace","NoRule"]:List Str))(hw:vt [.exc x]=some (r,9))(a:Addr)
  (hX:(if w=0 then mB [kpr (some a) n f C v m,.int i,d]else oi [kpr (some a) n f C v m,.int i,.int j,d])=some x) :
  kI (kpr (some a) n f C v m) [.int w,.int i,.int j,d]=some (kpr (some a) n f C v m,r):=by
 have Fi:some (d,cH d)=some (d,9):=by unfold cH;rw[hd];rfl
 have ev:aa 4 [some ((kpr (some a) n f C v m),1),some (.int w,9),some (.int i,9),some (.int j,9),some (d,9),(some (.au,9)),(some (.au,9)),none]=some (d,9,[some ((kpr (some a) n f C v m),1),some (.int w,9),some (.int i,9),some (.int j,9),some (d,9),(some (.au,9)),(some (.au,9)),none]):=vz rfl hd
 have hy:tF (bj (e2 de (aa 1) (eC (.int 0)))) (lj "Keeper" "add_begin" mB 3 0 (ae (aa 2) (ae (aa 4) ah))) (lj "Keeper" "add_way" oi 4 0 (ae (aa 2) (ae (aa 3) (ae (aa 4) ah)))) [some ((kpr (some a) n f C v m),1),some (.int w,9),some (.int i,9),some (.int j,9),some (d,9),(some (.au,9)),(some (.au,9)),none]=some (x,[some ((kpr (some a) n f C v m),1),some (.int w,9),some (.int i,9),some (.int j,9),some (d,9),(some (.au,9)),(some (.au,9)),none]):=by
  unfold tF
  rw[mv (il (fa:=aa 1) (fb:=eC (.int 0)) (q:=9) (q':=9) rfl rfl (AK w 0))]
  by_cases h:w=0
  ·rw[Qe h]at hX
   rw[QF h]
   show(if true=true then _ else _)=_
   rw[Qe rfl]
   unfold lj
   rw[cZ (f:=aa 2) (q:=9) rfl (cP ev)]
   show(mB [kpr (some a) n f C v m,.int i,d]).map _=_
   rw[hX]
   rfl
  ·rw[Qg h]at hX
   rw[QJ h]
   show(if false=true then _ else _)=_
   rw[Qg (by decide)]
   unfold lj
   rw[cZ (f:=aa 2) (q:=9) rfl (cZ (f:=aa 3) (q:=9) rfl (cP ev))]
   show(oi [kpr (some a) n f C v m,.int i,.int j,d]).map _=_
   rw[hX]
   rfl
 unfold kI tS
 have h1:uf (pW 8 (kpr (some a) n f C v m) [.int w,.int i,.int j,d])=some (.nx [some ((kpr (some a) n f C v m),1),some (.int w,9),some (.int i,9),some (.int j,9),some (d,9),(some (.exc x,9)),(some (.au,9)),none]):=by
  show uf [some (kpr (some a) n f C v m,1),some (.int w,9),some (.int i,9),some (.int j,9),some (d,cH d),none,none,none]=_
  rw[Fi]
  unfold uf
  refine(aR (ρ1:=[some ((kpr (some a) n f C v m),1),some (.int w,9),some (.int i,9),some (.int j,9),some (d,9),(some (.au,9)),none,none]) rfl).trans ?_
  refine(aR (ρ1:=[some ((kpr (some a) n f C v m),1),some (.int w,9),some (.int i,9),some (.int j,9),some (d,9),(some (.au,9)),(some (.au,9)),none]) rfl).trans ?_
  unfold xp
  rw[hy]
  exact Qe hx
 rw[h1]
 have h2:ug [none,some (.int w,9),some (.int i,9),some (.int j,9),some (d,9),some (.exc x,9),some (.au,9),none]=some (.rt r 9):=by
  unfold ug
  refine(aR (ρ1:=[none,some (.int w,9),some (.int i,9),some (.int j,9),some (d,9),some (.exc x,9),some (.au,9),none]) rfl).trans ?_
  exact iW (du (ds:=[.exc x]) rfl rfl hw)
 show(match ug [none,some (.int w,9),some (.int i,9),some (.int j,9),some (d,9),some (.exc x,9),some (.au,9),none]with|some (.rt r _)=>some (kpr (some a) n f C v m,r)|_=>none)=_
 rw[h2]
theorem M_{w i j:Int}(hd:d.bM=false){C':bA}{m':Nat}(a:Addr)
  (hX:(if w=0 then mB [kpr (some a) n f C v m,.int i,d]else oi [kpr (some a) n f C v m,.int i,.int j,d])=none)
  (hF:∀ a,(if w=0 then rF (kpr (some a) n f C v m) [.int i,d]else rH (kpr (some a) n f C v m) [.int i,.int j,d])=some (kpr (some a) n f C' v' m')) :
  kI (kpr (some a) n f C v m) [.int w,.int i,.int j,d]=some (kpr (some a) n f C' v' m',.au):=by
 have Fi:some (d,cH d)=some (d,9):=by unfold cH;rw[hd];rfl
 have ev:aa 4 [some ((kpr (some a) n f C v m),1),some (.int w,9),some (.int i,9),some (.int j,9),some (d,9),(some (.au,9)),(some (.au,9)),none]=some (d,9,[some ((kpr (some a) n f C v m),1),some (.int w,9),some (.int i,9),some (.int j,9),some (d,9),(some (.au,9)),(some (.au,9)),none]):=vz rfl hd
 have ht:=mv (il (fa:=aa 1) (fb:=eC (.int 0)) (q:=9) (q':=9) (ρ:=[some ((kpr (some a) n f C v m),1),some (.int w,9),some (.int i,9),some (.int j,9),some (d,9),(some (.au,9)),(some (.au,9)),none]) rfl rfl (AK w 0))
 have hy:tF (bj (e2 de (aa 1) (eC (.int 0)))) (lj "Keeper" "add_begin" mB 3 0 (ae (aa 2) (ae (aa 4) ah))) (lj "Keeper" "add_way" oi 4 0 (ae (aa 2) (ae (aa 3) (ae (aa 4) ah)))) [some ((kpr (some a) n f C v m),1),some (.int w,9),some (.int i,9),some (.int j,9),some (d,9),(some (.au,9)),(some (.au,9)),none]=none:=by
  unfold tF
  rw[ht]
  by_cases h:w=0
  ·rw[Qe h]at hX
   rw[QF h]
   show(if true=true then _ else _)=_
   rw[Qe rfl]
   unfold lj
   rw[cZ (f:=aa 2) (q:=9) rfl (cP ev)]
   show(mB [kpr (some a) n f C v m,.int i,d]).map _=_
   rw[hX]
   rfl
  ·rw[Qg h]at hX
   rw[QJ h]
   show(if false=true then _ else _)=_
   rw[Qg (by decide)]
   unfold lj
   rw[cZ (f:=aa 2) (q:=9) rfl (cZ (f:=aa 3) (q:=9) rfl (cP ev))]
   show(oi [kpr (some a) n f C v m,.int i,.int j,d]).map _=_
   rw[hX]
   rfl
 have hi:aY 6 (oJ (bj (e2 de (aa 1) (eC (.int 0)))) (mY "Keeper" "add_begin" rF 3 0 (ae (aa 2) (ae (aa 4) ah))) (mY "Keeper" "add_way" rH 4 0 (ae (aa 2) (ae (aa 3) (ae (aa 4) ah))))) [some ((kpr (some a) n f C v m),1),some (.int w,9),some (.int i,9),some (.int j,9),some (d,9),(some (.au,9)),(some (.au,9)),none]=some (.nx [some ((kpr (some a) n f C' v' m'),1),some (.int w,9),some (.int i,9),some (.int j,9),some (d,9),(some (.au,9)),(some (.au,9)),none]):=by
  refine eZ (d:=.au) (q:=9) (ρ1:=[some ((kpr (some a) n f C' v' m'),1),some (.int w,9),some (.int i,9),some (.int j,9),some (d,9),(some (.au,9)),(some (.au,9)),none]) ?_ rfl
  unfold oJ
  rw[ht]
  by_cases h:w=0
  ·simp only[Qe h]at hF
   rw[QF h]
   show(if true=true then _ else _)=_
   rw[Qe rfl]
   exact Bh (i:=0) rfl rfl (cZ (f:=aa 2) (q:=9) rfl (cP ev)) rfl rfl hF rfl
  ·simp only[Qg h]at hF
   rw[QJ h]
   show(if false=true then _ else _)=_
   rw[Qg (by decide)]
   exact Bh (i:=0) rfl rfl (cZ (f:=aa 2) (q:=9) rfl (cZ (f:=aa 3) (q:=9) rfl (cP ev))) rfl rfl hF rfl
 unfold kI tS
 have h1:uf (pW 8 (kpr (some a) n f C v m) [.int w,.int i,.int j,d])=some (.nx [some ((kpr (some a) n f C' v' m'),1),some (.int w,9),some (.int i,9),some (.int j,9),some (d,9),(some (.au,9)),(some (.au,9)),none]):=by
  show uf [some (kpr (some a) n f C v m,1),some (.int w,9),some (.int i,9),some (.int j,9),some (d,cH d),none,none,none]=_
  rw[Fi]
  unfold uf
  refine(aR (ρ1:=[some ((kpr (some a) n f C v m),1),some (.int w,9),some (.int i,9),some (.int j,9),some (d,9),(some (.au,9)),none,none]) rfl).trans ?_
  refine(aR (ρ1:=[some ((kpr (some a) n f C v m),1),some (.int w,9),some (.int i,9),some (.int j,9),some (d,9),(some (.au,9)),(some (.au,9)),none]) rfl).trans ?_
  unfold xp
  rw[hy]
  exact hi
 rw[h1]
 have h2:ug [none,some (.int w,9),some (.int i,9),some (.int j,9),some (d,9),some (.au,9),some (.au,9),none]=some (.rt .au 9):=by
  unfold ug
  exact(x6 rfl).trans rfl
 show(match ug [none,some (.int w,9),some (.int i,9),some (.int j,9),some (d,9),some (.au,9),some (.au,9),none]with|some (.rt r _)=>some (kpr (some a) n f C' v' m',r)|_=>none)=_
 rw[h2]
end
theorem Na{i j:Int}(c:(-(2 ^ 64)<i/\i<2 ^ 64)\/(-(2 ^ 64)<j/\j<2 ^ 64)):iy (.int i) (.int j)=some (.int (i*j)):=by
 unfold iy gI
 show(if _ then _ else _)=_
 rw[Qe c]
theorem Nb{a:Nat}(h:a<1000):-(2 ^ 64)<(a:Int)/\(a:Int)<2 ^ 64:=by
 constructor
 ·have:(-(2 ^ 64):Int)<0:=by decide
  omega
 ·have:(1000:Int)<2 ^ 64:=by decide
  omega
theorem z90{a b:Nat}(h:a<1000):iy (iD a) (iD b)=some (iD (a*b)):=by
 rw[Na (i:=Int.ofNat a) (.inl (Nb h))]
 show some (D.int ((a:Int)*(b:Int)))=some (D.int ((a*b:Nat):Int))
 rw[Int.natCast_mul]
theorem Fj(h:lay (.str x)=true):cJ (.str x) (.str x)=some (.bl false):=by
 have s:Sh 0 (.str x):=⟨h,Q9 _⟩
 unfold cJ
 rw[Qe ⟨s.ok,s.ok⟩]
 simp[nF,bP,PyData.eqv]
theorem Nc:cJ .au .au=some (.bl false):=by
 unfold cJ
 rw[Qe ⟨(Sh.au (k:=0)).ok,(Sh.au (k:=0)).ok⟩]
 rfl
section
variable {n:Nat}{f:Nat->Nat->Nat}(L:aW n f){z:Nat}(hz:z<n)(bz:∀ j,j<n->f z j=j)
include L hz bz
theorem y82(ns:List Int){t:Int}(h0:0<=t):∃ r:Nat->Nat,(∀ i,i<n->r i<n)/\rK [cC ns,.int t,aZ n f]=(r9 n r):=by
 have hn:n<=1000:=Qv L.hi (by decide)
 have m8:(0:Int)<Int.ofNat n:=by have:=L.lo;show(0:Int)<(n:Int);omega
 obtain⟨c,hc,ec⟩:=uw ns (c:=t+21) (by omega) (n:=5) (by decide)
 have ht:bj (e2 de (aK cQ 3 (ae (aa 0) (ae (e2 bB (aa 1) (eC (.int 21))) (ae (eC (.int 5)) ah)))) (eC (.int 0))) [(n0 ns),some (.int t,9),(t9 n f)]=some (decide (c=0),[(n0 ns),some (.int t,9),(t9 n f)]):=
  mv (il (du (ds:=[cC ns,.int (t+21),(iD 5)]) rfl rfl ec) (fb:=eC (.int 0)) (q':=9) rfl (ya c 0))
 by_cases h:c=0
 ·rw[QF h]at ht
  have pk:∀ j:Nat,i_ ns (t+Int.ofNat j) (Int.ofNat n)=Int.ofNat (i_ ns (t+Int.ofNat j) (Int.ofNat n)).toNat:=fun j=>by
   have:=oZ ns (t+Int.ofNat j) m8
   show _=(((i_ ns (t+Int.ofNat j) (Int.ofNat n)).toNat:Nat):Int)
   omega
  refine⟨fun j=>(i_ ns (t+Int.ofNat j) (Int.ofNat n)).toNat,fun j _=>?_,?_⟩
  ·have h1:=oZ ns (t+Int.ofNat j) m8
   have h2:=rQ ns (t+Int.ofNat j) m8
   have h3:i_ ns (t+Int.ofNat j) (Int.ofNat n)<(n:Int):=h2
   show(i_ ns (t+Int.ofNat j) (Int.ofNat n)).toNat<n
   omega
  unfold rK EW
  refine fM ?_
  show aB _ _ [(n0 ns),some (.int t,9),(t9 n f)]=_
  refine(x6 ((tU ht).trans ?_))
  have hc:=ls (k:=1) (tt:=d5) (te:=aK cQ 3 (ae (aa 0) (ae (e2 bB (aa 1) (aa 3)) (ae (bX 2) ah)))) (deep:=false) (mC hn (i:=2) (ρ:=[(n0 ns),some (.int t,9),(t9 n f)]) rfl jr) (vi (i:=3) rfl (fun _=>true) (fun j=>.int (Int.ofNat (i_ ns (t+Int.ofNat j) (Int.ofNat n)).toNat)) (fun _=>9) (fun j hj=>rfl) (fun j hj _=>by
   have e:=rP ns (t+Int.ofNat j) (Int.ofNat n) (by have:Int.ofNat j=(j:Int):=rfl;omega) m8
   rw[pk j]at e
   refine du (ds:=[cC ns,.int (t+Int.ofNat j),(iD n)]) (cZ (f:=aa 0) (q:=0) rfl (cZ (f:=e2 bB (aa 1) (aa 3)) (q:=9) rfl (cP (MM rfl jr)))) rfl e))
  rw[show(List.range n).filter (fun _=>true)=List.range n by simp]at hc
  refine iW (ρ1:=[(n0 ns),some (.int t,9),(t9 n f)]) ?_
  have:=Em (cP hc)
  rw[this]
  unfold dy
  rw[Eo]
 ·rw[QJ h]at ht
  obtain⟨d,hd,hR⟩:=y87 L hz bz ns t h0
  refine⟨aW.lr n f z d,fun i _=>L.ye hz bz hd i,?_⟩
  unfold rK EW
  refine fM ?_
  show aB _ _ [(n0 ns),some (.int t,9),(t9 n f)]=_
  refine(aR ((mq ht).trans rfl)).trans ?_
  exact iW (du (ds:=[cC ns,.int t,aZ n f]) rfl rfl hR)
end
abbrev cE (ns:List Int)(n:Nat)(f:Nat->Nat->Nat)(k2:D)(C:bA)(v:List Nat)(m:Nat)(W:List D)(B:List D)(m0:Nat)(v0:List Nat)(a b c d e g h i j k:OD):aS:=
 [(n0 ns),(t9 n f),(i9 C.p),some (kpr none n f C v m,1),some (k2,1),some (.lst W,1),some (.lst B,1),(i9 m0),(v9 v0),a,b,c,d,e,g,h,i,j,k]
theorem yH{nm Kl:Str}{F:D->List D->Option (D×D)}{fs:List Str}{p:Option Addr}{r:D}(h0:ρ[i]? = some (some (.mp (.i Kl vg p0) pZ,1)))(hg:g ρ=some (ds,ρ1))(h:ρ1[i]? = some (some (.mp (.i nm fs p) cq,1)))(hn:ds.length+1=n)
  (hF:∀ a,F (.mp (.i nm fs (some a)) cq) ds=some (.mp (.i nm cj (some a)) br,r)) (hs:(jx r).isSome=true) (e:ρ1.set i (some (.mp (.i nm cj p) br,1))=ρ2):rp F n i g ρ=some (r,9,ρ2):=by
 unfold rp
 rw[h0]
 simp only[hg,h]
 rw[Qe hn,VI hF]
 simp only[e]
 rw[Qe hs]
theorem Nd{eW:aS}{x y w d:D}{q2:Nat}(ha:fa ρ=some (x,q,ρ1))(hb:fb ρ1=some (y,q',ρ2))(h1:g1 x y=some (.bl true))(hc:fc ρ2=some (w,q2,eW))(h2:g2 y w=some d):ig g1 g2 fa fb fc ρ=some (d,9,eW):=by
 unfold ig
 rw[ha]
 simp only[hb]
 rw[h1]
 simp only[hc,h2]
theorem j73{x y:D}(ha:fa ρ=some (x,q,ρ1))(hb:fb ρ1=some (y,q',ρ2))(h1:g1 x y=some (.bl false)):ig g1 g2 fa fb fc ρ=some (.bl false,9,ρ2):=by
 unfold ig
 rw[ha]
 simp only[hb]
 rw[h1]
theorem Nf{a:Int}(h1:ρ[i]? = some (some (.int a,q)))(h2:ρ[j]? = some (some ((iD p),q'))):bj (ig iP iO (eC (.int 0)) (aa i) (aa j)) ρ=some (cD p (.int a),ρ):=by
 have e1:aa i ρ=some (.int a,9,ρ):=vz h1 rfl
 have e2:aa j ρ=some ((iD p),9,ρ):=vz h2 rfl
 have hN:cD p (.int a)=(decide (0<=a)&&decide (a<(p:Int))):=rfl
 rw[hN]
 by_cases h:0<=a
 ·rw[QF h,ZZ]
  exact mv (Nd (fa:=eC (.int 0)) (q:=9) (ρ1:=ρ) rfl e1 (show some (D.bl (decide (0<=a)))=_ by rw[QF h]) e2 rfl)
 ·rw[QJ h,Bool.false_and]
  exact mv (j73 (fa:=eC (.int 0)) (q:=9) (ρ1:=ρ) rfl e1 (show some (D.bl (decide (0<=a)))=_ by rw[QJ h]))
theorem Fl{a:Int}(h:cD p (.int a)=true):∃ k:Nat,k<p/\a=Int.ofNat k:=by
 obtain⟨h1,h2⟩:=QB.mp (show(decide (0<=a)&&decide (a<(p:Int)))=true from h)
 have h1:=Ze h1
 have h2:=Ze h2
 obtain⟨k,hk⟩:=Jn h1
 exact⟨k,by omega,hk⟩
structure kK (n:Nat) (f:Nat->Nat->Nat) (z:Nat) (H:Nat->Nat) (i:Nat) (C:bA) (v:List Nat) (C':bA) (v':List Nat) (r:Nat):Prop where
 kept:Kept n f z C' v'
 p:C'.p=C.p
 lW:C'.W.length<=i+1
 lB:C'.B.length<=i+1
 r0:v'=v->r=0
 r1:v'≠v->0<r
 hs:r+hs H v<=hs H v'
section
variable {n:Nat}{f:Nat->Nat->Nat}(L:aW n f){z:Nat}(hz:z<n)(bz:∀ j,j<n->f z j=j){H:Nat->Nat}(hH:yG n f H)
include L hz bz hH
theorem qk.turned{C:bA}{C':bA}{r:Nat}(k:Kept n f z C v)(c:qk n f z C v C' v' r)(p:C'.p=C.p)(lW:C'.W.length<=i+1)(lB:C'.B.length<=i+1):kK n f z H i C v C' v' r:=by
 refine⟨c.kept,p,lW,lB,c.r0,c.r1,?_⟩
 obtain⟨R,h1,h2,h3,h4⟩:=c.rz
 have:=MX L c.kept.ok hH (by rw[p];exact k.low.V) h2 h3
 rw[h4,h1]at this
 exact this
theorem j2x(ns:List Int){C:bA}(k:Kept n f z C v)(hi:i<9)(hW:C.W.length<=i)(hB:C.B.length<=i)(k2:D)(m0:Nat)(v0:List Nat)(b c d e g h x y w:OD)(s:aI) :
  ∃ (C':bA) (v':List Nat) (r:Nat) (dd:D) (st gl:Int) (b' g' x':OD),kK n f z H i C v C' v' r/\cJ dd dd=some (.bl false)/\dd.bM=false /\
   aB (aY 10 (e2 bB (eC (.int 30)) (e2 iy (eC (.int 30)) (aa 9))))
 (aB (aY 11 (e2 zy (aK cQ 3 (ae (aa 0) (ae (aa 10) (ae (e2 bB (aa 2) (eC (.int 2))) ah)))) (eC (.int 1))))
 (aB (aY 12 (aK cQ 3 (ae (aa 0) (ae (e2 bB (aa 10) (eC (.int 1))) (ae (e2 bB (aa 2) (eC (.int 1))) ah)))))
 (aB (aY 13 (eC (.str "no place")))
 (aB (cS (bj (e2 de (aK cQ 3 (ae (aa 0) (ae (e2 bB (aa 10) (eC (.int 2))) (ae (eC (.int 3)) ah)))) (eC (.int 0)))) (aB (aY 14 (aK cQ 3 (ae (aa 0) (ae (e2 bB (aa 10) (eC (.int 3))) (ae (bX 1) ah)))))
 (aB (cS (bj (ig iP iO (eC (.int 0)) (aa 11) (aa 2))) (aB (aY 13 (eC .au))
 (eI (jy 6 (ae (da (ae (aa 11) (ae (aa 14) ah))) ah)))) dR)
 (aY 15 (rp kI 5 3 (ae (eC (.int 0)) (ae (aa 11) (ae (aa 12) (ae (aa 14) ah)))))))) (aB (aY 16 (aK rK 3 (ae (aa 0) (ae (e2 bB (aa 10) (eC (.int 4))) (ae (aa 1) ah)))))
 (aB (cS (uR (bj (ig iP iO (eC (.int 0)) (aa 11) (aa 2))) (bj (e2 iO (aa 12) (aa 2)))) (aY 13 (oJ (f_ (aK oY 2 (ae (aa 1) (ae (aa 16) ah)))) (eC .au) (eC (.str "no rule")))) dR)
 (aB (cS (bj (e2 u4 (aa 13) (eC .au))) (eI (jy 5 (ae (da (ae (aa 11) (ae (aa 12) (ae (aa 16) ah)))) ah))) dR)
 (aY 15 (rp kI 5 3 (ae (eC (.int 1)) (ae (aa 11) (ae (aa 12) (ae (aa 16) ah))))))))))
 s)))) (cE ns n f k2 C v m (C.W.map (bq n)) (C.B.map bu) m0 v0 ((i9 i)) b c d e g h x y w) =
   s (cE ns n f k2 C' v' (m+r) (C'.W.map (bq n)) (C'.B.map bu) m0 v0 ((i9 i)) b' (some (.int st,9)) (some (.int gl,9)) (some (dd,9)) g' (some (dd,9)) x' y w):=by
 have hn:n<=1000:=Qv L.hi (by decide)
 have rR:=k.ok.p8
 obtain⟨tt,htt⟩:∃ tt:Int,tt=30+30*Int.ofNat i:=⟨_,rfl⟩
 have hii:Int.ofNat i=(i:Int):=rfl
 have ht0:0<=tt:=by omega
 have yI:e2 bB (eC (.int 30)) (e2 iy (eC (.int 30)) (aa 9)) (cE ns n f k2 C v m (C.W.map (bq n)) (C.B.map bu) m0 v0 ((i9 i)) b c d e g h x y w)=some (.int tt,9,cE ns n f k2 C v m (C.W.map (bq n)) (C.B.map bu) m0 v0 ((i9 i)) b c d e g h x y w):=
  il (fa:=eC (.int 30)) (q:=9) rfl (il (fa:=eC (.int 30)) (fb:=aa 9) (q:=9) (q':=9) rfl rfl (Na (i:=30) (.inl (Nb (a:=30) (by decide))))) (by rw[htt];rfl)
 obtain⟨s0,hs0,es0⟩:=uw ns (c:=tt) ht0 (n:=C.p+2) (by omega)
 obtain⟨g0,hg0,eg0⟩:=uw ns (c:=tt+1) (by omega) (n:=C.p+1) (by omega)
 obtain⟨c0,hc0,ec0⟩:=uw ns (c:=tt+2) (by omega) (n:=3) (by decide)
 obtain⟨w0,hw0,ew0⟩:=uw ns (c:=tt+3) (by omega) (n:=n) L.lo
 obtain⟨r,hr,er⟩:=y82 L hz bz ns (t:=tt+4) (by omega)
 obtain⟨st,ju⟩:∃ st:Int,st=Int.ofNat s0-1:=⟨_,rfl⟩
 have hd0:some (D.str "no place",9)=some (D.str "no place",9):=rfl
 have p1:aY 11 (e2 zy (aK cQ 3 (ae (aa 0) (ae (aa 10) (ae (e2 bB (aa 2) (eC (.int 2))) ah)))) (eC (.int 1))) (cE ns n f k2 C v m (C.W.map (bq n)) (C.B.map bu) m0 v0 ((i9 i)) (some (.int tt,9)) c d e g h x y w)=some (.nx (cE ns n f k2 C v m (C.W.map (bq n)) (C.B.map bu) m0 v0 ((i9 i)) (some (.int tt,9)) (some (.int st,9)) d e g h x y w)):=
  eZ (il (du (ds:=[cC ns,.int tt,(iD (C.p+2))]) rfl rfl es0) (fb:=eC (.int 1)) (q':=9) rfl (by rw[ju];rfl)) rfl
 have p2:aY 12 (aK cQ 3 (ae (aa 0) (ae (e2 bB (aa 10) (eC (.int 1))) (ae (e2 bB (aa 2) (eC (.int 1))) ah)))) (cE ns n f k2 C v m (C.W.map (bq n)) (C.B.map bu) m0 v0 ((i9 i)) (some (.int tt,9)) (some (.int st,9)) d e g h x y w)=some (.nx (cE ns n f k2 C v m (C.W.map (bq n)) (C.B.map bu) m0 v0 ((i9 i)) (some (.int tt,9)) (some (.int st,9)) ((i9 g0)) e g h x y w)):=
  eZ (du (ds:=[cC ns,.int (tt+1),(iD (C.p+1))]) rfl rfl eg0) rfl
 have p3:aY 13 (eC (.str "no place")) (cE ns n f k2 C v m (C.W.map (bq n)) (C.B.map bu) m0 v0 ((i9 i)) (some (.int tt,9)) (some (.int st,9)) ((i9 g0)) e g h x y w)=some (.nx (cE ns n f k2 C v m (C.W.map (bq n)) (C.B.map bu) m0 v0 ((i9 i)) (some (.int tt,9)) (some (.int st,9)) ((i9 g0)) (some (.str "no place",9)) g h x y w)):=rfl
 have tc:bj (e2 de (aK cQ 3 (ae (aa 0) (ae (e2 bB (aa 10) (eC (.int 2))) (ae (eC (.int 3)) ah)))) (eC (.int 0))) (cE ns n f k2 C v m (C.W.map (bq n)) (C.B.map bu) m0 v0 ((i9 i)) (some (.int tt,9)) (some (.int st,9)) ((i9 g0)) (some (.str "no place",9)) g h x y w)=some (decide (c0=0),cE ns n f k2 C v m (C.W.map (bq n)) (C.B.map bu) m0 v0 ((i9 i)) (some (.int tt,9)) (some (.int st,9)) ((i9 g0)) (some (.str "no place",9)) g h x y w):=
  mv (il (du (ds:=[cC ns,.int (tt+2),(iD 3)]) rfl rfl ec0) (fb:=eC (.int 0)) (q':=9) rfl (ya c0 0))
 have same:kK n f z H i C v C v 0:=⟨k,rfl,by omega,by omega,fun _=>rfl,fun z=>absurd rfl z,by omega⟩
 have l1:lay (.str ("no place":Str))=true:=by decide +kernel
 have l2:lay (.str ("no rule":Str))=true:=by decide +kernel
 by_cases hc:c0=0
 ·rw[QF hc]at tc
  have p4:aY 14 (aK cQ 3 (ae (aa 0) (ae (e2 bB (aa 10) (eC (.int 3))) (ae (bX 1) ah)))) (cE ns n f k2 C v m (C.W.map (bq n)) (C.B.map bu) m0 v0 ((i9 i)) (some (.int tt,9)) (some (.int st,9)) ((i9 g0)) (some (.str "no place",9)) g h x y w)=some (.nx (cE ns n f k2 C v m (C.W.map (bq n)) (C.B.map bu) m0 v0 ((i9 i)) (some (.int tt,9)) (some (.int st,9)) ((i9 g0)) (some (.str "no place",9)) ((i9 w0)) h x y w)):=
   eZ (du (ds:=[cC ns,.int (tt+3),(iD n)]) (cZ (f:=aa 0) (q:=0) rfl (cZ (f:=e2 bB (aa 10) (eC (.int 3))) (q:=9) rfl (cP (MM rfl jr)))) rfl ew0) rfl
  have ti:=Nf (ρ:=cE ns n f k2 C v m (C.W.map (bq n)) (C.B.map bu) m0 v0 ((i9 i)) (some (.int tt,9)) (some (.int st,9)) ((i9 g0)) (some (.str "no place",9)) ((i9 w0)) h x y w) (i:=11) (j:=2) (a:=st) (p:=C.p) (q:=9) (q':=9) rfl rfl
  by_cases hN:cD C.p (.int st)=true
  ·obtain⟨sn,Fm,yJ⟩:=Fl hN
   rw[hN]at ti
   have az:E3 n C.p (sn,w0):=⟨Fm,hw0⟩
   obtain⟨u,r',cm,hF⟩:=z5m L hz bz k az (by omega) m
   have wK:∀ a,rF (kpr (some a) n f C v m) [.int st,(iD w0)]=some (kpr (some a) n f (C.lC (sn,w0)) u (m+r')):=by rw[yJ];exact hF
   have hX:∀ a,mB [kpr (some a) n f C v m,.int st,(iD w0)]=none:=fun a=>by rw[M9 _ _ rfl,Qe hN]
   have ht:∀ a,kI (kpr (some a) n f C v m) [.int 0,.int st,(iD g0),(iD w0)]=some (kpr (some a) n f (C.lC (sn,w0)) u (m+r'),.au):=fun a=>M_ rfl a (by rw[Qe rfl];exact hX a) (fun a=>by rw[Qe rfl];exact wK a)
   have hB':(C.lC (sn,w0)).B.map bu=C.B.map bu++[bu (sn,w0)]:=by show(C.B++[(sn,w0)]).map bu=_;simp
   have m_:bu (sn,w0)=.tup [.int st,(iD w0)]:=by rw[yJ];rfl
   refine⟨C.lC (sn,w0),u,r',.au,st,Int.ofNat g0,some (.int tt,9),(i9 w0),x,cm.turned L hz bz hH k rfl (by show C.W.length<=i+1;omega) (by show(C.B++[(sn,w0)]).length<=i+1;simp;omega),Nc,rfl,?_⟩
   refine(aR (eZ yI rfl)).trans ?_
   refine(aR p1).trans ?_
   refine(aR p2).trans ?_
   refine(aR p3).trans ?_
   refine aR ((tU tc).trans ?_)
   refine(aR p4).trans ?_
   rw[hB',m_]
   refine(aR (ρ1:=cE ns n f k2 C v m (C.W.map (bq n)) (C.B.map bu++[.tup [.int st,(iD w0)]]) m0 v0 ((i9 i)) (some (.int tt,9)) (some (.int st,9)) ((i9 g0)) (some (.au,9)) ((i9 w0)) h x y w) ((tU ti).trans ?_)).trans ?_
   ·refine(aR (ρ1:=cE ns n f k2 C v m (C.W.map (bq n)) (C.B.map bu) m0 v0 ((i9 i)) (some (.int tt,9)) (some (.int st,9)) ((i9 g0)) (some (.au,9)) ((i9 w0)) h x y w) rfl).trans ?_
    exact AO (ds:=C.B.map bu) (d:=.tup [.int st,(iD w0)]) (ρ1:=cE ns n f k2 C v m (C.W.map (bq n)) (C.B.map bu) m0 v0 ((i9 i)) (some (.int tt,9)) (some (.int st,9)) ((i9 g0)) (some (.au,9)) ((i9 w0)) h x y w) rfl rfl rfl (by simp;omega) rfl
   ·exact eZ (yH (i:=3) (ds:=[.int 0,.int st,(iD g0),(iD w0)]) rfl rfl rfl rfl ht rfl rfl) rfl
  ·have Fn:cD C.p (.int st)=false:=by
    cases hh:cD C.p (.int st)with
    | false=>rfl
    | true=>exact absurd hh hN
   rw[Fn]at ti
   have hX:∀ a,mB [kpr (some a) n f C v m,.int st,(iD w0)]=some ("NoPlace":Str):=fun a=>by rw[M9 _ _ rfl,Qg hN]
   have ht:∀ a,kI (kpr (some a) n f C v m) [.int 0,.int st,(iD g0),(iD w0)]=some (kpr (some a) n f C v m,.str "no place"):=fun a=>Fh rfl (x:="NoPlace") Qd M8 a (by rw[Qe rfl];exact hX a)
   refine⟨C,v,0,.str "no place",st,Int.ofNat g0,some (.int tt,9),(i9 w0),x,same,Fj l1,rfl,?_⟩
   refine(aR (eZ yI rfl)).trans ?_
   refine(aR p1).trans ?_
   refine(aR p2).trans ?_
   refine(aR p3).trans ?_
   refine aR ((tU tc).trans ?_)
   refine(aR p4).trans ?_
   refine(aR ((mq ti).trans rfl)).trans ?_
   exact eZ (yH (i:=3) (ds:=[.int 0,.int st,(iD g0),(iD w0)]) rfl rfl rfl rfl ht rfl rfl) rfl
 ·rw[QJ hc]at tc
  have p4:aY 16 (aK rK 3 (ae (aa 0) (ae (e2 bB (aa 10) (eC (.int 4))) (ae (aa 1) ah)))) (cE ns n f k2 C v m (C.W.map (bq n)) (C.B.map bu) m0 v0 ((i9 i)) (some (.int tt,9)) (some (.int st,9)) ((i9 g0)) (some (.str "no place",9)) g h x y w)=some (.nx (cE ns n f k2 C v m (C.W.map (bq n)) (C.B.map bu) m0 v0 ((i9 i)) (some (.int tt,9)) (some (.int st,9)) ((i9 g0)) (some (.str "no place",9)) g h ((r9 n r)) y w)):=
   eZ (du (ds:=[cC ns,.int (tt+4),aZ n f]) rfl rfl er) rfl
  have ti:=Nf (ρ:=cE ns n f k2 C v m (C.W.map (bq n)) (C.B.map bu) m0 v0 ((i9 i)) (some (.int tt,9)) (some (.int st,9)) ((i9 g0)) (some (.str "no place",9)) g h ((r9 n r)) y w) (i:=11) (j:=2) (a:=st) (p:=C.p) (q:=9) (q':=9) rfl rfl
  have tl:bj (e2 iO (aa 12) (aa 2)) (cE ns n f k2 C v m (C.W.map (bq n)) (C.B.map bu) m0 v0 ((i9 i)) (some (.int tt,9)) (some (.int st,9)) ((i9 g0)) (some (.str "no place",9)) g h ((r9 n r)) y w)=some (cD C.p (iD g0),cE ns n f k2 C v m (C.W.map (bq n)) (C.B.map bu) m0 v0 ((i9 i)) (some (.int tt,9)) (some (.int st,9)) ((i9 g0)) (some (.str "no place",9)) g h ((r9 n r)) y w):=by
   have tZ:cD C.p (iD g0)=decide (Int.ofNat g0<Int.ofNat C.p):=by
    show(decide ((0:Int)<=(g0:Int))&&decide ((g0:Int)<(C.p:Int)))=decide ((g0:Int)<(C.p:Int))
    rw[QF (by omega),ZZ]
   rw[tZ]
   exact mv (il (fa:=aa 12) (fb:=aa 2) (q:=9) (q':=9) rfl rfl rfl)
  have ta:uR (bj (ig iP iO (eC (.int 0)) (aa 11) (aa 2))) (bj (e2 iO (aa 12) (aa 2))) (cE ns n f k2 C v m (C.W.map (bq n)) (C.B.map bu) m0 v0 ((i9 i)) (some (.int tt,9)) (some (.int st,9)) ((i9 g0)) (some (.str "no place",9)) g h ((r9 n r)) y w)=some (cD C.p (.int st)&&cD C.p (iD g0),cE ns n f k2 C v m (C.W.map (bq n)) (C.B.map bu) m0 v0 ((i9 i)) (some (.int tt,9)) (some (.int st,9)) ((i9 g0)) (some (.str "no place",9)) g h ((r9 n r)) y w):=by
   unfold uR
   rw[ti]
   cases cD C.p (.int st)with
   | true=>exact tl
   | false=>rfl
  have hX:=fun a=>j6q (p:=some a) (f:=f) (C:=C) (v:=v) (m:=m) hn st (Int.ofNat g0) hr
  have Fp:=Mw (f:=f) hn hr
  by_cases hN:cD C.p (.int st)=true/\cD C.p (iD g0)=true
  ·rw[hN.1,hN.2]at ta
   simp only[Qe hN]at hX
   have p5:aY 13 (oJ (f_ (aK oY 2 (ae (aa 1) (ae (aa 16) ah)))) (eC .au) (eC (.str "no rule"))) (cE ns n f k2 C v m (C.W.map (bq n)) (C.B.map bu) m0 v0 ((i9 i)) (some (.int tt,9)) (some (.int st,9)) ((i9 g0)) (some (.str "no place",9)) g h ((r9 n r)) y w)=some (.nx (cE ns n f k2 C v m (C.W.map (bq n)) (C.B.map bu) m0 v0 ((i9 i)) (some (.int tt,9)) (some (.int st,9)) ((i9 g0)) (some ((if jK n f r=true then .au else .str "no rule"),9)) g h ((r9 n r)) y w)):=by
    refine eZ (d:=if jK n f r=true then .au else .str "no rule") (q:=9) (ρ1:=cE ns n f k2 C v m (C.W.map (bq n)) (C.B.map bu) m0 v0 ((i9 i)) (some (.int tt,9)) (some (.int st,9)) ((i9 g0)) (some (.str "no place",9)) g h ((r9 n r)) y w) ?_ rfl
    have tv:=yE (du (F:=oY) (n:=2) (g:=ae (aa 1) (ae (aa 16) ah)) (ρ:=cE ns n f k2 C v m (C.W.map (bq n)) (C.B.map bu) m0 v0 ((i9 i)) (some (.int tt,9)) (some (.int st,9)) ((i9 g0)) (some (.str "no place",9)) g h ((r9 n r)) y w) (ds:=[aZ n f,dy n r]) rfl rfl Fp)
    unfold oJ
    rw[tv]
    cases jK n f r<;>rfl
   cases hb:jK n f r with
   | true=>
    rw[hb]at p5
    simp only[hb,Z9]at hX
    obtain⟨sn,Fm,yJ⟩:=Fl hN.1
    have pM:g0<C.p:=by
     obtain⟨q,hq,hqe⟩:=Fl hN.2
     have:(g0:Int)=(q:Int):=hqe
     omega
    have az:E2 n f C.p (sn,g0,r):=⟨Fm,pM,hr,fun x y hx hy e=>Bb.mp hb y x hy hx e⟩
    obtain⟨u,r',cm,hF⟩:=j4m L hz bz k az (by omega) m
    have wK:∀ a,rH (kpr (some a) n f C v m) [.int st,(iD g0),dy n r]=some (kpr (some a) n f (C.way (sn,g0,r)) u (m+r')):=by rw[yJ];exact hF
    have ht:∀ a,kI (kpr (some a) n f C v m) [.int 1,.int st,(iD g0),dy n r]=some (kpr (some a) n f (C.way (sn,g0,r)) u (m+r'),.au):=fun a=>M_ rfl a (by rw[Qg (by decide)];exact hX a) (fun a=>by rw[Qg (by decide)];exact wK a)
    have hW':(C.way (sn,g0,r)).W.map (bq n)=C.W.map (bq n)++[bq n (sn,g0,r)]:=by show(C.W++[(sn,g0,r)]).map (bq n)=_;simp
    have m_:bq n (sn,g0,r)=.tup [.int st,(iD g0),dy n r]:=by rw[yJ];rfl
    refine⟨C.way (sn,g0,r),u,r',.au,st,Int.ofNat g0,some (.int tt,9),g,(r9 n r),cm.turned L hz bz hH k rfl (by show(C.W++[(sn,g0,r)]).length<=i+1;simp;omega) (by show C.B.length<=i+1;omega),Nc,rfl,?_⟩
    refine(aR (eZ yI rfl)).trans ?_
    refine(aR p1).trans ?_
    refine(aR p2).trans ?_
    refine(aR p3).trans ?_
    refine aR ((mq tc).trans ?_)
    refine(aR p4).trans ?_
    refine(aR ((tU ta).trans p5)).trans ?_
    rw[hW',m_]
    refine(aR (ρ1:=cE ns n f k2 C v m (C.W.map (bq n)++[.tup [.int st,(iD g0),dy n r]]) (C.B.map bu) m0 v0 ((i9 i)) (some (.int tt,9)) (some (.int st,9)) ((i9 g0)) (some (.au,9)) g h ((r9 n r)) y w) ((tU rfl).trans ?_)).trans ?_
    ·exact AO (ds:=C.W.map (bq n)) (d:=.tup [.int st,(iD g0),dy n r]) (ρ1:=cE ns n f k2 C v m (C.W.map (bq n)) (C.B.map bu) m0 v0 ((i9 i)) (some (.int tt,9)) (some (.int st,9)) ((i9 g0)) (some (.au,9)) g h ((r9 n r)) y w) rfl rfl rfl (by simp;omega) rfl
    ·exact eZ (yH (i:=3) (ds:=[.int 1,.int st,(iD g0),dy n r]) rfl rfl rfl rfl ht rfl rfl) rfl
   | false=>
    rw[hb]at p5
    simp only[hb]at hX
    have ht:∀ a,kI (kpr (some a) n f C v m) [.int 1,.int st,(iD g0),dy n r]=some (kpr (some a) n f C v m,.str "no rule"):=fun a=>Fh rfl (x:="NoRule") (Qb _ Qd) j1l a (by rw[Qg (by decide)];exact hX a)
    refine⟨C,v,0,.str "no rule",st,Int.ofNat g0,some (.int tt,9),g,(r9 n r),same,Fj l2,rfl,?_⟩
    refine(aR (eZ yI rfl)).trans ?_
    refine(aR p1).trans ?_
    refine(aR p2).trans ?_
    refine(aR p3).trans ?_
    refine aR ((mq tc).trans ?_)
    refine(aR p4).trans ?_
    refine(aR ((tU ta).trans p5)).trans ?_
    refine(aR (ρ1:=cE ns n f k2 C v m (C.W.map (bq n)) (C.B.map bu) m0 v0 ((i9 i)) (some (.int tt,9)) (some (.int st,9)) ((i9 g0)) (some (.str "no rule",9)) g h ((r9 n r)) y w) ((mq rfl).trans rfl)).trans ?_
    exact eZ (yH (i:=3) (ds:=[.int 1,.int st,(iD g0),dy n r]) rfl rfl rfl rfl ht rfl rfl) rfl
  ·have Fn:(cD C.p (.int st)&&cD C.p (iD g0))=false:=by
    cases hh:(cD C.p (.int st)&&cD C.p (iD g0))with
    | false=>rfl
    | true=>exact absurd (QB.mp hh) hN
   rw[Fn]at ta
   simp only[Qg hN]at hX
   have ht:∀ a,kI (kpr (some a) n f C v m) [.int 1,.int st,(iD g0),dy n r]=some (kpr (some a) n f C v m,.str "no place"):=fun a=>Fh rfl (x:="NoPlace") Qd M8 a (by rw[Qg (by decide)];exact hX a)
   refine⟨C,v,0,.str "no place",st,Int.ofNat g0,some (.int tt,9),g,(r9 n r),same,Fj l1,rfl,?_⟩
   refine(aR (eZ yI rfl)).trans ?_
   refine(aR p1).trans ?_
   refine(aR p2).trans ?_
   refine(aR p3).trans ?_
   refine aR ((mq tc).trans ?_)
   refine(aR p4).trans ?_
   refine(aR ((mq ta).trans rfl)).trans ?_
   refine(aR ((mq rfl).trans rfl)).trans ?_
   exact eZ (yH (i:=3) (ds:=[.int 1,.int st,(iD g0),dy n r]) rfl rfl rfl rfl ht rfl rfl) rfl
theorem j4k(ns:List Int){C:bA}(k:Kept n f z C v)(hi:i<9)(hW:C.W.length<=i)(hB:C.B.length<=i)(hm:m<=hs H v)(k2:D)(b c d e g h x y w:OD) :
  ∃ (C':bA) (v':List Nat) (m':Nat) (b' c' d' e' g' h' x' y' w':OD),Kept n f z C' v'/\C'.p=C.p/\C'.W.length<=i+1/\C'.B.length<=i+1/\m'<=hs H v' /\
   AY (cE ns n f k2 C v m (C.W.map (bq n)) (C.B.map bu) m v ((i9 i)) b c d e g h x y w)=some (.nx (cE ns n f k2 C' v' m' (C'.W.map (bq n)) (C'.B.map bu) m' v' ((i9 i)) b' c' d' e' g' h' x' y' w')):=by
 have hn:n<=1000:=Qv L.hi (by decide)
 obtain⟨C',v',r,dd,st,gl,b',g',x',T,fI,Ng,e0⟩:=j2x L hz bz hH ns k (m:=m) hi hW hB k2 m v b c d e g h x y w (aB (aY 17 (da (ae (aa 2) (ae (rq 5) (ae (rq 6) ah)))))
 (aB (cS (jl (bj (e2 cJ (aa 15) (aa 13))) (jl (bj (e2 cJ (gH "Keeper" "chart" kG 3) (aa 17))) (bj (e2 cJ (gH "Keeper" "answer" kH 3) (aK rM 2 (ae (aa 1) (ae (aa 17) ah))))))) (bF (eC (.bl false))) dR)
 (aB (aY 18 (gH "Keeper" "raises" qc 3))
 (aB (cS (jl (gC (bj (ig iP iP (aa 7) (aa 18) (e2 iy (aa 2) (aK rN 1 (ae (aa 1) ah)))))) (bj (e2 cJ (e2 wF (aa 18) (aa 7)) (e2 cJ (gH "Keeper" "answer" kH 3) (aa 8))))) (bF (eC (.bl false))) dR)
 (aB (aY 7 (aa 18))
 (aY 8 (gH "Keeper" "answer" kH 3)))))))
 have jo:=T.kept
 have rR:=jo.ok.p8
 obtain⟨ul,u9,eul⟩:=y8b L hz bz jo.ok
 have hv:v'=ul:=L.gK jo.low.V u9.V (jo.low.le ul u9.V u9.cl u9.up) (u9.le v' jo.low.V jo.low.cl jo.low.up)
 subst hv
 have hht:=z4o L hz bz hH
 have tt:=MQ L hz bz
 have hb:m+r<=C'.p*H ((List.range n).foldl f z):=by
  have h2:hs H v'<=v'.length*H ((List.range n).foldl f z):=MW fun x hx=>by
   have jV:=jo.low.V.lt x hx
   by_cases e:x=(List.range n).foldl f z
   ·rw[e];exact Qf _
   ·have:=hH.up x _ jV tt ((L.nX hz _ tt).mpr rfl x jV) e
    omega
  rw[jo.low.V.len]at h2
  have:=T.hs
  omega
 refine⟨C',v',m+r,b',some (.int st,9),some (.int gl,9),some (dd,9),g',some (dd,9),x',(c9 n C'),(i9 (m+r)),jo,T.p,T.lW,T.lB,by have:=T.hs;omega,?_⟩
 unfold AY
 refine e0.trans ?_
 have a1:aY 17 (da (ae (aa 2) (ae (rq 5) (ae (rq 6) ah)))) (cE ns n f k2 C' v' (m+r) (C'.W.map (bq n)) (C'.B.map bu) m v ((i9 i)) b' (some (.int st,9)) (some (.int gl,9)) (some (dd,9)) g' (some (dd,9)) x' y w)=some (.nx (cE ns n f k2 C' v' (m+r) (C'.W.map (bq n)) (C'.B.map bu) m v ((i9 i)) b' (some (.int st,9)) (some (.int gl,9)) (some (dd,9)) g' (some (dd,9)) x' ((c9 n C')) w)):=rfl
 refine(aR a1).trans ?_
 generalize hR:(cE ns n f k2 C' v' (m+r) (C'.W.map (bq n)) (C'.B.map bu) m v ((i9 i)) b' (some (.int st,9)) (some (.int gl,9)) (some (dd,9)) g' (some (dd,9)) x' ((c9 n C')) w)=R
 have r3:R[3]? = some (some (kpr none n f C' v' (m+r),1)):=by rw[<- hR];rfl
 have r1:aa 1 R=some (aZ n f,9,R):=by rw[<- hR];rfl
 have Nh:aa 17 R=some (dU n C',9,R):=by rw[<- hR];rfl
 have r15:aa 15 R=some (dd,9,R):=by rw[<- hR];exact vz rfl Ng
 have C_:aa 13 R=some (dd,9,R):=by rw[<- hR];exact vz rfl Ng
 have c3:=o7 (m:="chart") (F:=kG) r3 rfl Fc (Fd n C')
 have a3:=o7 (m:="answer") (F:=kH) r3 rfl Bk (Bj v')
 have hT:=vj v' v'
 rw[QF rfl]at hT
 have t1:jl (bj (e2 cJ (aa 15) (aa 13))) (jl (bj (e2 cJ (gH "Keeper" "chart" kG 3) (aa 17))) (bj (e2 cJ (gH "Keeper" "answer" kH 3) (aK rM 2 (ae (aa 1) (ae (aa 17) ah)))))) R=some (false,R):=by
  rw[E_ (mv (il r15 C_ fI)),E_ (mv (il c3 Nh (z3q n C')))]
  exact mv (il a3 (du (F:=rM) (n:=2) (cZ r1 (cP Nh)) rfl eul) hT)
 refine(aR ((mq t1).trans rfl)).trans ?_
 rw[<- hR]
 have a2:aY 18 (gH "Keeper" "raises" qc 3) (cE ns n f k2 C' v' (m+r) (C'.W.map (bq n)) (C'.B.map bu) m v ((i9 i)) b' (some (.int st,9)) (some (.int gl,9)) (some (dd,9)) g' (some (dd,9)) x' ((c9 n C')) w)=some (.nx (cE ns n f k2 C' v' (m+r) (C'.W.map (bq n)) (C'.B.map bu) m v ((i9 i)) b' (some (.int st,9)) (some (.int gl,9)) (some (dd,9)) g' (some (dd,9)) x' ((c9 n C')) ((i9 (m+r))))):=eZ (o7 (m:="raises") rfl rfl M5 rfl) rfl
 refine(aR a2).trans ?_
 have t2:jl (gC (bj (ig iP iP (aa 7) (aa 18) (e2 iy (aa 2) (aK rN 1 (ae (aa 1) ah)))))) (bj (e2 cJ (e2 wF (aa 18) (aa 7)) (e2 cJ (gH "Keeper" "answer" kH 3) (aa 8)))) (cE ns n f k2 C' v' (m+r) (C'.W.map (bq n)) (C'.B.map bu) m v ((i9 i)) b' (some (.int st,9)) (some (.int gl,9)) (some (dd,9)) g' (some (dd,9)) x' ((c9 n C')) ((i9 (m+r))))=some (false,cE ns n f k2 C' v' (m+r) (C'.W.map (bq n)) (C'.B.map bu) m v ((i9 i)) b' (some (.int st,9)) (some (.int gl,9)) (some (dd,9)) g' (some (dd,9)) x' ((c9 n C')) ((i9 (m+r)))):=by
  generalize oS:(cE ns n f k2 C' v' (m+r) (C'.W.map (bq n)) (C'.B.map bu) m v ((i9 i)) b' (some (.int st,9)) (some (.int gl,9)) (some (dd,9)) g' (some (dd,9)) x' ((c9 n C')) ((i9 (m+r))))=R'
  have q1:aa 1 R'=some (aZ n f,9,R'):=by rw[<- oS];rfl
  have q2:aa 2 R'=some ((iD C'.p),9,R'):=by rw[<- oS];rfl
  have q7:aa 7 R'=some ((iD m),9,R'):=by rw[<- oS];rfl
  have Ni:aa 18 R'=some ((iD (m+r)),9,R'):=by rw[<- oS];rfl
  have q8:aa 8 R'=some (.tup (ao v),9,R'):=by rw[<- oS];rfl
  have q3:R'[3]? = some (some (kpr none n f C' v' (m+r),1)):=by rw[<- oS];rfl
  have a3':=o7 (m:="answer") (F:=kH) q3 rfl Bk (Bj v')
  have l1:iP (iD m) (iD (m+r))=some (.bl true):=by
   show some (D.bl (decide ((m:Int)<=((m+r:Nat):Int))))=_
   rw[QF (by omega)]
  have l2:iP (iD (m+r)) (iD (C'.p*H ((List.range n).foldl f z)))=some (.bl true):=by
   show some (D.bl (decide (((m+r:Nat):Int)<=((C'.p*H ((List.range n).foldl f z):Nat):Int))))=_
   rw[QF (by omega)]
  rw[E_ (yD (mv (Nd q7 Ni l1 (il q2 (du (F:=rN) (n:=1) (cP q1) rfl hht) (z90 (by omega))) l2)))]
  have g1:wF (iD (m+r)) (iD m)=some (.bl (decide (v'≠v))):=by
   show some (D.bl (decide ((m:Int)<((m+r:Nat):Int))))=_
   by_cases ux:v'=v
   ·have:=T.r0 ux
    rw[QJ (by omega),QJ (fun z=>z ux)]
   ·have:=T.r1 ux
    rw[QF (by omega),QF ux]
  have g2:=V6 (decide (v'≠v)) (!decide (v'=v))
  have g3:decide (decide (v'≠v) = !decide (v'=v))=true:=by
   by_cases ux:v'=v
   ·simp[ux]
   ·simp[ux]
  rw[g3]at g2
  exact mv (il (il Ni q7 g1) (il a3' q8 (vj v' v)) g2)
 refine(aR ((mq t2).trans rfl)).trans ?_
 refine(aR (ρ1:=cE ns n f k2 C' v' (m+r) (C'.W.map (bq n)) (C'.B.map bu) (m+r) v ((i9 i)) b' (some (.int st,9)) (some (.int gl,9)) (some (dd,9)) g' (some (dd,9)) x' ((c9 n C')) ((i9 (m+r)))) rfl).trans ?_
 exact eZ (o7 (m:="answer") rfl rfl Bk (Bj v')) rfl
end
theorem j47(ns:List Int):um [cC ns]=(b9 true):=by
 obtain⟨n,f,L,hL⟩:=j4b ns 0 (Jm 0)
 obtain⟨z,hz,bz⟩:=L.bot
 obtain⟨H,hH⟩:=j74 L
 obtain⟨p0,ID,ep⟩:=uw ns (c:=20) (by decide) (n:=5) (by decide)
 obtain⟨c0,hc0,ec⟩:=uw ns (c:=21) (by decide) (n:=9) (by decide)
 obtain⟨p,hp⟩:∃ p:Nat,p=p0+1:=⟨_,rfl⟩
 have hpe:(1:Int)+Int.ofNat p0=Int.ofNat p:=by show(1:Int)+(p0:Int)=(p:Int);omega
 have tL:1<=p:=by omega
 have rR:p<=8:=by omega
 have hk:=fun a=>j0s L hz bz a tL rR
 have k0:Kept n f z ⟨p,[],[]⟩ (df p z):=⟨⟨tL,rR,by show 0<=60;decide,by show 0<=60;decide,(fun _ z=>nomatch z),(fun _ z=>nomatch z)⟩,Bf hz,(fun s hs=>nomatch hs),L.fg (Bf hz),fun b hb _ h=>h⟩
 unfold um Mf
 refine fM ?_
 show aB _ _ [(n0 ns),none,none,none,none,none,none,none,none,none,none,none,none,none,none,none,none,none,none]=_
 refine(aR (ρ1:=[(n0 ns),(t9 n f),none,none,none,none,none,none,none,none,none,none,none,none,none,none,none,none,none]) (eZ (du (ds:=[cC ns,.int 0]) rfl rfl hL) rfl)).trans ?_
 refine(aR (ρ1:=[(n0 ns),(t9 n f),(i9 p),none,none,none,none,none,none,none,none,none,none,none,none,none,none,none,none]) (eZ (il (fa:=eC (.int 1)) (q:=9) rfl (du (ds:=[cC ns,.int 20,(iD 5)]) rfl rfl ep) (Zx (fun x=>some (D.int x)) hpe)) rfl)).trans ?_
 refine(aR (ρ1:=[(n0 ns),(t9 n f),(i9 p),some ((kpr none n f ⟨p,[],[]⟩ (df p z) 0),1),none,none,none,none,none,none,none,none,none,none,none,none,none,none,none]) (eZ (MY (ds:=[aZ n f,(iD p)]) rfl rfl hk) rfl)).trans ?_
 refine(aR (ρ1:=[(n0 ns),(t9 n f),(i9 p),some ((kpr none n f ⟨p,[],[]⟩ (df p z) 0),1),some ((kpr none n f ⟨p,[],[]⟩ (df p z) 0),1),none,none,none,none,none,none,none,none,none,none,none,none,none,none]) (eZ (MY (ds:=[aZ n f,(iD p)]) rfl rfl hk) rfl)).trans ?_
 refine(aR (ρ1:=[(n0 ns),(t9 n f),(i9 p),some ((kpr none n f ⟨p,[],[]⟩ (df p z) 0),1),some ((kpr none n f ⟨p,[],[]⟩ (df p z) 0),1),some (.lst [],1),none,none,none,none,none,none,none,none,none,none,none,none,none]) rfl).trans ?_
 refine(aR (ρ1:=[(n0 ns),(t9 n f),(i9 p),some ((kpr none n f ⟨p,[],[]⟩ (df p z) 0),1),some ((kpr none n f ⟨p,[],[]⟩ (df p z) 0),1),some (.lst [],1),some (.lst [],1),none,none,none,none,none,none,none,none,none,none,none,none]) rfl).trans ?_
 refine(aR (ρ1:=[(n0 ns),(t9 n f),(i9 p),some ((kpr none n f ⟨p,[],[]⟩ (df p z) 0),1),some ((kpr none n f ⟨p,[],[]⟩ (df p z) 0),1),some (.lst [],1),some (.lst [],1),(i9 0),none,none,none,none,none,none,none,none,none,none,none]) rfl).trans ?_
 refine(aR (ρ1:=cE ns n f (kpr none n f ⟨p,[],[]⟩ (df p z) 0) ⟨p,[],[]⟩ (df p z) 0 [] [] 0 (df p z) none none none none none none none none none none) (eZ (o7 (m:="answer") rfl rfl Bk (Bj _)) rfl)).trans ?_
 obtain⟨ρ',e,C,v,m,a,b,c,d,e',g,h,x,y,w,nQ,xM,hW,hB,hm,rfl⟩:=p7 (pt:=bg 9) (body:=AY) (cV (c0+1))
  (fun i ρ=>∃ (C:bA) (v:List Nat) (m:Nat) (a b c d e g h x y w:OD),Kept n f z C v/\C.p=p/\C.W.length<=i/\C.B.length<=i/\m<=hs H v/\ρ=cE ns n f (kpr none n f ⟨p,[],[]⟩ (df p z) 0) C v m (C.W.map (bq n)) (C.B.map bu) m v a b c d e g h x y w)
  (cE ns n f (kpr none n f ⟨p,[],[]⟩ (df p z) 0) ⟨p,[],[]⟩ (df p z) 0 [] [] 0 (df p z) none none none none none none none none none none) (fun i hi ρ aj=>by
   obtain⟨C,v,m,a,b,c,d,e',g,h,x,y,w,nQ,xM,hW,hB,hm,rfl⟩:=aj
   have eE:i<c0+1:=by rw[iA]at hi;exact hi
   obtain⟨C',v',m',b',c',d',e'',g',h',x',y',w',q1,q2,q3,q4,q5,q6⟩:=j4k L hz bz hH ns nQ (by omega) hW hB hm (kpr none n f ⟨p,[],[]⟩ (df p z) 0) b c d e' g h x y w
   exact⟨_,_,by rw[Ba];rfl,.inl q6,C',v',m',_,b',c',d',e'',g',h',x',y',w',q1,q2.trans xM,q3,q4,q5,rfl⟩) ⟨⟨p,[],[]⟩,df p z,0,none,none,none,none,none,none,none,none,none,none,k0,rfl,Qf _,Qf _,Q9 _,rfl⟩
 refine(aR ((mZ (E6 (m:=c0+1) (by omega) (fe:=e2 bB (eC (.int 1)) (aK cQ 3 (ae (aa 0) (ae (eC (.int 21)) (ae (eC (.int 9)) ah))))) (q:=9) (il (fa:=eC (.int 1)) (q:=9) rfl (du (ds:=[cC ns,.int 21,(iD 9)]) rfl rfl ec) (by show some (D.int ((1:Int)+(c0:Int)))=some (D.int ((c0+1:Nat):Int));congr 2;omega)))).trans e)).trans ?_
 generalize hR:(cE ns n f (kpr none n f ⟨p,[],[]⟩ (df p z) 0) C v m (C.W.map (bq n)) (C.B.map bu) m v a b c d e' g h x y w)=R
 have r4:R[4]? = some (some ((kpr none n f ⟨p,[],[]⟩ (df p z) 0),1)):=by rw[<- hR];rfl
 have r2:aa 2 R=some ((iD p),9,R):=by rw[<- hR,<- xM];rfl
 have c4:=o7 (m:="chart") (F:=kG) r4 rfl Fc (Fd n ⟨p,[],[]⟩)
 have q4:=o7 (m:="raises") (F:=qc) r4 rfl M5 rfl
 have tp:da (ae (aa 2) (ae (da ah) (ae (da ah) ah))) R=some (dU n ⟨p,[],[]⟩,9,R):=MZ (cZ r2 (cZ (f:=da ah) (d:=.tup []) (q:=9) rfl (cP (f:=da ah) (d:=.tup []) (q:=9) rfl))) (show 3<=1000 by decide)
 have d1:=il c4 tp (z3o n ⟨p,[],[]⟩)
 have d2:=il q4 (fb:=eC (.int 0)) (q':=9) rfl (ya 0 0)
 refine iW (ρ1:=R) ?_
 unfold pL
 rw[d1]
 exact d2
theorem oo(ns:List Int)(MP:ns.length<=63):∃ q,vy [.lst (ns.map D.int)]=some (.bl true,q):=by
 obtain⟨x,e⟩:=z65 MP (m:=7) (by decide) j47
 refine⟨9,?_⟩
 unfold vy Mi
 refine fM ?_
 exact(aR e).trans rfl
def A0 (K:PySem.W.Frag)(mg:Str->Option Value)(x:Str)(st:Stmt):Prop:=∃ f fd,kY K x x st f fd/\mg x=some (.ref f)
theorem A0.mk{K:PySem.W.Frag}{h:Heap}{mg:Str->Option Value}{f:Addr}{kV:Value}(X:K.In h)(G:h.Ns mainGlobals mg)(a:PySem.W.nsIn K mainGlobals x=some (some (.ref f)))(l:K.lookup f=some ⟨oc,od,.func (PySem.W.fnOf x x (oC st) (eP st) (aJ st) .none kV dc pm an cd ct),sl⟩)(c:PySem.W.codeIn K cd x=true)(k:PySem.W.keepIn K (.ref f)=true):A0 K mg x st:=⟨_,_,BU l c k,QK X G a⟩
theorem A0.at{K:PySem.W.Frag}{mg:Str->Option Value}(a:A0 K mg x st)(h:∀ (kV doc pm:Value) (an:Option Addr) (aN ct:Value) (us:List Value),us.length=ps.length->bindArgs (PySem.W.fnOf x x (oC st) (eP st) (aJ st) .none kV doc pm an aN ct) ⟨us,[]⟩=pure (ps.zip us)):At K mg x st ps:=by
 obtain⟨f,fd,F,m⟩:=a
 exact⟨f,fd,F,m,F.binds h⟩
def A0M (K:PySem.W.Frag)(nm m qual:Str)(st:Stmt):Prop:=∃ C f fd,PySem.W.nsIn K mainGlobals nm=some (some (.ref C))/\iJ K C m f/\kY K m qual st f fd
theorem A0M.mk{K:PySem.W.Frag}{nm m:Str}{C f:Addr}{kV:Value}(n:PySem.W.nsIn K mainGlobals nm=some (some (.ref C)))(a:PySem.W.findIn K (.ref C) m=some (some (.ref f)))(i:PySem.W.isFn K (.ref f)=true)(l:K.lookup f=some ⟨oc,od,.func (PySem.W.fnOf m qual (oC st) (eP st) (aJ st) .none kV dc pm an cd ct),sl⟩)(c:PySem.W.codeIn K cd qual=true)(k:PySem.W.keepIn K (.ref f)=true):A0M K nm m qual st:=⟨_,_,_,n,⟨a,i,k⟩,BU l c k⟩
theorem A0M.at{K:PySem.W.Frag}{nm m:Str}(a:A0M K nm m qual st)(h:∀ (kV doc pm:Value) (an:Option Addr) (aN ct:Value) (us:List Value),us.length=ps.length->bindArgs (PySem.W.fnOf m qual (oC st) (eP st) (aJ st) .none kV doc pm an aN ct) ⟨us,[]⟩=pure (ps.zip us)):jq K nm m qual st ps:=by
 obtain⟨C,f,fd,n,mt,F⟩:=a
 exact⟨C,f,fd,n,mt,F,F.binds h⟩
theorem all_mk{l:PySem.W.OpenLaw}{w:World}{K:PySem.W.Frag}{h:Heap}{mg:Str->Option Value}{fa:Addr}{Fq:Addr}{Fu yK:Option Addr}{Fv:Array (Option Value)}{Fw yL yM yN uy yO:Value}{xr fi fj y0 y1 y2 y3:Addr}{kC:Addr}(X:K.In h)(G:h.Ns mainGlobals mg)(hfa:mg "law" = some (.ref fa))
  (A1:A0 K mg "is_below" (top 17))
  (A2:A0 K mg "below" (top 18))
  (A3:A0 K mg "_law_cell" (top 42))
  (A4:A0 K mg "_law_pick" (top 43))
  (A5:A0 K mg "_law_chain" (top 44))
  (A6:A0 K mg "_law_couples" (top 45))
  (A7:A0 K mg "_law_side_by_side" (top 46))
  (A8:A0 K mg "_law_base" (top 47))
  (A9:A0 K mg "_law_ladder" (top 48))
  (A10:A0 K mg "row_of_least" (top 14))
  (A11:A0 K mg "least_of" (top 15))
  (A12:A0 K mg "lowest" (top 30))
  (A13:A0M K "Keeper" "chart" "Keeper.chart" (gu (top 40) 4))
  (A14:A0M K "Keeper" "__init__" "Keeper.__init__" (gu (top 40) 0))
  (A15:A0M K "Keeper" "answer" "Keeper.answer" (gu (top 40) 5))
  (A16:A0M K "Keeper" "raises" "Keeper.raises" (gu (top 40) 6))
  (A17:A0 K mg "_law_word" (top 55))
  (A18:A0 K mg "is_whole" (top 9))
  (A19:A0 K mg "is_number_of" (top 10))
  (A20:A0 K mg "refuse_no_place" (top 28))
  (A21:A0 K mg "place_and_worth" (top 35))
  (A22:A0 K mg "worths_behind" (top 36))
  (A23:A0 K mg "risen" (top 37))
  (A24:A0 K mg "all_steps" (top 32))
  (A25:A0M K "Keeper" "rise" "Keeper.rise" (gu (top 40) 3))
  (A26:A0M K "Keeper" "add_begin" "Keeper.add_begin" (gu (top 40) 1))
  (A27:A0 K mg "is_row_of" (top 11))
  (A28:A0 K mg "is_rule" (top 23))
  (A29:A0 K mg "rises" (top 24))
  (A30:A0 K mg "is_rising_rule" (top 25))
  (A31:A0 K mg "refuse_unrising" (top 26))
  (A32:A0M K "Keeper" "add_way" "Keeper.add_way" (gu (top 40) 2))
  (A33:A0 K mg "_law_tried" (top 56))
  (A34:A0 K mg "_law_low" (top 49))
  (A35:A0 K mg "_law_join" (top 50))
  (A36:A0 K mg "_law_under" (top 51))
  (A37:A0 K mg "_law_rule" (top 52))
  (A38:A0 K mg "_law_any_rule" (top 57))
  (A39:A0 K mg "is_named_number" (top 12))
  (A40:A0 K mg "is_step" (top 33))
  (A41:A0 K mg "refuse_no_step" (top 34))
  (A42:A0 K mg "least_by" (top 38))
  (A43:A0 K mg "least" (top 31))
  (A44:A0 K mg "joined_all" (top 20))
  (A45:A0 K mg "greatest_of" (top 16))
  (A46:A0 K mg "truly_below" (top 19))
  (A47:A0 K mg "height_of" (top 21))
  (A48:A0 K mg "_law_once" (top 58))
  (a49:PySem.W.nsIn K mainGlobals "law" = some (some (.ref Fq))) (l49:K.lookup Fq=some ⟨Fw,Fu,.func (PySem.W.fnOf "law" "law" (oC (top 59)) (eP (top 59)) (aJ (top 59)) .none yL yM yN yK uy yO),Fv⟩) (c49:PySem.W.codeIn K uy "law" = true) (k49:PySem.W.keepIn K (.ref Fq)=true)
  (z1:PySem.W.nsIn K mainGlobals "ValueError" = some none) (z2:PySem.W.nsIn K mainGlobals "all" = some none) (z3:PySem.W.nsIn K mainGlobals "bool" = some none) (z4:PySem.W.nsIn K mainGlobals "int" = some none) (z5:PySem.W.nsIn K mainGlobals "isinstance" = some none) (z6:PySem.W.nsIn K mainGlobals "len" = some none) (z7:PySem.W.nsIn K mainGlobals "list" = some none) (z8:PySem.W.nsIn K mainGlobals "max" = some none) (z9:PySem.W.nsIn K mainGlobals "range" = some none) (z10:PySem.W.nsIn K mainGlobals "sorted" = some none) (z11:PySem.W.nsIn K mainGlobals "str" = some none) (z12:PySem.W.nsIn K mainGlobals "tuple" = some none) (t_height_of:∃ c Pt,PySem.W.tabIn K "height_of" = some (c,Pt)) (xrN:PySem.W.nsIn K mainGlobals "RiseError" = some (some (.ref xr))) (xcg:PySem.W.specialIn K (.builtin "object.__class__") "__get__" = some (some (.builtin "getset_descriptor.__get__"))) (xct:PySem.W.takesIn K (.builtin "object.__class__")=some true) (xrg:PySem.W.findIn K (.ref xr) "__getattribute__" = some (some (.builtin "BaseException.__getattribute__"))) (xrt:PySem.W.findIn K (.ref xr) "__getattr__" = some none) (xrc:PySem.W.findIn K (.ref xr) "__class__" = some (some (.builtin "object.__class__"))) (xro:PySem.W.mroIn K xr (.type "object")=some true) (xrb:PySem.W.mroIn K xr (.type "BaseException")=some true) (xrT:PySem.W.typeIn K (.ref xr)=some (.type "type")) (xe0N:PySem.W.nsIn K mainGlobals "NoPlace" = some (some (.ref fi))) (xe0g:PySem.W.findIn K (.ref fi) "__getattribute__" = some (some (.builtin "BaseException.__getattribute__"))) (xe0t:PySem.W.findIn K (.ref fi) "__getattr__" = some none) (xe0c:PySem.W.findIn K (.ref fi) "__class__" = some (some (.builtin "object.__class__"))) (xe0o:PySem.W.mroIn K fi (.type "object")=some true) (xe0b:PySem.W.mroIn K fi (.type "BaseException")=some true) (xe0V:PySem.W.mroIn K fi (.type "ValueError")=some true) (xe0n0:PySem.W.mroIn K fi (.type "int")=some false) (xe0n1:PySem.W.mroIn K fi (.type "bool")=some false) (xe0n2:PySem.W.mroIn K fi (.type "tuple")=some false) (xe0n3:PySem.W.mroIn K fi (.type "list")=some false) (xe0n4:PySem.W.mroIn K fi (.type "str")=some false) (xe0R:PySem.W.mroIn K fi (.ref xr)=some true) (xe0X:PySem.W.excIn K fi L3.zi "ValueError.__new__" = true) (xe1N:PySem.W.nsIn K mainGlobals "NoRule" = some (some (.ref fj))) (xe1g:PySem.W.findIn K (.ref fj) "__getattribute__" = some (some (.builtin "BaseException.__getattribute__"))) (xe1t:PySem.W.findIn K (.ref fj) "__getattr__" = some none) (xe1c:PySem.W.findIn K (.ref fj) "__class__" = some (some (.builtin "object.__class__"))) (xe1o:PySem.W.mroIn K fj (.type "object")=some true) (xe1b:PySem.W.mroIn K fj (.type "BaseException")=some true) (xe1V:PySem.W.mroIn K fj (.type "ValueError")=some true) (xe1n0:PySem.W.mroIn K fj (.type "int")=some false) (xe1n1:PySem.W.mroIn K fj (.type "bool")=some false) (xe1n2:PySem.W.mroIn K fj (.type "tuple")=some false) (xe1n3:PySem.W.mroIn K fj (.type "list")=some false) (xe1n4:PySem.W.mroIn K fj (.type "str")=some false) (xe1R:PySem.W.mroIn K fj (.ref xr)=some true) (xe1X:PySem.W.excIn K fj L3.zi "ValueError.__new__" = true) (y0N:PySem.W.nsIn K mainGlobals "NoHouse" = some (some (.ref y0))) (y0O:PySem.W.mroIn K y0 (.type "object")=some true) (y0T:PySem.W.typeIn K (.ref y0)=some (.type "type")) (y0Sxe0:PySem.W.mroIn K fi (.ref y0)=some false) (y0Dxe0:fi≠y0) (y0Sxe1:PySem.W.mroIn K fj (.ref y0)=some false) (y0Dxe1:fj≠y0) (y1N:PySem.W.nsIn K mainGlobals "NoMap" = some (some (.ref y1))) (y1O:PySem.W.mroIn K y1 (.type "object")=some true) (y1T:PySem.W.typeIn K (.ref y1)=some (.type "type")) (y1Sxe0:PySem.W.mroIn K fi (.ref y1)=some false) (y1Dxe0:fi≠y1) (y1Sxe1:PySem.W.mroIn K fj (.ref y1)=some false) (y1Dxe1:fj≠y1) (xe0T:PySem.W.typeIn K (.ref fi)=some (.type "type")) (xe0Sxe1:PySem.W.mroIn K fj (.ref fi)=some false) (xe0Dxe1:fj≠fi) (xe1T:PySem.W.typeIn K (.ref fj)=some (.type "type")) (xe1Sxe0:PySem.W.mroIn K fi (.ref fj)=some false) (xe1Dxe0:fi≠fj) (y2N:PySem.W.nsIn K mainGlobals "NoStep" = some (some (.ref y2))) (y2O:PySem.W.mroIn K y2 (.type "object")=some true) (y2T:PySem.W.typeIn K (.ref y2)=some (.type "type")) (y2Sxe0:PySem.W.mroIn K fi (.ref y2)=some false) (y2Dxe0:fi≠y2) (y2Sxe1:PySem.W.mroIn K fj (.ref y2)=some false) (y2Dxe1:fj≠y2) (y3N:PySem.W.nsIn K mainGlobals "TooGreat" = some (some (.ref y3))) (y3O:PySem.W.mroIn K y3 (.type "object")=some true) (y3T:PySem.W.typeIn K (.ref y3)=some (.type "type")) (y3Sxe0:PySem.W.mroIn K fi (.ref y3)=some false) (y3Dxe0:fi≠y3) (y3Sxe1:PySem.W.mroIn K fj (.ref y3)=some false) (y3Dxe1:fj≠y3) (kN:PySem.W.nsIn K mainGlobals "Keeper" = some (some (.ref kC))) (kM:PySem.W.makesIn K kC=true) (kP:PySem.W.keepIn K (.ref kC)=true) (kpg:PySem.W.plainGet K kC Str.empty=true) (khd:PySem.W.hasDictIn K kC=true) (kpo:PySem.W.plainOver K kC=true) (ksa:PySem.W.findIn K (.ref kC) "__setattr__" = some (some (.builtin "object.__setattr__"))) (kca:PySem.W.findIn K (.ref kC) "__class__" = some (some (.builtin "object.__class__"))) (kcn:PySem.W.specialIn K (.builtin "object.__class__") "__get__" = some (some (.builtin "getset_descriptor.__get__"))) (kct:PySem.W.takesIn K (.builtin "object.__class__")=some true) (kcm:PySem.W.mroIn K kC (.type "object")=some true) (kn0:PySem.W.mroIn K kC (.type "bool")=some false) (kn1:PySem.W.mroIn K kC (.type "int")=some false) (kn2:PySem.W.mroIn K kC (.type "tuple")=some false) (kn3:PySem.W.mroIn K kC (.type "list")=some false) (kn4:PySem.W.mroIn K kC (.type "str")=some false) (kf_begins:PySem.W.findIn K (.ref kC) "begins" = some none) (kf_ladder:PySem.W.findIn K (.ref kC) "ladder" = some none) (kf_many_raises:PySem.W.findIn K (.ref kC) "many_raises" = some none) (kf_places:PySem.W.findIn K (.ref kC) "places" = some none) (kf_ways:PySem.W.findIn K (.ref kC) "ways" = some none) (kf_worths:PySem.W.findIn K (.ref kC) "worths" = some none) :
  ∃ fd:FuncData,(∀ (s:Shared) (v:Value),BindsTo s fd ⟨[v],[]⟩ [("_law_script",v)])/\∀ base:Heap,K.In base->base.Ns mainGlobals mg->Lm K mg base->bW l.prog w K mg base dh 10 fa fd ["_law_script"] (lV K 1 vy):=by
 have e:=hfa.symm.trans (QK X G a49)
 cases e
 have B:Bt mg:=⟨Q1 X G z1,Q1 X G z2,Q1 X G z3,Q1 X G z4,Q1 X G z5,Q1 X G z6,Q1 X G z7,Q1 X G z8,Q1 X G z9,Q1 X G z10,Q1 X G z11,Q1 X G z12⟩
 have oq:hJ K "NoPlace" fi:=hJ.of xe0N ⟨L3.AD xe0o,xe0g,xe0t,xe0c,xcg,xct,xe0o,xe0b⟩ xe0X xe0V xe0n0 xe0n1 xe0n2 xe0n3 xe0n4
 have ot:hJ K "NoRule" fj:=hJ.of xe1N ⟨L3.AD xe1o,xe1g,xe1t,xe1c,xcg,xct,xe1o,xe1b⟩ xe1X xe1V xe1n0 xe1n1 xe1n2 xe1n3 xe1n4
 have T:Xt K mg:=⟨(oQ.cons (oQ.cons (oQ.nil ⟨L3.AD xro,xrg,xrt,xrc,xcg,xct,xro,xrb⟩ xrT (QK X G xrN)) (QK X G xrN) ot xe1R) (QK X G xrN) oq xe0R),⟨fi,⟨oq,QK X G xe0N⟩⟩,⟨fj,⟨ot,QK X G xe1N⟩⟩,(dS.other (dS.other (dS.nil (QK X G y0N)) xe1N (QK X G y0N) (by decide) y0Dxe1 y0T y0O y0Sxe1) xe0N (QK X G y0N) (by decide) y0Dxe0 y0T y0O y0Sxe0),(dS.other (dS.other (dS.nil (QK X G y1N)) xe1N (QK X G y1N) (by decide) y1Dxe1 y1T y1O y1Sxe1) xe0N (QK X G y1N) (by decide) y1Dxe0 y1T y1O y1Sxe0),(dS.self (dS.other (dS.nil (QK X G xe0N)) xe1N (QK X G xe0N) (by decide) xe0Dxe1 xe0T xe0o xe0Sxe1) xe0N (QK X G xe0N)),(dS.other (dS.self (dS.nil (QK X G xe1N)) xe1N (QK X G xe1N)) xe0N (QK X G xe1N) (by decide) xe1Dxe0 xe1T xe1o xe1Sxe0),(dS.other (dS.other (dS.nil (QK X G y2N)) xe1N (QK X G y2N) (by decide) y2Dxe1 y2T y2O y2Sxe1) xe0N (QK X G y2N) (by decide) y2Dxe0 y2T y2O y2Sxe0),(dS.other (dS.other (dS.nil (QK X G y3N)) xe1N (QK X G y3N) (by decide) y3Dxe1 y3T y3O y3Sxe1) xe0N (QK X G y3N) (by decide) y3Dxe0 y3T y3O y3Sxe0)⟩
 have hc:∀ C,PySem.W.nsIn K mainGlobals "Keeper" = some (some (.ref C))->mg "Keeper" = some (.ref C)/\PySem.W.makesIn K C=true/\PySem.W.keepIn K (.ref C)=true/\hV K C:=fun C e=>by
  rw[kN]at e
  cases e
  exact⟨QK X G kN,kM,kP,⟨⟨kpg,khd,kpo,ksa⟩,kca,kcn,kct,kcm,hV.Vy kn0 kn1 kn2 kn3 kn4⟩⟩
 have N:Kt K:=⟨kB.of kN kf_begins,kB.of kN kf_ladder,kB.of kN kf_many_raises,kB.of kN kf_places,kB.of kN kf_ways,kB.of kN kf_worths⟩
 refine⟨PySem.W.fnOf "law" "law" (oC (top 59)) (eP (top 59)) (aJ (top 59)) .none yL yM yN yK uy yO,fun s v=>.of_eq rfl,fun base KX NG L=>?_⟩
 have kL:∀ base:Heap,ay l.prog w K mg base 1 "is_below" 3 oV:=fun base=>K0 B (A1.at fun _ _ _ _ _ _ _ h=>by obtain⟨_,_,_,rfl⟩:=L3.m7 h;rfl)
 have qo:∀ base:Heap,ay l.prog w K mg base 2 "below" 2 jJ:=fun base=>K3 B (kL base) (A2.at fun _ _ _ _ _ _ _ h=>by obtain⟨_,_,rfl⟩:=L3.gn h;rfl)
 have gN:=K0 (P:=l.prog) (w:=w) (base:=base) B (A1.at fun _ _ _ _ _ _ _ h=>by obtain⟨_,_,_,rfl⟩:=L3.m7 h;rfl)
 have lD:=K3 B gN (A2.at fun _ _ _ _ _ _ _ h=>by obtain⟨_,_,rfl⟩:=L3.gn h;rfl)
 have jL:=Wm (P:=l.prog) (w:=w) (base:=base) B (A3.at fun _ _ _ _ _ _ _ h=>by obtain⟨_,_,rfl⟩:=L3.gn h;rfl)
 have bY:=Wo B jL (A4.at fun _ _ _ _ _ _ _ h=>by obtain⟨_,_,_,rfl⟩:=L3.m7 h;rfl)
 have jb:=Wu (P:=l.prog) (w:=w) (base:=base) B (A5.at fun _ _ _ _ _ _ _ h=>by obtain⟨_,rfl⟩:=L3.j4 h;rfl)
 have gO:=Wy (P:=l.prog) (w:=w) (base:=base) B (A6.at fun _ _ _ _ _ _ _ h=>by obtain⟨_,_,rfl⟩:=L3.gn h;rfl)
 have dW:=WC (P:=l.prog) (w:=w) (base:=base) B (A7.at fun _ _ _ _ _ _ _ h=>by obtain⟨_,rfl⟩:=L3.j4 h;rfl)
 have jM:=WD B bY jb gO dW (A8.at fun _ _ _ _ _ _ _ h=>by obtain⟨_,_,rfl⟩:=L3.gn h;rfl)
 have ip:=WJ B jM bY (A9.at fun _ _ _ _ _ _ _ h=>by obtain⟨_,_,rfl⟩:=L3.gn h;rfl)
 have gP:=WN (P:=l.prog) (w:=w) (base:=base) B (A10.at fun _ _ _ _ _ _ _ h=>by obtain⟨_,rfl⟩:=L3.j4 h;rfl)
 have gQ:=WQ B gP (A11.at fun _ _ _ _ _ _ _ h=>by obtain⟨_,rfl⟩:=L3.j4 h;rfl)
 have jN:=WT B gQ (A12.at fun _ _ _ _ _ _ _ h=>by obtain⟨_,_,rfl⟩:=L3.gn h;rfl)
 have cF:=WV (P:=l.prog) (w:=w) (base:=base) B (A13.at fun _ _ _ _ _ _ _ h=>by obtain⟨_,rfl⟩:=L3.j4 h;rfl)
 have fk:=WX B N jN cF (A14.at fun _ _ _ _ _ _ _ h=>by obtain⟨_,_,_,rfl⟩:=L3.m7 h;rfl) hc
 have fV:=WZ (P:=l.prog) (w:=w) (base:=base) B (A15.at fun _ _ _ _ _ _ _ h=>by obtain⟨_,rfl⟩:=L3.j4 h;rfl)
 have fW:=W1 (P:=l.prog) (w:=w) (base:=base) B (A16.at fun _ _ _ _ _ _ _ h=>by obtain⟨_,rfl⟩:=L3.j4 h;rfl)
 have jO:=W3 (P:=l.prog) (w:=w) (base:=base) B T (A17.at fun _ _ _ _ _ _ _ h=>by obtain⟨_,rfl⟩:=L3.j4 h;rfl)
 have kO:=W5 (P:=l.prog) (w:=w) (base:=base) B (A18.at fun _ _ _ _ _ _ _ h=>by obtain⟨_,rfl⟩:=L3.j4 h;rfl)
 have bJ:=W7 B kO (A19.at fun _ _ _ _ _ _ _ h=>by obtain⟨_,_,rfl⟩:=L3.gn h;rfl)
 have bK:=W9 B bJ (A20.at fun _ _ _ _ _ _ _ h=>by obtain⟨_,_,rfl⟩:=L3.gn h;rfl)
 have cG:=W_ B T bJ (A20.at fun _ _ _ _ _ _ _ h=>by obtain⟨_,_,rfl⟩:=L3.gn h;rfl)
 have fm:=Xa (P:=l.prog) (w:=w) (base:=base) B (A21.at fun _ _ _ _ _ _ _ h=>by obtain⟨_,_,_,rfl⟩:=L3.m7 h;rfl)
 have fX:=Xb B fm (A22.at fun _ _ _ _ _ _ _ h=>by obtain⟨_,_,_,_,rfl⟩:=L3.yf h;rfl)
 have lE:=Xd B fX (A23.at fun _ _ _ _ _ _ _ h=>by obtain⟨_,_,_,_,rfl⟩:=L3.yf h;rfl)
 have fQ:=Xf (P:=l.prog) (w:=w) (base:=base) B (A24.at fun _ _ _ _ _ _ _ h=>by obtain⟨_,rfl⟩:=L3.j4 h;rfl)
 have d9:=Xg B N cF lE fQ (A25.at fun _ _ _ _ _ _ _ h=>by obtain⟨_,rfl⟩:=L3.j4 h;rfl)
 have eM:=Xh B N bK d9 (A26.at fun _ _ _ _ _ _ _ h=>by obtain⟨_,_,_,rfl⟩:=L3.m7 h;rfl)
 have dX:=Xi B T cG (A26.at fun _ _ _ _ _ _ _ h=>by obtain⟨_,_,_,rfl⟩:=L3.m7 h;rfl)
 have jP:=Xl B bJ (A27.at fun _ _ _ _ _ _ _ h=>by obtain⟨_,_,_,rfl⟩:=L3.m7 h;rfl)
 have mD:=Xn B jP (A28.at fun _ _ _ _ _ _ _ h=>by obtain⟨_,_,rfl⟩:=L3.gn h;rfl)
 have lF:=Xr B lD gN (A29.at fun _ _ _ _ _ _ _ h=>by obtain⟨_,_,rfl⟩:=L3.gn h;rfl)
 have cW:=Xu B mD lF (A30.at fun _ _ _ _ _ _ _ h=>by obtain⟨_,_,rfl⟩:=L3.gn h;rfl)
 have fq:=Xw B cW (A31.at fun _ _ _ _ _ _ _ h=>by obtain⟨_,_,rfl⟩:=L3.gn h;rfl)
 have eO:=Xx B T cW (A31.at fun _ _ _ _ _ _ _ h=>by obtain⟨_,_,rfl⟩:=L3.gn h;rfl)
 have fF:=Xy B N bK fq d9 (A32.at fun _ _ _ _ _ _ _ h=>by obtain⟨_,_,_,_,rfl⟩:=L3.yf h;rfl)
 have ft:=XA B T bK cG eO (A32.at fun _ _ _ _ _ _ _ h=>by obtain⟨_,_,_,_,rfl⟩:=L3.yf h;rfl)
 have jc:=XD B T eM fF jO dX ft (A33.at fun _ _ _ _ _ _ _ h=>by obtain⟨_,_,_,_,_,rfl⟩:=L3.Wb h;rfl)
 have gR:=XJ (P:=l.prog) (w:=w) (base:=base) B (A34.at fun _ _ _ _ _ _ _ h=>by obtain⟨_,rfl⟩:=L3.j4 h;rfl)
 have jQ:=XN B gR (A35.at fun _ _ _ _ _ _ _ h=>by obtain⟨_,_,rfl⟩:=L3.gn h;rfl)
 have jd:=XS (P:=l.prog) (w:=w) (base:=base) B (A36.at fun _ _ _ _ _ _ _ h=>by obtain⟨_,_,rfl⟩:=L3.gn h;rfl)
 have jR:=XX B gR bY jQ jd (A37.at fun _ _ _ _ _ _ _ h=>by obtain⟨_,_,_,rfl⟩:=L3.m7 h;rfl)
 have fY:=X2 B bY jR (A38.at fun _ _ _ _ _ _ _ h=>by obtain⟨_,_,_,rfl⟩:=L3.m7 h;rfl)
 have fu:=X5 B bJ (A39.at fun _ _ _ _ _ _ _ h=>by obtain⟨_,_,rfl⟩:=L3.gn h;rfl)
 have mE:=X7 B fu (A40.at fun _ _ _ _ _ _ _ h=>by obtain⟨_,_,rfl⟩:=L3.gn h;rfl)
 have fG:=YW B mE (A41.at fun _ _ _ _ _ _ _ h=>by obtain⟨_,_,rfl⟩:=L3.gn h;rfl)
 have kQ:=YY B fG lE jN (A42.at fun _ _ _ _ _ _ _ h=>by obtain⟨_,_,_,rfl⟩:=L3.m7 h;rfl)
 have qp:=Y1 B kQ fQ (A43.at fun _ _ _ _ _ _ _ h=>by obtain⟨_,_,rfl⟩:=L3.gn h;rfl)
 have je:=Y4 B gQ (A44.at fun _ _ _ _ _ _ _ h=>by obtain⟨_,_,rfl⟩:=L3.gn h;rfl)
 have iq:=Y6 B je (A45.at fun _ _ _ _ _ _ _ h=>by obtain⟨_,rfl⟩:=L3.j4 h;rfl)
 have ir:=Y_ B lD (A46.at fun _ _ _ _ _ _ _ h=>by obtain⟨_,_,rfl⟩:=L3.gn h;rfl)
 have jS:=y8a B L KX NG t_height_of qo ir iq (A47.at fun _ _ _ _ _ _ _ h=>by obtain⟨_,rfl⟩:=L3.j4 h;rfl)
 have jT:=y97 B ip bY fk fV jc fY lF cF qp fW jS (A48.at fun _ _ _ _ _ _ _ h=>by obtain⟨_,rfl⟩:=L3.j4 h;rfl)
 exact j1f B jT (BU (st:=top 59) l49 c49 k49)
theorem walk{l:PySem.W.OpenLaw}{q:Program}{loose:List Str}{XP:(Str->Option Value)->Heap->Prop}{YP:World->Heap->Prop}{d:DefRec}{K:Params->PySem.W.Frag}(hn:l.most=some 63)(pq:d.params.defaults=[])
  (hY:∀ (w:World) (h:Heap),YP w h->(K w.params).In h)
  (F:∀ (w:World) (mg:Str->Option Value) (fa:Addr) (h:Heap),(K w.params).In h->h.Ns mainGlobals mg->mg d.name=some (.ref fa)->j5g q (K w.params)/\PySem.W.noTabs (K w.params)=true /\
    ∃ fd:FuncData,(∀ (s:Shared) (u:Value),BindsTo s fd ⟨[u],[]⟩ [("_law_script",u)])/\∀ base:Heap,(K w.params).In base->base.Ns mainGlobals mg->Lm (K w.params) mg base->bW l.prog w (K w.params) mg base dh 10 fa fd ["_law_script"] (lV (K w.params) 1 vy)) :
  PySem.W.WalkO q loose XP YP l.row.toRowW d [] (fun f vs=>PySem.call f vs):=
 VT (n:=63) (k:=10) (x:="_law_script") (CX:=fun _=>dh) (sp:=fun w=>lV (K w.params) 1 vy) hn (by decide) pq ⟨rfl,by decide,by decide⟩ hY F (fun _ _ a ns hl tb hS=>S7 oo hl hS tb) fun _ _ _ _ _ z=>z
end My
namespace PySem.W.Fast
def tw10208547612273735426:=0
def tw10233242432301037501:=0
def tw10342949573363601901:=0
def tw1034708460636900294:=0
def tw10390103507855632603:=0
def tw10446319752921435396:=0
def tw10453956987162330272:=0
def tw10516170203615128009:=0
def tw10557306840654845131:=0
def tw10573749025804700109:=0
def tw10576217182770672747:=0
def tw1063417812234170539:=0
def tw10640611835971790067:=0
def tw10671154780562131357:=0
def tw10674234804142546304:=0
def tw10720621654315508655:=0
def tw10793446392988227133:=0
def tw10853268422308699813:=0
def tw10932928405953196931:=0
def tw10945742738807740532:=0
def tw10947303539773981097:=0
def tw10953737594891198668:=0
def tw10970383398268167439:=0
def tw10979411647885001981:=0
def tw11038214412542518556:=0
def tw11084305827463427774:=0
def tw11111451159874484514:=0
def tw11126888402019996531:=0
def tw111544042778741690:=0
def tw1122397246645930040:=0
def tw11247866495765364068:=0
def tw11256863267722345447:=0
def tw11264755054556855582:=0
def tw11385020105390082052:=0
def tw11466733232416544895:=0
def tw11484929916055304734:=0
def tw11506517593268283611:=0
def tw11522239956747004162:=0
def tw11546477398219688266:=0
def tw11576968207601469126:=0
def tw11612337210064529796:=0
def tw11635413269399246289:=0
def tw11637788854627994844:=0
def tw1166468053343698249:=0
def tw11696947550200798085:=0
def tw11709107662302150731:=0
def tw11769224235532824044:=0
def tw11808217787268291312:=0
def tw118242810540941668:=0
def tw1186875202520120920:=0
def tw11904654977764044885:=0
def tw1191190863485556654:=0
def tw11994904421313957704:=0
def tw12089408823868304958:=0
def tw12298204742673788605:=0
def tw12374140993150966676:=0
def tw12389870786286862449:=0
def tw12396554158114472245:=0
def tw12412641614792577641:=0
def tw12434109445289049830:=0
def tw1244070340739522194:=0
def tw12453453903851888891:=0
def tw12473257149465306050:=0
def tw12487198923896270936:=0
def tw12568537257244133061:=0
def tw12580937490621865776:=0
def tw12627380381057047042:=0
def tw1265417873401301290:=0
def tw12736117942639615147:=0
def tw12797207205857088979:=0
def tw12858732429430912746:=0
def tw12896387861379564532:=0
def tw12962536146580340366:=0
def tw12970005304557886475:=0
def tw12988930105709184526:=0
def tw13004622562354598685:=0
def tw13018783995774006569:=0
def tw13041630055541106360:=0
def tw13048035787331674223:=0
def tw13054657219374914145:=0
def tw1310733961891893640:=0
def tw13113599527696092198:=0
def tw13128452869360627514:=0
def tw1315740655323089230:=0
def tw13169460271321660723:=0
def tw13228685283090904778:=0
def tw13284829683828824950:=0
def tw13291323276928478444:=0
def tw13301566095562717565:=0
def tw13326594478408726142:=0
def tw13366456065245843138:=0
def tw13379873627462664234:=0
def tw13408902097358379046:=0
def tw13429373694039464522:=0
def tw13473143378149947472:=0
def tw13479221172419202418:=0
def tw13505583997011273475:=0
def tw13523389454589756197:=0
def tw13532236359851143136:=0
def tw13548782607772466036:=0
def tw13687827374314451337:=0
def tw13701938152292132971:=0
def tw13719062726647715837:=0
def tw13742350173642605601:=0
def tw13751114350977735005:=0
def tw13803137943863324089:=0
def tw13830432944376648825:=0
def tw13859163597991955865:=0
def tw13959254679675589848:=0
def tw13964756792436675197:=0
def tw14012251011482455300:=0
def tw1408422207873384357:=0
def tw14198431861152206236:=0
def tw14270551126594094903:=0
def tw14351050229653088458:=0
def tw14372897119355005304:=0
def tw1438154681360223008:=0
def tw14388996400684171953:=0
def tw14487065210620309334:=0
def tw14493979780919981876:=0
def tw14524417273205364593:=0
def tw14525171147952897789:=0
def tw14565351256322093938:=0
def tw14580693157649235125:=0
def tw14626426370508125830:=0
def tw14658859422915044595:=0
def tw14695960020184055260:=0
def tw1471784007177981075:=0
def tw14767526573519072901:=0
def tw14812170546234025237:=0
def tw14825680797951215773:=0
def tw14848635499737500709:=0
def tw14886197673052238839:=0
def tw14899184910870200074:=0
def tw1495596298498044264:=0
def tw14981718494035135846:=0
def tw15000678723257346119:=0
def tw15005252673215077764:=0
def tw15029515729754821878:=0
def tw15052847352826156424:=0
def tw15056460445132715739:=0
def tw15101135040068035786:=0
def tw15107407037136077275:=0
def tw1514985683924328482:=0
def tw15187984046658708080:=0
def tw15287043835489631887:=0
def tw15331078895654854096:=0
def tw1534886252611183978:=0
def tw15439158158894557721:=0
def tw15448755788205295070:=0
def tw15480588617895815494:=0
def tw15505796007095245326:=0
def tw15508240314028461016:=0
def tw1551067609611802147:=0
def tw15546869156606201974:=0
def tw15572515161797914436:=0
def tw15594099412668756789:=0
def tw15603914245956051117:=0
def tw1564829487790082234:=0
def tw15663752371388823987:=0
def tw15691326037782548658:=0
def tw15748326697857683050:=0
def tw15772329803798270746:=0
def tw15831652806586981671:=0
def tw15878624846612234659:=0
def tw15899625625282949531:=0
def tw15902972221486004343:=0
def tw15979600695725137896:=0
def tw16091774427008793100:=0
def tw1612969310787153560:=0
def tw16141785824149326296:=0
def tw16247105061047060583:=0
def tw16255815616298387033:=0
def tw16299246242729283400:=0
def tw16340490794523354923:=0
def tw16394256506852265176:=0
def tw16428484605429038617:=0
def tw16454075973077700818:=0
def tw16484234783647365289:=0
def tw1651211316001438207:=0
def tw16531850757653393340:=0
def tw16571228374713434216:=0
def tw16597191835046867700:=0
def tw16612625945463035748:=0
def tw16680016548483259123:=0
def tw16692440792444950115:=0
def tw16692523645229590783:=0
def tw16786399421225297115:=0
def tw16918673847466611016:=0
def tw16927800282684681460:=0
def tw16935201062845575643:=0
def tw16961801298064801336:=0
def tw16970387105562726234:=0
def tw17122999451811386683:=0
def tw17157789900702305091:=0
def tw17286801698019181269:=0
def tw17332350546990964893:=0
def tw1735554509496308897:=0
def tw17365027646663603856:=0
def tw17436615114923489690:=0
def tw17441638042248637319:=0
def tw17546962168239175144:=0
def tw17576181657584336950:=0
def tw17730658382438399959:=0
def tw17737292468611589890:=0
def tw17761644898014770806:=0
def tw17790765422030432894:=0
def tw17869309471564535927:=0
def tw1788040463593291046:=0
def tw17881114030116324657:=0
def tw17986216254695272167:=0
def tw18053964424758586449:=0
def tw18069674027006169188:=0
def tw18172593588670220404:=0
def tw18211000715970136075:=0
def tw18238640020299192494:=0
def tw18252856018795910550:=0
def tw1826318182406023866:=0
def tw18299975138235930642:=0
def tw18321614626699325903:=0
def tw183741972882185747:=0
def tw1858151996945017099:=0
def tw1868166574575761547:=0
def tw1960527136968563319:=0
def tw196579552067589907:=0
def tw1969488941728300349:=0
def tw1969781344519197126:=0
def tw2016202282868267991:=0
def tw202553893258485508:=0
def tw2072114242519096030:=0
def tw207370965538989205:=0
def tw2079159015422195301:=0
def tw211495982209085382:=0
def tw2155888572935075600:=0
def tw2186426013458141650:=0
def tw2222862454391558642:=0
def tw226724254575679946:=0
def tw2287194658487548033:=0
def tw2291154903757637846:=0
def tw2300622397747028366:=0
def tw2345511972612627580:=0
def tw2362127343591457376:=0
def tw2385292470459466743:=0
def tw2421048106346022327:=0
def tw242421718801407801:=0
def tw2429382842543143891:=0
def tw244975808039850507:=0
def tw2451016743563818114:=0
def tw2472619832442716296:=0
def tw2475495361007191254:=0
def tw2571570619480029079:=0
def tw2599799468291185382:=0
def tw2621413494764781535:=0
def tw2676606566862602811:=0
def tw2699544694802900444:=0
def tw2731351612814352463:=0
def tw2741515928935340163:=0
def tw2756841589427219383:=0
def tw2774564430691778155:=0
def tw2805685670137361377:=0
def tw2833225370798501578:=0
def tw2863608799869316153:=0
def tw2886732906113736517:=0
def tw2989531159353105051:=0
def tw2999254092706349294:=0
def tw3011526531272914366:=0
def tw305892896035190008:=0
def tw3061591950464233398:=0
def tw3110464104838337763:=0
def tw3216975554531184374:=0
def tw3271483957991225309:=0
def tw3284292121341301835:=0
def tw3291769179949860727:=0
def tw3353567505000511088:=0
def tw3353574385031521045:=0
def tw3412072862308630157:=0
def tw3450125017170162608:=0
def tw3593356493215045239:=0
def tw36321072624470613:=0
def tw3633639262453875136:=0
def tw3771414632692237614:=0
def tw3785181493593268166:=0
def tw3803283572306299204:=0
def tw3862902925300651853:=0
def tw3875053163938567352:=0
def tw3976394175471922059:=0
def tw405599031863341035:=0
def tw4144090129097939162:=0
def tw4156647302842692924:=0
def tw4180024819989938964:=0
def tw4182813186064772785:=0
def tw4190648450557002756:=0
def tw4218681422065833844:=0
def tw431288605352009496:=0
def tw4361959865815635310:=0
def tw436217216050838601:=0
def tw4514011974233269706:=0
def tw4744128473809340203:=0
def tw4771398372013236855:=0
def tw4819702168649920273:=0
def tw483908771971821987:=0
def tw48878164778758518:=0
def tw4890660190253123017:=0
def tw4900559204963096381:=0
def tw4937750815041632634:=0
def tw4977482750314030988:=0
def tw5061188080669953601:=0
def tw5188610286286290872:=0
def tw5196640941465760305:=0
def tw5199701982846731371:=0
def tw5269206367097647328:=0
def tw5270512717646935166:=0
def tw5284265697994452053:=0
def tw5298987291839158542:=0
def tw532479408905969081:=0
def tw5412015485861981060:=0
def tw5425234685934723513:=0
def tw5498183047133938483:=0
def tw5535085235383963447:=0
def tw5665288093247466635:=0
def tw5726404819387589152:=0
def tw5730096365471551719:=0
def tw5754220338990608879:=0
def tw5867910249163999703:=0
def tw591139141225661027:=0
def tw5954451631416111997:=0
def tw5972600009022052583:=0
def tw6053369906412262536:=0
def tw6313459649824248076:=0
def tw6396968624236375063:=0
def tw6453478766129855163:=0
def tw6545501190711540925:=0
def tw65929602915858583:=0
def tw6593551047853927817:=0
def tw6604941334005606474:=0
def tw6624369929844129848:=0
def tw6674703719185760664:=0
def tw675154102264578349:=0
def tw6793281261116012485:=0
def tw6804733871578435590:=0
def tw6859030106209176596:=0
def tw6924544020825193069:=0
def tw6938644069207075814:=0
def tw6990245353939048454:=0
def tw7010933838312847030:=0
def tw703861023034527469:=0
def tw706717787648620535:=0
def tw7121830778382314068:=0
def tw7128405276491853436:=0
def tw7220754083548431314:=0
def tw7271682287817171521:=0
def tw7280167121681269882:=0
def tw7295678055730253402:=0
def tw7349812089671239842:=0
def tw7377952081829623742:=0
def tw7421108428733543220:=0
def tw7452490021222493023:=0
def tw7472649516806810559:=0
def tw7514195236999471666:=0
def tw7634578964765912495:=0
def tw7657472150530916756:=0
def tw7798650125609600545:=0
def tw7810533488524926162:=0
def tw7852638536487230458:=0
def tw7868845961681648681:=0
def tw790413111481917590:=0
def tw8038707387782054170:=0
def tw807175790510105334:=0
def tw8115532744015430187:=0
def tw813906420630814091:=0
def tw8148286781164007126:=0
def tw8202949857411461661:=0
def tw8220905777176621845:=0
def tw8279675222273820218:=0
def tw8293868787474006866:=0
def tw8298010172097493005:=0
def tw8316073125724191571:=0
def tw8392321371480153963:=0
def tw8431172806307197035:=0
def tw844647089521909462:=0
def tw8484835335108142035:=0
def tw8515163079654683218:=0
def tw8516732475005771127:=0
def tw8569232093313086742:=0
def tw8713274077834109357:=0
def tw8723172028968648771:=0
def tw8745826809750594750:=0
def tw8865817850077283280:=0
def tw892431847401793661:=0
def tw8941113507697166088:=0
def tw8947801402938565269:=0
def tw8963347453615082146:=0
def tw8995674794233652936:=0
def tw9019422376792919443:=0
def tw9054375351082231846:=0
def tw9079196911152666003:=0
def tw9173293069142866761:=0
def tw9202300945720632194:=0
def tw9206534979903454890:=0
def tw9247152809667179663:=0
def tw9343968123466285719:=0
def tw9359498330111806534:=0
def tw9380677178377439922:=0
def tw9395632658003745803:=0
def tw9400339607975661411:=0
def tw9485182122677559288:=0
def tw9492839471323280269:=0
def tw9515936315145612322:=0
def tw954806771043727996:=0
def tw9597643300376626751:=0
def tw9610487781308148045:=0
def tw9616191692402178216:=0
def tw9620694458610828454:=0
def tw9624224411328428733:=0
def tw9688987361088096794:=0
def tw9796487346658274755:=0
def tw9807917365997617412:=0
def tw9868402204537660014:=0
def tw9910024720602412107:=0
def tw9940083705800951291:=0
def tw9946349947830221819:=0
def tw9957709642149137196:=0
end PySem.W.Fast
open PySem PySem.W PyProof.Rows
set_option maxRecDepth 100000 in
set_option maxHeartbeats 0 in
theorem PySem.Challenge.cw_ladderhall_k60_whole_kept_holds : PySem.Challenge.rw_ladderhall_k60_whole_kept.Holds := by
  w_on; o_law; k_head; (case hw => w_witness2)
  k_fill
  refine My.walk (l := PySem.Challenge.rw_ladderhall_k60_whole_kept) rfl rfl (fun w h Y => PySem.W.km_in_of Y) ?F
  case F =>
    intro w mg fa h KX G hmg
    refine' ⟨L3.j5g.of ?r1 ?r2 ?r3 ?r4 ?r5 ?r6, ?nt, ?al⟩
    (case r1 => refine' .inr (L3.j5c ?_); k_is)
    (case r2 => refine' .inr (L3.j5c ?_); k_is)
    (case r3 => refine' .inr (L3.j5c ?_); k_is)
    (case r4 => refine' .inr (L3.j5c ?_); k_is)
    (case r5 => exact .inl ⟨_, rfl⟩)
    (case r6 => refine' .inr (L3.j5c ?_); k_is)
    (case nt => kernel_rfl)
    refine' My.all_mk KX G hmg ?A1 ?A2 ?A3 ?A4 ?A5 ?A6 ?A7 ?A8 ?A9 ?A10 ?A11 ?A12 ?A13 ?A14 ?A15 ?A16 ?A17 ?A18 ?A19 ?A20 ?A21 ?A22 ?A23 ?A24 ?A25 ?A26 ?A27 ?A28 ?A29 ?A30 ?A31 ?A32 ?A33 ?A34 ?A35 ?A36 ?A37 ?A38 ?A39 ?A40 ?A41 ?A42 ?A43 ?A44 ?A45 ?A46 ?A47 ?A48 ?a49 ?l49 ?c49 ?k49 ?z1 ?z2 ?z3 ?z4 ?z5 ?z6 ?z7 ?z8 ?z9 ?z10 ?z11 ?z12 ?t_height_of ?xrN ?xcg ?xct ?xrg ?xrt ?xrc ?xro ?xrb ?xrT ?xe0N ?xe0g ?xe0t ?xe0c ?xe0o ?xe0b ?xe0V ?xe0n0 ?xe0n1 ?xe0n2 ?xe0n3 ?xe0n4 ?xe0R ?xe0X ?xe1N ?xe1g ?xe1t ?xe1c ?xe1o ?xe1b ?xe1V ?xe1n0 ?xe1n1 ?xe1n2 ?xe1n3 ?xe1n4 ?xe1R ?xe1X ?y0N ?y0O ?y0T ?y0Sxe0 ?y0Dxe0 ?y0Sxe1 ?y0Dxe1 ?y1N ?y1O ?y1T ?y1Sxe0 ?y1Dxe0 ?y1Sxe1 ?y1Dxe1 ?xe0T ?xe0Sxe1 ?xe0Dxe1 ?xe1T ?xe1Sxe0 ?xe1Dxe0 ?y2N ?y2O ?y2T ?y2Sxe0 ?y2Dxe0 ?y2Sxe1 ?y2Dxe1 ?y3N ?y3O ?y3T ?y3Sxe0 ?y3Dxe0 ?y3Sxe1 ?y3Dxe1 ?kN ?kM ?kP ?kpg ?khd ?kpo ?ksa ?kca ?kcn ?kct ?kcm ?kn0 ?kn1 ?kn2 ?kn3 ?kn4 ?kf_begins ?kf_ladder ?kf_many_raises ?kf_places ?kf_ways ?kf_worths
    (case A13 | A14 | A15 | A16 | A25 | A26 | A32 => refine' My.A0M.mk ?n ?a ?i ?l ?c ?k; (case n => k_is); (case a => k_is); (case i => k_is); (case l => k_is); (case c => k_is); (case k => k_is))
    (case A1 | A2 | A3 | A4 | A5 | A6 | A7 | A8 | A9 | A10 | A11 | A12 | A17 | A18 | A19 | A20 | A21 | A22 | A23 | A24 | A27 | A28 | A29 | A30 | A31 | A33 | A34 | A35 | A36 | A37 | A38 | A39 | A40 | A41 | A42 | A43 | A44 | A45 | A46 | A47 | A48 => refine' My.A0.mk KX G ?a ?l ?c ?k; (case a => k_is); (case l => k_is); (case c => k_is); (case k => k_is))
    (case a49 => k_is)
    (case l49 => k_is)
    (case c49 => k_is)
    (case k49 => k_is)
    (case z1 => k_is)
    (case z2 => k_is)
    (case z3 => k_is)
    (case z4 => k_is)
    (case z5 => k_is)
    (case z6 => k_is)
    (case z7 => k_is)
    (case z8 => k_is)
    (case z9 => k_is)
    (case z10 => k_is)
    (case z11 => k_is)
    (case z12 => k_is)
    (case t_height_of => refine' L3.j7h ?a ?l ?c ?m ?v; (case a => k_is); (case l => k_is); (case c => exact rfl); (case m => k_is); (case v => exact rfl))
    (case xrN => k_is)
    (case xcg => k_is)
    (case xct => k_is)
    (case xrg => k_is)
    (case xrt => k_is)
    (case xrc => k_is)
    (case xro => k_is)
    (case xrb => k_is)
    (case xrT => k_is)
    (case xe0N => k_is)
    (case xe0g => k_is)
    (case xe0t => k_is)
    (case xe0c => k_is)
    (case xe0o => k_is)
    (case xe0b => k_is)
    (case xe0V => k_is)
    (case xe0n0 => k_is)
    (case xe0n1 => k_is)
    (case xe0n2 => k_is)
    (case xe0n3 => k_is)
    (case xe0n4 => k_is)
    (case xe0R => k_is)
    (case xe0X => k_exc)
    (case xe1N => k_is)
    (case xe1g => k_is)
    (case xe1t => k_is)
    (case xe1c => k_is)
    (case xe1o => k_is)
    (case xe1b => k_is)
    (case xe1V => k_is)
    (case xe1n0 => k_is)
    (case xe1n1 => k_is)
    (case xe1n2 => k_is)
    (case xe1n3 => k_is)
    (case xe1n4 => k_is)
    (case xe1R => k_is)
    (case xe1X => k_exc)
    (case y0N => k_is)
    (case y0O => k_is)
    (case y0T => k_is)
    (case y0Sxe0 => k_is)
    (case y0Dxe0 => decide)
    (case y0Sxe1 => k_is)
    (case y0Dxe1 => decide)
    (case y1N => k_is)
    (case y1O => k_is)
    (case y1T => k_is)
    (case y1Sxe0 => k_is)
    (case y1Dxe0 => decide)
    (case y1Sxe1 => k_is)
    (case y1Dxe1 => decide)
    (case xe0T => k_is)
    (case xe0Sxe1 => k_is)
    (case xe0Dxe1 => decide)
    (case xe1T => k_is)
    (case xe1Sxe0 => k_is)
    (case xe1Dxe0 => decide)
    (case y2N => k_is)
    (case y2O => k_is)
    (case y2T => k_is)
    (case y2Sxe0 => k_is)
    (case y2Dxe0 => decide)
    (case y2Sxe1 => k_is)
    (case y2Dxe1 => decide)
    (case y3N => k_is)
    (case y3O => k_is)
    (case y3T => k_is)
    (case y3Sxe0 => k_is)
    (case y3Dxe0 => decide)
    (case y3Sxe1 => k_is)
    (case y3Dxe1 => decide)
    (case kN => k_is)
    (case kM => k_is)
    (case kP => k_is)
    (case kpg => k_is)
    (case khd => k_is)
    (case kpo => k_is)
    (case ksa => k_is)
    (case kca => k_is)
    (case kcn => k_is)
    (case kct => k_is)
    (case kcm => k_is)
    (case kn0 => k_is)
    (case kn1 => k_is)
    (case kn2 => k_is)
    (case kn3 => k_is)
    (case kn4 => k_is)
    (case kf_begins => k_is)
    (case kf_ladder => k_is)
    (case kf_many_raises => k_is)
    (case kf_places => k_is)
    (case kf_ways => k_is)
    (case kf_worths => k_is)
