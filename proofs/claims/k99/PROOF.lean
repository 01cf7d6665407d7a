import PyProof.Rows.All
import Wide.All
import OpenK.AllK
import Wide.FinOn
import Lean
import PyProof.EqAt
import PyProof.EqKinds
import PyProof.TupleCall
import KE.KIsNot
import PyProof.ExcArgs
import OpenK.KOwn
import KE.LcSums
import PyProof.EnumMake
import PyProof.Draws
import PyProof.Rows.EnumRows
import PyProof.ExcBaseAll.ValueError
import PyProof.NsDelKeeps
import PyProof.Rows.SetFrom
import PyProof.WalksMore
import KE.KDictSum
import PyProof.Rows.MinMaxN
import PyProof.Rows.CallKwBuiltin
import KE.KMinKey
import KE.KSortKey
import PyProof.DictWalks
import PySem.SetOps
import PyProof.TupleKey
import PyProof.SetKind
import PyProof.IsRules
import PyProof.Rules
import PyProof.DictKinds
import KE.KSortAsk
import KE.KSortTup
import PyProof.PureInt
import PyProof.DictIter
import KE.KItemsList
import PyProof.DictUpdate
import PyProof.DictRoadsH
import PySem.Challenge.RW_ladderhall_k99_whole_edges_by_hand
set_option Elab.async false
set_option linter.all false
set_option maxRecDepth 100000
set_option maxHeartbeats 0
noncomputable section
def Qa:=@PySem.wpAny_bind
def Qb:=@PySem.wpAny_pure
def Qc:=@PySem.Heap.get?_push_of_some
def Qd:=@Nat.le_refl
def Qe:=@if_pos
def Qf:=@if_neg
def Qg:=@List.mem_cons_of_mem
def Qh:=@List.length_append
def Qi:=@List.mem_cons_self
def Qj:=@PySem.Heap.lt_size
def Qk:=@List.mem_append_right
def Ql:=@List.size_toArray
def Qm:=@PySem.Heap.get?_push_size
def Qn:=@List.mem_cons
def Qo:=@Nat.lt_of_lt_of_le
def Qp:=@PyProof.Rows.boot_tuple
def Qq:=@PySem.PassesOwn.never
def Qr:=@List.getElem?_eq_some_iff
def Qs:=@List.getElem?_append_left
def Qt:=@List.mem_singleton
def Qu:=@List.getElem?_map
def Qv:=@List.getElem?_eq_getElem
def Qw:=@PySem.mem_of_lookup
def Qx:=@List.getElem?_eq_none
def Qy:=@Option.some.inj
def Qz:=@List.length_cons
def QA:=@List.length_map
def QB:=@Nat.ne_of_lt
def QC:=@Nat.le_trans
def QF:=@PySem.wpAny_newObj_type
def QG:=@List.not_mem_nil
def QH:=@Bool.and_eq_true_iff
def QI:=@List.getElem?_set_self
def QJ:=@List.getElem?_set_ne
def QK:=@PyProof.Rows.slot_tuple_getitem
def QL:=@List.length_set
def QM:=@List.mem_append_left
def QN:=@List.getElem?_append_right
def QO:=@List.lookup_cons
def QP:=@Nat.lt_irrefl
def QR:=@List.mem_append
def QS:=@PySem.Heap.SameBut.update
def QT:=@List.mem_map
def QU:=@PySem.SeqAt.canLay_of_shaped
def QV:=@List.mem_range
def QW:=@Bool.false_ne_true
def QX:=@PySem.W.mg_none_of
def QY:=@List.length_replicate
def QZ:=@List.map_cons
def Q0:=@PySem.W.kia_one
def Q1:=@Nat.lt_succ_self
def Q2:=@List.length_eq_zero_iff
def Q3:=@PySem.F.slot_dict_keyiterator_next
def Q4:=@decide_eq_false
def Q5:=@Array.length_toList
def Q6:=@Nat.lt_succ_of_lt
def Q7:=@List.ext_getElem?
def Q8:=@PySem.wpAny_callSpecial?_slot
def Q9:=@List.filter_cons_of_pos
def Za:=@PySem.Calls.spliced_cons
def Zb:=@List.getD_eq_getElem?_getD
def Zc:=@List.length_take
def Zd:=@Option.map_eq_some_iff
def Ze:=@PySem.wpAny_mono
def Zf:=@PySem.wpAny_truthy_bool
def Zg:=@PySem.Heap.size_push
def Zh:=@decide_eq_true
def Zi:=@Nat.le_of_lt
def Zj:=@List.append_nil
def Zk:=@List.getElem?_replicate
def Zl:=@PySem.wpAny_dictEntries
def Zm:=@beq_eq_false_iff_ne
def Zn:=@List.replicate_succ
def Zo:=@List.nodup_cons
def Zp:=@PySem.F.slot_dict_get
def Zq:=@PySem.wpAny_call_entry
def Zr:=@PySem.tupleKind_room_in1
def Zs:=@beq_self_eq_true
def Zt:=@List.all_eq_true
def Zu:=@List.getElem_mem
def Zv:=@Option.isSome_iff_exists
def Zw:=@PySem.wpAny_holding
def Zx:=@List.mem_of_getElem?
def Zy:=@PySem.wpAny_typeNameOfWhole_keyiter
def Zz:=@decide_eq_true_eq
def ZA:=@List.filter_cons_of_neg
def ZB:=@Option.map_some
def ZC:=@List.length_zip
def ZD:=@List.map_append
def ZE:=@List.getElem?_range
def ZF:=@PyProof.Rows.callWith_type1
def ZG:=@PySem.Calls.callWith_builtin
def ZH:=@PySem.wpAny_field
def ZI:=@PySem.wpAny_Call_Name_kw
def ZJ:=@Bool.false_eq_true
def ZK:=@PySem.F.slot_tuple_iterator_next
def ZL:=@PySem.Heap.get?_update_self
def ZM:=@Array.getElem?_toList
def ZN:=@List.length_filter_le
def ZO:=@PySem.wpAny_passesOwn
def ZP:=@Nat.zero_le
def ZQ:=@PySem.Calls.spliced_nil
def ZR:=@PySem.Calls.evalArgs_plain
def ZS:=@List.reverse_cons
def ZT:=@List.flatten_cons
def ZU:=@List.map_nil
def ZV:=@List.map_map
def ZW:=@List.flatten_replicate_singleton
def ZX:=@PySem.Paired.length
def ZY:=@beq_iff_eq
def ZZ:=@List.getElem?_take_of_lt
def Z0:=@List.filterMap_cons
def Z1:=@List.length_drop
def Z2:=@Bool.and_eq_true
def Z3:=@PySem.F.plainAttrs_dict
def Z4:=@PySem.W.cellsFrom_some
def Z5:=@PySem.F.entry_dict_get
def Z6:=@PySem.wpAny_pyIter_tuple
def Z7:=@Nat.succ.inj
def Z8:=@PyProof.Rows.boot_list
def Z9:=@PySem.F.slot_int_rmul
def Ja:=@List.find?_cons
def Jb:=@Ne.symm
def Jc:=@PySem.F.typeOf_object_class
def Jd:=@List.length_range
def Je:=@Nat.le_succ
def Jf:=@PySem.call_meets
def Jg:=@PySem.codeAny_call_builtin
def Jh:=@Std.Legacy.Range.forIn_eq_forIn_range'
def Ji:=@PySem.Obj.data_mapDictKeys
def Jj:=@PySem.codeAny_mono
def Jk:=@PySem.F.slot_tuple_mul
def Jl:=@Nat.min_self
def Jm:=@PySem.wpAny_binaryOp_repeat_ref
def Jn:=@List.ne_nil_of_length_pos
def Jo:=@Array.getElem?_eq_getElem
def Jp:=@List.length_pos_iff
def Jq:=@PySem.F.args_dict_keyiterator_next_1
def Jr:=@PySem.F.args_tuple_add_2
def Js:=@if_false
def Jt:=@PySem.F.entry_dict_keyiterator_next
def Ju:=@List.mem_filter
def Jv:=@List.of_mem_zip
def Jw:=@List.nil_append
def Jx:=@PySem.pushCells_keeps
def Jy:=@PySem.wpAny_dictEpoch
def Jz:=@PySem.wpAny_rule
def JA:=@PySem.W.callWith_K
def JB:=@PySem.Obj.data_mapFields
def JC:=@PySem.F.entry_tuple_add
def JD:=@List.getElem?_cons_succ
def JE:=@PySem.F.slot_tuple_add
def JF:=@if_true
def JG:=@PySem.wpAny_typeOf
def JH:=@List.append_assoc
def JI:=@Nat.lt_trans
def JJ:=@PySem.call_meetsIn
def JK:=@PySem.wpAny_Call_method
def JL:=@PyProof.Rows.room_in_shaped
def JM:=@Int.toNat_natCast
def JN:=@PySem.F.slot_dict_iter
def JO:=@of_decide_eq_true
def JP:=@List.range_succ_eq_map
def JQ:=@List.take_succ_eq_append_getElem
def JR:=@PySem.W.methodCall_KW
def JS:=@PySem.wpAny_notOrdered_dict
def JT:=@PySem.typeIs_int
def JU:=@Nat.le_of_not_lt
def JV:=@List.range'_succ
def JW:=@List.take_length
def JX:=@List.mem_reverse
def JY:=@Bool.true_and
def JZ:=@congrArg
def J0:=@PySem.wpAny_execs_nil
def J1:=@PySem.codeAny_builtin
def J2:=@PySem.F.args_tuple_iterator_next_1
def J4:=@PySem.size_of_entries
def J5:=@PySem.F.slot_dict_setdefault
def J6:=@List.set_append
def J7:=@PySem.W.plainGet_of
def J8:=@PyProof.Rows.entry_tuple_getitem
def J9:=@PySem.F.slot_gs_get
def Ya:=@List.length_reverse
def Yb:=@PySem.Obj.isFreed_of_dict
def Yc:=@PySem.F.entry_tuple_iterator_next
def Yd:=@PySem.Calls.Name_function_global
def Ye:=@PyProof.Rows.assignInOrder_cons
def Yf:=@PySem.wpAny_call
def Yg:=@PyProof.Rows.slicePart_none
def Yh:=@PyProof.Rows.args_tuple_getitem
def Yi:=@PySem.F.excAttr_ValueError
def Yj:=@List.getElem?_take_eq_none
def Yk:=@PySem.wpAny_setField
def Yl:=@PySem.F.args_tuple_mul_2
def Ym:=@List.zip_cons_cons
def Yn:=@Int.emod_lt_of_pos
def Yo:=@List.drop_eq_getElem_cons
def Yp:=@PySem.W.kitx_list
def Yq:=@PySem.wpAny_sequenceKey
def Yr:=@PySem.F.args_int_rmul_2
def Ys:=@PySem.F.entry_tuple_mul
def Yt:=@List.nodup_append
def Yu:=@List.foldl_append
def Yv:=@Function.comp_def
def Yw:=@List.any_cons
def Yx:=@PySem.wpAny_attempt
def Yy:=@PySem.F.slot_tuple_index
def Yz:=@PySem.F.slot_dict_update
def YA:=@PySem.W.mg_of
def YB:=@PySem.noFill_tuple_add
def YC:=@PySem.F.slot_int_index
def YD:=@PySem.F.entry_int_rmul
def YE:=@PySem.F.args_dict_get_2
def YF:=@PySem.F.args_dict_get_3
def YG:=@PySem.AutoSeq1.idx_int
def YH:=@List.any_eq_true
def YI:=@decide_eq_decide
def YJ:=@List.map_reverse
def YK:=@PySem.concat_meets
def YL:=@Nat.not_lt
def YM:=@Nat.sub_zero
def YN:=@List.take_of_length_le
def YO:=@Array.getElem?_eq_none
def YQ:=@List.all_map
def YR:=@PySem.F.fills_int_mul
def YS:=@Nat.not_lt_zero
def YT:=@Nat.le_antisymm
def YU:=@Int.emod_nonneg
def YV:=@PySem.F.type_dict_get
def YW:=@Bool.beq_eq_decide_eq
def YX:=@PySem.sizeLine_eq
def YY:=@PySem.boot_len
def YZ:=@List.drop_zero
def Y0:=@Int.toNat_of_nonneg
def Y1:=@Bool.not_true
def Y2:=@List.all_cons
def Y3:=@Nat.ne_of_gt
def Y4:=@Nat.le_of_eq
def Y5:=@Nat.mul_comm
def Y6:=@Nat.zero_max
def Y7:=@Sum.inr.inj
namespace L2
open PySem PySem.Spec PyProof.Rows
variable {A:Around}{C a b dx it:Addr}{E Q:Value->Shared->Prop}{K:PySem.W.Frag}{M:Model}{N ps:List Str}{P:Program}{base h:Heap}{body:List Stmt}{c e tg:Expr}{es:List Expr}{f:Value->Value->Sem Value}{fp:List Addr}{g:Int->Int->Int}{i j n:Nat}{kindOf:Str->Option NameKind}{kw:List (Str×Value)}{m qual x:Str}{mA mg:Str->Option Value}{o:Obj}{op k6:CmpOp}{outer:List Env}{pins:List (Addr×Obj)}{pl:Sem Bool}{s s':Shared}{sc scope:Scope}{u v:Value}{us:List Value}{w:World}
abbrev Key:=Sum Int Str
def sU:Key->Value->Bool
 | .inl k,v=>Value.isInt k v
 | .inr x,v=>Value.isStrOf x v
def Kq (w:World):Key->Int
 | .inl k=>hashInt k
 | .inr x=>hashStr w x
theorem om:∀ {k:Key} {v:Value},sU k v=true->(∃ i t,k=Sum.inl i/\v=Value.int i t)\/(∃ x t,k=Sum.inr x/\v=Value.str x t)
 | .inl i,v,h=>by
  obtain⟨t,e⟩:=Value.isInt_shape (k:=i) (v:=v) h
  exact .inl ⟨i,t,rfl,e⟩
 | .inr x,v,h=>by
  obtain⟨t,e⟩:=Value.isStrOf_shape (x:=x) (v:=v) h
  exact .inr ⟨x,t,rfl,e⟩
theorem Kr(i:Int)(t:Tok):sU (.inl i) (.int i t)=true:=by simp[sU,Value.isInt]
theorem Ks(x:Str)(t:Tok):sU (.inr x) (.str x t)=true:=by simp[sU,Value.isStrOf]
theorem Ku(a b:Int):decide ((Sum.inl a:Key)=Sum.inl b)=(a==b):=by
 by_cases e:a=b
 ·subst e;simp
 ·have h:¬ (Sum.inl a:Key)=Sum.inl b:=fun q=>e (Sum.inl.inj q)
  rw[Q4 h]
  exact(Zm.mpr e).symm
theorem Kv(a b:Str):decide ((Sum.inr a:Key)=Sum.inr b)=decide (a=b):=by
 by_cases e:a=b
 ·subst e;simp
 ·have h:¬ (Sum.inr a:Key)=Sum.inr b:=fun q=>e (Y7 q)
  rw[Q4 h,Q4 e]
theorem Kw(a:Int)(b:Str):decide ((Sum.inl a:Key)=Sum.inr b)=false:=Q4 (fun q=>nomatch q)
theorem Kx(a:Str)(b:Int):decide ((Sum.inr a:Key)=Sum.inl b)=false:=Q4 (fun q=>nomatch q)
def gW (prog:Program)(w:World):PySem.KeyKind prog w Key where
 is:=sU
 hash:=Kq w
 inj:=fun v a b ha hb=>by
  rcases om ha with⟨i,t,rfl,rfl⟩|⟨x,t,rfl,rfl⟩
  ·rcases om hb with⟨j,u,rfl,e⟩|⟨y,u,rfl,e⟩
   ·injection e with e1 _;rw[e1]
   ·exact nomatch e
  ·rcases om hb with⟨j,u,rfl,e⟩|⟨y,u,rfl,e⟩
   ·exact nomatch e
   ·injection e with e1 _;rw[e1]
 byValue:=fun k v h=>by
  rcases om h with⟨i,t,rfl,rfl⟩|⟨x,t,rfl,rfl⟩<;>rfl
 pyHash:=fun hv h=>by
  rcases om hv with⟨i,t,rfl,rfl⟩|⟨x,t,rfl,rfl⟩
  ·exact wpAny_pyHash_int h
  ·exact wpAny_pyHash_str h
 eqBool:=fun hu hv h=>by
  rcases om hu with⟨i,t,rfl,rfl⟩|⟨x,t,rfl,rfl⟩
  ·rcases om hv with⟨j,u,rfl,rfl⟩|⟨y,u,rfl,rfl⟩
   ·rw[Ku]at h;exact wpAny_eqBool_int h
   ·rw[Kw]at h;exact SeqAt.EqAt.int_str i t y u _ _ _ _ h
  ·rcases om hv with⟨j,u,rfl,rfl⟩|⟨y,u,rfl,rfl⟩
   ·rw[Kx]at h;exact SeqAt.EqAt.str_int x t j u _ _ _ _ h
   ·rw[Kv]at h;exact wpAny_eqBool_str h
 «strs»:=fun k x t v h=>by
  rcases om h with⟨i,u,rfl,e⟩|⟨y,u,rfl,e⟩
  ·exact nomatch e
  ·injection e with e1 _
   subst e1
   cases v<;>rfl
theorem Ky(prog:Program)(w:World)(i:Int)(t:Tok):(gW prog w).is (.inl i) (.int i t)=true:=Kr i t
theorem Kz(prog:Program)(w:World)(x:Str)(t:Tok):(gW prog w).is (.inr x) (.str x t)=true:=Ks x t
inductive V where
 | aX|bl (b:Bool)|int (i:Int)|str (x:Str)|sV (b:Array UInt8)|qR (b:UInt64)|ref (a:Addr)|ty (n:String)
 deriving DecidableEq
def bq:V->Value->Prop
 | .aX,u=>u=Value.none
 | .bl b,u=>u=Value.bool b
 | .int i,u=>∃ t,u=Value.int i t
 | .str x,u=>∃ t,u=Value.str x t
 | .sV b,u=>∃ t,u=Value.bytes b t
 | .qR b,u=>∃ t,u=Value.float b t
 | .ref a,u=>u=Value.ref a
 | .ty n,u=>u=Value.type n
abbrev bf:List V->List Value->Prop:=Paired bq
theorem bf.length{xs:List V}(r:bf xs us):xs.length=us.length:=ZX r
theorem bf.get:∀ {xs:List V} {us:List Value} {i:Nat} {x:V},bf xs us->xs[i]? = some x->∃ u,us[i]? = some u/\bq x u
 | _,_,_,_,.nil,e=>by simp at e
 | _,_,0,_,.cons r _,e=>by simp at e;subst e;exact⟨_,rfl,r⟩
 | _,_,i+1,x,.cons _ t,e=>by
  obtain⟨u,h1,h2⟩:=bf.get (i:=i) (x:=x) t (by simpa using e)
  exact⟨u,by simpa using h1,h2⟩
theorem bf.append:∀ {xs ys:List V} {us ws:List Value},bf xs us->bf ys ws->bf (xs++ys) (us++ws)
 | _,_,_,_,.nil,s=>s
 | _,_,_,_,.cons r t,s=>.cons r (bf.append t s)
theorem bf.take:∀ {xs:List V} {us:List Value} (n:Nat),bf xs us->bf (xs.take n) (us.take n)
 | _,_,0,_=>.nil
 | _,_,_+1,.nil=>.nil
 | _,_,n+1,.cons r t=>.cons r (bf.take n t)
theorem bf.drop:∀ {xs:List V} {us:List Value} (n:Nat),bf xs us->bf (xs.drop n) (us.drop n)
 | _,_,0,r=>r
 | _,_,_+1,.nil=>.nil
 | _,_,n+1,.cons _ t=>bf.drop n t
def jf:Option V->Option Value->Prop
 | some v,some u=>bq v u
 | none,none=>True
 | _,_=>False
def KV {κ:Type}:List (κ×V)->List (κ×Value)->Prop:=Paired fun(p:κ×V) (q:κ×Value)=>p.1=q.1/\bq p.2 q.2
def kV:Key->V
 | .inl i=>.int i
 | .inr x=>.str x
inductive HO where
 | lst (xs:List V)
 | tup (xs:List V)
 | dK (ai:List (Key×V))|dT (ai:List (List Key×V))
 | set (S:Int->Bool) (n:Nat)
 | ins (C dx:Addr) (fs:List (Str×V))
 | own (x:Addr)
 | xd (fs:List (Str×V))
 | met (f x:Addr)
 | mn (lo hi:Int)
 | cu (o:Obj) (u:HO)
 | dJ (ps:Array Value)
 | ext (φ:Heap->Prop)
abbrev Hp:=Addr->Option HO
def upd (H:Hp)(a:Addr)(o:HO):Hp:=fun b=>if b=a then some o else H b
theorem de{H:Hp}{o:HO}:upd H a o a=some o:=by unfold upd;rw[Qe rfl]
theorem aR{H:Hp}{o:HO}(h:b≠a):upd H a o b=H b:=by unfold upd;rw[Qf h]
theorem KA{H:Hp}{o u:HO}:upd (upd H a o) a u=upd H a u:=by
 funext b;unfold upd;split<;>rfl
theorem zf{H:Hp}{o u:HO}(h:H a=some o)(h':H b=some u)(d:o≠u):a≠b:=by
 intro e;subst e;rw[h]at h';exact d (Qy h')
theorem eQ{H:Hp}{o:HO}(h:H a=some o)(h':H b=none):a≠b:=by
 intro e;subst e;rw[h]at h';cases h'
def j7 (h:Heap)(a:Addr)(items:Array Value):Prop:=∃ o,h.get? a=some o/\o.cls=.type "tuple" /\ (∃ n,o.data=.seq items n)/\o.dict=none
theorem j7.tup{h:Heap}{a:Addr}{items:Array Value}(x:j7 h a items):IsTup h a items:=let ⟨o,e,c,n,_⟩:=x;⟨o,e,c,n⟩
theorem j7.new(h:Heap)(items:Array Value):j7 (h.push { cls:=.type "tuple",data:=.seq items }) h.objs.size items:=⟨_,Qm _ rfl,rfl,⟨_,rfl⟩,rfl⟩
theorem j7.lt{items:Array Value}(x:j7 h a items):a<h.objs.size:=let ⟨_,e,_⟩:=x;Qj e
section
variable (P:Program)(w:World)
def cJ (H:Hp)(h:Heap)(a:Addr):HO->Prop
 | .lst xs=>xs.length<=sizeLine/\∃ (au:List Value) (n:Nat),bf xs au/\h.get? a=some { cls:=.type "list",data:=.seq au.toArray n }
 | .tup xs=>xs.length<=sizeLine/\∃ au:List Value,bf xs au/\j7 h a au.toArray
 | .dK ai=>ai.length<=sizeLine/\(a==sysModules)=false/\∃ vs,KV ai vs/\h.DictOf (gW P w) a vs
 | .dT ai=>ai.length<=sizeLine/\(a==sysModules)=false/\∃ xs:List (List Key×Addr×Value),
   Paired (fun(p:List Key×V) (q:List Key×Addr×Value)=>p.1=q.1/\H q.2.1=some (.tup (p.1.map kV))/\bq p.2 q.2.2) ai xs /\
   ∃ o es ep,h.get? a=some o/\o.ExactDict/\o.data=.dict es ep/\es.toList=xs.map (entryOfKey (tupleKind (gW P w)))/\(xs.map (·.1)).Nodup
 | .set S n=>h.SetOf (intKind P w) a S n
 | .ins C dx fs=>H dx=some (.own a)/\fs.length<=1000/\dx≠a/\h.get? a=some (PySem.W.instObj C dx) /\
   ∃ mA,h.Ns1 dx mA/\(∀ f,jf (fs.lookup f) (mA f))/\PySem.Within mA (fs.map (·.1))
 | .own _=>∃ o,h.get? a=some o
 | .xd fs=>∃ mA,h.Ns1 a mA/\∀ f,jf (fs.lookup f) (mA f)
 | .mn lo hi=>∃ t u v,h.get? a=some { cls:=.type "range",data:=.fields #[.int lo t,.int hi u,.int 1 v] }
 | .cu o u=>h.get? a=some o/\cJ H h a u
 | .dJ ps=>h.get? a=some { cls:=.none,data:=.fields ps }
 | .met f x=>h.get? a=some (PySem.W.methodObj (.ref f) (.ref x))
 | .ext φ=>φ h/\(∃ o,h.get? a=some o)/\∀ h1 h2:Heap,φ h1->(∀ o,h1.get? a=some o->h2.get? a=some o)->φ h2
def df (H:Hp)(h:Heap):Prop:=∀ a o,H a=some o->cJ P w H h a o
end
section
variable {P:Program}{w:World}{H H':Hp}{h h':Heap}{a:Addr}{o:HO}
theorem cJ.lt(x:cJ P w H h a o):a<h.objs.size:=by
 cases o with
 | lst xs=>obtain⟨_,_,_,_,e⟩:=x;exact Qj e
 | tup xs=>obtain⟨_,_,_,p⟩:=x;exact p.lt
 | dK ai=>obtain⟨_,_,_,_,o,_,_,e,_⟩:=x;exact Qj e
 | dT ai=>obtain⟨_,_,_,_,o,_,_,e,_⟩:=x;exact Qj e
 | set S n=>obtain⟨o,_,_,_,e,_⟩:=x;exact Qj e
 | ins C dx fs=>obtain⟨_,_,_,e,_⟩:=x;exact Qj e
 | own y=>obtain⟨_,e⟩:=x;exact Qj e
 | xd fs=>obtain⟨_,⟨_,_,_,e,_⟩,_⟩:=x;exact Qj e
 | mn lo hi=>obtain⟨_,_,_,e⟩:=x;exact Qj e
 | cu ob u=>obtain⟨e,_⟩:=x;exact Qj e
 | dJ ps=>exact Qj (show h.get? a=some _ from x)
 | met f y=>exact Qj (show h.get? a=some _ from x)
 | ext φ=>obtain⟨_,⟨_,e⟩,_⟩:=x;exact Qj e
theorem Paired.qS{α β:Type}{F G:α->β->Prop}:∀ {uf:List α} {ug:List β},Paired F uf ug->(∀ a b,F a b->G a b)->Paired G uf ug
 | _,_,.nil,_=>.nil
 | _,_,.cons r t,f=>.cons (f _ _ r) (Paired.qS t f)
theorem cJ.jo(x:cJ P w H h a o)(k:∀ b u,(b=a\/H b=some (.own a))->h.get? b=some u->h'.get? b=some u)
  (ho:∀ b,H b=some (.own a)->H' b=some (.own a)) (ht:∀ b xs,H b=some (.tup xs)->H' b=some (.tup xs)):cJ P w H' h' a o:=by
 induction o with
 | lst xs=>obtain⟨z,au,n,r,e⟩:=x;exact⟨z,au,n,r,k _ _ (.inl rfl) e⟩
 | tup xs=>obtain⟨z,au,r,ob,e,c⟩:=x;exact⟨z,au,r,ob,k _ _ (.inl rfl) e,c⟩
 | dK ai=>obtain⟨z,y,vs,r,ob,es,ep,e,c⟩:=x;exact⟨z,y,vs,r,ob,es,ep,k _ _ (.inl rfl) e,c⟩
 | dT ai=>
  obtain⟨z,y,xs,r,ob,es,ep,e,c⟩:=x
  exact⟨z,y,xs,Paired.qS r fun p q z=>⟨z.1,ht _ _ z.2.1,z.2.2⟩,ob,es,ep,k _ _ (.inl rfl) e,c⟩
 | set S n=>obtain⟨ob,es,ep,t,e,c⟩:=x;exact⟨ob,es,ep,t,k _ _ (.inl rfl) e,c⟩
 | ins C dx fs=>
  obtain⟨d,z,ne,e,mA,⟨od,es,ep,e2,c⟩,r⟩:=x
  exact⟨ho _ d,z,ne,k _ _ (.inl rfl) e,mA,⟨od,es,ep,k _ _ (.inr d) e2,c⟩,r⟩
 | own y=>obtain⟨ob,e⟩:=x;exact⟨ob,k _ _ (.inl rfl) e⟩
 | xd fs=>obtain⟨mA,⟨od,es,ep,e,c⟩,r⟩:=x;exact⟨mA,⟨od,es,ep,k _ _ (.inl rfl) e,c⟩,r⟩
 | mn lo hi=>obtain⟨t,u,v,e⟩:=x;exact⟨t,u,v,k _ _ (.inl rfl) e⟩
 | cu ob u ih=>obtain⟨e,q⟩:=x;exact⟨k _ _ (.inl rfl) e,ih q⟩
 | dJ ps=>
  have e:h.get? a=some { cls:=.none,data:=.fields ps }:=x
  show h'.get? a=some { cls:=.none,data:=.fields ps }
  exact k a _ (.inl rfl) e
 | met f y=>
  have e:h.get? a=some (PySem.W.methodObj (.ref f) (.ref y)):=x
  show h'.get? a=some (PySem.W.methodObj (.ref f) (.ref y))
  exact k a _ (.inl rfl) e
 | ext φ=>obtain⟨p,⟨o,e⟩,st⟩:=x;exact⟨st _ _ p fun o q=>k _ _ (.inl rfl) q,⟨o,k _ _ (.inl rfl) e⟩,st⟩
theorem df.lt(x:df P w H h)(e:H a=some o):a<h.objs.size:=(x a o e).lt
theorem df.fresh(x:df P w H h)(e:h.objs.size<=a):H a=none:=by
 cases q:H a with
 | none=>rfl
 | some u=>exact absurd (Qo (x.lt q) e) (QP _)
theorem df.kept(x:df P w H h)(k:∀ b u,h.get? b=some u->h'.get? b=some u):df P w H h':=fun a o e=>
 (x a o e).jo (fun b u _ q=>k b u q) (fun _ q=>q) fun _ _ q=>q
theorem df.laid(x:df P w H h)(k:∀ b u,h.get? b=some u->h'.get? b=some u)(hp:h.objs.size<=a)(new:cJ P w (upd H a o) h' a o):df P w (upd H a o) h':=fun b u e=>by
 have hn:=x.fresh hp
 by_cases hb:b=a
 ·subst hb;rw[de]at e;cases e;exact new
 ·rw[aR hb]at e
  exact(x b u e).jo (fun c v _ q=>k c v q) (fun c q=>by rw[aR (eQ q hn)];exact q) fun c xs q=>by rw[aR (eQ q hn)];exact q
end
def Rd (H:Hp)(a:Addr)(u:HO):Prop:=H a=some u\/∃ o,H a=some (.cu o u)
theorem Rd.of{H:Hp}{u:HO}(h:H a=some u):Rd H a u:=.inl h
theorem Rd.ok{H:Hp}{u:HO}(r:Rd H a u)(x:df P w H h):cJ P w H h a u:=by
 rcases r with r|⟨o,r⟩
 ·exact x a u r
 ·obtain⟨_,q⟩:=x a _ r
  exact q
def uh:Option HO->Prop
 | some (.lst _)=>True
 | some (.dK _)=>True
 | some (.dT _)=>True
 | some (.set _ _)=>True
 | some (.ins _ _ _)=>True
 | some (.ext _)=>True
 | _=>False
section
variable {P:Program}{w:World}{H:Hp}{h h':Heap}{x e:Addr}{o':HO}
theorem df.write(ok:df P w H h)(mu:uh (H x))(he:e=x\/H e=some (.own x))(k:∀ b u,b≠e->h.get? b=some u->h'.get? b=some u)(sW:∃ u,h'.get? e=some u)
  (new:cJ P w (upd H x o') h' x o'):df P w (upd H x o') h':=fun b u q=>by
 have ui:∀ c y,H c=some (.own y)->c≠x:=fun c y r z=>by subst z;rw[r]at mu;exact mu
 have zg:∀ c xs,H c=some (.tup xs)->c≠x:=fun c xs r z=>by subst z;rw[r]at mu;exact mu
 by_cases hb:b=x
 ·subst hb;rw[de]at q;cases q;exact new
 ·rw[aR hb]at q
  by_cases qT:b=e
  ·have q':H b=some (.own x):=by
    rcases he with z|z
    ·exact absurd (qT.trans z) hb
    ·rw[qT];exact z
   rw[q]at q';cases q'
   obtain⟨v,hv⟩:=sW
   exact⟨v,by rw[qT];exact hv⟩
  ·refine(ok b u q).jo (fun c v hc r=>k c v ?_ r) (fun c r=>by rw[aR (ui c b r)];exact r) fun c xs r=>by rw[aR (zg c xs r)];exact r
   rcases hc with rfl|hc
   ·exact qT
   ·rintro rfl
    rcases he with z|z
    ·exact ui c b hc z
    ·rw[hc]at z;cases z;exact hb rfl
end
structure Un (fs ex:List Addr) (H H':Hp) (h h':Heap):Prop where
 keep:∀ b o,h.get? b=some o->H b=none->b ∉ fs->b ∉ ex->h'.get? b=some o
 slot:∀ b o,h.get? b=some o->H b=none->b∈fs->b ∉ ex->∃ sl,h'.get? b=some { o with slots:=sl }
 free:∀ b o,h.get? b=some o->H b=none->b ∉ ex->H' b=none
 there:∀ b o,h.get? b=some o->b ∉ ex->∃ o',h'.get? b=some o'
 iJ:∀ b xs,H b=some (.tup xs)->H' b=some (.tup xs)
 g8:∀ b o u,H b=some (.cu o u)->H' b=some (.cu o u)
 g9:∀ b ps,H b=some (.dJ ps)->∃ more,H' b=some (.dJ (ps++more))
section
variable {fs dh ex ex':List Addr}{H H1 H2:Hp}{h h1 h2 h':Heap}{a x e:Addr}{o:HO}
theorem Un.any(u:Un fs ex H H1 h h1){ob:Obj}(q:h.get? b=some ob)(n:H b=none)(hx:b ∉ ex):∃ sl,h1.get? b=some { ob with slots:=sl }:=by
 by_cases hb:b∈fs
 ·exact u.slot b ob q n hb hx
 ·exact⟨ob.slots,u.keep b ob q n hb hx⟩
theorem Un.kept(k:∀ b u,h.get? b=some u->h'.get? b=some u):Un fs ex H H h h':=
 ⟨fun b ob q _ _ _=>k b ob q,fun b ob q _ _ _=>⟨ob.slots,k b ob q⟩,fun _ _ _ n _=>n,fun b ob q _=>⟨ob,k b ob q⟩,fun _ _ q=>q,fun _ _ _ q=>q,fun _ ps q=>⟨#[],by rw[q];simp⟩⟩
theorem Un.refl:Un fs ex H H h h:=Un.kept fun _ _ q=>q
theorem Un.laid(k:∀ b u,h.get? b=some u->h'.get? b=some u)(hp:h.objs.size<=a)(hn:H a=none):Un fs ex H (upd H a o) h h' where
 keep:=fun b u q _ _ _=>k b u q
 slot:=fun b u q _ _ _=>⟨u.slots,k b u q⟩
 free:=fun b u q n _=>by rw[aR (QB (Qo (Qj q) hp))];exact n
 there:=fun b u q _=>⟨u,k b u q⟩
 iJ:=fun b xs q=>by rw[aR (eQ q hn)];exact q
 g8:=fun b u xs q=>by rw[aR (eQ q hn)];exact q
 g9:=fun b ps q=>⟨#[],by rw[aR (eQ q hn),q];simp⟩
theorem Un.write(mu:uh (H x))(he:e=x\/H e=some (.own x))(k:∀ b u,b≠e->h.get? b=some u->h'.get? b=some u)(sW:∃ u,h'.get? e=some u):Un fs ex H (upd H x o) h h':=by
 have hx:∀ b,H b=none->b≠x:=fun b n z=>by subst z;rw[n]at mu;exact mu
 have hb:∀ b,H b=none->b≠e:=fun b n z=>by
  subst z
  rcases he with r|r
  ·exact hx b n r
  ·rw[n]at r;cases r
 have hm:∀ b u,H b=some u->¬ uh (some u)->b≠x:=fun b u q nm z=>by subst z;rw[q]at mu;exact nm mu
 refine⟨fun b u q n _ _=>k b u (hb b n) q,fun b u q n _ _=>⟨u.slots,k b u (hb b n) q⟩,fun b u q n _=>by rw[aR (hx b n)];exact n,fun b u q _=>?_,
  fun b xs q=>by rw[aR (hm b _ q fun z=>z)];exact q,fun b u xs q=>by rw[aR (hm b _ q fun z=>z)];exact q,fun b ps q=>⟨#[],by rw[aR (hm b _ q fun z=>z),q];simp⟩⟩
 by_cases qT:b=e
 ·subst qT;exact sW
 ·exact⟨u,k b u qT q⟩
end
def uj (h:Heap)(H:Hp):List Addr:=(List.range h.objs.size).filter fun a=>(H a).isSome
def nG (h:Heap)(H:Hp):Heap:=PySem.W.hideAll h (uj h H)
theorem KC(h:Heap)(H:Hp):(nG h H).objs.size=h.objs.size:=PySem.W.hideAll_size _ _
theorem KD{H:Hp}(e:h.get? b=some o)(n:H b=none):(nG h H).get? b=some o:=
 PySem.W.hideAll_get _ e fun hm=>by
  have q:(H b).isSome=true:=(Ju.mp hm).2
  rw[n]at q;simp at q
theorem KG{H:Hp}(e:(nG h H).get? b=some o):h.get? b=some o/\H b=none:=by
 have e':h.get? b=some o:=PySem.W.of_hideAll (uj h H) e
 refine⟨e',?_⟩
 cases q:H b with
 | none=>rfl
 | some x=>
  have hm:b∈uj h H:=Ju.mpr ⟨QV.mpr (Qj e'),by simp[q]⟩
  have z:(nG h H).get? b=none:=PySem.W.hideAll_none (uj h H) hm
  rw[z]at e;cases e
def KH (g h:Heap)(L:Addr):List (Addr×Obj):=(List.range h.objs.size).filterMap fun a=>if a=L\/(g.get? a).isSome=true then none else(h.get? a).map fun o=>(a,o)
def bE (g h:Heap)(L d:Addr):List (Addr×Obj):=(KH g h L).filter fun p=>decide (p.1≠d)
structure Mod (K:PySem.W.Frag) (mg:Str->Option Value) (base:Heap):Prop where
 sX:K.In base
 glob:base.Ns mainGlobals mg
 blt:∃ mb,base.Ns builtinsNs mb/\∀ x:Str,x ≠ "__name__"->mb x=bootBuiltins x
 nolimit:base.NoLimit
structure Cx where
 prog:Program
 w:World
 K:PySem.W.Frag
 mg:Str->Option Value
 base:Heap
 A:Around
 N:List Str
 bA:Shared
 cU:Hp
 env:Env
 outer:List Env
 stack:List Env
 ex:List Addr
 fn:Str->Bool
 calm:Bool
 pn:List (Addr×Obj)
 xe:Value->Shared->Prop
def iK (l:List Env):List Addr:=l.filterMap (·.frame)
abbrev Cx.fs (X:Cx):List Addr:=iK X.outer
def sY (sc:Scope)(x:Str):Prop:=sc.names.lookup x=some .local\/sc.names.lookup x=some .cell\/sc.names.lookup x=some .free
def Loc (sc:Scope)(x:Str):Prop:=sc.names.lookup x=some .local\/sc.names.lookup x=some .cell
def KI (env:Env)(h:Heap)(m:Str->Option Value)(x:Str)(u:Value):Prop:=
 (env.kindOf x=some .local/\m x=some u)\/((env.kindOf x=some .cell\/env.kindOf x=some .free)/\∃ c,env.cells.lookup x=some c/\h.IsCell c (some u))
structure Cx.Ok (X:Cx):Prop where
 mod:Mod X.K X.mg X.base
 kind:X.env.scope.kind=.function
 glob:X.env.globals=mainGlobals
 blt:X.env.builtins=builtinsNs
 above:X.bA.heap.objs.size<=X.env.locals
 inj:∀ x y c,X.env.cells.lookup x=some c->X.env.cells.lookup y=some c->x=y
 has:∀ x,(X.env.kindOf x=some .cell\/X.env.kindOf x=some .free)->∃ c,X.env.cells.lookup x=some c
 sZ:∀ x c,X.fn x=true->X.env.cells.lookup x=some c->X.bA.heap.objs.size<=c
 hd:X.calm=true->X.A.handled=none
 frames:X.A.frames=some X.stack
 w_:X.stack=X.outer\/(X.stack=X.env::X.outer/\X.env.frame=some X.env.locals)
 zh:∀ b∈X.ex,b≠X.env.locals/\∀ x c,X.env.cells.lookup x=some c->c≠b
 bs:∀ b o,X.base.get? b=some o->X.bA.heap.get? b=some o/\X.cU b=none
 lP:X.base.objs.size<=X.bA.heap.objs.size
 mq:∀ b o,X.base.get? b=some o->b ∉ X.ex
 mr:∀ b∈X.ex,b ∉ X.fs
 eo:X.bA.heap.FunFrames X.base X.outer
 pN:∀ b∈X.fs,X.cU b=none
structure Inv (X:Cx) (pins:List (Addr×Obj)) (σ:List (Option V)) (H:Hp) (s:Shared):Prop where
 ok:X.Ok
 os:s.os=X.bA.os
 bare:AllBare s.gens
 base:Un X.fs X.ex X.cU H X.bA.heap s.heap
 loc:∃ m,s.heap.Ns X.env.locals m/\∀ (i:Nat) (x:Str) (v:V),X.N[i]? = some x->σ[i]? = some (some v)->sY X.env.scope x->∃ u,bq v u/\KI X.env s.heap m x u
 cell:∀ x c,X.env.cells.lookup x=some c->∃ v,s.heap.IsCell c v
 free:H X.env.locals=none
 cQ:∀ x c,X.env.cells.lookup x=some c->H c=none
 pin:∀ p∈X.pn++pins,s.heap.get? p.1=some p.2/\H p.1=none/\p.1≠X.env.locals/\p.1 ∉ X.fs/\∀ v,p.2.data ≠ .cell v
 aA:df X.prog X.w H s.heap
 len:σ.length=X.N.length
section
variable {X:Cx}{pins:List (Addr×Obj)}{σ:List (Option V)}{H H':Hp}{s:Shared}{h':Heap}
theorem Cx.Ok.zi(ok:X.Ok)(e:X.base.get? b=some o):b ∉ X.fs:=fun hb=>by
 have:=(ok.eo.mem hb).1
 rw[e]at this;cases this
theorem Inv.bs(I:Inv X pins σ H s):∀ b o,X.base.get? b=some o->s.heap.get? b=some o/\H b=none:=fun b o e=>
 ⟨I.base.keep b o (I.ok.bs b o e).1 (I.ok.bs b o e).2 (I.ok.zi e) (I.ok.mq b o e),I.base.free b o (I.ok.bs b o e).1 (I.ok.bs b o e).2 (I.ok.mq b o e)⟩
theorem Inv.bk(I:Inv X pins σ H s):∀ b o,X.base.get? b=some o->s.heap.get? b=some o:=fun b o e=>(I.bs b o e).1
theorem Inv.mod(I:Inv X pins σ H s):Mod X.K X.mg X.base:=I.ok.mod
theorem Inv.dW(I:Inv X pins σ H s):X.K.In s.heap:=I.ok.mod.sX.keeps I.bk
theorem Inv.fr(I:Inv X pins σ H s):∃ m,Fr X.base X.env.locals s.heap m:=
 let ⟨m,hn,_⟩:=I.loc
 ⟨m,hn,I.bk,QC I.ok.lP I.ok.above⟩
theorem Inv.lt(I:Inv X pins σ H s):X.env.locals<s.heap.objs.size:=let ⟨_,hn,_⟩:=I.loc;hn.lt
theorem Inv.sz(I:Inv X pins σ H s):X.bA.heap.objs.size<=s.heap.objs.size:=QC I.ok.above (Zi I.lt)
theorem Inv.uk(I:Inv X pins σ H s)(h:s.heap.objs.size<=a):a ∉ X.fs:=fun hb=>by
 obtain⟨_,o,ho,_⟩:=I.ok.eo.mem hb
 exact absurd (Qo (Qj ho) (QC I.sz h)) (QP _)
theorem Inv.pO(I:Inv X pins σ H s):∀ x c,X.env.cells.lookup x=some c->c≠X.env.locals:=fun x c e z=>by
 obtain⟨v,o,ho,hd⟩:=I.cell x c e
 obtain⟨m,⟨o',es,ep,jg,jR,_⟩,_⟩:=I.loc
 rw[z,jg]at ho;cases ho;rw[jR]at hd;cases hd
theorem Inv.eo(I:Inv X pins σ H s):s.heap.FunFrames X.base X.outer:=by
 have all:∀ (l:List Env),(∀ b∈iK l,b∈X.fs)->X.bA.heap.FunFrames X.base l->s.heap.FunFrames X.base l:=by
  intro l
  induction l with
  | nil=>intro _ _;trivial
  | cons env r ih=>
   intro hs hl
   obtain⟨hk,⟨L,o,hf,hn,ho,hd⟩,hr⟩:=hl
   have hL:L∈X.fs:=hs L (by unfold iK;rw[Z0,hf];exact Qi)
   obtain⟨sl,e⟩:=I.base.slot L o ho (I.ok.pN L hL) hL fun z=>I.ok.mr L z hL
   exact⟨hk,⟨L,_,hf,hn,e,hd⟩,ih (fun b hb=>hs b (by unfold iK;rw[Z0,hf];exact Qg _ hb)) hr⟩
 exact all X.outer (fun _ hb=>hb) I.ok.eo
theorem Inv.stack(I:Inv X pins σ H s):s.heap.FunFrames X.base X.stack:=by
 rcases I.ok.w_ with e|⟨e,hf⟩
 ·rw[e];exact I.eo
 ·rw[e]
  obtain⟨m,hn,_⟩:=I.loc
  refine .cons (by rw[I.ok.kind];decide) hf hn ?_ I.eo
  exact Heap.get?_none_of_le (QC I.ok.lP I.ok.above)
theorem Inv.gz(I:Inv X pins σ H s):∀ b∈iK X.stack,b∈X.env.locals::X.fs:=fun b hb=>by
 rcases I.ok.w_ with e|⟨e,hf⟩
 ·rw[e]at hb;exact Qg _ hb
 ·rw[e]at hb
  unfold iK at hb
  rw[Z0,hf]at hb
  exact hb
theorem Inv.iL(I:Inv X pins σ H s):∀ b∈iK X.stack,H b=none:=fun b hb=>by
 rcases Qn.mp (I.gz b hb)with e|hb
 ·rw[e];exact I.free
 ·obtain⟨_,o,ho,_⟩:=I.ok.eo.mem hb
  exact I.base.free b o ho (I.ok.pN b hb) fun z=>I.ok.mr b z hb
theorem Inv.step{g':Array GenState}{t':Nat}{d':Drawn}{ch:List Addr}(I:Inv X pins σ H s)
  (lQ:∀ b∈ch,(b∈X.ex\/X.bA.heap.objs.size<=b)/\b≠X.env.locals/\(∀ x c,X.env.cells.lookup x=some c->c≠b)/\∀ p∈X.pn++pins,p.1≠b)
  (keep:∀ b o,b≠X.env.locals->b ∉ X.fs->b ∉ ch->s.heap.get? b=some o->H b=none->h'.get? b=some o)
  (slot:∀ b o,b≠X.env.locals->b∈X.fs->b ∉ ch->s.heap.get? b=some o->H b=none->∃ sl,h'.get? b=some { o with slots:=sl }) (free:∀ b o,b ∉ ch->s.heap.get? b=some o->H b=none->H' b=none)
  (there:∀ b o,b ∉ ch->s.heap.get? b=some o->∃ o',h'.get? b=some o')
  (iJ:∀ b xs,H b=some (.tup xs)->H' b=some (.tup xs)) (g8:∀ b o u,H b=some (.cu o u)->H' b=some (.cu o u)) (g9:∀ b ps,H b=some (.dJ ps)->∃ more,H' b=some (.dJ (ps++more)))
  (ns:∀ m,s.heap.Ns X.env.locals m->h'.Ns X.env.locals m) (aA:df X.prog X.w H' h') (hg:AllBare g') :
  Inv X pins σ H' { s with heap:=h',gens:=g',drawn:=d',toks:=t' }:=by
 have DZ:∀ b o,X.bA.heap.get? b=some o->b≠X.env.locals:=fun b o e=>QB (Qo (Qj e) I.ok.above)
 have xa:∀ b o,X.bA.heap.get? b=some o->b ∉ X.ex->b ∉ ch:=fun b o e hx hb=>by
  rcases(lQ b hb).1 with z|z
  ·exact hx z
  ·exact absurd (Qo (Qj e) z) (QP _)
 have cellK:∀ x c,X.env.cells.lookup x=some c->∀ v,s.heap.IsCell c v->h'.IsCell c v:=fun x c e v ak=>by
  obtain⟨o,ho,hd⟩:=ak
  have um:c ∉ ch:=fun z=>(lQ c z).2.2.1 x c e rfl
  by_cases hc:c∈X.fs
  ·obtain⟨sl,q⟩:=slot c o (I.pO x c e) hc um ho (I.cQ x c e)
   exact⟨_,q,hd⟩
  ·exact⟨o,keep c o (I.pO x c e) hc um ho (I.cQ x c e),hd⟩
 refine⟨I.ok,I.os,hg,⟨fun b o e n hb hx=>?_,fun b o e n hb hx=>?_,fun b o e n hx=>?_,fun b o e hx=>?_,fun b xs e=>iJ b xs (I.base.iJ b xs e),fun b o xs e=>g8 b o xs (I.base.g8 b o xs e),fun b ps e=>?_⟩,?_,fun x c e=>?_,?_,fun x c e=>?_,fun p hp=>?_,aA,I.len⟩
 ·exact keep b o (DZ b o e) hb (xa b o e hx) (I.base.keep b o e n hb hx) (I.base.free b o e n hx)
 ·obtain⟨sl,e1⟩:=I.base.slot b o e n hb hx
  obtain⟨D0,e2⟩:=slot b _ (DZ b o e) hb (xa b o e hx) e1 (I.base.free b o e n hx)
  exact⟨D0,e2⟩
 ·obtain⟨o',e1⟩:=I.base.there b o e hx
  exact free b o' (xa b o e hx) e1 (I.base.free b o e n hx)
 ·obtain⟨o',e1⟩:=I.base.there b o e hx
  exact there b o' (xa b o e hx) e1
 ·obtain⟨m1,e1⟩:=I.base.g9 b ps e
  obtain⟨m2,e2⟩:=g9 b _ e1
  exact⟨m1++m2,by rw[e2,Array.append_assoc]⟩
 ·obtain⟨m,hn,hl⟩:=I.loc
  refine⟨m,ns m hn,fun i x v e1 e2 e3=>?_⟩
  obtain⟨u,r,l⟩:=hl i x v e1 e2 e3
  refine⟨u,r,?_⟩
  rcases l with l|⟨k,c,e,z⟩
  ·exact .inl l
  ·exact .inr ⟨k,c,e,cellK x c e _ z⟩
 ·obtain⟨v,z⟩:=I.cell x c e
  exact⟨v,cellK x c e v z⟩
 ·obtain⟨m,⟨o,_,_,ho,_⟩,_⟩:=I.loc
  exact free _ o (fun z=>(lQ _ z).2.1 rfl) ho I.free
 ·obtain⟨v,o,ho,hd⟩:=I.cell x c e
  exact free c o (fun z=>(lQ c z).2.2.1 x c e rfl) ho (I.cQ x c e)
 ·obtain⟨e,n,ne,nf,d⟩:=I.pin p hp
  have um:p.1 ∉ ch:=fun z=>(lQ p.1 z).2.2.2 p hp rfl
  exact⟨keep p.1 p.2 ne nf um e n,free p.1 p.2 um e n,ne,nf,d⟩
theorem Inv.un{t':Nat}(I:Inv X pins σ H s)(u:Un X.fs [] H H' s.heap h')(aA:df X.prog X.w H' h'):Inv X pins σ H' { s with heap:=h',toks:=t' }:=by
 obtain⟨m,⟨o,es,ep,ho,r⟩,_⟩:=id I.loc
 obtain⟨sl,hL⟩:=u.any ho I.free (by simp)
 exact I.step (g':=s.gens) (d':=s.drawn) (ch:=[]) (fun _ z=>nomatch z) (fun b o _ hb _ e n=>u.keep b o e n hb (by simp)) (fun b o _ hb _ e n=>u.slot b o e n hb (by simp)) (fun b o _ e n=>u.free b o e n (by simp)) (fun b o _ e=>u.there b o e (by simp)) u.iJ u.g8 u.g9 (fun m' hm=>by
  obtain⟨o',zj,zk,jg,r'⟩:=hm
  rw[ho]at jg;cases jg
  exact⟨_,zj,zk,hL,r'⟩) aA I.bare
theorem Inv.call{g':Array GenState}{t':Nat}{d':Drawn}{ch:List Addr}(I:Inv X pins σ H s)(u:Un (iK X.stack) ch H H' s.heap h')(aA:df X.prog X.w H' h')(hg:AllBare g')
  (lQ:∀ b∈ch,(b∈X.ex\/X.bA.heap.objs.size<=b)/\b≠X.env.locals/\(∀ x c,X.env.cells.lookup x=some c->c≠b)/\∀ p∈X.pn++pins,p.1≠b) :
  Inv X pins σ H' { s with heap:=h',gens:=g',drawn:=d',toks:=t' }:=by
 obtain⟨m,⟨o,es,ep,ho,r⟩,_⟩:=id I.loc
 obtain⟨sl,hL⟩:=u.any ho I.free fun z=>(lQ _ z).2.1 rfl
 exact I.step (ch:=ch) lQ (fun b o hL hb hc e n=>u.keep b o e n (fun z=>(Qn.mp (I.gz b z)).elim hL hb) hc) (fun b o _ _ hc e n=>u.any e n hc) (fun b o hc e n=>u.free b o e n hc) (fun b o hc e=>u.there b o e hc) u.iJ u.g8 u.g9 (fun m' hm=>by
  obtain⟨o',zj,zk,jg,r'⟩:=hm
  rw[ho]at jg;cases jg
  exact⟨_,zj,zk,hL,r'⟩) aA hg
theorem Inv.turned{t':Nat}(I:Inv X pins σ H s)(k:∀ b o,b≠it->s.heap.get? b=some o->h'.get? b=some o)(hn:H it=none)(hL:it≠X.env.locals)
  (h1:it∈X.ex\/X.bA.heap.objs.size<=it) (h2:∀ x c,X.env.cells.lookup x=some c->c≠it) (h3:∀ p∈X.pn++pins,p.1≠it):Inv X pins σ H { s with heap:=h',toks:=t' }:=by
 have uo:∀ b u,H b=some u->b≠it:=fun b u e z=>by rw[z,hn]at e;cases e
 refine I.step (g':=s.gens) (d':=s.drawn) (ch:=[it]) (fun b hb=>?_) (fun b o _ _ hc e _=>k b o (fun z=>hc (by simp[z])) e) (fun b o _ _ hc e _=>⟨o.slots,k b o (fun z=>hc (by simp[z])) e⟩) (fun _ _ _ _ n=>n)
  (fun b o hc e=>⟨o,k b o (fun z=>hc (by simp[z])) e⟩) (fun _ _ e=>e) (fun _ _ _ e=>e) (fun b ps e=>⟨#[],by rw[e];simp⟩) (fun m hm=>?_) (fun b u e=>?_) I.bare
 ·have e:b=it:=by simpa using hb
  subst e
  exact⟨h1,hL,h2,h3⟩
 ·obtain⟨o,es,ep,ho,r⟩:=hm
  exact⟨o,es,ep,k _ o (Jb hL) ho,r⟩
 ·refine(I.aA b u e).jo (fun c v hc q=>k c v ?_ q) (fun _ q=>q) fun _ _ q=>q
  rcases hc with z|z
  ·rw[z];exact uo b u e
  ·exact uo c _ z
theorem Inv.tok(I:Inv X pins σ H s)(t:Nat):Inv X pins σ H { s with toks:=t }:=I.un (h':=s.heap) (t':=t) Un.refl I.aA
theorem Inv.kept{t':Nat}(I:Inv X pins σ H s)(k:∀ b u,s.heap.get? b=some u->h'.get? b=some u):Inv X pins σ H { s with heap:=h',toks:=t' }:=I.un (Un.kept k) (I.aA.kept k)
theorem Inv.laid{o:HO}{t':Nat}(I:Inv X pins σ H s)(k:∀ b u,s.heap.get? b=some u->h'.get? b=some u)(hp:s.heap.objs.size<=a)(new:cJ X.prog X.w (upd H a o) h' a o) :
  Inv X pins σ (upd H a o) { s with heap:=h',toks:=t' }:=I.un (Un.laid k hp (I.aA.fresh hp)) (I.aA.laid k hp new)
theorem Inv.write{x e:Addr}{o:HO}{t':Nat}(I:Inv X pins σ H s)(mu:uh (H x))(he:e=x\/H e=some (.own x))(k:∀ b u,b≠e->s.heap.get? b=some u->h'.get? b=some u)(sW:∃ u,h'.get? e=some u)
  (new:cJ X.prog X.w (upd H x o) h' x o):Inv X pins σ (upd H x o) { s with heap:=h',toks:=t' }:=I.un (Un.write mu he k sW) (I.aA.write mu he k sW new)
theorem Inv.weak{aM:List (Option V)}(I:Inv X pins σ H s)(hl:aM.length=σ.length)(w:∀ (i:Nat) v,aM[i]? = some (some v)->σ[i]? = some (some v)):Inv X pins aM H s:=
 ⟨I.ok,I.os,I.bare,I.base,let ⟨m,hn,gh⟩:=I.loc;⟨m,hn,fun i x v e1 e2 e3=>gh i x v e1 (w i v e2) e3⟩,I.cell,I.free,I.cQ,I.pin,I.aA,hl.trans I.len⟩
theorem Inv.gi{pins':List (Addr×Obj)}(I:Inv X pins σ H s)(h:∀ p∈pins',s.heap.get? p.1=some p.2/\H p.1=none/\p.1≠X.env.locals/\p.1 ∉ X.fs/\∀ v,p.2.data ≠ .cell v):Inv X pins' σ H s:=
 ⟨I.ok,I.os,I.bare,I.base,I.loc,I.cell,I.free,I.cQ,fun p hp=>(QR.mp hp).elim (fun z=>I.pin p (QM _ z)) (h p),I.aA,I.len⟩
theorem D1(hN:N.Nodup)(a:N[i]? = some x)(b:N[j]? = some x):i=j:=by
 obtain⟨h1,e1⟩:=Qr.mp a
 obtain⟨h2,e2⟩:=Qr.mp b
 exact(List.getElem_inj hN).mp (e1.trans e2.symm)
theorem D2{M:Model}{A:Around}{E:Value->Shared->Prop}{v:V}{Q:Unit->Shared->Prop}(I:Inv X pins σ H s)(hN:X.N.Nodup)(hi:X.N[i]? = some x)(hx:Loc X.env.scope x)(r:bq v u)
  (h:∀ s',Inv X pins (σ.set i (some v)) H s'->(∃ a,Heap.SameBut a s.heap s'.heap/\(a=X.env.locals\/X.env.cells.lookup x=some a))->Q () s') (hf:X.fn x=true\/X.env.scope.names.lookup x=some .local:=by first|exact .inl rfl|exact .inr rfl|assumption):wpAny M A (storeName X.env x u) Q E s:=by
 obtain⟨m,hn,hl⟩:=id I.loc
 have zm:(X.env.scope.kind == .class||(X.env.scope.kind == .module&&X.env.locals != X.env.globals))=false:=by rw[I.ok.kind];rfl
 have uq:i<σ.length:=by rw[I.len];exact(Qr.mp hi).1
 have pO:=I.pO
 have tracked:∀ {a:Addr} {h':Heap},(∃ o,s.heap.get? a=some o/\H a=none)->Heap.SameBut a s.heap h'->df X.prog X.w H h':=fun {a h'} ha hs b ob e=>by
  obtain⟨_,_,pP⟩:=ha
  refine(I.aA b ob e).jo (fun c w' hc q=>(hs.2 c ?_).trans q) (fun _ q=>q) fun _ _ q=>q
  rintro rfl
  rcases hc with rfl|hc
  ·rw[pP]at e;cases e
  ·rw[pP]at hc;cases hc
 rcases hx with hk|hk
 ·refine wpAny_storeName_local hk hn (fun h' zo hs=>?_) zm
  obtain⟨oL,_,_,KJ,_⟩:=id hn
  refine h _ ⟨I.ok,I.os,I.bare,⟨fun b o e n hb hx=>?_,fun b o e n hb hx=>?_,I.base.free,fun b o e hx=>?_,I.base.iJ,I.base.g8,I.base.g9⟩,⟨_,zo,fun j y v' e1 e2 e3=>?_⟩,fun y c e=>?_,I.free,I.cQ,fun p hp=>?_,tracked ⟨oL,KJ,I.free⟩ hs,by simpa using I.len⟩ ⟨_,hs,.inl rfl⟩
  ·exact(hs.2 b (QB (Qo (Qj e) I.ok.above))).trans (I.base.keep b o e n hb hx)
  ·obtain⟨sl,e1⟩:=I.base.slot b o e n hb hx
   exact⟨sl,(hs.2 b (QB (Qo (Qj e) I.ok.above))).trans e1⟩
  ·obtain⟨o',e1⟩:=I.base.there b o e hx
   exact⟨o',(hs.2 b (QB (Qo (Qj e) I.ok.above))).trans e1⟩
  ·by_cases hj:j=i
   ·subst hj
    rw[hi]at e1;cases e1
    rw[QI uq]at e2
    cases e2
    exact⟨u,r,.inl ⟨hk,by simp⟩⟩
   ·rw[QJ (Jb hj)]at e2
    obtain⟨u',r',q⟩:=hl j y v' e1 e2 e3
    refine⟨u',r',?_⟩
    rcases q with⟨k,e⟩|⟨k,c,e,z⟩
    ·refine .inl ⟨k,?_⟩
     have:y≠x:=fun e=>hj (D1 hN e1 (e ▸ hi))
     simp[this,e]
    ·exact .inr ⟨k,c,e,z.sameBut hs (pO y c e)⟩
  ·obtain⟨w',z⟩:=I.cell y c e
   exact⟨w',z.sameBut hs (pO y c e)⟩
  ·obtain⟨e,n,ne,nf,d⟩:=I.pin p hp
   exact⟨(hs.2 p.1 ne).trans e,n,ne,nf,d⟩
 ·have ur:X.fn x=true:=by
   rcases hf with z|z
   ·exact z
   ·rw[z]at hk;cases hk
  obtain⟨c,hc⟩:=I.ok.has x (.inl hk)
  obtain⟨w',z⟩:=I.cell x c hc
  refine wpAny_storeName_cell I.ok.kind hk hc z (fun h' k7 hs=>?_)
  obtain⟨oc,s9,zp⟩:=id z
  refine h { s with heap:=h' } ⟨I.ok,I.os,I.bare,⟨fun b o e n hb hx=>?_,fun b o e n hb hx=>?_,I.base.free,fun b o e hx=>?_,I.base.iJ,I.base.g8,I.base.g9⟩,⟨m,hn.sameBut hs (Jb (pO x c hc)),fun j y v' e1 e2 e3=>?_⟩,fun y c' e=>?_,I.free,I.cQ,fun p hp=>?_,tracked ⟨oc,s9,I.cQ x c hc⟩ hs,by simpa using I.len⟩ ⟨c,hs,.inr hc⟩
  ·exact(hs.2 b (QB (Qo (Qj e) (I.ok.sZ x c ur hc)))).trans (I.base.keep b o e n hb hx)
  ·obtain⟨sl,e1⟩:=I.base.slot b o e n hb hx
   exact⟨sl,(hs.2 b (QB (Qo (Qj e) (I.ok.sZ x c ur hc)))).trans e1⟩
  ·obtain⟨o',e1⟩:=I.base.there b o e hx
   exact⟨o',(hs.2 b (QB (Qo (Qj e) (I.ok.sZ x c ur hc)))).trans e1⟩
  ·by_cases hj:j=i
   ·subst hj
    rw[hi]at e1;cases e1
    rw[QI uq]at e2
    cases e2
    exact⟨u,r,.inr ⟨.inl hk,c,hc,k7⟩⟩
   ·rw[QJ (Jb hj)]at e2
    obtain⟨u',r',q⟩:=hl j y v' e1 e2 e3
    refine⟨u',r',?_⟩
    rcases q with q|⟨k,c',e,z'⟩
    ·exact .inl q
    ·refine .inr ⟨k,c',e,z'.sameBut hs ?_⟩
     rintro rfl
     exact hj (D1 hN e1 (I.ok.inj _ _ _ e hc ▸ hi))
  ·by_cases D3:c'=c
   ·subst D3;exact⟨_,k7⟩
   ·obtain⟨w2,z2⟩:=I.cell y c' e
    exact⟨w2,z2.sameBut hs D3⟩
  ·obtain⟨e,n,ne,nf,d⟩:=I.pin p hp
   refine⟨(hs.2 p.1 ?_).trans e,n,ne,nf,d⟩
   intro q
   rw[q,s9]at e
   have q':oc=p.2:=Qy e
   exact d w' (by rw[<- q'];exact zp)
theorem xb{M:Model}{A:Around}{E:Value->Shared->Prop}{v:V}{Q:Unit->Shared->Prop}(I:Inv X pins σ H s)(hN:X.N.Nodup)(hi:X.N[i]? = some x)(hx:Loc X.env.scope x)(r:bq v u)
  (h:∀ s',Inv X pins (σ.set i (some v)) H s'->Q () s') (hf:X.fn x=true\/X.env.scope.names.lookup x=some .local:=by first|exact .inl rfl|exact .inr rfl|assumption):wpAny M A (storeName X.env x u) Q E s:=
 D2 I hN hi hx r (fun s' I' _=>h s' I') hf
theorem Inv.uu{ch:List Addr}(I:Inv X pins σ H s)(ho:s'.os=s.os)(u:Un (iK X.stack) ch H H' s.heap s'.heap)(aA:df X.prog X.w H' s'.heap)(hg:AllBare s'.gens)
  (lQ:∀ b∈ch,(b∈X.ex\/X.bA.heap.objs.size<=b)/\b≠X.env.locals/\(∀ x c,X.env.cells.lookup x=some c->c≠b)/\∀ p∈X.pn++pins,p.1≠b):Inv X pins σ H' s':=by
 obtain⟨h',g',d',t',o'⟩:=s'
 have e:o'=s.os:=ho
 subst e
 exact I.call (g':=g') (t':=t') (d':=d') u aA hg lQ
end
abbrev XK:=Value->Option Addr->Hp->Prop
abbrev St:=List (Option V)
abbrev VK:=V->Hp->Prop
abbrev TE:=St->Hp->VK->Prop
abbrev TT:=St->Hp->(Bool->Hp->Prop)->Prop
abbrev TA:=St->Hp->(List V->Hp->Prop)->Prop
structure Ends where
 nx:St->Hp->Prop
 rt:VK
 bk:St->Hp->Prop:=fun _ _=>False
 ct:St->Hp->Prop:=fun _ _=>False
abbrev TS:=Ends->St->Hp->Prop
def EP (X:Cx)(pins:List (Addr×Obj))(σ:St)(Q:VK)(u:Value)(s':Shared):Prop:=∃ v H',Inv X pins σ H' s'/\bq v u/\Q v H'
def TP (X:Cx)(pins:List (Addr×Obj))(σ:St)(Q:Bool->Hp->Prop)(b:Bool)(s':Shared):Prop:=∃ H',Inv X pins σ H' s'/\Q b H'
def AP (X:Cx)(pins:List (Addr×Obj))(σ:St)(Q:List V->Hp->Prop)(us:List Value)(s':Shared):Prop:=∃ vs H',Inv X pins σ H' s'/\bf vs us/\Q vs H'
def SP (X:Cx)(pins:List (Addr×Obj))(D:Ends)(f:Flow)(s':Shared):Prop:=
 match f with
 | .next=>∃ aM H',Inv X pins aM H' s'/\D.nx aM H'
 | .brk=>∃ aM H',Inv X pins aM H' s'/\D.bk aM H'
 | .cont=>∃ aM H',Inv X pins aM H' s'/\D.ct aM H'
 | .ret u=>∃ v aM H',Inv X pins aM H' s'/\bq v u/\D.rt v H'
def PE (X:Cx)(e:Expr)(t:TE):Prop:=
 ∀ (pins:List (Addr×Obj)) (s:Shared) (σ:St) (H:Hp) (Q:VK),Inv X pins σ H s->t σ H Q->wpAny (model X.prog X.w) X.A (eval e X.env) (EP X pins σ Q) X.xe s
structure QE (X:Cx) (e:Expr) (t:TE):Prop where mk::o:PE X e t
def PT (X:Cx)(e:Expr)(t:TT):Prop:=
 ∀ (pins:List (Addr×Obj)) (s:Shared) (σ:St) (H:Hp) (Q:Bool->Hp->Prop),Inv X pins σ H s->t σ H Q->wpAny (model X.prog X.w) X.A (isTrue e X.env (eval e X.env)) (TP X pins σ Q) X.xe s
def PW (X:Cx)(e:Expr)(t:TT):Prop:=
 ∀ (whole:Sem Value) (pins:List (Addr×Obj)) (s:Shared) (σ:St) (H:Hp) (Q:Bool->Hp->Prop),Inv X pins σ H s->t σ H Q->wpAny (model X.prog X.w) X.A (isTrue e X.env whole) (TP X pins σ Q) X.xe s
theorem PW.pt{X:Cx}{t:TT}(h:PW X e t):PT X e t:=h _
def PA (X:Cx)(es:List Expr)(t:TA):Prop:=
 ∀ (pos:Pos) (pins:List (Addr×Obj)) (s:Shared) (σ:St) (H:Hp) (Q:List V->Hp->Prop),Inv X pins σ H s->t σ H Q->wpAny (model X.prog X.w) X.A (spliced (backTo pos (starEach es X.env))) (AP X pins σ Q) X.xe s
def PS (X:Cx)(st:Stmt)(t:TS):Prop:=
 ∀ (pins:List (Addr×Obj)) (s:Shared) (σ:St) (H:Hp) (D:Ends),Inv X pins σ H s->t D σ H->wpAny (model X.prog X.w) X.A (exec st X.env) (SP X pins D) X.xe s
def iM (X:Cx)(st:List Stmt)(t:TS):Prop:=
 ∀ (pins:List (Addr×Obj)) (s:Shared) (σ:St) (H:Hp) (D:Ends),Inv X pins σ H s->t D σ H->wpAny (model X.prog X.w) X.A (execs st X.env) (SP X pins D) X.xe s
theorem aN{α:Type}{t:Sem α}{Q Q':α->Shared->Prop}(h:wpAny M A t Q E s)(hQ:∀ a s,Q a s->Q' a s):wpAny M A t Q' E s:=Ze h hQ fun _ _ x=>x
section
variable {X:Cx}
def fP (i:Nat):TE:=fun σ H Q=>∃ v,σ[i]? = some (some v)/\Q v H
def tC (v:V):TE:=fun _ H Q=>Q v H
theorem KN{pos:Pos}(hN:X.N[i]? = some x)(hv:sY X.env.scope x)(hd:(x==("__debug__":Str))=false:=by decide)(g_:(x==("__classdict__":Str))=false:=by decide):PE X (.Name x pos) (fP i):=by
 intro pins s σ H Q I h
 obtain⟨v,e,h⟩:=h
 obtain⟨m,hn,hl⟩:=I.loc
 obtain⟨u,r,l⟩:=hl i x v hN e hv
 have fin:EP X pins σ Q u s:=⟨v,H,I,r,h⟩
 rcases l with⟨hk,hm⟩|⟨hk,c,hc,kG⟩
 ·exact wpAny_Name (wpAny_loadName_local I.ok.kind hk hn hm fin) hd
 ·rcases hk with hk|hk
  ·exact wpAny_Name (wpAny_loadName_cell I.ok.kind hk hc kG fin) hd
  ·exact wpAny_Name (wpAny_loadName_free I.ok.kind hk hc kG fin g_) hd
theorem xf{i j pos}:PE X (.Constant (.int i) j pos) (tC (.int i)):=fun _ _ _ H _ I h=>wpAny_Constant_int ⟨.int i,H,I.tok _,⟨_,rfl⟩,h⟩
theorem KO{b j pos}:PE X (.Constant (.bool b) j pos) (tC (.bl b)):=fun _ _ _ H _ I h=>Constant_bool ⟨.bl b,H,I,rfl,h⟩
theorem KP{j pos}:PE X (.Constant .none j pos) (tC .aX):=fun _ _ _ H _ I h=>Constant_none ⟨.aX,H,I,rfl,h⟩
theorem zq{x j pos}:PE X (.Constant (.str x) j pos) (tC (.str x)):=fun _ _ _ H _ I h=>Calls.Constant_str ⟨.str x,H,I.tok _,⟨_,rfl⟩,h⟩
def Gl (X:Cx)(x:Str):Prop:=X.env.kindOf x=some .globalImplicit
theorem xg{E:Value->Shared->Prop}{σ:St}{H:Hp}{pos:Pos}(I:Inv X pins σ H s)(hg:Gl X x)(hm:X.mg x=some u)(h:Q u s)
  (hd:(x==("__debug__":Str))=false:=by decide):wpAny (model X.prog X.w) X.A (eval (.Name x pos) X.env) Q E s:=
 Yd I.ok.kind hg (Calls.loadGlobal_global (by rw[I.ok.glob];exact I.mod.glob.keeps I.bk) hm h) hd
theorem s_{E:Value->Shared->Prop}{σ:St}{H:Hp}{pos:Pos}(I:Inv X pins σ H s)(hg:Gl X x)(hm:X.mg x=none)(hv:bootBuiltins x=some u)(h:Q u s)
  (hn:x ≠ "__name__":=by decide) (hd:(x==("__debug__":Str))=false:=by decide):wpAny (model X.prog X.w) X.A (eval (.Name x pos) X.env) Q E s:=by
 obtain⟨mb,h1,h2⟩:=I.mod.blt
 exact Yd I.ok.kind hg (Calls.loadGlobal_builtin (by rw[I.ok.glob];exact I.mod.glob.keeps I.bk) hm (by rw[I.ok.blt];exact h1.keeps I.bk) ((h2 x hn).trans hv) h) hd
theorem KQ{v:V}{pos:Pos}(hg:Gl X x)(hm:X.mg x=some u)(r:bq v u)(hd:(x==("__debug__":Str))=false:=by decide):PE X (.Name x pos) (tC v):=
 fun _ _ _ H _ I h=>xg I hg hm ⟨v,H,I,r,h⟩ hd
theorem KR{v:V}{pos:Pos}(hg:Gl X x)(hm:X.mg x=none)(hv:bootBuiltins x=some u)(r:bq v u)(hn:x ≠ "__name__":=by decide)(hd:(x==("__debug__":Str))=false:=by decide):PE X (.Name x pos) (tC v):=
 fun _ _ _ H _ I h=>s_ I hg hm hv ⟨v,H,I,r,h⟩ hn hd
variable {a b:Expr}{ta tb:TE}{pos:Pos}
def PC (X:Cx)(op:CmpOp)(a b:Expr)(t:TE):Prop:=
 ∀ (pins:List (Addr×Obj)) (s:Shared) (σ:St) (H:Hp) (Q:VK),Inv X pins σ H s->t σ H Q->
  wpAny (model X.prog X.w) X.A (eval a X.env) (fun v aH=>wpAny (model X.prog X.w) X.A (eval b X.env) (fun u dX=>wpAny (model X.prog X.w) X.A (compareOp op v u) (EP X pins σ Q) X.xe dX) X.xe aH) X.xe s
theorem KS(b:Expr)(h:op ≠ .In)(h2:op ≠ .NotIn):behindInMarks op b=false:=by
 have e1:(op==CmpOp.In)=false:=by cases op<;>first|rfl|exact absurd rfl h
 have e2:(op==CmpOp.NotIn)=false:=by cases op<;>first|rfl|exact absurd rfl h2
 cases b<;>simp[behindInMarks,e1,e2]
def tB (t:TE):TT:=fun σ H Q=>t σ H fun x H1=>∃ c,x=.bl c/\Q c H1
theorem KU{t:TE}(h:PC X op a b t)(h1:behindInMarks op b=false:=by first|exact KS _ (by decide) (by decide)|rfl):PT X (.Compare a [op] [b] pos) (tB t):=by
 intro pins s σ H Q I hw
 refine wpAny_isTrue_Compare1 (aN (h pins s σ H _ I hw) fun v s1 h1=>aN h1 fun u s2 h2=>aN h2 fun c s3 ⟨x,H1,I1,r1,q1⟩=>?_) h1
 obtain⟨d,rfl,q⟩:=q1
 cases r1
 exact Zf ⟨H1,I1,q⟩
variable {tA xh:TT}{bE:List Expr}
def KW (t u:TT):TT:=fun σ H Q=>t σ H fun c H1=>if c=true then u σ H1 Q else Q false H1
def KY (t u:TT):TT:=fun σ H Q=>t σ H fun c H1=>if c=true then Q true H1 else u σ H1 Q
def KZ (t:TT):TT:=fun σ H Q=>t σ H fun c H1=>Q (!c) H1
theorem K0(ha:PT X a tA):PW X (.BoolOp .And [a] pos) tA:=by
 intro wh pins s σ H Q I h
 refine isTrue_and (aN (ha pins s σ H Q I h) fun c s1 e=>?_)
 cases c with
 | true=>exact isTrue_and_nil e
 | false=>exact e
theorem K1(ha:PT X a tA):PW X (.BoolOp .Or [a] pos) tA:=by
 intro wh pins s σ H Q I h
 refine isTrue_or (aN (ha pins s σ H Q I h) fun c s1 e=>?_)
 cases c with
 | false=>exact isTrue_or_nil e
 | true=>exact e
theorem K2(ha:PT X a tA)(hb:PW X (.BoolOp .And (b::bE) pos) xh):PW X (.BoolOp .And (a::b::bE) pos) (KW tA xh):=by
 intro wh pins s σ H Q I h
 refine isTrue_and (aN (ha pins s σ H _ I h) fun c s1 ak=>?_)
 obtain⟨H1,I1,q1⟩:=ak
 cases c with
 | true=>exact hb wh pins s1 σ H1 Q I1 q1
 | false=>exact⟨H1,I1,q1⟩
theorem K3(ha:PT X a tA)(hb:PW X (.BoolOp .Or (b::bE) pos) xh):PW X (.BoolOp .Or (a::b::bE) pos) (KY tA xh):=by
 intro wh pins s σ H Q I h
 refine isTrue_or (aN (ha pins s σ H _ I h) fun c s1 ak=>?_)
 obtain⟨H1,I1,q1⟩:=ak
 cases c with
 | true=>exact⟨H1,I1,q1⟩
 | false=>exact hb wh pins s1 σ H1 Q I1 q1
theorem K4(ha:PT X a tA):PT X (.UnaryOp .Not a pos) (KZ tA):=by
 intro pins s σ H Q I h
 exact isTrue_not (ha pins s σ H (fun c H1=>Q (!c) H1) I h)
def K5 (ta tb:TE):TE:=fun σ H Q=>ta σ H fun x H1=>∃ c,x=.bl c/\if c=true then tb σ H1 Q else Q (.bl false) H1
def K6 (ta:TE):TE:=fun σ H Q=>ta σ H fun x H1=>∃ c,x=.bl c/\Q (.bl (!c)) H1
theorem K7{op}{t:TE}(h:PE X a t):PE X (.BoolOp op [a] pos) t:=fun pins s σ H Q I hw=>BoolOp_one (h pins s σ H Q I hw)
theorem K8(ha:PE X a ta)(hb:PE X (.BoolOp .And (b::bE) pos) tb):PE X (.BoolOp .And (a::b::bE) pos) (K5 ta tb):=by
 intro pins s σ H Q I h
 refine BoolOp_and (aN (ha pins s σ H _ I h) fun v s1 ak=>?_)
 obtain⟨x,H1,I1,r1,q1⟩:=ak
 obtain⟨c,rfl,q1⟩:=q1
 cases r1
 refine Zf ?_
 cases c with
 | true=>exact hb pins s1 σ H1 Q I1 q1
 | false=>exact⟨.bl false,H1,I1,rfl,q1⟩
theorem K9(ha:PE X a ta):PE X (.UnaryOp .Not a pos) (K6 ta):=by
 intro pins s σ H Q I h
 refine UnaryOp_ (aN (ha pins s σ H _ I h) fun v s1 ak=>?_)
 obtain⟨x,H1,I1,r1,q1⟩:=ak
 obtain⟨c,rfl,q1⟩:=q1
 cases r1
 exact not_of (Zf ⟨.bl (!c),H1,I1,rfl,q1⟩)
def K_ (t:TT)(ta tb:TE):TE:=fun σ H Q=>t σ H fun c H1=>if c=true then ta σ H1 Q else tb σ H1 Q
theorem La(hc:PT X c tA)(ha:PE X a ta)(hb:PE X b tb):PE X (.IfExp c a b pos) (K_ tA ta tb):=by
 intro pins s σ H Q I h
 refine wpAny_IfExp (aN (hc pins s σ H _ I h) fun d s1 ak=>?_)
 obtain⟨H1,I1,q1⟩:=ak
 cases d with
 | true=>exact ha pins s1 σ H1 Q I1 q1
 | false=>exact hb pins s1 σ H1 Q I1 q1
end
def cK (K:PySem.W.Frag)(H:Hp)(a:Addr)(xs:List V):Prop:=
 Rd H a (.lst xs) \/
  ∃ (o:Obj) (au:Array Value) (n:Nat),K.lookup a=some o/\o.cls=.type "list" /\ o.dict=none/\o.data=.seq au n/\au.size<=sizeLine/\bf xs au.toList
def cE (K:PySem.W.Frag)(H:Hp)(a:Addr)(xs:List V):Prop:=
 Rd H a (.tup xs) \/
  ∃ (o:Obj) (au:Array Value) (n:Nat),K.lookup a=some o/\o.cls=.type "tuple" /\ o.data=.seq au n/\au.size<=sizeLine/\bf xs au.toList
def Lb:Value->Option V
 | .none=>some .aX
 | .bool b=>some (.bl b)
 | .int i _=>some (.int i)
 | .str x _=>some (.str x)
 | .bytes b _=>some (.sV b)
 | .float b _=>some (.qR b)
 | .ref a=>some (.ref a)
 | .type n=>some (.ty n)
 | _=>none
theorem bq.abs{x:V}(r:bq x u):Lb u=some x:=by
 cases x with
 | aX=>cases r;rfl
 | bl _=>cases r;rfl
 | int _=>obtain⟨t,rfl⟩:=r;rfl
 | str _=>obtain⟨t,rfl⟩:=r;rfl
 | sV _=>obtain⟨t,rfl⟩:=r;rfl
 | qR _=>obtain⟨t,rfl⟩:=r;rfl
 | ref _=>cases r;rfl
 | ty _=>cases r;rfl
theorem bq.inj{x y:V}(r:bq x u)(q:bq y u):x=y:=Qy (r.abs.symm.trans q.abs)
theorem bf.inj:∀ {xs ys:List V} {us:List Value},bf xs us->bf ys us->xs=ys
 | _,_,_,.nil,.nil=>rfl
 | _,_,_,.cons r t,.cons r' t'=>by rw[r.inj r',bf.inj t t']
section
variable {X:Cx}{pins:List (Addr×Obj)}{σ:St}{H:Hp}{s:Shared}{a:Addr}{xs ys:List V}
theorem cK.of(h:H a=some (.lst xs)):cK K H a xs:=.inl (.inl h)
theorem cE.of(h:H a=some (.tup xs)):cE K H a xs:=.inl (.inl h)
theorem Inv.list(I:Inv X pins σ H s)(h:cK X.K H a xs):∃ au:List Value,bf xs au/\PlainL s.heap a au.toArray/\xs.length<=sizeLine:=by
 rcases h with h|⟨o,au,n,hk,hc,hd,hs,hz,r⟩
 ·obtain⟨z,au,n,r,e⟩:=h.ok I.aA
  exact⟨au,r,⟨_,n,e,rfl,rfl,rfl⟩,z⟩
 ·refine⟨au.toList,r,⟨o,n,I.dW a o hk,hc,hd,by simpa using hs⟩,?_⟩
  have e:=r.length
  simp only[Q5]at e
  omega
theorem Inv.tuple(I:Inv X pins σ H s)(h:cE X.K H a xs):∃ au:List Value,bf xs au/\IsTup s.heap a au.toArray/\xs.length<=sizeLine:=by
 rcases h with h|⟨o,au,n,hk,hc,hs,hz,r⟩
 ·obtain⟨z,au,r,p⟩:=h.ok I.aA
  exact⟨au,r,p.tup,z⟩
 ·refine⟨au.toList,r,⟨o,I.dW a o hk,hc,n,by simpa using hs⟩,?_⟩
  have e:=r.length
  simp only[Q5]at e
  omega
theorem Inv.jq(I:Inv X pins σ H s)(h:cK X.K H a xs)(h':cK X.K H a ys):xs=ys:=by
 obtain⟨au,r,⟨o,n,e,_,_,d⟩,_⟩:=I.list h
 obtain⟨its',r',⟨o',n',e',_,_,d'⟩,_⟩:=I.list h'
 rw[e]at e';cases e'
 rw[d]at d'
 injection d' with d1 _
 have:au=its':=by simpa using JZ Array.toList d1
 subst this
 exact r.inj r'
theorem Inv.ir(I:Inv X pins σ H s)(h:cE X.K H a xs)(h':cE X.K H a ys):xs=ys:=by
 obtain⟨au,r,⟨o,e,_,n,d⟩,_⟩:=I.tuple h
 obtain⟨its',r',⟨o',e',_,n',d'⟩,_⟩:=I.tuple h'
 rw[e]at e';cases e'
 rw[d]at d'
 injection d' with d1 _
 have:au=its':=by simpa using JZ Array.toList d1
 subst this
 exact r.inj r'
end
abbrev Cx.hJ (X:Cx)(E:Value->Shared->Prop):Cx:={ X with xe:=E }
abbrev Cx.ft (X:Cx):Cx:=X.hJ fun _ _=>False
theorem Cx.Ok.hJ{X:Cx}(ok:X.Ok)(E:Value->Shared->Prop):(X.hJ E).Ok:=
 ⟨ok.mod,ok.kind,ok.glob,ok.blt,ok.above,ok.inj,ok.has,ok.sZ,ok.hd,ok.frames,ok.w_,ok.zh,ok.bs,ok.lP,ok.mq,ok.mr,ok.eo,ok.pN⟩
theorem Cx.Ok.di{X:Cx}(ok:(X.hJ E).Ok):X.Ok:=
 ⟨ok.mod,ok.kind,ok.glob,ok.blt,ok.above,ok.inj,ok.has,ok.sZ,ok.hd,ok.frames,ok.w_,ok.zh,ok.bs,ok.lP,ok.mq,ok.mr,ok.eo,ok.pN⟩
section
variable {X:Cx}{pins:List (Addr×Obj)}{σ:St}{H:Hp}{s:Shared}{E:Value->Shared->Prop}
theorem Inv.hJ(I:Inv X pins σ H s)(E:Value->Shared->Prop):Inv (X.hJ E) pins σ H s:=⟨I.ok.hJ E,I.os,I.bare,I.base,I.loc,I.cell,I.free,I.cQ,I.pin,I.aA,I.len⟩
theorem Inv.di(I:Inv (X.hJ E) pins σ H s):Inv X pins σ H s:=⟨I.ok.di,I.os,I.bare,I.base,I.loc,I.cell,I.free,I.cQ,I.pin,I.aA,I.len⟩
theorem SP.di{D:Ends}{f:Flow}(h:SP (X.hJ E) pins D f s'):SP X pins D f s':=by
 cases f with
 | next=>obtain⟨aM,H',I,q⟩:=h;exact⟨aM,H',I.di,q⟩
 | brk=>obtain⟨aM,H',I,q⟩:=h;exact⟨aM,H',I.di,q⟩
 | cont=>obtain⟨aM,H',I,q⟩:=h;exact⟨aM,H',I.di,q⟩
 | ret u=>obtain⟨v,aM,H',I,r,q⟩:=h;exact⟨v,aM,H',I.di,r,q⟩
theorem iM.ft{st:List Stmt}{t:TS}(h:iM X.ft st t):iM X st t:=fun pins s σ H D I hw=>
 Ze (h pins s σ H D (I.hJ _) hw) (fun _ _ q=>q.di) fun _ _ z=>False.elim z
end
section
variable {X:Cx}{st:Stmt}{bE:List Stmt}{t u:TS}{e:Expr}{te:TE}{pos:Pos}
def Lc:TS:=fun D σ H=>D.nx σ H
def Ld (t u:TS):TS:=fun D σ H=>t { D with nx:=u D } σ H
theorem Le:iM X [] Lc:=fun _ _ σ H _ I h=>J0 ⟨σ,H,I,h⟩
theorem Lf(h1:PS X st t)(h2:iM X bE u):iM X (st::bE) (Ld t u):=by
 intro pins s σ H D I h
 refine wpAny_execs_cons (aN (h1 pins s σ H { D with nx:=u D } I h) fun f s1 q=>?_)
 cases f with
 | next=>
  obtain⟨aM,H',I',q⟩:=q
  exact h2 pins s1 aM H' D I' q
 | ret v=>exact q
 | brk=>exact q
 | cont=>exact q
theorem Lg(h1:PS X st t):iM X [st] t:=by
 intro pins s σ H D I h
 refine wpAny_execs_cons (aN (h1 pins s σ H D I h) fun f s1 q=>?_)
 cases f with
 | next=>exact J0 q
 | ret v=>exact q
 | brk=>exact q
 | cont=>exact q
theorem Inv.quiet{σ:St}{H:Hp}(I:Inv X pins σ H s):interactive X.env=false:=by simp[interactive,I.ok.kind]
def Lh (te:TE):TS:=fun D σ H=>te σ H fun _ H1=>D.nx σ H1
theorem Li(he:PE X e te)(hs:swapsWith e none pos.line X.env=pure false:=by rfl):PS X (.Expr e pos) (Lh te):=by
 intro pins s σ H D I h
 exact wpAny_Expr_any (aN (he pins s σ H _ I h) fun v s1 ⟨x,H1,I1,r1,q1⟩=>⟨σ,H1,I1,q1⟩) I.quiet hs
def Lj (te:TE):TS:=fun D σ H=>te σ H D.rt
theorem D4(he:PE X e te):PS X (.Return (some e) pos) (Lj te):=by
 intro pins s σ H D I h
 exact wpAny_Return_some (aN (he pins s σ H _ I h) fun v s1 ⟨x,H1,I1,r1,q1⟩=>⟨x,σ,H1,I1,r1,q1⟩)
def Lk (c:TT)(t u:TS):TS:=fun D σ H=>c σ H fun b H1=>if b=true then t D σ H1 else u D σ H1
theorem Ll{a b:List Stmt}{tc:TT}(hc:PT X c tc)(ha:iM X a t)(hb:iM X b u):PS X (.If c a b pos) (Lk tc t u):=by
 intro pins s σ H D I h
 refine wpAny_If (aN (hc pins s σ H _ I h) fun d s1 ak=>?_)
 obtain⟨H1,I1,q1⟩:=ak
 cases d with
 | true=>exact ha pins s1 σ H1 D I1 q1
 | false=>exact hb pins s1 σ H1 D I1 q1
def Ln:TS:=fun _ _ _=>False
theorem Lo:PS X st Ln:=fun _ _ _ _ _ _ h=>h.elim
end
abbrev TG:=V->St->Hp->(St->Hp->Prop)->Prop
abbrev oq:=List V->St->Hp->(St->Hp->Prop)->Prop
def PG (X:Cx)(target:Expr)(t:TG):Prop:=
 ∀ (pins:List (Addr×Obj)) (s:Shared) (σ:St) (H:Hp) (v:V) (u:Value) (Q:St->Hp->Prop),Inv X pins σ H s->bq v u->t v σ H Q->
  wpAny (model X.prog X.w) X.A (assign target X.env u) (fun _ s'=>∃ aM H',Inv X pins aM H' s'/\Q aM H') X.xe s
def nH (X:Cx)(ts:List Expr)(t:oq):Prop:=
 ∀ (pins:List (Addr×Obj)) (s:Shared) (σ:St) (H:Hp) (vs:List V) (us:List Value) (Q:St->Hp->Prop),Inv X pins σ H s->bf vs us->t vs σ H Q->
  wpAny (model X.prog X.w) X.A (assignInOrder ((assignEach ts X.env).map (·.2)) us) (fun _ s'=>∃ aM H',Inv X pins aM H' s'/\Q aM H') X.xe s
section
variable {X:Cx}{pos:Pos}
def zr (i:Nat):TG:=fun v σ H Q=>Q (σ.set i (some v)) H
theorem Lp(hN:X.N.Nodup)(hi:X.N[i]? = some x)(hx:Loc X.env.scope x)(hf:X.fn x=true\/X.env.scope.names.lookup x=some .local:=by first|exact .inl rfl|exact .inr rfl|assumption):PG X (.Name x pos) (zr i):=by
 intro pins s σ H v u Q I r h
 exact wpAny_assign_Name (xb I hN hi hx r (fun s' I'=>⟨_,H,I',h⟩) hf)
def Lq:oq:=fun vs σ H Q=>vs=[]/\Q σ H
def Lr (t:TG)(u:oq):oq:=fun vs σ H Q=>∃ v r,vs=v::r/\t v σ H fun aM H'=>u r aM H' Q
theorem Ls:nH X [] Lq:=by
 intro pins s σ H vs us Q I r h
 obtain⟨e,h⟩:=h
 subst e
 cases r
 exact assignInOrder_nil ⟨σ,H,I,h⟩
theorem Lu{t:TG}{u:oq}(h1:PG X e t)(h2:nH X es u)
  (hs:(assignEach (e::es) X.env).map (·.2)=assign e X.env::(assignEach es X.env).map (·.2):=by rfl):nH X (e::es) (Lr t u):=by
 intro pins s σ H vs us Q I r h
 obtain⟨v,vr,e1,h⟩:=h
 subst e1
 cases r with
 | cons r rr=>
  rw[hs]
  refine Ye (aN (h1 pins s σ H _ _ _ I r h) fun _ s1 ak=>?_)
  obtain⟨nI,H1,I1,q1⟩:=ak
  exact h2 pins s1 nI H1 _ _ Q I1 rr q1
def Lv (K:PySem.W.Frag)(n:Nat)(t:oq):TG:=fun v σ H Q=>∃ a xs,v=.ref a/\cE K H a xs/\xs.length=n/\t xs σ H Q
theorem Lw{k:Nat}{t:oq}(hc:X.calm=true)(h:nH X es t)
  (hn:(assignEach es X.env).length=n:=by rfl) (k8:(assignEach es X.env).findIdx? (·.1)=none:=by rfl):PG X (.Tuple es k pos) (Lv X.K n t):=by
 intro pins s σ H v u Q I r hw
 obtain⟨a,xs,e1,hq,hl,hw⟩:=hw
 subst e1
 cases r
 obtain⟨au,rv,ht,hz⟩:=I.tuple hq
 refine assign_Tuple_tuple (I.ok.hd hc) ht (by simp[hn,<- hl,rv.length]) k8 fun h' hx=>?_
 have I1:Inv X pins σ H { s with heap:=h' }:=I.kept (t':=s.toks) fun b o e=>hx b o (QB (Qj e)) e
 exact h pins _ σ H xs _ Q I1 (by simpa using rv) hw
def zt (te:TE)(g:TG):TS:=fun D σ H=>te σ H fun x H1=>g x σ H1 D.nx
theorem Lx{te:TE}{g:TG}(he:PE X e te)(hg:PG X tg g)(hs:swapsWithSole [tg] e pos.line X.env=pure false:=by rfl)(hw:swappedStores [tg] e X.env=pure none:=by rfl)
  (h1:(assignEach [tg] X.env).map (·.2)=[assign tg X.env]:=by rfl):PS X (.Assign [tg] e pos) (zt te g):=by
 intro pins s σ H D I h
 refine wpAny_Assign_stores (aN (he pins s σ H _ I h) fun v s1 ⟨x,H1,I1,r1,q1⟩=>?_) hs hw
 rw[h1]
 exact aN (hg pins s1 σ H1 x v _ I1 r1 q1) fun _ s2 q=>q
theorem Ly{te:TE}{pos':Pos}(hN:X.N.Nodup)(hi:X.N[i]? = some x)(hx:Loc X.env.scope x)(he:PE X e te)(hs:swapsWith e (some (.Name x pos')) pos.line X.env=pure false:=by rfl)(hf:X.fn x=true\/X.env.scope.names.lookup x=some .local:=by first|exact .inl rfl|exact .inr rfl|assumption) :
  PS X (.Assign [.Name x pos'] e pos) (zt te (zr i)):=by
 intro pins s σ H D I h
 refine wpAny_Assign_Name (aN (he pins s σ H _ I h) fun v s1 ⟨y,H1,I1,r1,q1⟩=>?_) hs
 exact xb I1 hN hi hx r1 (fun s2 I2=>⟨_,H1,I2,q1⟩) hf
def Lz (i j:Nat)(ta:TA):TS:=fun D σ H=>ta σ H fun vs H1=>∃ v w,vs=[v,w]/\D.nx ((σ.set i (some v)).set j (some w)) H1
theorem LA{y:Str}{a b:Expr}{ta:TA}{px py pt:Pos}{kt k2 qU}(hc:X.calm=true)(hN:X.N.Nodup)(hi:X.N[i]? = some x)(hj:X.N[j]? = some y)(uv:i≠j)
  (hx:X.env.scope.names.lookup x=some .local) (hy:X.env.scope.names.lookup y=some .local) (ha:PA X [a,b] ta)
  (hw:swappedStores [.Tuple [.Name x px,.Name y py] kt pt] (.Tuple [a,b] k2 qU) X.env=pure (some [x,y]))
  (hs:swapsWithSole [.Tuple [.Name x px,.Name y py] kt pt] (.Tuple [a,b] k2 qU) pos.line X.env=pure false:=by rfl) :
  PS X (.Assign [.Tuple [.Name x px,.Name y py] kt pt] (.Tuple [a,b] k2 qU) pos) (Lz i j ta):=by
 intro pins s σ H D I h
 rw[exec_Assign_arm]
 refine Qa (wpAny_standAt ?_)
 rw[hs]
 refine Qa (Qb ?_)
 rw[Qf (by decide)]
 refine Qa (Tuple_ (aN (ha _ pins s σ H _ I h) fun us s1 ak=>?_))
 obtain⟨vs,H1,I1,r1,q1⟩:=ak
 obtain⟨v,w,e1,q1⟩:=q1
 subst e1
 obtain⟨u1,u2,rfl,rv,j8⟩:∃ u1 u2,us=[u1,u2]/\bq v u1/\bq w u2:=by
  cases r1 with
  | cons p q=>
   cases q with
   | cons p' q'=>
    cases q'
    exact⟨_,_,rfl,p,p'⟩
 refine QF ?_ (by show 2<=sizeLine;decide)
 have I2:Inv X pins σ H1 { s1 with heap:=s1.heap.push { cls:=.type "tuple",data:=.seq [u1,u2].toArray } }:=I1.kept (t':=s1.toks) fun b o e=>Qc _ e
 rw[hw]
 refine Qa (Qb ?_)
 show wpAny (model X.prog X.w) X.A (do rule "assign.swapped-stores";let items <- unpackItems (.ref s1.heap.objs.size) 2 none;assignInOrder [fun v=>bindName X.env y v,fun v=>bindName X.env x v] items.reverse;pure Flow.next) _ _ _
 refine Qa (Jz (Qa (unpackItems_tuple (items:=#[u1,u2]) (I.ok.hd hc) (IsTup.new s1.heap _) fun h' iu=>?_)))
 have I3:=I2.kept (h':=h') (t':=s1.toks) fun b o e=>iu b o (QB (Qj e)) e
 show wpAny _ _ (assignInOrder [fun v=>bindName X.env y v,fun v=>bindName X.env x v] [u2,u1] >>= fun _=>pure Flow.next) _ _ _
 refine Qa (Ye (wpAny_bindName (xb I3 hN hj (.inl hy) j8 (fun s2 I4=>?_) (.inr hy))))
 refine Ye (wpAny_bindName (xb I4 hN hi (.inl hx) rv (fun s3 I5=>assignInOrder_nil (Qb ?_)) (.inr hx)))
 rw[List.set_comm _ _ (Jb uv)]at I5
 exact⟨_,H1,I5,q1⟩
def LB (c:TT)(tb:TS):TS:=fun D σ H=>∃ W:Nat->St->Hp->Prop,(∃ m,W m σ H)/\∀ m σ H,W m σ H->
 c σ H fun b H1=>if b=true then ∃ N:St->Hp->Prop,(∀ aM H',N aM H'->∃ m',m'<m/\W m' aM H')/\tb { D with nx:=N,ct:=N,bk:=D.nx } σ H1 else D.nx σ H1
theorem LC{tc:TT}{tb:TS}(hp:PassesOwn (model X.prog X.w) X.A X.env X.xe)(hc:PT X c tc)(hb:iM X body tb):PS X (.While c body [] pos) (LB tc tb):=by
 intro pins s σ H D I h
 obtain⟨W,⟨m0,w0⟩,turn⟩:=h
 refine wpAny_While (codeAny_whileLoop (fun n s'=>∃ aM H',Inv X pins aM H' s'/\W n aM H') ?_ m0 ⟨σ,H,I,w0⟩)
 rintro n s1 ⟨nI,H1,I1,w1⟩
 refine ZO hp (aN (hc pins s1 nI H1 _ I1 (turn n nI H1 w1)) fun b s2 ak=>?_)
 obtain⟨H2,I2,q2⟩:=ak
 cases b with
 | true=>
  obtain⟨N,hN,q2⟩:=q2
  rw[Qe rfl]
  refine ZO hp (aN (hb pins s2 nI H2 _ I2 q2) fun f s3 q3=>?_)
  cases f with
  | next=>
   obtain⟨mv,H3,I3,n3⟩:=q3
   obtain⟨m',hm,w3⟩:=hN mv H3 n3
   exact⟨m',hm,mv,H3,I3,w3⟩
  | cont=>
   obtain⟨mv,H3,I3,n3⟩:=q3
   obtain⟨m',hm,w3⟩:=hN mv H3 n3
   exact⟨m',hm,mv,H3,I3,w3⟩
  | brk=>exact q3
  | ret v=>exact q3
 | false=>
  rw[Qf QW]
  exact J0 ⟨nI,H2,I2,q2⟩
end
structure It where
 go:Nat->Hp->Prop
 qV:Nat->Hp->V->Hp->Prop
 stop:Nat->Hp->Prop
def mw (X:Cx)(pins:List (Addr×Obj))(H:Hp)(b:Addr):Prop:=
 H b=none/\b≠X.env.locals/\b ∉ X.fs/\(b∈X.ex\/X.bA.heap.objs.size<=b)/\(∀ x c,X.env.cells.lookup x=some c->c≠b)/\∀ p∈X.pn++pins,p.1≠b
theorem Inv.ot{X:Cx}{σ:St}{H H':Hp}(I:Inv X pins σ H s)(hb:s.heap.objs.size<=b)(hn:H' b=none):mw X pins H' b:=by
 refine⟨hn,Y3 (Qo I.lt hb),I.uk hb,.inr (QC I.sz hb),fun x c e z=>?_,fun p hp z=>?_⟩
 ·obtain⟨v,q⟩:=I.cell x c e
  exact absurd (Qo q.lt (by rw[z];exact hb)) (QP _)
 ·exact absurd (Qo (Qj (I.pin p hp).1) (by rw[z];exact hb)) (QP _)
structure Turn (P:Program) (w:World) (K:PySem.W.Frag) (tg:Expr) (J:It) (fp:List Addr) (it:Addr) (tn:Nat->Heap->Prop):Prop where
 mem:it∈fp
 obj:∀ i h,tn i h->∀ b∈fp,∃ o,h.get? b=some o/\∀ v,o.data ≠ .cell v
 keep:∀ i h h',tn i h->(∀ b∈fp,∀ o,h.get? b=some o->h'.get? b=some o)->tn i h'
 item:∀ (X:Cx),X.prog=P->X.w=w->X.K=K->X.calm=true->∀ (i:Nat) (pins:List (Addr×Obj)) (s:Shared) (σ:St) (H:Hp) (E:Value->Shared->Prop),Inv X pins σ H s->(∀ b∈fp,mw X pins H b)->tn i s.heap->J.go i H->
  wpAny (model P w) X.A (pyNext (.ref it)) (fun r s1=>∃ u,r=some u /\
   wpAny (model P w) X.A (letOwnedTupleGo tg (.ref it) u) (fun _ s2=>∃ x H',Inv X pins σ H' s2/\bq x u/\J.qV i H x H'/\tn (i+1) s2.heap/\∀ b∈fp,H' b=none) E s1) E s
 done:∀ (X:Cx),X.prog=P->X.w=w->X.K=K->X.calm=true->∀ (i:Nat) (pins:List (Addr×Obj)) (s:Shared) (σ:St) (H:Hp) (E:Value->Shared->Prop),Inv X pins σ H s->(∀ b∈fp,mw X pins H b)->tn i s.heap->J.stop i H->
  wpAny (model P w) X.A (pyNext (.ref it)) (fun r s1=>r=none/\Inv X pins σ H s1) E s
 self:∀ (A:Around) (i:Nat) (s:Shared) (Q:Value->Shared->Prop) (E:Value->Shared->Prop),tn i s.heap->Q (.ref it) s->wpAny (model P w) A (pyIter (.ref it)) Q E s
abbrev TI:=St->Hp->(It->Hp->Prop)->Prop
def zu (X:Cx)(pins:List (Addr×Obj))(σ:St)(tg:Expr)(R:It->Hp->Prop)(xi:Value)(s2:Shared):Prop:=
 ∃ (it:Addr) (fp:List Addr) (tn:Nat->Heap->Prop) (J:It) (H':Hp),xi=.ref it/\Inv X pins σ H' s2/\Turn X.prog X.w X.K tg J fp it tn/\tn 0 s2.heap/\(∀ b∈fp,mw X pins H' b)/\R J H'
def PI (X:Cx)(tg iter:Expr)(wi:TI):Prop:=
 ∀ (pins:List (Addr×Obj)) (s:Shared) (σ:St) (H:Hp) (R:It->Hp->Prop),Inv X pins σ H s->wi σ H R->
  wpAny (model X.prog X.w) X.A (eval iter X.env) (fun v s1=>wpAny (model X.prog X.w) X.A (pyIter v) (zu X pins σ tg R) X.xe s1) X.xe s
theorem zw{n:String}{vs:Array Value}{Q:Unit->Shared->Prop}(ho:s.heap.get? it=some o)(hc:o.cls=.type n)(hd:o.data=.fields vs)
  (hn:["enumerate","zip","dict_itemiterator","dict_reverseitemiterator","odict_iterator","itertools.zip_longest","itertools.pairwise"].contains n=false) (hQ:Q () s):wpAny M A (letOwnedTupleGo tg (.ref it) u) Q E s:=by
 unfold letOwnedTupleGo
 cases tg<;>first
  | exact Qb hQ
  | (cases u<;>first
      | exact Qb hQ
      | (refine Qa (wpAny_load ho ?_)
         rw[hc,hd]
         show wpAny M A (if(["enumerate","zip","dict_itemiterator","dict_reverseitemiterator","odict_iterator","itertools.zip_longest","itertools.pairwise"].contains n&&vs[0]? == some (rawInt _))=true then _ else _) Q E s
         rw[Qf (by intro h;rw[hn,Bool.false_and]at h;cases h)]
         exact Qb hQ))
def zx (K:PySem.W.Frag)(a:Addr):It:=
 ⟨fun i H=>∃ xs x,cK K H a xs/\xs[i]? = some x,fun i H x H'=>H'=H/\∀ xs,cK K H a xs->xs[i]? = some x,fun i H=>∃ xs,cK K H a xs/\xs.length<=i⟩
def zy (K:PySem.W.Frag)(a:Addr):It:=
 ⟨fun i H=>∃ xs x,cE K H a xs/\xs[i]? = some x,fun i H x H'=>H'=H/\∀ xs,cE K H a xs->xs[i]? = some x,fun i H=>∃ xs,cE K H a xs/\xs.length<=i⟩
def xj (lo:Int)(n:Nat):It:=⟨fun i _=>i<n,fun i H x H'=>H'=H/\x=.int (lo+i),fun i _=>n<=i⟩
theorem LD(a it:Addr):Turn P w K tg (zx K a) [it] it (fun i h=>h.IsListIter it a i) where
 mem:=by simp
 obj:=fun i h st b hb=>by
  have e:b=it:=by simpa using hb
  subst e
  obtain⟨o,e,c,d⟩:=st
  exact⟨o,e,fun v z=>by rw[d]at z;cases z⟩
 keep:=fun i h h' st k=>st.at fun o e=>k it (by simp) o e
 item:=by
  intro X hP hw hK hc i pins s σ H E I hf st hg
  subst hP hw hK
  obtain⟨xs,x,hq,hx⟩:=hg
  obtain⟨au,rv,p,hz⟩:=I.list hq
  obtain⟨u,hu,ru⟩:=rv.get hx
  obtain⟨f0,f1,f2,f3,f4,f5⟩:=hf it (by simp)
  refine wpAny_pyNext_list_item st p.isList (x:=u) (by simpa using hu) fun h' lR sb=>?_
  have I1:Inv X pins σ H { s with heap:=h' }:=I.turned (t':=s.toks) (fun b o hb e=>(sb.2 b hb).trans e) f0 f1 f3 f4 f5
  obtain⟨o,e,c,d⟩:=id lR
  exact⟨u,rfl,zw (s:={ s with heap:=h' }) e c d (by decide) ⟨x,H,I1,ru,⟨rfl,fun ys hy=>by rw[I.jq hy hq];exact hx⟩,lR,fun b hb=>(hf b hb).1⟩⟩
 done:=by
  intro X hP hw hK hc i pins s σ H E I hf st hg
  subst hP hw hK
  obtain⟨xs,hq,hx⟩:=hg
  obtain⟨au,rv,p,hz⟩:=I.list hq
  obtain⟨f0,f1,f2,f3,f4,f5⟩:=hf it (by simp)
  have hl:=rv.length
  exact wpAny_pyNext_list_end (I.ok.hd hc) st p.isList (by simp;omega) fun h' eb=>⟨rfl,I.turned (t':=s.toks) (fun b o hb e=>eb b o hb e) f0 f1 f3 f4 f5⟩
 self:=fun _ _ _ _ _ st h=>wpAny_pyIter_listiter st h
theorem LF(a it:Addr):Turn P w K tg (zy K a) [it] it (fun i h=>h.IsTupleIter it a i) where
 mem:=by simp
 obj:=fun i h st b hb=>by
  have e:b=it:=by simpa using hb
  subst e
  obtain⟨o,e,c,d⟩:=st
  exact⟨o,e,fun v z=>by rw[d]at z;cases z⟩
 keep:=fun i h h' st k=>st.at fun o e=>k it (by simp) o e
 item:=by
  intro X hP hw hK hc i pins s σ H E I hf st hg
  subst hP hw hK
  obtain⟨xs,x,hq,hx⟩:=hg
  obtain⟨au,rv,p,hz⟩:=I.tuple hq
  obtain⟨u,hu,ru⟩:=rv.get hx
  obtain⟨f0,f1,f2,f3,f4,f5⟩:=hf it (by simp)
  refine wpAny_pyNext_tuple_item st (show s.heap.IsTuple a au.toArray from p) (x:=u) (by simpa using hu) fun h' lR sb=>?_
  have I1:Inv X pins σ H { s with heap:=h' }:=I.turned (t':=s.toks) (fun b o hb e=>(sb.2 b hb).trans e) f0 f1 f3 f4 f5
  obtain⟨o,e,c,d⟩:=id lR
  exact⟨u,rfl,zw (s:={ s with heap:=h' }) e c d (by decide) ⟨x,H,I1,ru,⟨rfl,fun ys hy=>by rw[I.ir hy hq];exact hx⟩,lR,fun b hb=>(hf b hb).1⟩⟩
 done:=by
  intro X hP hw hK hc i pins s σ H E I hf st hg
  subst hP hw hK
  obtain⟨xs,hq,hx⟩:=hg
  obtain⟨au,rv,p,hz⟩:=I.tuple hq
  obtain⟨f0,f1,f2,f3,f4,f5⟩:=hf it (by simp)
  have hl:=rv.length
  exact wpAny_pyNext_tuple_end (I.ok.hd hc) st (show s.heap.IsTuple a au.toArray from p) (by simp;omega) fun h' eb=>⟨rfl,I.turned (t':=s.toks) (fun b o hb e=>eb b o hb e) f0 f1 f3 f4 f5⟩
 self:=fun _ _ _ _ _ st h=>wpAny_pyIter_tupleiter st h
theorem LG(it:Addr)(lo:Int)(n:Nat):Turn P w K tg (xj lo n) [it] it (fun i h=>IsRangeIter h it (lo+(i:Nat)*1) ((n:Int)-(i:Nat)) 1) where
 mem:=by simp
 obj:=fun i h st b hb=>by
  have e:b=it:=by simpa using hb
  subst e
  exact⟨_,st,fun v z=>by
   have z':Data.fields _=Data.cell v:=z
   cases z'⟩
 keep:=fun i h h' st k=>k it (by simp) _ st
 item:=by
  intro X hP hw hK hc i pins s σ H E I hf st hg
  subst hP hw hK
  obtain⟨f0,f1,f2,f3,f4,f5⟩:=hf it (by simp)
  have W:=Walks.range (prog:=X.prog) (w:=X.w) (I.ok.hd hc) it lo 1 n
  refine W.item i s _ _ hg st fun v h' tk hv lR kk=>?_
  obtain⟨t,rfl⟩:=hv
  have I1:Inv X pins σ H { s with heap:=h',toks:=tk }:=I.turned (fun b o hb e=>kk b o (by simpa using hb) e) f0 f1 f3 f4 f5
  refine⟨_,rfl,zw (s:={ s with heap:=h',toks:=tk }) (n:="range_iterator") lR rfl rfl (by decide) ⟨.int (lo+i),H,I1,⟨t,?_⟩,⟨rfl,rfl⟩,lR,fun b hb=>(hf b hb).1⟩⟩
  rw[Int.mul_one]
 done:=by
  intro X hP hw hK hc i pins s σ H E I hf st hg
  subst hP hw hK
  obtain⟨f0,f1,f2,f3,f4,f5⟩:=hf it (by simp)
  exact wpAny_pyNext_range_end (I.ok.hd hc) st (by have:n<=i:=hg;omega) fun h' eb=>⟨rfl,I.turned (t':=s.toks) (fun b o hb e=>eb b o hb e) f0 f1 f3 f4 f5⟩
 self:=fun _ _ _ _ _ st h=>wpAny_pyIter_rangeiter st h
section
variable {X:Cx}{tg:Expr}
theorem LH{σ:St}{H:Hp}{R:It->Hp->Prop}{lo hi:Int}{t u v:Tok}{tk:Nat}(I:Inv X pins σ H s)(h1:-(2 ^ 62)<=lo)(h2:lo<2 ^ 62)(h3:-(2 ^ 62)<=hi)(h4:hi<2 ^ 62)
  (q:R (xj lo (hi-lo).toNat) H):wpAny (model X.prog X.w) X.A (pyIter (.ref s.heap.objs.size)) (zu X pins σ tg R) E { s with heap:=s.heap.push { cls:=.type "range",data:=.fields #[.int lo t,.int hi u,.int 1 v] },toks:=tk }:=by
 refine wpAny_pyIter_range (IsRange.new ..) (small_one h1 h2 h3 h4) ?_
 have I1:Inv X pins σ H { s with heap:=s.heap.push { cls:=.type "range",data:=.fields #[.int lo t,.int hi u,.int 1 v] },toks:=tk }:=I.kept fun b o e=>Qc _ e
 refine⟨(s.heap.push { cls:=.type "range",data:=.fields #[.int lo t,.int hi u,.int 1 v] }).objs.size,[(s.heap.push { cls:=.type "range",data:=.fields #[.int lo t,.int hi u,.int 1 v] }).objs.size],_,_,H,rfl,
  I1.kept (t':=tk) fun b o e=>Qc _ e,LG _ lo (hi-lo).toNat,?_,fun b hb=>?_,q⟩
 ·have e1:lo+((0:Nat):Int)*1=lo:=by simp
  have e2:(((hi-lo).toNat:Nat):Int)-((0:Nat):Int)=Builtin.Range.rangeSize lo hi 1:=by rw[rangeSize_one];split<;>omega
  show IsRangeIter _ _ (lo+((0:Nat):Int)*1) ((((hi-lo).toNat:Nat):Int)-((0:Nat):Int)) 1
  rw[e1,e2]
  exact Qm _ rfl
 ·have e:b=(s.heap.push { cls:=.type "range",data:=.fields #[.int lo t,.int hi u,.int 1 v] }).objs.size:=by simpa using hb
  subst e
  exact I1.ot (Qd _) (I1.aA.fresh (Qd _))
def LJ (ta:TA):TI:=fun σ H R=>ta σ H fun vs H1=>∃ j:Int,vs=[.int j] /\ -(2 ^ 62)<=j/\j<2 ^ 62/\R (xj 0 j.toNat) H1
theorem LK{a:Expr}{ta:TA}{p pos:Pos}(hg:Gl X "range")(hm:X.mg "range" = none)(ha:PA X [a] ta)(hs:starEach [a] X.env=[(false,eval a X.env)]:=by rfl):PI X tg (.Call (.Name "range" p) [a] [] pos) (LJ ta):=by
 intro pins s σ H R I h
 refine Call_ (s_ I hg hm boot_range (ZF (aN (ha pos pins s σ H _ I h) fun us s1 ⟨vs,H1,I1,r1,q1⟩=>?_) hs rfl))
 obtain⟨j,e,q1,q2,q⟩:=q1
 subst e
 cases r1 with
 | cons r rr=>
  cases rr
  obtain⟨t,rfl⟩:=r
  exact call_range_1 (LH I1 (by omega) (by omega) q1 q2 (by simpa using q))
def LL (wi:TI)(g:TG)(tb:TS):TS:=fun D σ H=>wi σ H fun J H1=>∃ W:Nat->Nat->St->Hp->Prop,(∃ m,W 0 m σ H1)/\∀ i m σ H,W i m σ H->
 (J.stop i H/\D.nx σ H)\/(J.go i H/\∃ N:St->Hp->Prop,(∀ aM H',N aM H'->∃ m',m'<m/\W (i+1) m' aM H')/\∀ x H',J.qV i H x H'->g x σ H' fun mx H2=>tb { D with nx:=N,ct:=N,bk:=D.nx } mx H2)
def pQ (fp:List Addr)(h:Heap):List (Addr×Obj):=fp.filterMap fun b=>(h.get? b).map fun o=>(b,o)
theorem xk(hb:b∈fp)(e:h.get? b=some o):(b,o)∈pQ fp h:=List.mem_filterMap.mpr ⟨b,hb,by rw[e];rfl⟩
theorem D5{p:Addr×Obj}(hp:p∈pQ fp h):p.1∈fp/\h.get? p.1=some p.2:=by
 obtain⟨b,hb,e⟩:=List.mem_filterMap.mp hp
 cases q:h.get? b with
 | none=>rw[q]at e;cases e
 | some o=>
  rw[q]at e
  have e':(b,o)=p:=Qy e
  subst e'
  exact⟨hb,q⟩
theorem Inv.pinned{σ:St}{H:Hp}(I:Inv X pins σ H s)(hf:∀ b∈fp,mw X pins H b)(ho:∀ b∈fp,∃ o,s.heap.get? b=some o/\∀ v,o.data ≠ .cell v):Inv X (pins++pQ fp s.heap) σ H s:=
 I.gi fun p hp=>(QR.mp hp).elim (fun z=>I.pin p (Qk _ z)) fun z=>by
  obtain⟨hb,e⟩:=D5 z
  obtain⟨f0,f1,f2,_⟩:=hf p.1 hb
  obtain⟨o,e',d⟩:=ho p.1 hb
  rw[e]at e';cases e'
  exact⟨e,f0,f1,f2,d⟩
theorem Inv.eA{pl:List (Addr×Obj)}{σ:St}{H:Hp}(I:Inv X (pins++pl) σ H s):Inv X pins σ H s:=I.gi fun p hp=>I.pin p (Qk _ (QM _ hp))
theorem LM{iter:Expr}{wi:TI}{g:TG}{tb:TS}{pos:Pos}(hp:PassesOwn (model X.prog X.w) X.A X.env X.xe)(hc:X.calm=true)(hi:PI X tg iter wi)(hg:PG X tg g)(hb:iM X body tb)
  (hs:∀ x,foldedSetIterable iter X.env x=pure x:=by intro _;rfl):PS X (.For tg iter body [] pos) (LL wi g tb):=by
 intro pins s σ H D I h
 refine wpAny_For (aN (hi pins s σ H _ I h) fun v s1 h1=>aN h1 fun xi s2 h2=>?_) hs
 obtain⟨it,fp,tn,J,H2,e,I2,T,pR,f2,W,⟨m0,w0⟩,turn⟩:=h2
 subst e
 have j9:∀ {H':Hp},(∀ b∈fp,H' b=none)->∀ b∈fp,mw X pins H' b:=fun hn b hb=>⟨hn b hb,(f2 b hb).2⟩
 refine codeAny_forLoop_any (fun n s'=>∃ i aM H',Inv X pins aM H' s'/\tn i s'.heap/\(∀ b∈fp,H' b=none)/\W i n aM H') ?_ m0 ⟨0,σ,H2,I2,pR,fun b hb=>(f2 b hb).1,w0⟩
 rintro n s3 ⟨i,mv,H3,I3,uw,D6,w3⟩
 rcases turn i n mv H3 w3 with⟨stop,qn⟩|⟨go,N,hN,step⟩
 ·refine ZO hp (aN (T.done X rfl rfl rfl hc i pins s3 mv H3 X.xe I3 (j9 D6) uw stop) fun r s4 ⟨hr,I4⟩=>?_)
  subst hr
  exact J0 ⟨mv,H3,I4,qn⟩
 ·refine ZO hp (aN (T.item X rfl rfl rfl hc i pins s3 mv H3 X.xe I3 (j9 D6) uw go) fun r s4 ⟨u,hr,h4⟩=>?_)
  subst hr
  refine ZO hp (aN h4 fun _ s5 ak=>?_)
  obtain⟨x,H5,I5,r5,y5,qW,zz⟩:=ak
  have zA:=I5.pinned (j9 zz) (T.obj _ _ qW)
  refine ZO hp (aN (hg _ s5 mv H5 x u _ zA r5 (step x H5 y5)) fun _ s6 ak=>?_)
  obtain⟨D7,H6,I6,q6⟩:=ak
  refine ZO hp (aN (hb _ s6 D7 H6 _ I6 q6) fun f s7 q7=>?_)
  have again:∀ {my:St} {H7:Hp},Inv X (pins++pQ fp s5.heap) my H7 s7->N my H7->∃ m,m<n/\∃ i aM H',Inv X pins aM H' s7/\tn i s7.heap/\(∀ b∈fp,H' b=none)/\W i m aM H':=fun {my H7} I7 n7=>by
   obtain⟨m',hm,w7⟩:=hN my H7 n7
   refine⟨m',hm,i+1,my,H7,I7.eA,T.keep _ _ _ qW fun b hb o e=>(I7.pin (b,o) (Qk _ (Qk _ (xk hb e)))).1,fun b hb=>?_,w7⟩
   obtain⟨o,e,d⟩:=T.obj _ _ qW b hb
   exact(I7.pin (b,o) (Qk _ (Qk _ (xk hb e)))).2.1
  cases f with
  | next=>obtain⟨my,H7,I7,n7⟩:=q7;exact again I7 n7
  | cont=>obtain⟨my,H7,I7,n7⟩:=q7;exact again I7 n7
  | brk=>obtain⟨my,H7,I7,q7⟩:=q7;exact⟨my,H7,I7.eA,q7⟩
  | ret v=>obtain⟨x7,my,H7,I7,r7,q7⟩:=q7;exact⟨x7,my,H7,I7.eA,r7,q7⟩
end
abbrev R2:=V->V->Hp->VK->Prop
def b_ (X:Cx)(f:Value->Value->Sem Value)(r:R2):Prop:=
 ∀ (pins:List (Addr×Obj)) (s:Shared) (σ:St) (H:Hp) (x y:V) (v u:Value) (Q:VK),Inv X pins σ H s->bq x v->bq y u->r x y H Q->
  wpAny (model X.prog X.w) X.A (f v u) (EP X pins σ Q) X.xe s
def zB (X:Cx)(f:Value->Sem Value)(r:V->Hp->VK->Prop):Prop:=
 ∀ (pins:List (Addr×Obj)) (s:Shared) (σ:St) (H:Hp) (x:V) (v:Value) (Q:VK),Inv X pins σ H s->bq x v->r x H Q->
  wpAny (model X.prog X.w) X.A (f v) (EP X pins σ Q) X.xe s
def mz (X:Cx)(f:Value)(r:List V->Hp->VK->Prop):Prop:=
 ∀ (pins:List (Addr×Obj)) (s:Shared) (σ:St) (H:Hp) (xs:List V) (us:List Value) (Q:VK),Inv X pins σ H s->bf xs us->r xs H Q->
  wpAny (model X.prog X.w) X.A (call f us) (EP X pins σ Q) X.xe s
def LN (X:Cx)(r:V->Hp->(Bool->Hp->Prop)->Prop):Prop:=
 ∀ (pins:List (Addr×Obj)) (s:Shared) (σ:St) (H:Hp) (x:V) (v:Value) (Q:Bool->Hp->Prop),Inv X pins σ H s->bq x v->r x H Q->
  wpAny (model X.prog X.w) X.A (truthy v) (TP X pins σ Q) X.xe s
def jh (r:R2)(ta tb:TE):TE:=fun σ H Q=>ta σ H fun x H1=>tb σ H1 fun y H2=>r x y H2 Q
def D8 (r:V->Hp->VK->Prop)(ta:TE):TE:=fun σ H Q=>ta σ H fun x H1=>r x H1 Q
def rI (C:Int->Int->Prop)(g:Int->Int->V):R2:=fun x y H Q=>∃ i j,x=.int i/\y=.int j/\C i j/\Q (g i j) H
def jS (g:Int->Int->V):R2:=fun x y H Q=>∃ i j,x=.int i/\y=.int j/\Q (g i j) H
def rU (g:Int->V):V->Hp->VK->Prop:=fun x H Q=>∃ i,x=.int i/\Q (g i) H
section
variable {X:Cx}{a b c:Expr}{ta tb tc:TE}{pos:Pos}
theorem zC(ha:PE X a ta)(hb:PE X b tb){σ:St}{H:Hp}{R:V->V->Hp->Prop}(I:Inv X pins σ H s)
  (h:ta σ H fun x H1=>tb σ H1 fun y H2=>R x y H2)  
  (hf:∀ v u s2 x y H2,Inv X pins σ H2 s2->bq x v->bq y u->R x y H2->wpAny (model X.prog X.w) X.A (f v u) Q X.xe s2) :
  wpAny (model X.prog X.w) X.A (eval a X.env) (fun v aH=>wpAny (model X.prog X.w) X.A (eval b X.env) (fun u dX=>wpAny (model X.prog X.w) X.A (f v u) Q X.xe dX) X.xe aH) X.xe s:=by
 refine aN (ha pins s σ H _ I h) fun v s1 ak=>?_
 obtain⟨x,H1,I1,r1,q1⟩:=ak
 refine aN (hb pins s1 σ H1 _ I1 q1) fun u s2 ak=>?_
 obtain⟨y,H2,I2,r2,q2⟩:=ak
 exact hf v u s2 x y H2 I2 r1 r2 q2
theorem nJ{op:Operator}{r:R2}(ho:b_ X (binaryOp op) r)(ha:PE X a ta)(hb:PE X b tb):PE X (.BinOp a op b pos) (jh r ta tb):=by
 intro pins s σ H Q I h
 exact wpAny_BinOp (zC ha hb I h fun v u s2 x y H2 I2 rx ry q=>ho pins s2 σ H2 x y v u Q I2 rx ry q)
theorem D9{op:UnaryOp}{r:V->Hp->VK->Prop}(ho:zB X (unaryOp op) r)(ha:PE X a ta):PE X (.UnaryOp op a pos) (D8 r ta):=by
 intro pins s σ H Q I h
 exact UnaryOp_ (aN (ha pins s σ H _ I h) fun v s1 ⟨x,H1,I1,r1,q1⟩=>ho pins s1 σ H1 x v Q I1 r1 q1)
theorem zD{f:Value->Value->Sem Value}{C:Int->Int->Prop}
  (rule:∀ (i j:Int) (t u:Tok) (s:Shared) (Q:Value->Shared->Prop) (E:Value->Shared->Prop),C i j->Q (.int (g i j) s.toks) { s with toks:=s.toks+1 }->wpAny (model X.prog X.w) X.A (f (.int i t) (.int j u)) Q E s) :
  b_ X f (rI C fun i j=>.int (g i j)):=by
 intro pins s σ H x y v u Q I rx ry h
 obtain⟨i,j,rfl,rfl,hc,q⟩:=h
 obtain⟨t,rfl⟩:=rx
 obtain⟨t',rfl⟩:=ry
 exact rule i j t t' s _ _ hc ⟨.int (g i j),H,I.tok _,⟨_,rfl⟩,q⟩
theorem D_{f:Value->Value->Sem Value}
  (rule:∀ (i j:Int) (t u:Tok) (s:Shared) (Q:Value->Shared->Prop) (E:Value->Shared->Prop),Q (.int (g i j) s.toks) { s with toks:=s.toks+1 }->wpAny (model X.prog X.w) X.A (f (.int i t) (.int j u)) Q E s) :
  b_ X f (jS fun i j=>.int (g i j)):=by
 intro pins s σ H x y v u Q I rx ry h
 obtain⟨i,j,rfl,rfl,q⟩:=h
 obtain⟨t,rfl⟩:=rx
 obtain⟨t',rfl⟩:=ry
 exact rule i j t t' s _ _ ⟨.int (g i j),H,I.tok _,⟨_,rfl⟩,q⟩
theorem xl{g:Int->Int->Bool}
  (rule:∀ (i j:Int) (t u:Tok) (s:Shared) (Q:Value->Shared->Prop) (E:Value->Shared->Prop),Q (.bool (g i j)) s->wpAny (model X.prog X.w) X.A (f (.int i t) (.int j u)) Q E s) :
  b_ X f (jS fun i j=>.bl (g i j)):=by
 intro pins s σ H x y v u Q I rx ry h
 obtain⟨i,j,rfl,rfl,q⟩:=h
 obtain⟨t,rfl⟩:=rx
 obtain⟨t',rfl⟩:=ry
 exact rule i j t t' s _ _ ⟨.bl (g i j),H,I,rfl,q⟩
def LO (i j:Int):Prop:=0<j/\j<1073741824
def zE (i j:Int):Prop:=(-(2 ^ 64)<i/\i<2 ^ 64)\/(-(2 ^ 64)<j/\j<2 ^ 64)
theorem zE.ok{i j:Int}(h:zE i j):IntMulOk i j:=by
 rcases h with⟨h1,h2⟩|⟨h1,h2⟩
 ·exact .of_left (intBits_le_64 h1 h2)
 ·exact .of_right (intBits_le_64 h1 h2)
theorem LP:b_ X (binaryOp .Add) (jS fun i j=>.int (i+j)):=D_ fun _ _ _ _ _ _ _ q=>add_int q
theorem LQ:b_ X (binaryOp .Sub) (jS fun i j=>.int (i-j)):=D_ fun _ _ _ _ _ _ _ q=>sub_int q
theorem LR:b_ X (binaryOp .Mult) (rI zE fun i j=>.int (i*j)):=zD fun _ _ _ _ _ _ _ hc q=>mul_int q hc.ok
theorem LS:b_ X (binaryOp .FloorDiv) (rI LO fun i j=>.int (i / j)):=zD fun i j _ _ _ _ _ hc q=>by
 have h1:(0:Int)<j:=hc.1
 have h2:j<1073741824:=hc.2
 exact floordiv_int (by omega) (by rw[Int.fdiv_eq_ediv_of_nonneg i (by omega)];exact q) (.inl (PyProof.noPylong_small (by omega)))
theorem LU:b_ X (binaryOp .Mod) (rI (fun _ j=>0<j) fun i j=>.int (i % j)):=zD fun i j _ _ _ _ _ hc q=>by
 have h1:(0:Int)<j:=hc
 exact mod_int' (by omega) (by rw[Int.fmod_eq_emod_of_nonneg i (by omega)];exact q)
theorem LV{f:Value->Sem Value}{g:Int->Int}
  (rule:∀ (i:Int) (t:Tok) (s:Shared) (Q:Value->Shared->Prop) (E:Value->Shared->Prop),Q (.int (g i) s.toks) { s with toks:=s.toks+1 }->wpAny (model X.prog X.w) X.A (f (.int i t)) Q E s) :
  zB X f (rU fun i=>.int (g i)):=by
 intro pins s σ H x v Q I rx h
 obtain⟨i,rfl,q⟩:=h
 obtain⟨t,rfl⟩:=rx
 exact rule i t s _ _ ⟨.int (g i),H,I.tok _,⟨_,rfl⟩,q⟩
theorem Ea:zB X (unaryOp .USub) (rU fun i=>.int (-i)):=LV fun _ _ _ _ _ q=>neg_int q
theorem Eb:b_ X (compareOp .Lt) (jS fun i j=>.bl (decide (i<j))):=xl fun _ _ _ _ _ _ _ q=>lt_int q
theorem zG:b_ X (compareOp .LtE) (jS fun i j=>.bl (decide (i<=j))):=xl fun _ _ _ _ _ _ _ q=>le_int q
theorem LW:b_ X (compareOp .Gt) (jS fun i j=>.bl (decide (j<i))):=xl fun _ _ _ _ _ _ _ q=>gt_int q
theorem LX:b_ X (compareOp .GtE) (jS fun i j=>.bl (decide (j<=i))):=xl fun _ _ _ _ _ _ _ q=>ge_int q
theorem b_.or{r r':R2}(h:b_ X f r)(h':b_ X f r'):b_ X f (fun x y H Q=>r x y H Q\/r' x y H Q):=by
 intro pins s σ H x y v u Q I rx ry q
 rcases q with q|q
 ·exact h pins s σ H x y v u Q I rx ry q
 ·exact h' pins s σ H x y v u Q I rx ry q
theorem pS(b:Expr)(h:op ≠ .In:=by decide)(h2:op ≠ .NotIn:=by decide):behindInMarks op b=false:=by
 have e1:(op==CmpOp.In)=false:=by cases op<;>first|rfl|exact absurd rfl h
 have e2:(op==CmpOp.NotIn)=false:=by cases op<;>first|rfl|exact absurd rfl h2
 cases b<;>simp[behindInMarks,e1,e2]
theorem LY{r:R2}(ho:b_ X (compareOp op) r)(ha:PE X a ta)(hb:PE X b tb)(hm:behindInMarks op b=false):PE X (.Compare a [op] [b] pos) (jh r ta tb):=by
 intro pins s σ H Q I h
 exact wpAny_Compare1 (zC ha hb I h fun v u s2 x y H2 I2 rx ry q=>ho pins s2 σ H2 x y v u Q I2 rx ry q) hm
def zH (t:TE):TT:=fun σ H Q=>t σ H fun x H'=>∃ k,x=.bl k/\Q k H'
theorem LZ{r:R2}(ho:b_ X (compareOp op) r)(ha:PE X a ta)(hb:PE X b tb)(hm:behindInMarks op b=false):PT X (.Compare a [op] [b] pos) (zH (jh r ta tb)):=by
 intro pins s σ H Q I h
 refine wpAny_isTrue_Compare1 (aN (ha pins s σ H _ I h) fun v s1 ⟨x,H1,I1,r1,q1⟩=>aN (hb pins s1 σ H1 _ I1 q1) fun u s2 ⟨y,H2,I2,r2,q2⟩=>
  aN (ho pins s2 σ H2 x y v u _ I2 r1 r2 q2) fun c s3 ⟨z,H3,I3,r3,k,e,q3⟩=>?_) hm
 subst e
 cases r3
 exact Zf ⟨H3,I3,q3⟩
def Ec (r r':R2)(ta tb tc:TE):TE:=fun σ H Q=>ta σ H fun x H1=>tb σ H1 fun y H2=>r x y H2 fun z H3=>∃ k,z=.bl k /\
 (if k=true then tc σ H3 fun w' H4=>r' y w' H4 Q else Q (.bl false) H3)
theorem L4{r r':R2}(ho:b_ X (compareOp op) r)(jg:b_ X (compareOp k6) r')(ha:PE X a ta)(hb:PE X b tb)(hc:PE X c tc)
  (hm:lastMarks [op,k6] [b,c]=false:=by with_unfolding_all rfl):PE X (.Compare a [op,k6] [b,c] pos) (Ec r r' ta tb tc):=by
 intro pins s σ H Q I h
 refine Compare_chain (aN (ha pins s σ H _ I h) fun v s1 ⟨x,H1,I1,r1,q1⟩=>chain_link (aN (hb pins s1 σ H1 _ I1 q1) fun u s2 ⟨y,H2,I2,r2,q2⟩=>
  aN (ho pins s2 σ H2 x y v u _ I2 r1 r2 q2) fun d s3 ⟨z,H3,I3,r3,k,e,q3⟩=>?_)) hm
 subst e
 cases r3
 refine Zf ?_
 cases k with
 | false=>exact ite_ff ⟨.bl false,H3,I3,rfl,q3⟩
 | true=>exact ite_tt (chain_last (aN (hc pins s3 σ H3 _ I3 q3) fun w' s4 ⟨z',H4,I4,r4,q4⟩=>jg pins s4 σ H4 y z' u w' Q I4 r2 r4 q4))
theorem L5{r r':R2}(ho:b_ X (compareOp op) r)(jg:b_ X (compareOp k6) r')(ha:PE X a ta)(hb:PE X b tb)(hc:PE X c tc)
  (hm:lastMarks [op,k6] [b,c]=false:=by with_unfolding_all rfl):PT X (.Compare a [op,k6] [b,c] pos) (zH (Ec r r' ta tb tc)):=by
 intro pins s σ H Q I h
 refine isTrue_chain (aN (ha pins s σ H _ I h) fun v s1 ⟨x,H1,I1,r1,q1⟩=>test_link (aN (hb pins s1 σ H1 _ I1 q1) fun u s2 ⟨y,H2,I2,r2,q2⟩=>
  aN (ho pins s2 σ H2 x y v u _ I2 r1 r2 q2) fun d s3 ⟨z,H3,I3,r3,k,e,q3⟩=>?_)) hm
 subst e
 cases r3
 refine Zf ?_
 cases k with
 | false=>
  obtain⟨k',e',q'⟩:=q3
  cases e'
  exact ite_ff ⟨H3,I3,q'⟩
 | true=>
  refine ite_tt (test_last (aN (hc pins s3 σ H3 _ I3 q3) fun w' s4 ⟨z',H4,I4,r4,q4⟩=>aN (jg pins s4 σ H4 y z' u w' _ I4 r2 r4 q4) fun d' s5 ak=>?_))
  obtain⟨z2,H5,I5,r5,k2,e2,q5⟩:=ak
  subst e2
  cases r5
  exact Zf ⟨H5,I5,q5⟩
def Ed (K:PySem.W.Frag)(x:V)(H:Hp)(k:Bool):Prop:=
 match x with
 | .aX=>k=false
 | .bl b=>k=b
 | .int i=>k=(i != 0)
 | .str y=>y.length<=sizeLine/\k=((y.length:Int) != 0)
 | .sV y=>y.size<=sizeLine/\k=((y.size:Int) != 0)
 | .ref p=>(∃ xs,cK K H p xs/\k = !xs.isEmpty)\/(∃ xs,cE K H p xs/\k = !xs.isEmpty)\/∃ ai,H p=some (.dK ai)/\k = !ai.isEmpty
 | _=>False
theorem L6{κ:Type}{ai:List (κ×V)}{vs:List (κ×Value)}(r:KV ai vs):(!vs.isEmpty) = !ai.isEmpty:=by
 cases r<;>rfl
theorem Ee{xs:List V}{au:List Value}(r:bf xs au):(!au.toArray.isEmpty) = !xs.isEmpty:=by
 cases r<;>simp
theorem ux:(sizeLine:Nat)<2 ^ 63:=by rw[YX];decide
theorem L7:LN X (fun x H Q=>∃ k,Ed X.K x H k/\Q k H):=by
 intro pins s σ H x v Q I rx h
 obtain⟨k,e,q⟩:=h
 have hl:=ux
 have hs:sizeLine=16777216:=YX
 cases x with
 | aX=>
  cases rx
  have e':k=false:=e
  subst e'
  exact truthy_none ⟨H,I,q⟩
 | bl b=>
  cases rx
  have e':k=b:=e
  subst e'
  exact Zf ⟨H,I,q⟩
 | int i=>
  obtain⟨t,rfl⟩:=rx
  have e':k=(i != 0):=e
  subst e'
  exact PySem.P.truthy_int ⟨H,I,q⟩
 | str y=>
  obtain⟨t,rfl⟩:=rx
  obtain⟨hy,e'⟩:y.length<=sizeLine/\k=((y.length:Int) != 0):=e
  subst e'
  exact PySem.P.truthy_str (by omega) ⟨H,I.tok _,q⟩
 | sV y=>
  obtain⟨t,rfl⟩:=rx
  obtain⟨hy,e'⟩:y.size<=sizeLine/\k=((y.size:Int) != 0):=e
  subst e'
  exact PySem.W.truthy_bytes (by omega) ⟨H,I.tok _,q⟩
 | ref p=>
  cases rx
  have e':(∃ xs,cK X.K H p xs/\k = !xs.isEmpty)\/(∃ xs,cE X.K H p xs/\k = !xs.isEmpty)\/∃ ai,H p=some (.dK ai)/\k = !ai.isEmpty:=e
  rcases e' with⟨xs,hx,e'⟩|⟨xs,hx,e'⟩|⟨ai,hx,e'⟩
  ·subst e'
   obtain⟨au,r,pl,hz⟩:=I.list hx
   have hlen:=r.length
   exact wpAny_truthy_list pl.isList (by simp only[Ql];omega) ⟨H,I.tok _,by rw[Ee r];exact q⟩
  ·subst e'
   obtain⟨au,r,pl,hz⟩:=I.tuple hx
   have hlen:=r.length
   exact truthy_tuple pl (by simp only[Ql];omega) ⟨H,I.tok _,by rw[Ee r];exact q⟩
  ·subst e'
   obtain⟨hz,hS,vs,r,m⟩:ai.length<=sizeLine/\(p==sysModules)=false/\∃ vs,KV ai vs/\s.heap.DictOf (gW X.prog X.w) p vs:=I.aA p _ hx
   have hlen:ai.length=vs.length:=ZX r
   exact wpAny_truthy_dict hS m (by omega) ⟨H,I.tok _,by rw[L6 r];exact q⟩
 | _=>exact(show False from e).elim
theorem L8(ha:PE X a ta)(he:∀ whole,isTrue a X.env whole=(do let v <- whole;standAt a.pos;holding [v] (truthy v))) :
  PT X a (fun σ H Q=>ta σ H fun x H'=>∃ k,Ed X.K x H' k/\Q k H'):=by
 intro pins s σ H Q I h
 exact isTrue_plain (aN (ha pins s σ H _ I h) fun v s1 ⟨x,H1,I1,r1,q1⟩=>L7 pins s1 σ H1 x v Q I1 r1 q1) (he _)
theorem qX{x:V}(r:bf [x] us):∃ u,us=[u]/\bq x u:=by
 cases r with
 | cons r1 r2=>cases r2;exact⟨_,rfl,r1⟩
theorem zI{x y:V}(r:bf [x,y] us):∃ u w',us=[u,w']/\bq x u/\bq y w':=by
 cases r with
 | cons r1 r2=>
  cases r2 with
  | cons r3 r4=>cases r4;exact⟨_,_,rfl,r1,r3⟩
theorem L9(hc:X.calm=true):mz X (.builtin "max") (fun xs H Q=>∃ i j,xs=[.int i,.int j]/\Q (.int (if j > i then j else i)) H):=by
 intro pins s σ H xs us Q I r h
 obtain⟨i,j,rfl,q⟩:=h
 obtain⟨u,w',rfl,⟨t,rfl⟩,⟨t',rfl⟩⟩:=zI r
 refine max_two_ints (I.ok.hd hc) fun h' tk k=>⟨_,H,I.kept k,?_,q⟩
 by_cases hj:j > i
 ·rw[Qe hj,Qe hj];exact⟨_,rfl⟩
 ·rw[Qf hj,Qf hj];exact⟨_,rfl⟩
theorem L_(hc:X.calm=true):mz X (.builtin "min") (fun xs H Q=>∃ i j,xs=[.int i,.int j]/\Q (.int (if j<i then j else i)) H):=by
 intro pins s σ H xs us Q I r h
 obtain⟨i,j,rfl,q⟩:=h
 obtain⟨u,w',rfl,⟨t,rfl⟩,⟨t',rfl⟩⟩:=zI r
 refine min_two_ints (I.ok.hd hc) fun h' tk k=>⟨_,H,I.kept k,?_,q⟩
 by_cases hj:j<i
 ·rw[Qe hj,Qe hj];exact⟨_,rfl⟩
 ·rw[Qf hj,Qf hj];exact⟨_,rfl⟩
end
structure j_ (h:Heap) (x dx C:Addr) (mA:Str->Option Value):Prop where
 obj:h.get? x=some (PySem.W.instObj C dx)
 ns:h.Ns1 dx mA
 ne:dx≠x
theorem Ma(n:h.Ns1 dx mA):∃ od,h.get? dx=some od/\∀ name,PySem.W.lookIn name od=some (mA name):=by
 obtain⟨o,es,ep,ho,hd,hk,_,hm⟩:=n
 refine⟨o,ho,fun name=>?_⟩
 have e:=hm name
 unfold nsFind findBy at e
 rw[<- Array.find?_toList]at e
 unfold PySem.W.lookIn
 rw[hd]
 dsimp only
 split
 next y q=>
  rw[q]at e
  exact JZ some e
 next q=>
  rw[q]at e
  have a:es.toList.any (·.refKey)=false:=by
   rw[List.any_eq_false]
   intro y hy
   obtain⟨z,t,zJ⟩:=hk y (Array.mem_toList_iff.mp hy)
   simp[DictEntry.refKey,zJ]
  have a':¬ es.toList.any (·.refKey)=true:=by rw[a];exact QW
  rw[Qf a']
  exact JZ some e
theorem j_.look{x:Addr}(I:j_ h x dx C mA):∃ od,PySem.W.InstAt h x (PySem.W.instObj C dx) C (some od)/\∀ name,PySem.W.lookIn name od=some (mA name):=
 let ⟨od,ho,hl⟩:=Ma I.ns
 ⟨od,⟨I.obj,rfl,rfl,ho⟩,hl⟩
section
variable {prog:Program}{w:World}{A:Around}{E:Value->Shared->Prop}{s:Shared}{K:PySem.W.Frag}{x dx C f:Addr}{mA:Str->Option Value}{name:Str}{v:Value}
theorem Mb{expr:Bool}(X:K.In s.heap)(I:j_ s.heap x dx C mA)(hg:PySem.W.plainGet K C name=true)(hh:PySem.W.hasDictIn K C=true)
  (ha:PySem.W.findIn K (.ref C) name=some none) (hv:mA name=some v) (zK:PySem.W.handedIn v=true) (h:Q v { s with toks:=s.toks+1 }) :
  wpAny (model prog w) A (getAttr (.ref x) name expr) Q E s:=by
 obtain⟨od,J,hl⟩:=I.look
 exact PySem.W.get_value X J (J7 hg).1 (PySem.W.findObj_own hh ha rfl (by rw[hl,hv])) zK h
theorem Mc{Q:Value×List Value->Shared->Prop}(X:K.In s.heap)(I:j_ s.heap x dx C mA)(hg:PySem.W.plainGet K C name=true)
  (hf:PySem.W.findIn K (.ref C) name=some (some (.ref f))) (ht:PySem.W.isFn K (.ref f)=true) (hv:mA name=none) (h:Q (.ref f,[.ref x]) s) :
  wpAny (model prog w) A (getMethod (.ref x) name pl) Q E s:=by
 obtain⟨od,J,hl⟩:=I.look
 exact PySem.W.method_fn X J (J7 hg).1 (J7 hg).2 hf (ZY.mp ht) (by show(PySem.W.lookIn name od).map (·.isSome)=some false;rw[hl,hv];rfl) h
theorem Md{ns:List Str}{Q:Unit->Shared->Prop}(X:K.In s.heap)(I:j_ s.heap x dx C mA)
  (hs:PySem.W.findIn K (.ref C) "__setattr__" = some (some (.builtin "object.__setattr__"))) (hp:PySem.W.plainOver K C=true) (ht:PySem.W.takerIn K C name=some none) (hh:PySem.W.hasDictIn K C=true)
  (hw:PySem.Within mA ns) (hsz:ns.length<=sizeLine)
  (h:∀ h',j_ h' x dx C (fun y=>if y=name then some v else mA y)->Heap.SameBut dx s.heap h'->Q () { s with heap:=h',toks:=s.toks+2 }) :
  wpAny (model prog w) A (setAttr (.ref x) name v) Q E s:=by
 obtain⟨od,J,hl⟩:=I.look
 refine PySem.W.set_plain X J hs (PySem.W.osa_open (s:={ s with toks:=s.toks+1 }) (r:=none) X J hp ht fun b=>?_)
 obtain⟨cd,hc,jR⟩:=PySem.W.any_some hh
 have hx:s.heap.get? x=some ⟨.ref C,some dx,.plain,#[]⟩:=I.obj
 refine Qa (Qb (Qa (Qa (wpAny_loadPart hx (Qa (PySem.W.Looks.here (s:={ s with toks:=s.toks+1 }) (PySem.W.looks_clsIn X hc) ?_))))))
 rw[jR]
 refine Qb (a:=some dx) (Qa (Qb (Qa ?_)))
 refine wpAny_nsSet1 (s:={ s with toks:=s.toks+1 }) I.ns fun h' qY uy=>?_
 obtain⟨oD,esD,epD,Me,Mf,Mg⟩:=qY.count (PySem.Within.cons name v hw)
 refine Qa (wpAny_lookBehind Me (by rw[Mf];exact pastItsLine_dict (QC Mg (by rw[Qz];omega))) ?_)
 exact Qb (h _ ⟨(uy.2 _ (Jb I.ne)).trans I.obj,qY,I.ne⟩ uy)
theorem Mh{R:Result->Shared->Prop}{vs:List Value}(X:K.In s.heap)(hm:PySem.W.makesIn K C=true)
  (hi:PySem.W.findIn K (.ref C) "__init__" = some (some (.ref f))) (hf:PySem.W.typeIn K (.ref f)=some (.type "function"))
  (h:codeAny (model prog w) (A.under (.builtin "type.__call__" ⟨.ref C::vs,kw⟩)) (.call (.ref f) ⟨.ref (s.heap.objs.size+1)::vs,kw⟩) (PySem.W.InitBack (s.heap.objs.size+1) R)
    { s with heap:=(s.heap.push PySem.W.emptyDict).push (PySem.W.instObj C s.heap.objs.size) }) :
  codeAny (model prog w) A (.call (.ref C) ⟨vs,kw⟩) R s:=by
 obtain⟨hh,g,d,t,os⟩:=s
 exact PySem.W.make_core (PySem.W.makes_of X hm) (PySem.W.looks_findIn X hi) (fun self=>PySem.W.bind_fn X self hf) (.inl rfl) h
end
def iN (f:Str)(v:V):List (Str×V)->List (Str×V)
 | []=>[(f,v)]
 | (g,x)::r=>if g=f then(g,v)::r else(g,x)::iN f v r
theorem Ef(f g:Str)(v:V):∀ fs:List (Str×V),(iN f v fs).lookup g=if g=f then some v else fs.lookup g
 | []=>by
  show List.lookup g [(f,v)]=_
  by_cases h:g=f
  ·have hb:(g==f)=true:=ZY.mpr h
   simp only[List.lookup,hb,Qe h]
  ·have hb:(g==f)=false:=Zm.mpr h
   simp only[List.lookup,hb,Qf h]
 | (k,x)::r=>by
  have ih:=Ef f g v r
  rw[show iN f v ((k,x)::r)=(if k=f then(k,v)::r else(k,x)::iN f v r)from rfl]
  by_cases hk:k=f
  ·rw[Qe hk]
   by_cases h:g=k
   ·have hb:(g==k)=true:=ZY.mpr h
    simp only[List.lookup,hb,Qe (h.trans hk)]
   ·have hb:(g==k)=false:=Zm.mpr h
    simp only[List.lookup,hb,Qf (fun e:g=f=>h (e.trans hk.symm))]
  ·rw[Qf hk]
   by_cases h:g=k
   ·have hb:(g==k)=true:=ZY.mpr h
    simp only[List.lookup,hb,Qf (fun e:g=f=>hk (h.symm.trans e))]
   ·have hb:(g==k)=false:=Zm.mpr h
    simp only[List.lookup,hb]
    exact ih
theorem zL(f:Str)(v:V):∀ fs:List (Str×V),f∈(iN f v fs).map (·.1)/\∀ g,g∈fs.map (·.1)->g∈(iN f v fs).map (·.1)
 | []=>⟨by simp[iN],fun g h=>by simp at h⟩
 | (k,x)::r=>by
  obtain⟨i1,i2⟩:=zL f v r
  rw[show iN f v ((k,x)::r)=(if k=f then(k,v)::r else(k,x)::iN f v r)from rfl]
  by_cases hk:k=f
  ·rw[Qe hk]
   subst hk
   exact⟨by simp,fun g h=>by simpa using h⟩
  ·rw[Qf hk]
   refine⟨?_,fun g h=>?_⟩
   ·rw[QZ]
    exact Qg _ i1
   ·rw[QZ]at h ⊢
    rcases Qn.mp h with e|e
    ·exact Qn.mpr (.inl e)
    ·exact Qg _ (i2 g e)
theorem Eg(f:Str)(v:V):∀ fs:List (Str×V),(iN f v fs).length<=fs.length+1
 | []=>by simp[iN]
 | (k,x)::r=>by
  have ih:=Eg f v r
  rw[show iN f v ((k,x)::r)=(if k=f then(k,v)::r else(k,x)::iN f v r)from rfl]
  by_cases hk:k=f
  ·rw[Qe hk,Qz,Qz];omega
  ·rw[Qf hk,Qz,Qz];omega
theorem jf.some_of{v:V}{o:Option Value}(r:jf (some v) o):∃ u,o=some u/\bq v u:=by
 cases o with
 | none=>exact(show False from r).elim
 | some u=>exact⟨u,rfl,r⟩
theorem jf.none_of{o:Option Value}(r:jf none o):o=none:=by
 cases o with
 | none=>rfl
 | some u=>exact(show False from r).elim
theorem Mi{v:V}(r:bq v u):PySem.W.handedIn u=true:=by
 cases v with
 | aX=>cases (show u=Value.none from r);rfl
 | bl b=>cases (show u=Value.bool b from r);rfl
 | int i=>obtain⟨t,e⟩:=(show ∃ t,u=Value.int i t from r);cases e;rfl
 | str x=>obtain⟨t,e⟩:=(show ∃ t,u=Value.str x t from r);cases e;rfl
 | sV b=>obtain⟨t,e⟩:=(show ∃ t,u=Value.bytes b t from r);cases e;rfl
 | qR b=>obtain⟨t,e⟩:=(show ∃ t,u=Value.float b t from r);cases e;rfl
 | ref a=>cases (show u=Value.ref a from r);rfl
 | ty n=>cases (show u=Value.type n from r);rfl
section
variable {P:Program}{w:World}{H H':Hp}{h h':Heap}{a C dx:Addr}{fs dh:List (Str×V)}
theorem uz(aA:df P w H h)(e:H a=some (.ins C dx fs)):∃ mA,j_ h a dx C mA/\(∀ f,jf (fs.lookup f) (mA f))/\PySem.Within mA (fs.map (·.1))/\fs.length<=1000/\H dx=some (.own a):=by
 obtain⟨d,z,ne,ob,mA,n,r,q⟩:=(show cJ P w H h a (.ins C dx fs)from aA a _ e)
 exact⟨mA,⟨ob,n,ne⟩,r,q,z,d⟩
end
structure lS (K:PySem.W.Frag) (C:Addr):Prop where
 pg:PySem.W.plainGet K C Str.empty=true
 hd:PySem.W.hasDictIn K C=true
 po:PySem.W.plainOver K C=true
 sa:PySem.W.findIn K (.ref C) "__setattr__" = some (some (.builtin "object.__setattr__"))
theorem lS.get(c:lS K C)(f:Str):PySem.W.plainGet K C f=true:=c.pg
def pU (K:PySem.W.Frag)(C:Addr)(f:Str):Prop:=PySem.W.findIn K (.ref C) f=some none
theorem pU.uA{f:Str}(n:pU K C f):PySem.W.takerIn K C f=some none:=by
 unfold PySem.W.takerIn
 rw[show PySem.W.findIn K (.ref C) f=some none from n]
 rfl
structure jr (K:PySem.W.Frag) (C:Addr) (m:Str) (f:Addr):Prop where
 at_:PySem.W.findIn K (.ref C) m=some (some (.ref f))
 fn:PySem.W.isFn K (.ref f)=true
 kp:PySem.W.keepIn K (.ref f)=true
section
variable {X:Cx}{pins:List (Addr×Obj)}{σ:St}{H:Hp}{s:Shared}{a C dx:Addr}{fs:List (Str×V)}{f:Str}{v:V}{A:Around}{E:Value->Shared->Prop}
theorem Mj{b:Bool}(I:Inv X pins σ H s)(e:H a=some (.ins C dx fs))(c:lS X.K C)(n:pU X.K C f)(l:fs.lookup f=some v)
  (h:∀ u s',Inv X pins σ H s'->bq v u->Q u s'):wpAny (model X.prog X.w) A (getAttr (.ref a) f b) Q E s:=by
 obtain⟨mA,O,r,_,_,_⟩:=uz I.aA e
 obtain⟨u,hu,ru⟩:=jf.some_of (v:=v) (o:=mA f) (by rw[<- l];exact r f)
 exact Mb I.dW O (c.get f) c.hd n hu (Mi ru) (h u _ (I.tok _) ru)
theorem zM{g:Addr}{Q:Value×List Value->Shared->Prop}(I:Inv X pins σ H s)(e:H a=some (.ins C dx fs))(c:lS X.K C)(k:jr X.K C m g)(l:fs.lookup m=none)
  (h:Q (.ref g,[.ref a]) s):wpAny (model X.prog X.w) A (getMethod (.ref a) m pl) Q E s:=by
 obtain⟨mA,O,r,_,_,_⟩:=uz I.aA e
 have hn:mA m=none:=jf.none_of (by rw[<- l];exact r m)
 exact Mc I.dW O (c.get m) k.at_ k.fn hn h
theorem Ml{y:V}{Q:Unit->Shared->Prop}(I:Inv X pins σ H s)(e:H a=some (.ins C dx fs))(c:lS X.K C)(n:pU X.K C f)(hl:fs.length<1000)(ry:bq y u)
  (h:∀ s',Inv X pins σ (upd H a (.ins C dx (iN f y fs))) s'->Q () s'):wpAny (model X.prog X.w) A (setAttr (.ref a) f u) Q E s:=by
 obtain⟨mA,O,r,wi,_,ho⟩:=uz I.aA e
 have hz:(fs.map (·.1)).length<=sizeLine:=by rw[QA,YX];omega
 refine Md I.dW O c.sa c.po n.uA c.hd wi hz fun h' O' sb=>h _ ?_
 have hd:∃ o,h'.get? dx=some o:=let ⟨o,_,_,e',_⟩:=O'.ns;⟨o,e'⟩
 refine I.write (x:=a) (e:=dx) (by rw[e];exact True.intro) (.inr ho) (fun b q hb z=>(sb.2 b hb).trans z) hd ?_
 refine⟨by rw[aR O.ne];exact ho,?_,O.ne,O'.obj,_,O'.ns,fun g=>?_,fun g hg=>?_⟩
 ·have:=Eg f y fs;omega
 ·show jf ((iN f y fs).lookup g) (if g=f then some u else mA g)
  rw[Ef]
  by_cases q:g=f
  ·rw[Qe q,Qe q];exact ry
  ·rw[Qf q,Qf q];exact r g
 ·by_cases q:g=f
  ·rw[q];exact(zL f y fs).1
  ·refine(zL f y fs).2 g (wi g fun z=>hg ?_)
   show(if g=f then some u else mA g)=none
   rw[Qf q];exact z
theorem Inv.made(I:Inv X pins σ H s):Inv X pins σ (upd (upd H s.heap.objs.size (.own (s.heap.objs.size+1))) (s.heap.objs.size+1) (.ins C s.heap.objs.size []))
  { s with heap:=(s.heap.push PySem.W.emptyDict).push (PySem.W.instObj C s.heap.objs.size) }:=by
 have e1:(s.heap.push PySem.W.emptyDict).get? s.heap.objs.size=some PySem.W.emptyDict:=Qm s.heap rfl
 have e2:((s.heap.push PySem.W.emptyDict).push (PySem.W.instObj C s.heap.objs.size)).get? (s.heap.objs.size+1)=some (PySem.W.instObj C s.heap.objs.size):=by
  have:=Qm (s.heap.push PySem.W.emptyDict) (o:=PySem.W.instObj C s.heap.objs.size) rfl
  rwa [Zg]at this
 have e3:(s.heap.push PySem.W.emptyDict).Ns s.heap.objs.size (fun _=>none):=⟨PySem.W.emptyDict,#[],_,e1,rfl,(fun e he=>absurd he (by simp)),fun _=>rfl⟩
 have I1:=I.laid (a:=s.heap.objs.size) (o:=.own (s.heap.objs.size+1)) (h':=s.heap.push PySem.W.emptyDict) (t':=s.toks) (fun b u q=>Qc _ q) (Qd _) ⟨_,e1⟩
 refine I1.laid (a:=s.heap.objs.size+1) (o:=.ins C s.heap.objs.size []) (t':=s.toks) (fun b u q=>Qc _ q) (Y4 (Zg _ _)) ?_
 have ne:s.heap.objs.size≠s.heap.objs.size+1:=QB (Q1 _)
 refine⟨by rw[aR ne,de],ZP _,ne,e2,fun _=>none,(Heap.Ns1.of_empty e3).at fun o q=>Qc _ q,fun _=>True.intro,fun y hy=>absurd rfl hy⟩
theorem Mm{prog:Program}{env:Env}{f:Str}{pos:Pos}{s:Shared}(hb:attributeBase e f env (eval e env)=eval e env)
  (h:wpAny (model prog w) A (eval e env) (fun o aH=>wpAny (model prog w) A (getAttr o f true) Q E aH) E s):wpAny (model prog w) A (eval (.Attribute e f pos) env) Q E s:=
 Attribute_any_ h (by rw[arm_eval_Attribute,hb])
end
def Mn (K:PySem.W.Frag)(ta:TE)(f:Str):TE:=fun σ H Q=>ta σ H fun x H1=>∃ a C dx fs v,x=.ref a/\H1 a=some (.ins C dx fs)/\lS K C/\pU K C f/\fs.lookup f=some v/\Q v H1
def Mp (K:PySem.W.Frag)(ta tv:TE)(f:Str):TS:=fun D σ H=>tv σ H fun y H1=>ta σ H1 fun x H2=>∃ a C dx fs,x=.ref a/\H2 a=some (.ins C dx fs)/\lS K C/\pU K C f/\fs.length<1000 /\
 D.nx σ (upd H2 a (.ins C dx (iN f y fs)))
section
variable {X:Cx}{o e value:Expr}{f:Str}{pos pos' zN:Pos}{ta tv:TE}
theorem Mq(he:PE X e ta)(hb:attributeBase e f X.env (eval e X.env)=eval e X.env):PE X (.Attribute e f pos) (Mn X.K ta f):=by
 intro pins s σ H Q I h
 refine Mm hb (aN (he pins s σ H _ I h) fun u s1 ak=>?_)
 obtain⟨x,H1,I1,rx,a,C,dx,fs,v,ex,ea,c,n,l,q⟩:=ak
 subst ex
 obtain rfl:u=Value.ref a:=rx
 exact Mj I1 ea c n l fun u' s2 I2 ru=>⟨v,H1,I2,ru,q⟩
theorem Mr(ha:PE X o ta)(hv:PE X value tv)(hs:swapsWith value (some (.Attribute o f pos')) pos.line X.env=pure false):PS X (.Assign [.Attribute o f pos'] value pos) (Mp X.K ta tv f):=by
 intro pins s σ H D I h
 refine plainObj_wpAny_Assign_Attribute (aN (hv pins s σ H _ I h) fun u s1 ⟨y,H1,I1,ry,q⟩=>aN (ha pins s1 σ H1 _ I1 q) fun ov s2 ⟨x,H2,I2,rx,a,C,dx,fs,ex,ea,c,n,l,q2⟩=>?_) hs
 subst ex
 obtain rfl:ov=Value.ref a:=rx
 exact Ml I2 ea c n l ry fun s3 I3=>⟨σ,_,I3,q2⟩
theorem j3b{apos:Pos}{args:List Expr}{σ:St}{H:Hp}{te:TE}(he:PE X e te)(I:Inv X pins σ H s)
  (h:te σ H fun x H1=>∃ a C dx fs g,x=.ref a/\H1 a=some (.ins C dx fs)/\lS X.K C/\jr X.K C m g/\fs.lookup m=none /\
    ∀ s1,Inv X pins σ H1 s1->wpAny (model X.prog X.w) X.A (callWith pos (.ref g) [.ref a] (backTo pos (starEach args X.env)) (backToKw pos (keywordEach [] X.env))) Q X.xe s1)
  (ht:eval (.Call (.Attribute e m apos) args [] pos) X.env=(do
    let ov <- eval e X.env
    standAt apos.atName
    let (f,first) <- holding [ov] (getMethod ov m pl)
    callWith pos f first (backTo pos (starEach args X.env)) (backToKw pos (keywordEach [] X.env)))) :
  wpAny (model X.prog X.w) X.A (eval (.Call (.Attribute e m apos) args [] pos) X.env) Q X.xe s:=by
 refine JR (pl:=pl) (aN (he pins s σ H _ I h) fun u s1 ⟨x,H1,I1,rx,a,C,dx,fs,g,ex,ea,c,k,l,q⟩=>?_) ht
 subst ex
 obtain rfl:u=Value.ref a:=rx
 exact zM I1 ea c k l (q s1 I1)
end
section
variable {X:Cx}{pins:List (Addr×Obj)}{σ:St}{H:Hp}{s:Shared}{A:Around}{E:Value->Shared->Prop}{Q:Value->Shared->Prop}{c:Value}{b:Bool}
inductive fQ (K:PySem.W.Frag) (H:Hp):V->Value->Prop where
 | aX:fQ K H .aX (.type "NoneType")
 | bl (x:Bool):fQ K H (.bl x) (.type "bool")
 | int (i:Int):fQ K H (.int i) (.type "int")
 | str (x:Str):fQ K H (.str x) (.type "str")
 | qR (x:UInt64):fQ K H (.qR x) (.type "float")
 | lst {a:Addr} {xs:List V} (e:H a=some (.lst xs)):fQ K H (.ref a) (.type "list")
 | cu {a:Addr} {o:Obj} {xs:List V} (e:H a=some (.cu o (.lst xs))):fQ K H (.ref a) (.type "list")
 | tup {a:Addr} {xs:List V} (e:H a=some (.tup xs)):fQ K H (.ref a) (.type "tuple")
 | dK {a:Addr} {ai:List (Key×V)} (e:H a=some (.dK ai)):fQ K H (.ref a) (.type "dict")
 | dT {a:Addr} {ai:List (List Key×V)} (e:H a=some (.dT ai)):fQ K H (.ref a) (.type "dict")
 | ins {a C dx:Addr} {fs:List (Str×V)} (e:H a=some (.ins C dx fs)) (cl:lS K C) (ha:PySem.W.findIn K (.ref C) "__class__" = some (some (.builtin "object.__class__")))
   (hn:PySem.W.specialIn K (.builtin "object.__class__") "__get__" = some (some (.builtin "getset_descriptor.__get__"))) (uB:PySem.W.takesIn K (.builtin "object.__class__")=some true)
   (hm:PySem.W.mroIn K C (.type "object")=some true):fQ K H (.ref a) (.ref C)
theorem ka{x:V}{t:Value}(I:Inv X pins σ H s)(rx:bq x u)(ty:fQ X.K H x t)(e:PySem.W.kitOne X.K t c=some b)(h:∀ tk,Q (.bool b) { s with toks:=tk }) :
  wpAny (model X.prog X.w) A (call (.builtin "isinstance") [u,c]) Q E s:=by
 cases ty with
 | aX=>cases (show u=Value.none from rx);exact Q0 PySem.W.kitx_none I.dW True.intro e (fun z=>nomatch z) h
 | bl y=>cases (show u=Value.bool y from rx);exact Q0 PySem.W.kitx_bool I.dW True.intro e (fun z=>nomatch z) h
 | int i=>obtain⟨t,q⟩:=(show ∃ t,u=Value.int i t from rx);cases q;exact Q0 PySem.W.kitx_int I.dW True.intro e (fun z=>nomatch z) h
 | str y=>obtain⟨t,q⟩:=(show ∃ t,u=Value.str y t from rx);cases q;exact Q0 PySem.W.kitx_str I.dW True.intro e (fun z=>nomatch z) h
 | qR y=>obtain⟨t,q⟩:=(show ∃ t,u=Value.float y t from rx);cases q;exact Q0 PySem.W.kitx_float I.dW True.intro e (fun z=>nomatch z) h
 | @lst a xs ea=>
  cases (show u=Value.ref a from rx)
  obtain⟨_,_,n,_,h1⟩:=(show cJ X.prog X.w H s.heap a (.lst xs)from I.aA a _ ea)
  exact Q0 Yp I.dW ⟨_,h1,rfl⟩ e (fun z=>nomatch z) h
 | @cu a ob xs ea=>
  cases (show u=Value.ref a from rx)
  obtain⟨_,_,_,n,_,h1⟩:=(show cJ X.prog X.w H s.heap a (.cu ob (.lst xs))from I.aA a _ ea)
  exact Q0 Yp I.dW ⟨_,h1,rfl⟩ e (fun z=>nomatch z) h
 | @tup a xs ea=>
  cases (show u=Value.ref a from rx)
  obtain⟨_,_,_,p⟩:=(show cJ X.prog X.w H s.heap a (.tup xs)from I.aA a _ ea)
  obtain⟨o,h1,h2,_⟩:=p
  exact Q0 PySem.W.kitx_tuple I.dW ⟨o,h1,h2⟩ e (fun z=>nomatch z) h
 | @dK a ai ea=>
  cases (show u=Value.ref a from rx)
  obtain⟨_,_,vs,_,p⟩:=(show cJ X.prog X.w H s.heap a (.dK ai)from I.aA a _ ea)
  obtain⟨o,es,ep,h1,h2,_⟩:=p
  exact Q0 PySem.W.kitx_dict I.dW ⟨o,h1,h2.1⟩ e (fun z=>nomatch z) h
 | @dT a ai ea=>
  cases (show u=Value.ref a from rx)
  obtain⟨_,_,xs,_,o,es,ep,h1,h2,_⟩:=(show cJ X.prog X.w H s.heap a (.dT ai)from I.aA a _ ea)
  exact Q0 PySem.W.kitx_dict I.dW ⟨o,h1,h2.1⟩ e (fun z=>nomatch z) h
 | @ins a C dx fs ea cl ha hn uB hm=>
  cases (show u=Value.ref a from rx)
  obtain⟨mA,O,_⟩:=uz I.aA ea
  obtain⟨od,J,_⟩:=O.look
  exact Q0 (PySem.W.kitx_own (cl.get _) cl.hd ha hn uB hm) I.dW J e (fun z=>nomatch z) h
end
structure aF (k:Nat) (A:Around):Prop where
 hd:A.handled=none
 dp:A.depth+3*k+5<recursionLimit
 un:A.units+16*k+200<cLine
theorem aF.mono{k:Nat}(r:aF k A)(h:j<=k):aF j A:=⟨r.hd,by have:=r.dp;omega,by have:=r.un;omega⟩
theorem aF.deeper{k:Nat}(r:aF (k+1) A)(env:Env):aF k (A.deeper env):=
 ⟨r.hd,by have:=r.dp;show A.depth+1+3*k+5<_;omega,by have:=r.un;show A.units+3+16*k+200<_;omega⟩
theorem Ms:(A.under (.builtin "type.__call__" ⟨.ref C::us,kw⟩)).depth=A.depth+1:=by
 first|rfl|simp[Around.under,Code.weight,Code.isCreation,Code.isGuard,Code.isCaller,Code.frames,Code.isFrame,guardIds]
theorem Mt:(A.under (.builtin "type.__call__" ⟨.ref C::us,kw⟩)).units=A.units+1:=by
 first|rfl|simp[Around.under,Code.cUnits,Code.frames,Code.isFrame]
theorem aF.make{k:Nat}(r:aF (k+1) A)(C:Addr)(us:List Value)(kw:List (Str×Value)):aF k (A.under (.builtin "type.__call__" ⟨.ref C::us,kw⟩)):=
 ⟨r.hd,by have:=r.dp;rw[Ms];omega,by have:=r.un;rw[Mt];omega⟩
theorem aF.depth{k:Nat}(r:aF k A):A.depth<recursionLimit:=by have:=r.dp;omega
theorem aF.units{k:Nat}(r:aF k A):A.units+64<cLine:=by have:=r.un;omega
def zO:TA:=fun _ H Q=>Q [] H
def Eh (ta:TE)(tr:TA):TA:=fun σ H Q=>ta σ H fun x H1=>tr σ H1 fun xs H2=>Q (x::xs) H2
section
variable {X:Cx}{e:Expr}{es:List Expr}{te:TE}{t:TA}{pos:Pos}
theorem pV:PA X [] zO:=fun _ _ _ _ H Q I h=>ZQ ⟨[],H,I,.nil,h⟩
theorem mB(ha:PE X e te)(hr:PA X es t)(hs:starEach (e::es) X.env=(false,eval e X.env)::starEach es X.env:=by rfl):PA X (e::es) (Eh te t):=by
 intro pos pins s σ H Q I h
 rw[hs]
 show wpAny _ _ (spliced ((false,eval e X.env)::backTo pos (starEach es X.env))) _ _ s
 refine Za (aN (ha pins s σ H _ I h) fun u s1 ak=>?_)
 obtain⟨x,H1,I1,r1,q1⟩:=ak
 exact aN (hr pos pins s1 σ H1 _ I1 q1) fun us s2 ⟨xs,H2,I2,r2,q2⟩=>⟨x::xs,H2,I2,.cons r1 r2,q2⟩
def Mu (t:TA):TE:=fun σ H Q=>t σ H fun xs H1=>xs.length<=sizeLine/\∀ p,H1 p=none->Q (.ref p) (upd H1 p (.tup xs))
def Mv (t:TA):TE:=fun σ H Q=>t σ H fun xs H1=>xs.length<=sizeLine/\∀ p,H1 p=none->Q (.ref p) (upd H1 p (.lst xs))
theorem Mw{x1}(h:PA X es t):PE X (.Tuple es x1 pos) (Mu t):=by
 intro pins s σ H Q I hq
 refine wpAny_Tuple_spliced (aN (h pos pins s σ H _ I hq) fun us s1 ⟨xs,H1,I1,r,z,q⟩=>⟨by rw[<- r.length];exact z,?_⟩)
 have hf:H1 s1.heap.objs.size=none:=I1.aA.fresh (Qd _)
 refine⟨.ref s1.heap.objs.size,upd H1 s1.heap.objs.size (.tup xs),I1.laid (t':=s1.toks) (fun b u e=>Qc _ e) (Qd _) ?_,rfl,q _ hf⟩
 exact⟨z,us,r,⟨_,Qm _ rfl,rfl,⟨_,rfl⟩,rfl⟩⟩
theorem Mx(h:PA X es t):PE X (.List es pos) (Mv t):=by
 intro pins s σ H Q I hq
 refine wpAny_List_spliced (aN (h pos pins s σ H _ I hq) fun us s1 ⟨xs,H1,I1,r,z,q⟩=>⟨by rw[<- r.length];exact z,?_⟩)
 have hf:H1 s1.heap.objs.size=none:=I1.aA.fresh (Qd _)
 refine⟨.ref s1.heap.objs.size,upd H1 s1.heap.objs.size (.lst xs),I1.laid (t':=s1.toks) (fun b u e=>Qc _ e) (Qd _) ?_,rfl,q _ hf⟩
 exact⟨z,us,0,r,Qm _ rfl⟩
end
abbrev Sp:=List V->Hp->VK->XK->Prop
abbrev mC:=List Env->Hp->Shared->XK->Value->Shared->Prop
structure iO (P:Program) (w:World) (K:PySem.W.Frag) (mg:Str->Option Value) (base:Heap) (A:Around) (outer:List Env) (s:Shared) (H:Hp):Prop where
 frames:A.frames=some outer
 mod:Mod K mg base
 bs:∀ b o,base.get? b=some o->s.heap.get? b=some o/\H b=none
 lP:base.objs.size<=s.heap.objs.size
 eo:s.heap.FunFrames base outer
 pN:∀ b∈iK outer,H b=none
 aA:df P w H s.heap
 bare:AllBare s.gens
def CE (outer:List Env)(P:Program)(w:World)(H:Hp)(s:Shared)(Q:VK)(u:Value)(s':Shared):Prop:=
 ∃ v H',s'.os=s.os/\AllBare s'.gens/\Un (iK outer) [] H H' s.heap s'.heap/\df P w H' s'.heap/\bq v u/\Q v H'
def CR (CX:mC)(outer:List Env)(P:Program)(w:World)(H:Hp)(s:Shared)(Q:VK)(E:XK)(r:Result)(s':Shared):Prop:=
 match r with
 | .ok (.ret u)=>CE outer P w H s Q u s'
 | .ok _=>False
 | .error e=>CX outer H s E e s'
structure bY (P:Program) (w:World) (K:PySem.W.Frag) (mg:Str->Option Value) (base:Heap) (CX:mC) (k:Nat) (f:Addr) (fd:FuncData) (ps:List Str) (sp:Sp):Prop where
 len:∀ vs H Q E,sp vs H Q E->vs.length=ps.length
 run:∀ (A:Around) (outer:List Env) (s:Shared) (H:Hp) (args:Args) (us:List Value) (vs:List V) (Q:VK) (E:XK),aF k A->iO P w K mg base A outer s H->BindsTo s fd args (ps.zip us)->bf vs us->sp vs H Q E->
  codeAny (model P w) A (.call (.ref f) args) (CR CX outer P w H s Q E) s
theorem iO.make{H:Hp}(e:iO P w K mg base A outer s H)(C:Addr)(us:List Value)(kw:List (Str×Value)) :
  iO P w K mg base (A.under (.builtin "type.__call__" ⟨.ref C::us,kw⟩)) outer s H:=⟨by first|exact e.frames|(simpa [Around.under,Code.envs,Code.isFrame,pushEnvs]using e.frames),e.mod,e.bs,e.lP,e.eo,e.pN,e.aA,e.bare⟩
section
variable {X:Cx}{pins:List (Addr×Obj)}{σ:St}{H:Hp}{s s':Shared}
theorem Inv.qZ(I:Inv X pins σ H s):iO X.prog X.w X.K X.mg X.base X.A X.stack s H:=
 ⟨I.ok.frames,I.ok.mod,I.bs,QC I.ok.lP I.sz,I.stack,I.iL,I.aA,I.bare⟩
theorem Inv.after{Q:VK}(I:Inv X pins σ H s)(h:CE X.stack X.prog X.w H s Q u s'):EP X pins σ Q u s':=by
 obtain⟨v,H',os,bare,un,aA,r,q⟩:=h
 obtain⟨hh,g,d,t,Mz⟩:=s'
 obtain rfl:Mz=s.os:=os
 exact⟨v,H',I.call (h':=hh) (g':=g) (d':=d) (t':=t) (ch:=[]) un aA bare (fun b z=>absurd z (by simp)),r,q⟩
end
def MA (sp:Sp)(dvs:List V)(E:XK)(t:TA):TE:=fun σ H Q=>t σ H fun vs H1=>sp (vs++dvs) H1 Q E
def Ei (C:Addr)(m:Str)(sp:Sp)(dvs:List V)(E:XK)(ta:TE)(t:TA):TE:=fun σ H Q=>ta σ H fun x H1=>∃ a dx fs,x=.ref a/\H1 a=some (.ins C dx fs)/\fs.lookup m=none /\
 t σ H1 fun vs H2=>sp (x::(vs++dvs)) H2 Q E
def MB (C:Addr)(sp:Sp)(dvs:List V)(E:XK)(t:TA):TE:=fun σ H Q=>t σ H fun vs H1=>∀ x dx,H1 x=none->H1 dx=none->dx≠x->
 sp (.ref x::(vs++dvs)) (upd (upd H1 dx (.own x)) x (.ins C dx [])) (fun v H2=>v=.aX/\Q (.ref x) H2) E
def jT (K:PySem.W.Frag)(fd:FuncData)(ps:List Str)(ds:List Value):Prop:=
 ∀ (s:Shared) (us:List Value),K.In s.heap->(us++ds).length=ps.length->BindsTo s fd ⟨us,[]⟩ (ps.zip (us++ds))
theorem jT.all{fd:FuncData}(h:∀ us:List Value,us.length=ps.length->bindArgs fd ⟨us,[]⟩=pure (ps.zip us)):jT K fd ps []:=fun s us _ hl=>by
 rw[Zj]at hl ⊢
 exact .of_eq (h us hl)
def pW (CX:mC)(X:Cx)(E:XK):Prop:=∀ (pins:List (Addr×Obj)) (σ:St) (H:Hp) (s:Shared) (e:Value) (s':Shared),Inv X pins σ H s->CX X.stack H s E e s'->X.xe e s'
section
variable {X:Cx}{CX:mC}{k:Nat}{f C:Addr}{fd:FuncData}{ps:List Str}{sp:Sp}{dvs:List V}{ds:List Value}{E:XK}{x m:Str}{p pos apos:Pos}{e o:Expr}{es:List Expr}{ta:TE}{t:TA}
theorem zP{σ:St}{H:Hp}{Q:VK}{vs:List V}(F:bY X.prog X.w X.K X.mg X.base CX k f fd ps sp)(hr:aF k X.A)(hb:jT X.K fd ps ds)(hd:bf dvs ds)(hx:pW CX X E)
  (I:Inv X pins σ H s) (r:bf vs us) (h:sp (vs++dvs) H Q E):wpAny (model X.prog X.w) X.A (call (.ref f) us) (EP X pins σ Q) X.xe s:=by
 have r2:bf (vs++dvs) (us++ds):=r.append hd
 have hl:(us++ds).length=ps.length:=by rw[<- r2.length];exact F.len _ _ _ _ h
 refine Yf (Jj (F.run X.A X.stack s H ⟨us,[]⟩ (us++ds) (vs++dvs) Q E hr I.qZ (hb s us I.dW hl) r2 h) fun r s' hq=>?_)
 cases r with
 | error e=>exact hx pins σ H s e s' I hq
 | ok fl=>
  cases fl with
  | ret u=>exact I.after hq
  | next=>exact False.elim hq
  | brk=>exact False.elim hq
  | cont=>exact False.elim hq
theorem Ej(F:bY X.prog X.w X.K X.mg X.base CX k f fd ps sp)(hr:aF k X.A)(hg:Gl X x)(hm:X.mg x=some (.ref f))(hk:PySem.W.keepIn X.K (.ref f)=true)(hb:jT X.K fd ps ds)(hd:bf dvs ds)(hx:pW CX X E)
  (ha:PA X (e::es) t) (iP:(x==("__debug__":Str))=false:=by decide) (he:starEach (e::es) X.env=(false,eval e X.env)::starEach es X.env:=by rfl) (bT:(backTo pos (starEach es X.env)).any (·.1)=false:=by rfl) :
  PE X (.Call (.Name x p) (e::es) [] pos) (MA sp dvs E t):=by
 intro pins s σ H Q I h
 refine ZI (xg I hg hm ?_ iP)
 refine JA (h₀:=X.base) I.ok.mod.sX hk (aN (ha pos pins s σ H _ I h) fun us s1 ⟨vs,H1,I1,r,q⟩=>⟨I1.dW,?_⟩) he bT
 exact zP F hr hb hd hx I1 r q
theorem MC{pl:Sem Bool}(he:PE X o ta)(c:lS X.K C)(hm:jr X.K C m f)(F:bY X.prog X.w X.K X.mg X.base CX k f fd ps sp)(hr:aF k X.A)(hb:jT X.K fd ps ds)(hd:bf dvs ds)(hx:pW CX X E)(ha:PA X (e::es) t)
  (k8:starEach (e::es) X.env=(false,eval e X.env)::starEach es X.env:=by rfl) (bT:(backTo pos (starEach es X.env)).any (·.1)=false:=by rfl)
  (ht:eval (.Call (.Attribute o m apos) (e::es) [] pos) X.env=(do
    let ov <- eval o X.env
    standAt apos.atName
    let (f,first) <- holding [ov] (getMethod ov m pl)
    callWith pos f first (backTo pos (starEach (e::es) X.env)) (backToKw pos (keywordEach [] X.env))):=by rfl) :
  PE X (.Call (.Attribute o m apos) (e::es) [] pos) (Ei C m sp dvs E ta t):=by
 intro pins s σ H Q I h
 refine JR (pl:=pl) (aN (he pins s σ H _ I h) fun u s1 ⟨x,H1,I1,rx,a,dx,fs,ex,ea,l,q⟩=>?_) ht
 subst ex
 obtain rfl:u=Value.ref a:=rx
 refine zM I1 ea c hm l ?_
 refine JA (first:=[.ref a]) (h₀:=X.base) I.ok.mod.sX hm.kp (aN (ha pos pins s1 σ H1 _ I1 q) fun us s2 ⟨vs,H2,I2,r,q2⟩=>⟨I2.dW,?_⟩) k8 bT
 exact zP (us:=.ref a::us) (vs:=.ref a::vs) F hr hb hd hx I2 (.cons rfl r) q2
theorem Ek(he:PE X o ta)(c:lS X.K C)(hm:jr X.K C m f)(F:bY X.prog X.w X.K X.mg X.base CX k f fd ps sp)(hr:aF k X.A)(hb:jT X.K fd ps ds)(hd:bf dvs ds)(hx:pW CX X E)
  (ht:eval (.Call (.Attribute o m apos) [] [] pos) X.env=(do
    let ov <- eval o X.env
    standAt apos.atName
    let (f,first) <- holding [ov] (getMethod ov m pl)
    callWith pos f first (backTo pos (starEach [] X.env)) (backToKw pos (keywordEach [] X.env))):=by rfl) :
  PE X (.Call (.Attribute o m apos) [] [] pos) (Ei C m sp dvs E ta zO):=by
 intro pins s σ H Q I h
 refine JR (pl:=pl) (aN (he pins s σ H _ I h) fun u s1 ⟨x,H1,I1,rx,a,dx,fs,ex,ea,l,q⟩=>?_) ht
 subst ex
 obtain rfl:u=Value.ref a:=rx
 refine zM I1 ea c hm l ?_
 exact PySem.W.callWith_K0 (first:=[.ref a]) I1.dW hm.kp (zP (us:=[.ref a]) (vs:=[.ref a]) F hr hb hd hx I1 (.cons rfl .nil) q)
structure Mk (K:PySem.W.Frag) (C f:Addr):Prop where
 makes:PySem.W.makesIn K C=true
 init:PySem.W.findIn K (.ref C) "__init__" = some (some (.ref f))
 fn:PySem.W.isFn K (.ref f)=true
 kp:PySem.W.keepIn K (.ref C)=true
theorem MD{σ:St}{H:Hp}{Q:VK}{vs:List V}(M:Mk X.K C f)(F:bY X.prog X.w X.K X.mg X.base CX k f fd ps sp)(hr:aF (k+1) X.A)(hb:jT X.K fd ps ds)(hd:bf dvs ds)
  (hx:pW CX X E) (I:Inv X pins σ H s) (r:bf vs us)
  (h:∀ x dx,H x=none->H dx=none->dx≠x->sp (.ref x::(vs++dvs)) (upd (upd H dx (.own x)) x (.ins C dx [])) (fun v H2=>v=.aX/\Q (.ref x) H2) E) :
  wpAny (model X.prog X.w) X.A (call (.ref C) us) (EP X pins σ Q) X.xe s:=by
 have hq:=h (s.heap.objs.size+1) s.heap.objs.size (I.aA.fresh (Je _)) (I.aA.fresh (Qd _)) (QB (Q1 _))
 have I2:=Inv.made (C:=C) I
 have r2:bf (V.ref (s.heap.objs.size+1)::(vs++dvs)) (Value.ref (s.heap.objs.size+1)::(us++ds)):=.cons rfl (r.append hd)
 have hl:(Value.ref (s.heap.objs.size+1)::us++ds).length=ps.length:=by
  have e:=r2.length
  rw[F.len _ _ _ _ hq]at e
  exact e.symm
 refine Yf (Mh (f:=f) I.dW M.makes M.init (ZY.mp M.fn) (Jj (F.run _ X.stack _ _ ⟨Value.ref (s.heap.objs.size+1)::us,[]⟩ (Value.ref (s.heap.objs.size+1)::(us++ds)) _ _ E (hr.make C us [])
  (I2.qZ.make C us []) (hb _ (Value.ref (s.heap.objs.size+1)::us) I2.dW hl) r2 hq) fun r s' uC=>?_))
 cases r with
 | error e=>exact hx pins σ _ _ e s' I2 uC
 | ok fl=>
  cases fl with
  | ret u=>
   obtain⟨v,H',I3,rv,ev,q3⟩:=I2.after uC
   subst ev
   exact⟨rv,⟨V.ref (s.heap.objs.size+1),H',I3,rfl,q3⟩⟩
  | next=>exact False.elim uC
  | brk=>exact False.elim uC
  | cont=>exact False.elim uC
theorem ME(M:Mk X.K C f)(F:bY X.prog X.w X.K X.mg X.base CX k f fd ps sp)(hr:aF (k+1) X.A)(hg:Gl X x)(hm:X.mg x=some (.ref C))(hb:jT X.K fd ps ds)(hd:bf dvs ds)(hx:pW CX X E)
  (ha:PA X (e::es) t) (iP:(x==("__debug__":Str))=false:=by decide) (he:starEach (e::es) X.env=(false,eval e X.env)::starEach es X.env:=by rfl) (bT:(backTo pos (starEach es X.env)).any (·.1)=false:=by rfl) :
  PE X (.Call (.Name x p) (e::es) [] pos) (MB C sp dvs E t):=by
 intro pins s σ H Q I h
 refine ZI (xg I hg hm ?_ iP)
 refine JA (h₀:=X.base) I.ok.mod.sX M.kp (aN (ha pos pins s σ H _ I h) fun us s1 ⟨vs,H1,I1,r,q⟩=>⟨I1.dW,?_⟩) he bT
 exact MD M F hr hb hd hx I1 r q
end
structure ae (N P:List Str) (sc:Scope):Prop where
 kind:sc.kind=.function
 co:sc.isCoroutine=false
 gen:sc.isGenerator=false
 nd:N.Nodup
 pre:N.take P.length=P
 par:∀ x∈P,sc.names.lookup x=some .local\/sc.names.lookup x=some .cell
 q8:∀ y∈sc.names,y.2 ≠ .free
theorem bu{P:List Str}(h:N.Nodup/\(∀ x∈P,sc.names.lookup x=some .local\/sc.names.lookup x=some .cell)/\∀ y∈sc.names,y.2 ≠ .free)(a:sc.kind=.function:=by rfl)(b:sc.isCoroutine=false:=by rfl)(c:sc.isGenerator=false:=by rfl)(d:N.take P.length=P:=by rfl):ae N P sc:=⟨a,b,c,h.1,d,h.2.1,h.2.2⟩
theorem El:∀ {binds:List (Str×Value)} {m:Str->Option Value},(∀ v,(x,v) ∉ binds)->bindL kindOf binds m x=m x
 | [],_,_=>rfl
 | (n,v)::r,m,h=>by
  unfold bindL
  rw[El fun w hw=>h w (Qg _ hw)]
  split
  ·have:x≠n:=by rintro rfl;exact h v Qi
   simp[this]
  ·rfl
theorem Em:∀ {binds:List (Str×Value)} {m:Str->Option Value},(∀ v,(x,v) ∉ binds)->bindC kindOf binds m x=m x
 | [],_,_=>rfl
 | (n,v)::r,m,h=>by
  unfold bindC
  rw[Em fun w hw=>h w (Qg _ hw)]
  split
  ·rfl
  ·have:x≠n:=by rintro rfl;exact h v Qi
   simp[this]
theorem En:∀ {P:List Str} {vs:List Value} {i:Nat} {m:Str->Option Value},P.Nodup->P[i]? = some x->vs[i]? = some v->kindOf x=some .local->
  bindL kindOf (P.zip vs) m x=some v
 | [],_,_,_,_,h,_,_=>by simp at h
 | _::_,[],_,_,_,_,h,_=>by simp at h
 | p::P,w::vs,0,m,nd,h1,h2,hk=>by
  simp at h1 h2;subst h1;subst h2
  show bindL kindOf ((p,w)::P.zip vs) m p=_
  unfold bindL
  rw[El fun v hv=>(Zo.mp nd).1 (Jv hv).1,Qe hk]
  simp
 | p::P,w::vs,i+1,m,nd,h1,h2,hk=>by
  show bindL kindOf ((p,w)::P.zip vs) m x=_
  unfold bindL
  exact En (i:=i) (Zo.mp nd).2 (by simpa using h1) (by simpa using h2) hk
theorem Eo:∀ {P:List Str} {vs:List Value} {i:Nat} {m:Str->Option Value},P.Nodup->P[i]? = some x->vs[i]? = some v->kindOf x≠some .local->
  bindC kindOf (P.zip vs) m x=some v
 | [],_,_,_,_,h,_,_=>by simp at h
 | _::_,[],_,_,_,_,h,_=>by simp at h
 | p::P,w::vs,0,m,nd,h1,h2,hk=>by
  simp at h1 h2;subst h1;subst h2
  show bindC kindOf ((p,w)::P.zip vs) m p=_
  unfold bindC
  rw[Em fun v hv=>(Zo.mp nd).1 (Jv hv).1,Qf hk]
  simp
 | p::P,w::vs,i+1,m,nd,h1,h2,hk=>by
  show bindC kindOf ((p,w)::P.zip vs) m x=_
  unfold bindC
  exact Eo (i:=i) (Zo.mp nd).2 (by simpa using h1) (by simpa using h2) hk
def gX (N:List Str)(vs:List V):St:=vs.map some++List.replicate (N.length-vs.length) none
def fu (CX:mC)(P:Program)(w:World)(K:PySem.W.Frag)(mg:Str->Option Value)(base:Heap)(N:List Str)(qual:Str)(scope:Scope)(f:Addr)(cd:Value)(A:Around)(outer:List Env)(s:Shared)(H:Hp)(E:XK):Cx where
 prog:=P
 w:=w
 K:=K
 mg:=mg
 base:=base
 A:=A.deeper (envOfC qual scope s.heap.objs.size f cd)
 N:=N
 bA:=s
 cU:=H
 env:=envOfC qual scope s.heap.objs.size f cd
 outer:=outer
 stack:=envOfC qual scope s.heap.objs.size f cd::outer
 ex:=[]
 calm:=true
 fn:=fun _=>true
 pn:=[]
 xe:=fun e s'=>wpAny (model P w) (A.deeper (envOfC qual scope s.heap.objs.size f cd)) (leaving (envOfC qual scope s.heap.objs.size f cd) e) (fun _ ti=>CX outer H s E e ti) (fun e' ti=>CX outer H s E e' ti) s'
theorem Ep(h:sc.names.lookup x=some .cell):∃ c,(cellsFrom n sc.names []).lookup x=some c:=by
 have q:=Z4 sc.names n [] (.inl h)
 exact Zv.mp q
theorem MF{CX:mC}{f:Addr}{cd:Value}{s1:Shared}{H:Hp}{E:XK}{vs:List V}
  (S:ae N ps scope) (hd:A.handled=none) (e0:iO P w K mg base A outer s H) (hl:vs.length=ps.length) (r:bf vs us)
  (x:InCallC s s.heap.objs.size (bindL (envOfC qual scope s.heap.objs.size f cd).kindOf (ps.zip us) fun _=>none) (cellsFrom (s.heap.objs.size+1) scope.names []) (bindC (envOfC qual scope s.heap.objs.size f cd).kindOf (ps.zip us) fun _=>none) s1) :
  Inv (fu CX P w K mg base N qual scope f cd A outer s H E) [] (gX N vs) H s1:=by
 have bT:ps.length<=N.length:=by have:=JZ List.length S.pre;rw[Zc]at this;omega
 obtain⟨h1,tk,rfl,hk⟩:=x.done
 have nK:∀ b:Addr,b ∉ (fu CX P w K mg base N qual scope f cd A outer s H E).ex:=fun b z=>absurd (show b∈([]:List Addr)from z) (by simp)
 refine⟨⟨e0.mod,S.kind,rfl,rfl,Qd _,fun y z c h1 h2=>?_,fun y hy=>?_,fun y c _ h=>?_,fun _=>hd,Around.frames_deeper e0.frames,.inr ⟨rfl,rfl⟩,fun b z=>absurd z (nK b),e0.bs,e0.lP,fun b _ _=>nK b,fun b z=>absurd z (nK b),e0.eo,e0.pN⟩,
  rfl,e0.bare,Un.kept hk,⟨_,x.toInCall.ns,fun i y v h1 h2 h3=>?_⟩,fun y c h=>⟨_,x.cell y c h⟩,e0.aA.fresh (Qd _),fun y c h=>?_,fun p hp=>absurd (show p∈([]:List (Addr×Obj))from hp) (by simp),e0.aA.kept hk,?_⟩
 ·exact name_of_addr x.apart (Qw h1) (Qw h2)
 ·have hy:scope.names.lookup y=some .cell\/scope.names.lookup y=some .free:=hy
  rcases hy with hy|hy
  ·exact Ep hy
  ·exact absurd rfl (S.q8 _ (Qw hy))
 ·exact Zi (x.above y c (Qw h))
 ·have hi:i<vs.length:=by
   unfold gX at h2
   by_cases hi:i<vs.length
   ·exact hi
   ·rw[QN (by simpa using hi)]at h2
    rw[Zk]at h2
    split at h2<;>cases h2
  have ha:vs[i]? = some v:=by
   unfold gX at h2
   rw[Qs (by simpa using hi),Qu]at h2
   cases e:vs[i]? with
   | none=>rw[e]at h2;cases h2
   | some a=>rw[e]at h2;cases h2;rfl
  obtain⟨u,hu,rv⟩:=r.get ha
  have hp:ps[i]? = some y:=by
   rw[<- S.pre,ZZ (by omega)];exact h1
  have Er:ps.Nodup:=by rw[<- S.pre];exact S.nd.sublist (List.take_sublist _ _)
  refine⟨u,rv,?_⟩
  rcases S.par y (Zx hp)with k|k
  ·exact .inl ⟨k,En Er hp hu k⟩
  ·obtain⟨c,e⟩:=Ep (n:=s.heap.objs.size+1) k
   refine .inr ⟨.inl k,c,e,?_⟩
   have q:=x.cell y c e
   rw[Eo Er hp hu (by show scope.names.lookup y≠_;rw[k];decide)]at q
   exact q
 ·exact e0.aA.fresh (Zi (x.above y c (Qw h)))
 ·unfold gX
  show _=N.length
  rw[Qh,QA,QY]
  omega
theorem Es{CX:mC}{k:Nat}{f:Addr}{name:Str}{params:Arguments}{dV kV doc pm a_ ct oc:Value}{an od:Option Addr}
  {ou:Array (Option Value)}  {sp:Sp} (lk:K.lookup f=some ⟨oc,od,.func (PySem.W.fnOf name qual params body scope dV kV doc pm an a_ ct),ou⟩) (g_:PySem.W.codeIn K a_ qual=true) (S:ae N ps scope)
  (len:∀ vs H Q E,sp vs H Q E->vs.length=ps.length)
  (dk:∀ (A:Around) (outer:List Env) (s:Shared) (H:Hp) (vs:List V) (Q:VK) (E:XK),aF k (A.deeper (envOfC qual scope s.heap.objs.size f a_))->sp vs H Q E->
    ∃ t,iM (fu CX P w K mg base N qual scope f a_ A outer s H E) body t/\t { nx:=fun _ H'=>Q .aX H',rt:=Q } (gX N vs) H) :
  bY P w K mg base CX (k+1) f (PySem.W.fnOf name qual params body scope dV kV doc pm an a_ ct) ps sp:=by
 refine⟨len,fun A outer s H args us vs Q E hr e0 hb r gY=>?_⟩
 have hl:=len _ _ _ _ gY
 have KX:K.In s.heap:=e0.mod.sX.keeps fun b o e=>(e0.bs b o e).1
 have lim:s.heap.NoLimit:=e0.mod.nolimit.keeps fun b o e=>(e0.bs b o e).1
 have uD:∀ y∈ps.zip us,scope.names.lookup y.1=some .local\/(scope.names.lookup y.1=some .cell/\((cellsFrom (s.heap.objs.size+1) scope.names []).lookup y.1).isSome=true):=fun⟨n,v⟩ hy=>by
  rcases S.par n (Jv hy).1 with q|q
  ·exact .inl q
  ·exact .inr ⟨q,Z4 _ _ _ (.inl q)⟩
 refine codeAny_call_function hr.depth (KX _ _ lk) rfl S.co S.gen rfl (PySem.W.codeRec_of KX g_) (hb _ _ _ _ ?_)
 refine wpAny_newFunctionEnv_cells S.kind uD fun env he s1 x=>?_
 subst he
 refine⟨lim.keeps x.toInCall.keep,codeAny_func ?_⟩
 obtain⟨t,ht,hq⟩:=dk A outer s H vs Q E (hr.deeper _) gY
 have I:Inv (fu CX P w K mg base N qual scope f a_ A outer s H E) [] (gX N vs) H s1:=MF S hr.hd e0 hl r x
 refine Ze (ht [] s1 (gX N vs) H _ I hq) (fun fl s' hs=>?_) fun e s' hs=>hs
 have fin:∀ {aM:St} {H':Hp} {v:V} {u:Value},Inv (fu CX P w K mg base N qual scope f a_ A outer s H E) [] aM H' s'->bq v u->Q v H'->CE outer P w H s Q u s':=
  fun {aM H' v u} J rv q=>⟨v,H',J.os,J.bare,J.base,J.aA,rv,q⟩
 cases fl with
 | ret u=>
  obtain⟨v,aM,H',J,rv,q⟩:=hs
  exact fin J rv q
 | next=>
  obtain⟨aM,H',J,q⟩:=hs
  exact fin (v:=V.aX) (u:=Value.none) J rfl q
 | brk=>
  obtain⟨_,_,_,q⟩:=hs
  exact False.elim q
 | cont=>
  obtain⟨_,_,_,q⟩:=hs
  exact False.elim q
section
variable {X:Cx}{x:Str}{p pos:Pos}{e:Expr}{es:List Expr}{t:TA}{id T:String}{r:List V->Hp->VK->Prop}
def xm (r:List V->Hp->VK->Prop)(t:TA):TE:=fun σ H Q=>t σ H fun vs H1=>r vs H1 Q
theorem q9(hc:mz X (.builtin id) r)(hg:Gl X x)(hm:X.mg x=none)(hv:bootBuiltins x=some (.builtin id))(ha:PA X (e::es) t)(hn:x ≠ "__name__":=by decide)(iP:(x==("__debug__":Str))=false:=by decide)
  (he:starEach (e::es) X.env=(false,eval e X.env)::starEach es X.env:=by rfl) (bT:(backTo pos (starEach es X.env)).any (·.1)=false:=by rfl):PE X (.Call (.Name x p) (e::es) [] pos) (xm r t):=by
 intro pins s σ H Q I h
 refine ZI (s_ I hg hm hv ?_ hn iP)
 exact PyProof.Rows.callWith_builtin1 (aN (ha pos pins s σ H _ I h) fun us s1 ⟨vs,H1,I1,r1,q1⟩=>hc pins s1 σ H1 vs us Q I1 r1 q1) he bT
theorem xn(hc:mz X (.type T) r)(hg:Gl X x)(hm:X.mg x=none)(hv:bootBuiltins x=some (.type T))(ha:PA X (e::es) t)(hn:x ≠ "__name__":=by decide)(iP:(x==("__debug__":Str))=false:=by decide)
  (he:starEach (e::es) X.env=(false,eval e X.env)::starEach es X.env:=by rfl) (bT:(backTo pos (starEach es X.env)).any (·.1)=false:=by rfl):PE X (.Call (.Name x p) (e::es) [] pos) (xm r t):=by
 intro pins s σ H Q I h
 refine ZI (s_ I hg hm hv ?_ hn iP)
 exact ZF (aN (ha pos pins s σ H _ I h) fun us s1 ⟨vs,H1,I1,r1,q1⟩=>hc pins s1 σ H1 vs us Q I1 r1 q1) he bT
end
end L2
namespace HT
open PySem PyProof.Rows
variable {Q:Value->Shared->Prop}{hi lo:Option Int}{sl:Addr}{vl vu:Value}
section
open PySem.SeqAt
open PySem.AutoSeq1 (wpAny_loadPart')
open PySem.MeetsSeq PySem.MeetsSeq2 PySem.MeetsSeq3
end
section
variable {prog:Program}{w:World}{A:Around}{E:Value->Shared->Prop}{s:Shared}
theorem MG{t b:Addr}{vs ws:List Value}(ht:IsTup s.heap t vs.toArray)(hb:IsTup s.heap b ws.toArray)(hv:vs ≠ [])
  (h1:ws=[]->Q (.ref t) s) (h2:ws ≠ []->Q (.ref s.heap.objs.size) { s with heap:=s.heap.push { cls:=.type "tuple",data:=.seq (vs++ws).toArray } })
  (hsz:vs.length+ws.length<=sizeLine):wpAny (model prog w) A (binaryOp .Add (.ref t) (.ref b)) Q E s:=by
 obtain⟨⟨cls,dd,data,sl⟩,ho,hc,n,hd⟩:=id ht
 obtain⟨⟨zQ,tj,data2,tm⟩,q_,mD,n2,hd2⟩:=id hb
 simp only at hc hd mD hd2
 subst hc hd mD hd2
 have e:vs.toArray++ws.toArray=(vs++ws).toArray:=by simp
 by_cases hw:ws=[]
 ·exact YK ⟨_,ho,rfl⟩ ⟨_,q_,rfl⟩ YB seq_tuple_add JE JC (Jr _ _)
   (tuple_addW1 t b vs.toArray ws.toArray n n2 dd tj sl tm (by simpa using hv) (by simp[hw])) ⟨ho,q_,h1 hw⟩
 ·refine YK ⟨_,ho,rfl⟩ ⟨_,q_,rfl⟩ YB seq_tuple_add JE JC (Jr _ _)
   (tuple_addW2 t b vs.toArray ws.toArray n n2 dd tj sl tm (by simpa using hv) (by simpa using hw) (by rw[Ql,Ql];exact hsz)) ⟨ho,q_,?_⟩
  rw[e]
  exact h2 hw
def bo (n d:Nat):Option Int->Nat
 | none=>d
 | some v=>if v<0 then(v+(n:Int)).toNat else min v.toNat n
theorem MH(n d:Nat)(hd:d<=n)(o:Option Int):bo n d o<=n:=by
 cases o with
 | none=>exact hd
 | some v=>
  show(if v<0 then(v+(n:Int)).toNat else min v.toNat n)<=n
  by_cases hv:v<0
  ·rw[Qe hv];omega
  ·rw[Qf hv];exact Nat.min_le_right _ _
theorem Et(v:Int)(n d:Nat):(if v<0 then max (v+(n:Int)) 0 else min v (n:Int))=((bo n d (some v):Nat):Int):=by
 show(if v<0 then max (v+(n:Int)) 0 else min v (n:Int))=(((if v<0 then(v+(n:Int)).toNat else min v.toNat n):Nat):Int)
 by_cases hv:v<0
 ·simp only[Qe hv];omega
 ·simp only[Qf hv];omega
theorem MI(lo hi:Option Int)(n:Nat):Builtin.Slice.sliceAdjust lo hi 1 (n:Int)=(((bo n 0 lo:Nat):Int),((bo n n hi:Nat):Int)):=by
 have h1:¬ ((1:Int)<0):=by omega
 unfold Builtin.Slice.sliceAdjust
 simp only[h1,Js]
 refine Prod.ext ?_ ?_
 ·cases lo with
  | none=>rfl
  | some v=>exact Et v n 0
 ·cases hi with
  | none=>rfl
  | some v=>exact Et v n n
theorem MJ(i j:Nat):Builtin.Slice.slicePlaces (i:Int) (j:Int) 1=j-i:=by
 unfold Builtin.Slice.slicePlaces
 have h1:(1:Int) > 0:=by omega
 simp only[h1,JF,Int.ediv_one]
 split<;>omega
theorem Eu{v:Value}{o:Option Int}{Q:Option Int->Shared->Prop}(p:IsPart v o)(h:Q o s):wpAny (model prog w) A (Builtin.Slice.slicePartIndex v) Q E s:=by
 cases p with
 | none=>exact Yg h
 | int i t=>exact slicePart_int h
theorem Ew{n:Nat}{Q:Int×Int×Nat->Shared->Prop}(hs:s.heap.IsSliceOf sl vl vu .none)(pl:IsPart vl lo)(pu:IsPart vu hi)
  (h:Q (((bo n 0 lo:Nat):Int),1,bo n n hi-bo n 0 lo) s):wpAny (model prog w) A (Builtin.Slice.sliceApplied (.ref sl) (pure (n:Int))) Q E s:=by
 obtain⟨os,lT,tq,mE⟩:=id hs
 unfold Builtin.Slice.sliceApplied Builtin.Slice.sliceFields
 refine Qa (Qa (ZH lT mE (x:=vl) rfl (Qa (ZH lT mE (x:=vu) rfl (Qa (ZH lT mE (x:=.none) rfl (Qb ?_)))))))
 refine Qa (Yg ?_)
 show wpAny _ _ (if((1:Int)==0)=true then _ else _) _ _ s
 rw[Qf (by decide)]
 refine Qa (Eu pl (Qa (Eu pu (Qa (Qb ?_)))))
 show wpAny _ _ (match Builtin.Slice.sliceAdjust lo hi 1 (n:Int)with|(lo,hi)=>pure (lo,(1:Int),Builtin.Slice.slicePlaces lo hi 1)) _ _ s
 rw[MI lo hi n]
 show wpAny _ _ (pure (((bo n 0 lo:Nat):Int),(1:Int),Builtin.Slice.slicePlaces ((bo n 0 lo:Nat):Int) ((bo n n hi:Nat):Int) 1)) _ _ s
 rw[MJ]
 exact Qb h
theorem ML(xs:Array Value)(i k:Nat):((List.range k).filterMap fun(m:Nat)=>xs[((i:Int)+(m:Int)*1).toNat]?).toArray=((xs.toList.drop i).take k).toArray:=by
 have e:(fun(m:Nat)=>xs[((i:Int)+(m:Int)*1).toNat]?)=fun m=>xs[i+m]?:=by
  funext m
  have:((i:Int)+(m:Int)*1).toNat=i+m:=by omega
  rw[this]
 rw[e]
 have:=pick_run xs i k
 rw[List.filterMap_map]at this
 have e2:((fun x=>xs[x]?) ∘ fun x=>i+x)=fun m=>xs[i+m]?:=rfl
 rw[e2]at this
 rw[this]
theorem MM{t:Addr}{items:Array Value}(ht:IsTup s.heap t items)(hs:s.heap.IsSliceOf sl vl vu .none)(pl:IsPart vl lo)(pu:IsPart vu hi)
  (hw:¬ (bo items.size 0 lo=0/\bo items.size items.size hi=items.size))
  (h:Q (.ref s.heap.objs.size) { s with heap:=s.heap.push { cls:=.type "tuple",data:=.seq ((items.toList.drop (bo items.size 0 lo)).take (bo items.size items.size hi-bo items.size 0 lo)).toArray } })
  (hsz:items.size<=sizeLine):wpAny (model prog w) A (getItem (.ref t) (.ref sl)) Q E s:=by
 have eE:sizeOk (.seq ((items.toList.drop (bo items.size 0 lo)).take (bo items.size items.size hi-bo items.size 0 lo)).toArray):=by
  show((items.toList.drop (bo items.size 0 lo)).take (bo items.size items.size hi-bo items.size 0 lo)).toArray.size<=sizeLine
  rw[Ql,Zc,Z1,Q5]
  omega
 have hj:bo items.size items.size hi<=items.size:=MH _ _ (Qd _) hi
 obtain⟨os,lT,tq,mE⟩:=id hs
 have zR:s.TypeIs (.ref sl) "slice":=⟨os,lT,tq⟩
 unfold getItem
 try with_reducible refine Zw ?_
 first|refine Qa (Qb ?_)|skip
 refine Qa (Yq ht.typeIs (by decide) ?_)
 refine Qa (Q8 (name:=Str.ofString "__getitem__") ht.typeIs QK
  (Zq QK ht.typeIs J8 ?_ (Yh _ _)))
 show wpAny _ _ (Builtin.Tuple.tupleItemsOf (.ref t) >>= _) _ _ s
 refine Qa (tupleItemsOf_ ht ?_)
 refine Qa (JG zR ?_)
 rw[Qe (by decide)]
 refine Qa (Ew hs pl pu ?_)
 have zS:¬ ((((bo items.size 0 lo:Nat):Int)==0&&(1:Int)==1&&(bo items.size items.size hi-bo items.size 0 lo)==items.size)=true):=by
  intro q
  rw[Z2,Z2]at q
  have q1:((bo items.size 0 lo:Nat):Int)=0:=eq_of_beq q.1.1
  have q2:bo items.size items.size hi-bo items.size 0 lo=items.size:=eq_of_beq q.2
  exact hw ⟨by omega,by omega⟩
 show wpAny _ _ (if(((bo items.size 0 lo:Nat):Int)==0&&(1:Int)==1&&(bo items.size items.size hi-bo items.size 0 lo)==items.size)=true then _ else _) _ _ s
 rw[Qf zS,ML]
 first
  | exact Qa (m:=Builtin.Tuple.tupleExact _) (QF (Qb ⟨_,rfl,Qb h⟩) eE)
  | exact Qa (m:=Builtin.Tuple.tupleExact _) (QF (Qa (Qb (Qb ⟨_,rfl,Qb h⟩))) eE)
  | exact Qa (Qa (m:=Builtin.Tuple.tupleExact _) (QF (Qb (Qb ⟨_,rfl,Qb h⟩)) eE))
  | exact Qa (Qa (m:=Builtin.Tuple.tupleExact _) (QF (Qb ⟨_,rfl,Qb h⟩) eE))
end
end HT
namespace L2
open PySem PySem.Spec PyProof.Rows
variable {i:Int}{n:Nat}{r:V->Option Int->Option Int->Hp->VK->Prop}{us:List Value}{xs:List V}
abbrev TO:=St->Hp->(Option Int->Hp->Prop)->Prop
def PO (X:Cx)(e:Option Expr)(t:TO):Prop:=
 ∀ (pins:List (Addr×Obj)) (s:Shared) (σ:St) (H:Hp) (Q:Option Int->Hp->Prop),Inv X pins σ H s->t σ H Q->
  wpAny (model X.prog X.w) X.A (evalPart e X.env) (fun u s'=>∃ o H',Inv X pins σ H' s'/\IsPart u o/\Q o H') X.xe s
def MN:TO:=fun _ H Q=>Q none H
def MO (t:TE):TO:=fun σ H Q=>t σ H fun x H1=>∃ i,x=.int i/\Q (some i) H1
section
variable {X:Cx}{e:Expr}{te:TE}{lo hi:Option Expr}{tl th:TO}{pos p2:Pos}
theorem MP:PO X none MN:=by
 intro pins s σ H Q I h
 rw[evalPart_none]
 exact Qb ⟨none,H,I,.none,h⟩
theorem MQ(h:PE X e te):PO X (some e) (MO te):=by
 intro pins s σ H Q I hw
 rw[evalPart_some]
 refine aN (h pins s σ H _ I hw) fun u s1 ak=>?_
 obtain⟨x,H1,I1,r1,q1⟩:=ak
 obtain⟨i,rfl,q⟩:=q1
 obtain⟨t,rfl⟩:=r1
 exact⟨some i,H1,I1,.int i t,q⟩
def pX (X:Cx)(r:V->Option Int->Option Int->Hp->VK->Prop):Prop:=
 ∀ (pins:List (Addr×Obj)) (s:Shared) (σ:St) (H:Hp) (x:V) (v vl vu:Value) (lo hi:Option Int) (sl:Addr) (Q:VK),Inv X pins σ H s->bq x v->s.heap.IsSliceOf sl vl vu .none->IsPart vl lo->IsPart vu hi->r x lo hi H Q->
  ∃ T id,typeLookup (.type T) "__getitem__" = pure (some (.builtin id))/\s.TypeIs v T/\wpAny (model X.prog X.w) X.A (getItem v (.ref sl)) (EP X pins σ Q) X.xe s
theorem pX.or{r':V->Option Int->Option Int->Hp->VK->Prop}(h:pX X r)(h':pX X r'):pX X (fun x lo hi H Q=>r x lo hi H Q\/r' x lo hi H Q):=by
 intro pins s σ H x v vl vu lo hi sl Q I rx hs pl pu q
 rcases q with q|q
 ·exact h pins s σ H x v vl vu lo hi sl Q I rx hs pl pu q
 ·exact h' pins s σ H x v vl vu lo hi sl Q I rx hs pl pu q
def MR (r:V->Option Int->Option Int->Hp->VK->Prop)(te:TE)(tl th:TO):TE:=fun σ H Q=>te σ H fun x H1=>tl σ H1 fun l H2=>th σ H2 fun u H3=>r x l u H3 Q
theorem Ex(hr:pX X r)(he:PE X e te)(hl:PO X lo tl)(hu:PO X hi th):PE X (.Subscript e (.Slice lo hi none p2) pos) (MR r te tl th):=by
 intro pins s σ H Q I h
 refine Subscript_ (aN (he pins s σ H _ I h) fun v s1 ak=>?_)
 obtain⟨x,H1,I1,r1,q1⟩:=ak
 refine wpAny_Slice (aN (hl pins s1 σ H1 _ I1 q1) fun vl s2 ⟨l,H2,I2,pl,q2⟩=>aN (hu pins s2 σ H2 _ I2 q2) fun vu s3 ak=>?_)
 obtain⟨u,H3,I3,pu,q3⟩:=ak
 rw[evalPart_none]
 refine Qb ?_
 have I4:Inv X pins σ H3 { s3 with heap:=s3.heap.push { cls:=.type "slice",data:=.fields #[vl,vu,.none] } }:=I3.kept (t':=s3.toks) fun b ob q=>Qc _ q
 obtain⟨T,id,hT,ht,hg⟩:=hr pins { s3 with heap:=s3.heap.push { cls:=.type "slice",data:=.fields #[vl,vu,.none] } } σ H3 x v vl vu l u s3.heap.objs.size Q I4 r1 (Heap.IsSliceOf.new ..) pl pu q3
 show wpAny (model X.prog X.w) X.A (subscriptTail e (.Slice lo hi none p2) v (.ref s3.heap.objs.size)) (EP X pins σ Q) X.xe { s3 with heap:=s3.heap.push { cls:=.type "slice",data:=.fields #[vl,vu,.none] } }
 exact tail_any (ops:=[.ref s3.heap.objs.size,v]) ht hT hg (by with_unfolding_all rfl)
def nL (xs:List V)(lo hi:Option Int):List V:=(xs.drop (HT.bo xs.length 0 lo)).take (HT.bo xs.length xs.length hi-HT.bo xs.length 0 lo)
theorem Ey(xs:List V)(lo hi:Option Int):(nL xs lo hi).length<=xs.length:=by
 unfold nL
 rw[Zc,Z1]
 omega
def MS (K:PySem.W.Frag):V->Option Int->Option Int->Hp->VK->Prop:=fun x lo hi H Q=>∃ a xs,x=.ref a/\cE K H a xs /\
 ¬ (HT.bo xs.length 0 lo=0/\HT.bo xs.length xs.length hi=xs.length)/\∀ p,H p=none->Q (.ref p) (upd H p (.tup (nL xs lo hi)))
theorem MT:pX X (MS X.K):=by
 intro pins s σ H x v vl vu lo hi sl Q I rx hs pl pu h
 obtain⟨a,xs,rfl,hx,hw,q⟩:=h
 cases rx
 obtain⟨au,r,ht,hz⟩:=I.tuple hx
 have hlen:au.toArray.size=xs.length:=by rw[Ql];exact r.length.symm
 refine⟨"tuple",_,QK.lookup,ht.typeIs,?_⟩
 refine HT.MM ht hs pl pu (by rw[hlen];exact hw) ?_ (by rw[hlen];exact hz)
 rw[hlen]
 refine⟨.ref s.heap.objs.size,_,I.laid (t':=s.toks) (o:=.tup (nL xs lo hi)) (fun b ob q=>Qc _ q) (Qd _) ?_,rfl,q _ (I.aA.fresh (Qd _))⟩
 exact⟨QC (Ey xs lo hi) hz,_,(r.drop (HT.bo xs.length 0 lo)).take (HT.bo xs.length xs.length hi-HT.bo xs.length 0 lo),j7.new _ _⟩
def MU (K:PySem.W.Frag):R2:=fun x y H Q=>∃ a b xs ys,x=.ref a/\y=.ref b/\cE K H a xs/\cE K H b ys/\xs ≠ []/\xs.length+ys.length<=sizeLine /\
 (ys=[]->Q (.ref a) H)/\(ys ≠ []->∀ p,H p=none->Q (.ref p) (upd H p (.tup (xs++ys))))
theorem bf.iQ(r:bf xs us):us=[] ↔ xs=[]:=by
 cases r with
 | nil=>simp
 | cons _ _=>simp
theorem MV:b_ X (binaryOp .Add) (MU X.K):=by
 intro pins s σ H x y v u Q I rx ry h
 obtain⟨a,b,xs,ys,rfl,rfl,ha,hb,hx,hz,q1,q2⟩:=h
 cases rx
 cases ry
 obtain⟨au,r1,p1,_⟩:=I.tuple ha
 obtain⟨mG,r2,p2,_⟩:=I.tuple hb
 refine HT.MG p1 p2 (fun z=>hx (r1.iQ.mp z)) (fun z=>⟨.ref a,H,I,rfl,q1 (r2.iQ.mp z)⟩) (fun z=>?_) (by rw[<- r1.length,<- r2.length];exact hz)
 refine⟨.ref s.heap.objs.size,_,I.laid (t':=s.toks) (o:=.tup (xs++ys)) (fun b ob q=>Qc _ q) (Qd _) ?_,rfl,q2 (fun w=>z (r2.iQ.mpr w)) _ (I.aA.fresh (Qd _))⟩
 exact⟨by rw[Qh];exact hz,_,r1.append r2,j7.new _ _⟩
end
def oy (n:Nat)(i:Int):Option Nat:=if 0<=i then(if i<n then some i.toNat else none)else if -(n:Int)<=i then some (i+n).toNat else none
def eR {α:Type}(xs:List α)(i:Int):Option α:=(oy xs.length i).bind fun j=>xs[j]?
theorem MW{j:Nat}(h:oy n i=some j):seqIndex? i n=some j/\j<n /\ -(n:Int)<=i/\i<n:=by
 unfold oy at h
 by_cases h0:0<=i
 ·rw[Qe h0]at h
  by_cases h1:i<n
  ·rw[Qe h1]at h
   have e:i.toNat=j:=Qy h
   exact⟨by rw[seqIndex_of h0 h1,e],by omega,by omega,h1⟩
  ·rw[Qf h1]at h;cases h
 ·rw[Qf h0]at h
  by_cases h1:-(n:Int)<=i
  ·rw[Qe h1]at h
   have e:(i+n).toNat=j:=Qy h
   exact⟨by rw[seqIndex_neg (by omega) h1,e],by omega,h1,by omega⟩
  ·rw[Qf h1]at h;cases h
theorem zT{α:Type}{xs:List α}{v:α}(h:eR xs i=some v):∃ j,seqIndex? i xs.length=some j/\xs[j]? = some v/\j<xs.length /\ -(xs.length:Int)<=i/\i<xs.length:=by
 unfold eR at h
 cases e:oy xs.length i with
 | none=>rw[e]at h;cases h
 | some j=>
  rw[e]at h
  obtain⟨h1,h2,h3,h4⟩:=MW e
  exact⟨j,h1,h,h2,h3,h4⟩
def uE (b:Expr):Prop:=∀ o i,subscripted b false o i=operate [o,i] (getItem o i)
def oz (X:Cx)(r:R2):Prop:=
 ∀ (value slice:Expr) (pins:List (Addr×Obj)) (s:Shared) (σ:St) (H:Hp) (x y:V) (v u:Value) (Q:VK),Inv X pins σ H s->bq x v->bq y u->r x y H Q->
  subscripted slice false v u=operate [v,u] (getItem v u)->wpAny (model X.prog X.w) X.A (subscriptTail value slice v u) (EP X pins σ Q) X.xe s
def Ez (X:Cx)(id:String)(r:V->List V->Hp->VK->Prop):Prop:=
 ∀ (pins:List (Addr×Obj)) (s:Shared) (σ:St) (H:Hp) (x:V) (xs:List V) (v:Value) (us:List Value) (Q:VK),Inv X pins σ H s->bq x v->bf xs us->r x xs H Q->
  wpAny (model X.prog X.w) X.A (call (.builtin id) (v::us)) (EP X pins σ Q) X.xe s
section
variable {X:Cx}{a b:Expr}{ta tb:TE}{pos:Pos}
theorem oz.or{r r':R2}(h:oz X r)(h':oz X r'):oz X (fun x y H Q=>r x y H Q\/r' x y H Q):=by
 intro value slice pins s σ H x y v u Q I rx ry q hs
 rcases q with q|q
 ·exact h value slice pins s σ H x y v u Q I rx ry q hs
 ·exact h' value slice pins s σ H x y v u Q I rx ry q hs
theorem xp{r:R2}(hr:oz X r)(ha:PE X a ta)(hb:PE X b tb)(hs:uE b):PE X (.Subscript a b pos) (jh r ta tb):=by
 intro pins s σ H Q I h
 exact Subscript_ (zC ha hb I h fun v u s2 x y H2 I2 rx ry q=>hr a b pins s2 σ H2 x y v u Q I2 rx ry q (hs _ _))
def EA (K:PySem.W.Frag):R2:=fun x y H Q=>∃ p xs i v,x=.ref p/\y=.int i/\cK K H p xs/\eR xs i=some v/\Q v H
def EB (K:PySem.W.Frag):R2:=fun x y H Q=>∃ p xs i v,x=.ref p/\y=.int i/\cE K H p xs/\eR xs i=some v/\Q v H
def EC:R2:=fun x y H Q=>∃ z i c,x=.str z/\y=.int i/\z.length<=sizeLine/\eR z.cps.toList i=some c/\Q (.str ⟨#[c]⟩) H
theorem MX:oz X (EA X.K):=by
 intro value slice pins s σ H x y v u Q I rx ry h hs
 obtain⟨p,xs,i,z,rfl,rfl,hq,he,q⟩:=h
 cases rx
 obtain⟨t,rfl⟩:=ry
 obtain⟨au,r,pl,hz⟩:=I.list hq
 obtain⟨j,h1,h2,h3,h4,h5⟩:=zT he
 obtain⟨w,ew,j8⟩:=r.get h2
 have hl:=r.length
 have hn:=ux
 have fin:EP X pins σ Q w s:=⟨z,H,I,j8,q⟩
 by_cases h0:0<=i
 ·have hj:i.toNat=j:=by
   rw[seqIndex_of h0 h5]at h1
   exact Qy h1
  exact item_listR pl.isList h0 (by omega) (by rw[hj];simpa using ew) fin hs
 ·have hj:(i+(au.toArray.size:Int)).toNat=j:=by
   rw[seqIndex_neg (by omega) h4]at h1
   rw[Ql,<- hl]
   exact Qy h1
  exact subscriptTail_builtinR (x:=w) pl.isList.typeIs slot_list_getitem.lookup
   (wpAny_getItem_list_neg (Q:=fun r s'=>r=w/\EP X pins σ Q r s') pl.isList (by omega) (by rw[Ql]<;>omega) (by omega) (by rw[hj];simpa using ew) ⟨rfl,fin⟩) hs
theorem MY:oz X (EB X.K):=by
 intro value slice pins s σ H x y v u Q I rx ry h hs
 obtain⟨p,xs,i,z,rfl,rfl,hq,he,q⟩:=h
 cases rx
 obtain⟨t,rfl⟩:=ry
 obtain⟨au,r,pl,hz⟩:=I.tuple hq
 obtain⟨j,h1,h2,h3,h4,h5⟩:=zT he
 obtain⟨w,ew,j8⟩:=r.get h2
 have hl:=r.length
 have hn:=ux
 have fin:EP X pins σ Q w s:=⟨z,H,I,j8,q⟩
 exact subscriptTail_builtinR (x:=w) pl.typeIs slot_tuple_getitem.lookup
  (getItem_tuple (j:=j) (Q:=fun r s'=>r=w/\EP X pins σ Q r s') pl (by omega) (by omega) (by rw[Ql,<- hl];exact h1) (by simpa using ew) ⟨rfl,fin⟩) hs
theorem MZ:oz X EC:=by
 intro value slice pins s σ H x y v u Q I rx ry h hs
 obtain⟨z,i,c,rfl,rfl,hz,he,q⟩:=h
 obtain⟨t,rfl⟩:=rx
 obtain⟨t',rfl⟩:=ry
 obtain⟨j,h1,h2,h3,h4,h5⟩:=zT he
 have hl:z.cps.toList.length=z.length:=by simp[Str.length]
 rw[hl]at h1 h4 h5
 have hn:=ux
 exact tail_any (typeIs_str s z t) slot_str_getitem.lookup (getItem_str (c:=c) (by
  have e1:decide (i < -(2 ^ 63:Int))=false:=Q4 (by omega)
  have e2:decide (i ≥ 2 ^ 63)=false:=Q4 (by omega)
  rw[e1,e2,Bool.or_false]) (by rw[h1];simpa using h2) ⟨.str ⟨#[c]⟩,H,I.tok _,⟨_,rfl⟩,q⟩) hs
def M0 (K:PySem.W.Frag):R2:=fun x y H Q=>EA K x y H Q\/EB K x y H Q\/EC x y H Q
theorem xq:oz X (M0 X.K):=MX.or (MY.or MZ)
theorem M3(lo hi:Option Int)(n:Nat):(sliceBounds lo hi none n).1=((HT.bo n 0 lo:Nat):Int)/\(sliceBounds lo hi none n).2.1=((HT.bo n n hi:Nat):Int)/\(sliceBounds lo hi none n).2.2=1:=by
 refine⟨?_,?_,rfl⟩
 ·cases lo with
  | none=>simp[sliceBounds,HT.bo]
  | some i=>
   simp only[sliceBounds,HT.bo,Option.getD_none,show(1:Int) > 0 by decide,JF]
   by_cases h:i<0
   ·simp only[h,JF]<;>omega
   ·simp only[h,Js]<;>omega
 ·cases hi with
  | none=>simp[sliceBounds,HT.bo]
  | some i=>
   simp only[sliceBounds,HT.bo,Option.getD_none,show(1:Int) > 0 by decide,JF]
   by_cases h:i<0
   ·simp only[h,JF]<;>omega
   ·simp only[h,Js]<;>omega
theorem M4(au:List Value)(lo hi:Option Int):slicePick au.toArray lo hi none=((au.drop (HT.bo au.length 0 lo)).take (HT.bo au.length au.length hi-HT.bo au.length 0 lo)).toArray:=by
 obtain⟨h1,h2,h3⟩:=M3 lo hi au.toArray.size
 unfold slicePick
 rw[h1,h2,h3]
 simp only[sliceRange_one,pick_run,Ql]<;>rfl
def M5 (K:PySem.W.Frag):V->Option Int->Option Int->Hp->VK->Prop:=fun x lo hi H Q=>∃ a xs,x=.ref a/\cK K H a xs/\∀ p,H p=none->Q (.ref p) (upd H p (.lst (nL xs lo hi)))
theorem M6:pX X (M5 X.K):=by
 intro pins s σ H x v vl vu lo hi sl Q I rx hs pl pu h
 obtain⟨a,xs,rfl,hx,q⟩:=h
 cases rx
 obtain⟨au,r,ht,hz⟩:=I.list hx
 have hlen:=r.length
 refine⟨"list",_,slot_list_getitem.lookup,ht.isList.typeIs,?_⟩
 refine wpAny_getItem_list_slice ht.isList hs pl pu .none (by simp) ?_ (by rw[Ql]<;>omega)
 rw[M4,<- hlen]
 refine⟨.ref s.heap.objs.size,_,I.laid (t':=s.toks) (o:=.lst (nL xs lo hi)) (fun b ob q=>Qc _ q) (Qd _) ?_,rfl,q _ (I.aA.fresh (Qd _))⟩
 exact⟨QC (Ey xs lo hi) hz,_,0,(r.drop (HT.bo xs.length 0 lo)).take (HT.bo xs.length xs.length hi-HT.bo xs.length 0 lo),Qm _ rfl⟩
theorem zU:mz X (.builtin "len") (fun xs H Q=>∃ p ys,xs=[.ref p]/\(cK X.K H p ys\/cE X.K H p ys)/\Q (.int ys.length) H):=by
 intro pins s σ H xs us Q I r h
 obtain⟨p,ys,rfl,hq,q⟩:=h
 obtain⟨u,rfl,rx⟩:=qX r
 cases rx
 have hn:=ux
 rcases hq with hq|hq
 ·obtain⟨au,r',pl,hz⟩:=I.list hq
  have hlen:=r'.length
  exact Calls.call_len_list pl.isList (by simp only[Ql]<;>omega) ⟨.int ys.length,H,I.tok _,⟨s.toks+1,by rw[Ql,hlen]⟩,q⟩
 ·obtain⟨au,r',pl,hz⟩:=I.tuple hq
  have hlen:=r'.length
  exact len_tuple pl (by simp only[Ql]<;>omega) ⟨.int ys.length,H,I.tok _,⟨s.toks+1,by rw[Ql,hlen]⟩,q⟩
theorem M7:mz X (.type "tuple") (fun xs H Q=>∃ p ys,xs=[.ref p]/\((cK X.K H p ys/\∀ l,H l=none->Q (.ref l) (upd H l (.tup ys)))\/(cE X.K H p ys/\Q (.ref p) H))):=by
 intro pins s σ H xs us Q I r h
 obtain⟨p,ys,rfl,h⟩:=h
 obtain⟨u,rfl,rx⟩:=qX r
 cases rx
 rcases h with⟨hq,q⟩|⟨hq,q⟩
 ·obtain⟨au,r',pl,hz⟩:=I.list hq
  have hlen:=r'.length
  refine call_tuple_list pl.isList (fun h' kp=>?_) (by simp only[Ql]<;>omega)
  have I1:Inv X pins σ H { s with heap:=h' }:=I.kept (t':=s.toks) kp
  have I2:Inv X pins σ (upd H h'.objs.size (.tup ys)) { s with heap:=h'.push { cls:=.type "tuple",data:=.seq au.toArray } }:=
   I1.laid (t':=s.toks) (fun b o e=>Qc _ e) (Qd _) (show cJ X.prog X.w _ _ _ (.tup ys)from⟨hz,au,r',j7.new _ _⟩)
  exact⟨.ref h'.objs.size,_,I2,rfl,q _ (I1.aA.fresh (Qd _))⟩
 ·obtain⟨au,r',pl,hz⟩:=I.tuple hq
  exact call_tuple_same pl ⟨.ref p,H,I,rfl,q⟩
def ED (K:PySem.W.Frag)(T:String)(x:V)(H:Hp):Prop:=match x with
 | .str _=>T = "str"
 | .int _=>T = "int"
 | .ref p=>(T = "list" /\ ∃ xs,cK K H p xs)\/(T = "tuple" /\ ((∃ o,K.lookup p=some o/\o.cls=.type "tuple" /\ o.dict=none)\/∃ xs,H p=some (.tup xs))) \/
   (T = "dict" /\ ((∃ ai,H p=some (.dK ai))\/∃ ai,H p=some (.dT ai)))\/(T = "set" /\ ∃ S n,H p=some (.set S n))
 | _=>False
theorem M8{pins:List (Addr×Obj)}{σ:St}{H:Hp}{s:Shared}{T:String}{x:V}{v:Value}(I:Inv X pins σ H s)(r:bq x v)(ty:ED X.K T x H) :
  s.TypeIs v T/\∀ a,v=.ref a->∃ ob,s.heap.get? a=some ob/\ob.dict=none:=by
 cases x with
 | str z=>
  obtain⟨t,rfl⟩:=r
  cases (show T = "str" from ty)
  exact⟨typeIs_str s z t,fun _ e=>nomatch e⟩
 | int i=>
  obtain⟨t,rfl⟩:=r
  cases (show T = "int" from ty)
  exact⟨JT s i t,fun _ e=>nomatch e⟩
 | ref p=>
  cases r
  rcases ty with⟨rfl,xs,hq⟩|⟨rfl,⟨o,hk,hc,hd⟩|⟨xs,hk⟩⟩|⟨rfl,hk⟩|⟨rfl,S,n,hk⟩
  ·obtain⟨au,_,pl,_⟩:=I.list hq
   refine⟨pl.isList.typeIs,fun a e=>?_⟩
   cases e
   obtain⟨o,n,e,c,hd,_⟩:=pl
   exact⟨o,e,hd⟩
  ·refine⟨⟨o,I.dW p o hk,hc⟩,fun a e=>?_⟩
   cases e
   exact⟨o,I.dW _ o hk,hd⟩
  ·obtain⟨_,au,_,o,e,c,_,hd⟩:=(show cJ X.prog X.w H s.heap p (.tup xs)from I.aA p _ hk)
   refine⟨⟨o,e,c⟩,fun a e2=>?_⟩
   cases e2
   exact⟨o,e,hd⟩
  ·have z:∃ o,s.heap.get? p=some o/\o.ExactDict:=by
    rcases hk with⟨ai,hk⟩|⟨ai,hk⟩
    ·obtain⟨_,_,_,_,o,_,_,e,ex,_⟩:=I.aA p _ hk
     exact⟨o,e,ex⟩
    ·obtain⟨_,_,_,_,o,_,_,e,ex,_⟩:=I.aA p _ hk
     exact⟨o,e,ex⟩
   obtain⟨o,e,ex⟩:=z
   refine⟨⟨o,e,ex.1⟩,fun a e2=>?_⟩
   cases e2
   exact⟨o,e,ex.2.1⟩
  ·obtain⟨o,_,_,_,e,ex,_⟩:=I.aA p _ hk
   refine⟨⟨o,e,ex.1⟩,fun a e2=>?_⟩
   cases e2
   exact⟨o,e,ex.2.1⟩
 | _=>exact False.elim ty
def M9 (K:PySem.W.Frag)(T:String)(r:V->List V->Hp->VK->Prop)(to:TE)(t:TA):TE:=fun σ H Q=>to σ H fun x H1=>ED K T x H1/\t σ H1 fun xs H2=>r x xs H2 Q
variable {o e:Expr}{es:List Expr}{to:TE}{t:TA}{name:Str}{apos ay:Pos}{T id:String}{r:V->List V->Hp->VK->Prop}
theorem EE(pa:PlainAttrs T)(slot:Slot T name id)(uF:typeOf (.builtin id)=pure (.type "method_descriptor"))(hm:Ez X id r)(ho:PE X o to)(ha:PA X (e::es) t)
  (cF:attributeBase o name X.env (eval o X.env)=eval o X.env:=by rfl)
  (eX:((backTo ay (starEach (e::es) X.env)).all (fun x=>!x.1)&&(backToKw ay (keywordEach [] X.env)).all (fun x=>x.1.isSome)
    && decide ((e::es).length+([]:List Keyword).length+(if([]:List Keyword).isEmpty then 0 else 1)<30))=true:=by rfl)
  (cG:(apos.endLine==ay.line)=true:=by rfl) (hs:starEach (e::es) X.env=(false,eval e X.env)::starEach es X.env:=by rfl) (gA:(backTo ay (starEach es X.env)).any (·.1)=false:=by rfl) :
  PE X (.Call (.Attribute o name apos) (e::es) [] ay) (M9 X.K T r to t):=by
 intro pins s σ H Q I h
 refine wpAny_Call_method_late cF eX cG rfl (aN (ho pins s σ H _ I h) fun v s1 ak=>?_)
 obtain⟨x,H1,I1,r1,ty,q1⟩:=ak
 obtain⟨h1,h2⟩:=M8 I1 r1 ty
 refine⟨T,id,pa,slot,uF,h1,h2,?_⟩
 have hA:=ha ay pins s1 σ H1 _ I1 q1
 rw[hs]at hA ⊢
 refine ZG (by show(false||(backTo ay (starEach es X.env)).any (·.1))=false;rw[gA]<;>rfl) (ZR ?_)
 exact aN hA fun us s2 ⟨vs,H2,I2,r2,q2⟩=>hm pins s2 σ H2 x vs v us Q I2 r1 r2 q2
end
def M_ (X:Cx)(id:String)(r:V->List V->Hp->VK->Prop):Prop:=
 ∀ (pins:List (Addr×Obj)) (s:Shared) (σ:St) (H:Hp) (x:V) (xs:List V) (v:Value) (us:List Value) (Q:VK),Inv X pins σ H s->bq x v->bf xs us->r x xs H Q->
  wpAny (model X.prog X.w) X.A (call (.builtin id) (v::us)) (EP X pins σ Q) X.xe s
theorem bf.one:∀ {x:V} {us:List Value},bf [x] us->∃ u,us=[u]/\bq x u
 | _,_,.cons r .nil=>⟨_,rfl,r⟩
theorem bf.reverse(h:bf xs us):bf xs.reverse us.reverse:=by
 induction h with
 | nil=>exact .nil
 | cons r t ih=>rw[ZS,ZS];exact bf.append ih (.cons r .nil)
theorem bf.rep(h:bf xs us):∀ k:Nat,bf (List.replicate k xs).flatten (List.replicate k us).flatten
 | 0=>.nil
 | k+1=>by
  rw[Zn,Zn,ZT,ZT]
  exact bf.append h (bf.rep h k)
theorem zV(au:List Value):∀ (k:Nat) (acc:List Value),
  List.foldl (fun x1 x2=>x1++x2) acc.toArray (List.replicate k au.toArray)=(acc++(List.replicate k au).flatten).toArray
 | 0,acc=>by simp
 | k+1,acc=>by
  have e:acc.toArray++au.toArray=(acc++au).toArray:=by simp
  have e2:(acc++au)++(List.replicate k au).flatten=acc++(List.replicate (k+1) au).flatten:=by
   rw[Zn,ZT,JH]
  rw[<- e2,<- zV au k (acc++au),<- e,Zn,List.foldl_cons]
section
variable {X:Cx}{pins:List (Addr×Obj)}{σ:St}{H:Hp}{s:Shared}{l b:Addr}{xs ys zs:List V}
theorem Inv.zW{au its':List Value}{n:Nat}{f:Array Value->Array Value}{t':Nat}(I:Inv X pins σ H s)(hH:H l=some (.lst xs))
  (e:s.heap.get? l=some { cls:=.type "list",data:=.seq au.toArray n }) (hf:f au.toArray=its'.toArray) (hv:bf ys its') (hz:ys.length<=sizeLine) :
  Inv X pins σ (upd H l (.lst ys)) { s with heap:=s.heap.update l (Obj.mapSeq f),toks:=t' }:=by
 have q:=PySem.IsL.update e f
 rw[hf]at q
 refine I.write (x:=l) (e:=l) (by rw[hH];exact trivial) (.inl rfl) (fun b' u hb hu=>(Heap.get?_update_other s.heap (Obj.mapSeq f) (Jb hb)).trans hu) ⟨_,q⟩ ?_
 exact⟨hz,its',_,hv,q⟩
theorem Inv.uG{au:List Value}{t':Nat}(I:Inv X pins σ H s)(hv:bf ys au)(hz:ys.length<=sizeLine) :
  Inv X pins σ (upd H s.heap.objs.size (.lst ys)) { s with heap:=s.heap.push { cls:=.type "list",data:=.seq au.toArray },toks:=t' }:=
 I.laid (fun _ _ q=>Qc _ q) (Qd _) ⟨hz,au,0,hv,Qm _ rfl⟩
theorem Inv.fresh(I:Inv X pins σ H s):H s.heap.objs.size=none:=I.aA.fresh (Qd _)
theorem Inv.uH(I:Inv X pins σ H s)(hH:H l=some (.lst xs)):xs.length<=sizeLine/\∃ (au:List Value) (n:Nat),bf xs au/\xs.length=au.length/\s.heap.get? l=some { cls:=.type "list",data:=.seq au.toArray n }:=by
 obtain⟨z,au,n,r,e⟩:=I.aA l _ hH
 exact⟨z,au,n,r,r.length,e⟩
theorem Na(h:n<=sizeLine):Builtin.List.listTooLong n=false:=by
 unfold Builtin.List.listTooLong
 exact Q4 (by omega)
end
section
variable {X:Cx}
def Nb:V->List V->Hp->VK->Prop:=fun x vs H Q=>∃ l xs y,x=.ref l/\vs=[y]/\H l=some (.lst xs)/\xs.length<sizeLine/\Q .aX (upd H l (.lst (xs++[y])))
theorem Nc:M_ X "list.append" Nb:=by
 intro pins s σ H x vs v us Q I rx rv h
 obtain⟨l,xs,y,rfl,rfl,hH,hz,q⟩:=h
 cases rx
 obtain⟨u,rfl,ru⟩:=rv.one
 obtain⟨z,au,n,r,hl,e⟩:=I.uH hH
 refine Jf F.slot_list_append ⟨_,e,rfl⟩ F.entry_list_append (F.args_list_append_2 _ _) (PySem.list_append l au.toArray n u (by rw[Ql];omega)) ⟨e,?_⟩
 refine⟨.aX,_,I.zW (its':=au++[u]) hH e (by simp) (r.append (.cons ru .nil)) ?_,rfl,q⟩
 rw[Qh,List.length_singleton]
 omega
def Nd:R2:=fun x y H Q=>∃ l k xs,x=.ref l/\y=.int k/\H l=some (.lst xs) /\ -(2 ^ 63)<=k/\k<2 ^ 63/\xs.length*k.toNat<=sizeLine /\
 ∀ p,H p=none->Q (.ref p) (upd H p (.lst (List.replicate k.toNat xs).flatten))
theorem zX{α:Type}(xs:List α)(k:Nat):(List.replicate k xs).flatten.length=k*xs.length:=by
 induction k with
 | zero=>simp
 | succ k ih=>rw[Zn,ZT,Qh,ih,Nat.succ_mul,Nat.add_comm]
theorem Nf:b_ X (binaryOp .Mult) Nd:=by
 intro pins s σ H x y v u Q I rx ry h
 obtain⟨l,k,xs,rfl,rfl,hH,h1,h2,hz,q⟩:=h
 cases rx
 obtain⟨t,rfl⟩:=ry
 obtain⟨z,au,n,r,hl,e⟩:=I.uH hH
 have hlen:au.toArray.size*k.toNat<=sizeLine:=by rw[Ql,<- hl];exact hz
 have zY:¬ au.toArray.size*k.toNat > (2 ^ 63-1) / 8:=by
  have:(sizeLine:Nat)<=(2 ^ 63-1) / 8:=by decide
  omega
 have zZ:¬ (!Builtin.List.listFitsIndex k)=true:=by
  rw[fitsIndex_both h1 h2]
  exact QW
 have uI:¬ Builtin.List.listTooLong (au.toArray.size*k.toNat)=true:=by
  rw[Na hlen]
  exact QW
 have z_:List.foldl (fun x1 x2=>x1++x2) #[] (List.replicate (if au.toArray.isEmpty=true then 0 else k.toNat) au.toArray)=(List.replicate k.toNat au).flatten.toArray:=by
  have f0:∀ m:Nat,List.foldl (fun x1 x2=>x1++x2) #[] (List.replicate m au.toArray)=(List.replicate m au).flatten.toArray:=fun m=>by
   have:=zV au m []
   rw[Jw]at this
   exact this
  rw[f0]
  cases au with
  | nil=>simp
  | cons a r'=>rw[Qf (by simp)]
 refine Jm (T:="list") (U:="int") (by decide) ⟨_,e,rfl⟩ (fun s'=>JT s' k t) noFill_list_mul YR Z9 repeat_list YC.lookup
  (Jf Z9 (JT s k t) YD (Yr _ _) (int___rmul___int_list k t l au.toArray n)
    ⟨e,rfl,⟨_,e,rfl⟩,Jf F.slot_list_mul ⟨_,e,rfl⟩ F.entry_list_mul (F.args_list_mul_2 _ _) (AutoListH.list___mul___list_int_3 l au.toArray n k t zZ zY uI) ⟨e,?_⟩⟩)
 rw[z_]
 exact⟨.ref _,_,I.uG (t':=s.toks) (r.rep k.toNat) (by rw[zX,Y5];exact hz),rfl,q _ I.fresh⟩
end
end L2
namespace EF
open PySem PySem.W PySem.Calls PyProof.Rows
variable {P:Params}{h:Heap}{l:OpenLaw}{n:Nat}
theorem Ng:∀ (ns:List Int) (vs:List Value),WellAll P h vs (ns.map WData.int)->IntsAre vs ns:=by
 intro ns
 induction ns with
 | nil=>
  intro vs w
  rw[ZU]at w
  cases w
  exact .nil
 | cons n ns ih=>
  intro vs w
  rw[QZ]at w
  cases w with
  | cons a b=>
   cases a
   exact .cons _ _ (ih _ b)
theorem Nh(hn:l.most=some n){args:List WData}{vals:List Value}
  (oA:l.row.toRowW.claim.pre args=true) (Aa:WellAll P h vals args) :
  ∃ a vs ns,vals=[Value.ref a]/\args=[WData.list (ns.map WData.int)]/\h.get? a=some { cls:=.type "list",data:=.seq vs.toArray }/\IntsAre vs ns/\ns.length<=n:=by
 have Ni:WShape.hasAll [] args [.list .int]=true:=(pre_splitW oA).1
 have hc:l.pre.holds [] { args:=args }=true:=(pre_splitW oA).2
 obtain⟨d,r,rfl,h1,h2⟩:=hasAllW_cons Ni
 obtain rfl:=hasAllW_nil h2
 obtain⟨xs,rfl,h3⟩:=hasW_list h1
 obtain⟨ns,rfl⟩:=items_int h3
 have hlen:ns.length<=n:=by
  unfold OpenLaw.pre at hc
  have h4:(WTm.not (.lt (.lit (.int (n:Int))) (.len (.arg 0)))).holds [] { args:=[.list (ns.map .int)] }=true:=by
   have h4:=(holds_andW hc).1
   rw[hn]at h4
   exact h4
  have h5:=condW_of h4 (w_not (w_lt w_lit (w_len_list (w_arg rfl))))
  rw[QA]at h5
  refine JU fun q=>?_
  have q':(n:Int)<((ns.length:Nat):Int):=by omega
  first
   | (rw[Zh q']at h5;exact absurd h5 (by decide))
   | (simp at h5;omega)
 cases Aa with
 | cons w1 w2=>
  cases w2
  cases w1 with
  | list ho mH=>exact⟨_,_,ns,rfl,rfl,ho,Ng ns _ mH,hlen⟩
theorem Nj(l:OpenLaw)(args:List WData):l.row.toRowW.claim.post args (.bool true) args=true:=
 postW_of (r:=l.row.toRowW) (X:=(true==true))
  (show WShape.has [] (.bool true) .bool=true by first|rfl|decide|simp[WShape.has,WShape.arms,WShape.armsAll])
  (show(WTm.eq .res (.lit (.bool true))).value [] { args:=args,res:=some (.bool true),after:=args }=some (.bool (true==true))from w_eq_bool (w_res rfl) w_lit) rfl
theorem Nk{q:Program}{loose:List Str}{XP:(Str->Option Value)->Heap->Prop}{YP:World->Heap->Prop}{d:DefRec}
  (hn:l.most=some n) (mJ:d.params.defaults=[])
  (call:∀ (w:World) (bA aH:Shared) (mg mb:Str->Option Value) (fa:Addr) (o:Obj) (pm cd doc:Value) (a:Addr) (vs:List Value) (ns:List Int),
    Ground q loose [] XP w bA mg mb aH.heap->YP w aH.heap->
    aH.heap.get? fa=some o->o.data=.func (docDef d.name d.params d.body d.scope pm cd doc)->aH.heap.CodeRec cd d.name->mg d.name=some (.ref fa)->
    aH.heap.get? a=some { cls:=.type "list",data:=.seq vs.toArray }->IntsAre vs ns->ns.length<=n->aH.gens = #[]->
    codeAny (model l.prog w) callerA (.call (.ref fa) ⟨[.ref a],[]⟩) (fun r s'=>r=.ok (.ret (.bool true))/\OldK aH.heap s'.heap/\s'.os=aH.os/\AllBare s'.gens) aH) :
  WalkO q loose XP YP l.row.toRowW d [] (fun f vs=>PySem.call f vs):=by
 intro w bA aH mg mb G Y fa o pm cd doc dV kV ho hd g_ hD hmg hg args vals as oA Nl hrd Aa hlo
 obtain rfl:dV=.none:=Dflts.none hD mJ
 obtain rfl:kV=.none:=Dflts.noKw hD
 obtain⟨a,vs,ns,rfl,rfl,rf,hints,hlen⟩:=Nh hn oA Aa
 refine enter_call (Jj (call w bA aH mg mb fa o pm cd doc a vs ns G Y ho (fd_plain hd) g_ hmg rf hints hlen hg) fun r s' hq=>?_)
 obtain⟨rfl,h2,h3,h4⟩:=hq
 exact⟨.inl ⟨.bool true,.bool true,[],rfl,fun _=>rfl,.bool true,Nj l _,fun _=>⟨List.Pairwise.nil,fun _ hm=>(nomatch hm)⟩⟩,h2,h3,h4⟩
end EF
namespace L2
open PySem PySem.Spec PyProof.Rows
theorem xr:∀ {vs:List Value} {ns:List Int},IntsAre vs ns->bf (ns.map V.int) vs
 | _,_,.nil=>.nil
 | _,_,.cons n t h=>.cons ⟨t,rfl⟩ (xr h)
end L2
namespace L2
open PySem PySem.Spec PyProof.Rows
end L2
namespace L2
open PySem PySem.Spec PyProof.Rows
variable {A:Around}{C a b c f:Addr}{H H':Hp}{N' ps:List Str}{P prog:Program}{Q:Value->Shared->Prop}{X:Cx}{cells:List (Str×Addr)}{elt iter:Expr}{env:Env}{fd:FuncData}{h h':Heap}{i lo n:Nat}{ifs:List Expr}{ai:List (List Key×V)}{o:Option V}{pins:List (Addr×Obj)}{pos:Pos}{qual x y:Str}{s:Shared}{scope:Scope}{st:Stmt}{pY:List (TE×TE)}{u:Value}{v:V}{w:World}{xs:List (List Key×Addr×Value)}{σ:St}
def ji (s:Stmt)(j:Nat):Stmt:=match s with
 | .ClassDef _ _ _ body _ _ _ _ _ _ _=>body.getD j (.Pass ⟨0,0,0,0⟩)
 | _=>.Pass ⟨0,0,0,0⟩
def nN (s:Stmt):Arguments:=match s with
 | .FunctionDef _ a _ _ _ _ _ _ _ _=>a
 | _=>{ posonlyargs:=[],args:=[],vararg:=none,kwonlyargs:=[],kw_defaults:=[],kwarg:=none,defaults:=[] }
def gj (s:Stmt):List Stmt:=match s with
 | .FunctionDef _ _ b _ _ _ _ _ _ _=>b
 | _=>[]
def aJ (s:Stmt):Scope:=match s with
 | .FunctionDef _ _ _ _ _ _ sc _ _ _=>sc
 | _=>{ kind:=.function,names:=[],isGenerator:=false,isCoroutine:=false }
abbrev cV:mC:=fun _ _ _ _ _ _=>False
abbrev E0:XK:=fun _ _ _=>False
theorem tu:pW cV X E0:=fun _ _ _ _ _ _ _ h=>h.elim
structure kH (K:PySem.W.Frag) (x qual:Str) (st:Stmt) (f:Addr) (fd:FuncData):Prop where
 ex:∃ (oc:Value) (od:Option Addr) (kV doc pm:Value) (an:Option Addr) (a_ ct:Value) (ou:Array (Option Value)),
  fd=PySem.W.fnOf x qual (nN st) (gj st) (aJ st) .none kV doc pm an a_ ct/\K.lookup f=some ⟨oc,od,.func fd,ou⟩/\PySem.W.codeIn K a_ qual=true
 kp:PySem.W.keepIn K (.ref f)=true
section
variable {P:Program}{w:World}{K:PySem.W.Frag}{mg:Str->Option Value}{base:Heap}
theorem kH.ok{N:List Str}{k:Nat}{sp:Sp}(F:kH K x qual st f fd)(S:ae N ps (aJ st))(len:∀ vs H Q E,sp vs H Q E->vs.length=ps.length)
  (dk:∀ (a_:Value) (A:Around) (outer:List Env) (s:Shared) (H:Hp) (vs:List V) (Q:VK) (E:XK),aF k (A.deeper (envOfC qual (aJ st) s.heap.objs.size f a_))->sp vs H Q E->
    ∃ t,iM (fu cV P w K mg base N qual (aJ st) f a_ A outer s H E).ft (gj st) t/\t { nx:=fun _ H'=>Q .aX H',rt:=Q } (gX N vs) H):bY P w K mg base cV (k+1) f fd ps sp:=by
 obtain⟨oc,od,kV,doc,pm,an,a_,ct,ou,rfl,lk,g_⟩:=F.ex
 refine Es lk g_ S len fun A outer s H vs Q E hr gY=>?_
 obtain⟨t,h,q⟩:=dk a_ A outer s H vs Q E hr gY
 exact⟨t,h.ft,q⟩
theorem kH.binds(F:kH K x qual st f fd)
  (h:∀ (kV doc pm:Value) (an:Option Addr) (a_ ct:Value) (us:List Value),us.length=ps.length->bindArgs (PySem.W.fnOf x qual (nN st) (gj st) (aJ st) .none kV doc pm an a_ ct) ⟨us,[]⟩=pure (ps.zip us)):jT K fd ps []:=by
 obtain⟨oc,od,kV,doc,pm,an,a_,ct,ou,rfl,lk,g_⟩:=F.ex
 exact .all (h kV doc pm an a_ ct)
theorem Ab{oc:Value}{od an:Option Addr}{ou:Array (Option Value)}{kV doc pm a_ ct:Value}(l:K.lookup f=some ⟨oc,od,.func (PySem.W.fnOf x qual (nN st) (gj st) (aJ st) .none kV doc pm an a_ ct),ou⟩)
  (c:PySem.W.codeIn K a_ qual=true) (k:PySem.W.keepIn K (.ref f)=true):kH K x qual st f (PySem.W.fnOf x qual (nN st) (gj st) (aJ st) .none kV doc pm an a_ ct):=⟨⟨oc,od,kV,doc,pm,an,a_,ct,ou,rfl,l,c⟩,k⟩
end
theorem rg{k:Nat}(hr:aF k A):A.units+1<cLine:=Nat.lt_of_le_of_lt (Nat.add_le_add_left (by decide:1<=64) _) hr.units
theorem lU(h:n<=1000):n<sizeLine:=Nat.lt_of_le_of_lt h (by decide)
section
variable {X:Cx}
theorem pv(i:Nat){pos:Pos}(hN:X.N[i]? = some x:=by rfl)(hv:sY X.env.scope x:=by first|exact Or.inl rfl|exact Or.inr (Or.inl rfl)|exact Or.inr (Or.inr rfl))(hd:(x==("__debug__":Str))=false:=by decide)
  (g_:(x==("__classdict__":Str))=false:=by decide):PE X (.Name x pos) (fP i):=KN hN hv hd g_
end
section
variable {κ:Type}[DecidableEq κ]
def fw (ai:List (κ×V))(k:κ):Option V:=(ai.find? fun kv=>decide (kv.1=k)).map (·.2)
def eY (ai:List (κ×V))(k:κ)(v:V):List (κ×V):=
 if(ai.any fun kv=>decide (kv.1=k))=true then ai.map (fun kv=>if kv.1=k then(kv.1,v)else kv)else ai++[(k,v)]
theorem uJ{p:κ×V}{r:List (κ×V)}{k:κ}(e:p.1=k):fw (p::r) k=some p.2:=by simp[fw,Ja,e]
theorem uK{p:κ×V}{r:List (κ×V)}{k:κ}(e:¬ p.1=k):fw (p::r) k=fw r k:=by simp[fw,Ja,e]
theorem Ac(k:κ):∀ ai:List (κ×V),(ai.any fun kv=>decide (kv.1=k))=(fw ai k).isSome
 | []=>rfl
 | p::r=>by
  rw[Yw]
  by_cases e:p.1=k
  ·simp only[uJ e,Zh e,Bool.true_or,Option.isSome_some]
  ·rw[uK e,Q4 e,Bool.false_or];exact Ac k r
theorem xt(ai:List (κ×V))(k:κ)(v:V):(eY ai k v).length<=ai.length+1:=by
 unfold eY
 split
 ·rw[QA];omega
 ·rw[Qh,Qz,List.length_nil];omega
theorem Nm{ai:List (κ×V)}{k:κ}(v:V)(h:fw ai k=none):eY ai k v=ai++[(k,v)]:=by
 unfold eY
 rw[Ac,h]
 exact Qf (by decide)
theorem jf.eZ{u:Option Value}(r:jf o u):o.isSome=u.isSome:=by
 cases o with
 | none=>cases u with
  | none=>rfl
  | some _=>exact(show False from r).elim
 | some _=>cases u with
  | none=>exact(show False from r).elim
  | some _=>rfl
theorem jf.getD{u:Option Value}{d:V}{d':Value}(r:jf o u)(rd:bq d d'):bq (o.getD d) (u.getD d'):=by
 cases o with
 | none=>cases u with
  | none=>exact rd
  | some _=>exact(show False from r).elim
 | some _=>cases u with
  | none=>exact(show False from r).elim
  | some _=>exact r
theorem KV.val{ai:List (κ×V)}{vs:List (κ×Value)}(r:KV ai vs)(k:κ):jf (fw ai k) (valueAt vs k):=by
 unfold KV at r
 induction r with
 | nil=>exact True.intro
 | @cons p q ps qs h t ih=>
  obtain⟨h1,h2⟩:=h
  by_cases e:p.1=k
  ·have e':q.1=k:=h1.symm.trans e
   have b:valueAt (q::qs) k=some q.2:=by simp[valueAt,Ja,e']
   rw[uJ e,b];exact h2
  ·have e':¬ q.1=k:=fun z=>e (h1.trans z)
   have b:valueAt (q::qs) k=valueAt qs k:=by simp[valueAt,Ja,e']
   rw[uK e,b];exact ih
theorem KV.any{ai:List (κ×V)}{vs:List (κ×Value)}(r:KV ai vs)(k:κ):(ai.any fun kv=>decide (kv.1=k))=vs.any fun kv=>decide (kv.1=k):=by
 unfold KV at r
 induction r with
 | nil=>rfl
 | cons h t ih=>rw[Yw,Yw,ih,h.1]
theorem KV.rh{ai:List (κ×V)}{vs:List (κ×Value)}(r:KV ai vs)(k:κ){y:V}(ry:bq y u) :
  KV (ai.map fun kv=>if kv.1=k then(kv.1,y)else kv) (vs.map fun kv=>if kv.1=k then(kv.1,u)else kv):=by
 unfold KV at r ⊢
 induction r with
 | nil=>exact .nil
 | @cons p q ps qs h t ih=>
  rw[QZ,QZ]
  refine .cons ?_ ih
  obtain⟨h1,h2⟩:=h
  by_cases e:p.1=k
  ·rw[Qe e,Qe (h1.symm.trans e)];exact⟨h1,ry⟩
  ·rw[Qf e,Qf (fun z=>e (h1.trans z))];exact⟨h1,h2⟩
theorem KV.put{ai:List (κ×V)}{vs:List (κ×Value)}(r:KV ai vs)(k:κ){y:V}(ry:bq y u):KV (eY ai k y) (stored vs k u):=by
 unfold eY stored
 rw[r.any k]
 by_cases e:(vs.any fun kv=>decide (kv.1=k))=true
 ·rw[Qe e,Qe e];exact r.rh k ry
 ·rw[Qf e,Qf e];exact Paired.snoc r ⟨rfl,ry⟩
theorem KV.length{ai:List (κ×V)}{vs:List (κ×Value)}(r:KV ai vs):ai.length=vs.length:=ZX r
end
theorem rj{k:Key}(r:bq (kV k) u):(gW P w).is k u=true:=by
 cases k with
 | inl i=>obtain⟨t,e⟩:=(show ∃ t,u=Value.int i t from r);subst e;exact Ky P w i t
 | inr x=>obtain⟨t,e⟩:=(show ∃ t,u=Value.str x t from r);subst e;exact Kz P w x t
theorem EG:∀ {ks:List Key} {us:List Value},bf (ks.map kV) us->ItemsAre (gW P w) ks us
 | [],_,r=>by rw[ZU]at r;cases r;exact .nil
 | k::ks,_,r=>by
  rw[QZ]at r
  cases r with
  | cons h t=>exact .cons (rj h) (EG t)
abbrev KT (H:Hp):List (List Key×V)->List (List Key×Addr×Value)->Prop:=Paired fun p q=>p.1=q.1/\H q.2.1=some (.tup (p.1.map kV))/\bq p.2 q.2.2
theorem KT.val(r:KT H ai xs)(k:List Key):jf (fw ai k) ((atKey xs k).map (·.2)):=by
 induction r with
 | nil=>exact True.intro
 | @cons p q ps qs h t ih=>
  obtain⟨h1,_,h2⟩:=h
  by_cases e:p.1=k
  ·have e':q.1=k:=h1.symm.trans e
   have b:atKey (q::qs) k=some q.2:=by simp[atKey,Ja,e']
   rw[uJ e,b];exact h2
  ·have e':¬ q.1=k:=fun z=>e (h1.trans z)
   have b:atKey (q::qs) k=atKey qs k:=by simp[atKey,Ja,e']
   rw[uK e,b];exact ih
theorem KT.rh(r:KT H ai xs)(k:List Key){y:V}(ry:bq y u) :
  KT H (ai.map fun kv=>if kv.1=k then(kv.1,y)else kv) (xs.map (putAt k u)):=by
 induction r with
 | nil=>exact .nil
 | @cons p q ps qs h t ih=>
  rw[QZ,QZ]
  refine .cons ?_ ih
  obtain⟨h1,h2,h3⟩:=h
  unfold putAt
  by_cases e:p.1=k
  ·rw[Qe e,Qe (h1.symm.trans e)];exact⟨h1,h2,ry⟩
  ·rw[Qf e,Qf (fun z=>e (h1.trans z))];exact⟨h1,h2,h3⟩
theorem KT.put(r:KT H ai xs)(k:List Key){y:V}(hb:H b=some (.tup (k.map kV)))(ry:bq y u) :
  KT H (eY ai k y) (storedH xs k b u):=by
 have e:(ai.any fun kv=>decide (kv.1=k))=(atKey xs k).isSome:=by
  rw[Ac,(r.val k).eZ,Option.isSome_map]
 unfold eY storedH
 rw[e]
 by_cases q:(atKey xs k).isSome=true
 ·rw[Qe q,Qe q];exact r.rh k ry
 ·rw[Qf q,Qf q];exact Paired.snoc r ⟨rfl,hb,ry⟩
theorem KT.keeps(r:KT H ai xs)(ht:∀ b ys,H b=some (.tup ys)->H' b=some (.tup ys)):KT H' ai xs:=
 Paired.qS r fun _ _ z=>⟨z.1,ht _ _ z.2.1,z.2.2⟩
section
variable {P:Program}{w:World}{H:Hp}{h:Heap}{a:Addr}
theorem EH{u:HO}(ok:df P w H h)(e:Rd H a u):cJ P w H h a u:=e.ok ok
theorem rm{ai:List (Key×V)}(ok:df P w H h)(e:Rd H a (.dK ai)):ai.length<=sizeLine/\(a==sysModules)=false/\∃ vs,KV ai vs/\h.DictOf (gW P w) a vs:=
 show cJ P w H h a (.dK ai)from EH ok e
theorem EI{ai:List (Key×V)}(ok:df P w H h)(e:H a=some (.dK ai)):ai.length<=sizeLine/\(a==sysModules)=false/\∃ vs,KV ai vs/\h.DictOf (gW P w) a vs:=rm ok (.inl e)
theorem rn{ks:List Key}(ok:df P w H h)(e:H a=some (.tup (ks.map kV))):(tupleKind (gW P w)).is h ks a:=by
 obtain⟨_,au,r,o,h1,h2,⟨n,h3⟩,_⟩:=(show cJ P w H h a (.tup (ks.map kV))from ok a _ e)
 exact⟨o,au.toArray,n,h1,h2,h3,by simpa using EG r⟩
theorem rp(ok:df P w H h)(e:Rd H a (.dT ai)):ai.length<=sizeLine/\(a==sysModules)=false /\
  ∃ xs,KT H ai xs/\h.DictOfH (tupleKind (gW P w)) a xs:=by
 obtain⟨z,y,xs,r,o,es,ep,h1,h2,h3,h4,h5⟩:=(show cJ P w H h a (.dT ai)from EH ok e)
 refine⟨z,y,xs,r,o,es,ep,h1,h2,h3,h4,fun x hx=>?_,h5⟩
 have all:∀ {l:List (List Key×V)} {m:List (List Key×Addr×Value)},KT H l m->∀ x∈m,(tupleKind (gW P w)).is h x.1 x.2.1:=by
  intro l m q
  induction q with
  | nil=>intro x hx;exact nomatch hx
  | @cons p q ps qs hq t ih=>
   intro x hx
   rcases Qn.mp hx with e|hx
   ·subst e
    exact rn ok (by rw[<- hq.1];exact hq.2.1)
   ·exact ih x hx
 exact all r x hx
theorem uM(ok:df P w H h)(e:H a=some (.dT ai)):ai.length<=sizeLine/\(a==sysModules)=false /\
  ∃ xs,KT H ai xs/\h.DictOfH (tupleKind (gW P w)) a xs:=rp ok (.inl e)
end
def js (H:Hp)(a:Addr)(y:V)(r:Option V):Prop:=
 (∃ ai k,Rd H a (.dK ai)/\y=kV k/\r=fw ai k)\/∃ ai k b,Rd H a (.dT ai)/\y=.ref b/\H b=some (.tup (k.map kV))/\r=fw ai k
def oB (H:Hp)(a:Addr)(y v:V)(H':Hp):Prop:=
 (∃ ai k,H a=some (.dK ai)/\y=kV k/\ai.length<sizeLine/\H'=upd H a (.dK (eY ai k v))) \/
 ∃ ai k b,H a=some (.dT ai)/\y=.ref b/\H b=some (.tup (k.map kV))/\ai.length<sizeLine/\H'=upd H a (.dT (eY ai k v))
theorem js.k{ai:List (Key×V)}{k:Key}(e:H a=some (.dK ai)):js H a (kV k) (fw ai k):=.inl ⟨ai,k,.inl e,rfl,rfl⟩
theorem js.t{k:List Key}(e:H a=some (.dT ai))(eb:H b=some (.tup (k.map kV))):js H a (.ref b) (fw ai k):=.inr ⟨ai,k,b,.inl e,rfl,eb,rfl⟩
theorem oB.k{ai:List (Key×V)}{k:Key}(e:H a=some (.dK ai))(hl:ai.length<sizeLine):oB H a (kV k) v (upd H a (.dK (eY ai k v))):=.inl ⟨ai,k,e,rfl,hl,rfl⟩
theorem oB.t{k:List Key}(e:H a=some (.dT ai))(eb:H b=some (.tup (k.map kV)))(hl:ai.length<sizeLine) :
  oB H a (.ref b) v (upd H a (.dT (eY ai k v))):=.inr ⟨ai,k,b,e,rfl,eb,hl,rfl⟩
section
variable {X:Cx}{pins:List (Addr×Obj)}{σ:St}{H:Hp}{s:Shared}{a:Addr}{y v:V}{u r:Value}{o:Option V}{A:Around}{E:Value->Shared->Prop}
theorem Inv.EJ(I:Inv X pins σ H s):sysModules<s.heap.objs.size:=by
 have h:mainGlobals<s.heap.objs.size:=(I.mod.glob.keeps I.bk).lt
 exact JI (by decide) h
theorem Nn(hu:A.units+1<cLine)(I:Inv X pins σ H s)(g:js H a y (some v))(ry:bq y u)(h:∀ w' s',Inv X pins σ H s'->bq v w'->Q w' s') :
  wpAny (model X.prog X.w) A (getItem (.ref a) u) Q E s:=by
 rcases g with⟨ai,k,e,ey,l⟩|⟨ai,k,b,e,ey,eb,l⟩
 ·subst ey
  obtain⟨z,hd,vs,rel,dd⟩:=rm I.aA e
  obtain⟨w',hw,j8⟩:=jf.some_of (v:=v) (o:=valueAt vs k) (by rw[l];exact rel.val k)
  exact wpAny_getItem_of (rj ry) dd.mapOf hw (h w' _ (I.tok _) j8)
 ·subst ey
  cases (show u=Value.ref b from ry)
  obtain⟨z,hd,xs,rel,dd⟩:=rp I.aA e
  obtain⟨w',hw,j8⟩:=jf.some_of (v:=v) (o:=(atKey xs k).map (·.2)) (by rw[l];exact rel.val k)
  obtain⟨p,hp,Np⟩:=Zd.mp hw
  refine wpAny_getItem_heap (Zr hu) (rn I.aA eb) dd hp ?_
  rw[Np]
  exact h w' _ (I.tok _) j8
theorem Nq(hu:A.units+1<cLine)(I:Inv X pins σ H s)(g:js H a y o)(ry:bq y u)(h:∀ s',Inv X pins σ H s'->Q (.bool (!o.isSome)) s') :
  wpAny (model X.prog X.w) A (compareOp .NotIn u (.ref a)) Q E s:=by
 rcases g with⟨ai,k,e,ey,l⟩|⟨ai,k,b,e,ey,eb,l⟩
 ·subst ey
  obtain⟨z,hd,vs,rel,dd⟩:=rm I.aA e
  refine wpAny_notIn_of (rj ry) hd dd.mapOf ?_
  rw[<- (rel.val k).eZ,<- l]
  exact h _ (I.tok _)
 ·subst ey
  cases (show u=Value.ref b from ry)
  obtain⟨z,hd,xs,rel,dd⟩:=rp I.aA e
  refine wpAny_notIn_heap (Zr hu) (rn I.aA eb) hd dd ?_
  have q:=(rel.val k).eZ
  rw[Option.isSome_map]at q
  rw[<- q,<- l]
  exact h _ (I.tok _)
theorem uN{t':Nat}{ob:HO}(I:Inv X pins σ H s)(mu:uh (H a))(hs:Heap.SameBut a s.heap h')(he:∃ q,h'.get? a=some q)(new:cJ X.prog X.w (upd H a ob) h' a ob) :
  Inv X pins σ (upd H a ob) { s with heap:=h',toks:=t' }:=
 I.write (x:=a) (e:=a) mu (.inl rfl) (fun b q hb z=>(hs.2 b hb).trans z) he new
theorem EK{ai:List (Key×V)}{vs:List (Key×Value)}(z:ai.length<=sizeLine)(hd:(a==sysModules)=false)(rel:KV ai vs)(dd:h'.DictOf (gW P w) a vs) :
  cJ P w H' h' a (.dK ai):=⟨z,hd,vs,rel,dd⟩
theorem Nr{Q:Unit->Shared->Prop}(hu:A.units+1<cLine)(I:Inv X pins σ H s)(g:oB H a y v H')(ry:bq y u)(rv:bq v r)(h:∀ s',Inv X pins σ H' s'->Q () s') :
  wpAny (model X.prog X.w) A (setItem (.ref a) u r) Q E s:=by
 rcases g with⟨ai,k,e,ey,l,eH⟩|⟨ai,k,b,e,ey,eb,l,eH⟩
 ·subst ey eH
  obtain⟨z,hd,vs,rel,dd⟩:=EI I.aA e
  have hz:vs.length<=sizeLine:=by rw[<- rel.length];exact z
  have hl:(eY ai k v).length<=sizeLine:=by have:=xt ai k v;omega
  refine wpAny_setItem_pairs (hsz:=hz) (rj ry) dd fun h' mK hs=>h _ ?_
  have he:∃ q,h'.get? a=some q:=let ⟨q,_,_,hq,_⟩:=mK;⟨q,hq⟩
  exact uN I (by rw[e];exact True.intro) hs he (EK hl hd (rel.put k rv) mK)
 ·subst ey eH
  cases (show u=Value.ref b from ry)
  obtain⟨z,hd,xs,rel,dd⟩:=uM I.aA e
  have hz:xs.length<=sizeLine:=by rw[<- ZX rel];exact z
  have hl:(eY ai k v).length<=sizeLine:=by have:=xt ai k v;omega
  refine wpAny_setItem_heap (hsz:=hz) (Zr hu) (rn I.aA eb) dd fun h' mK hs=>h _ ?_
  obtain⟨q,es,ep,hq,h2,h3,h4,_,h5⟩:=mK
  refine uN I (by rw[e];exact True.intro) hs ⟨q,hq⟩ ⟨hl,hd,_,(rel.put k eb rv).keeps fun c ys ec=>?_,q,es,ep,hq,h2,h3,h4,h5⟩
  rw[aR (zf ec e (fun z=>nomatch z))]
  exact ec
end
def Ad (i:Expr):Prop:=∀ ov iv,subscripted i false ov iv=operate [ov,iv] (getItem ov iv)
theorem Nt{E:Value->Shared->Prop}{value slice:Expr}{T id:String}
  (hl:typeLookup (.type T) "__getitem__" = pure (some (.builtin id))) (hs:Ad slice)
  (h:wpAny (model prog w) A (eval value env) (fun o aH=>wpAny (model prog w) A (eval slice env) (fun i dX=>dX.TypeIs o T/\wpAny (model prog w) A (getItem o i) Q E dX) E aH) E s) :
  wpAny (model prog w) A (eval (.Subscript value slice pos) env) Q E s:=by
 refine Subscript_ (Ze h (fun o aH k9=>Ze k9 (fun i dX jt=>?_) fun _ _ x=>x) fun _ _ x=>x)
 obtain⟨hT,jt⟩:=jt
 unfold subscriptTail
 refine Qa ?_
 rw[getitemInPython_of_ne hT.not_modules]
 refine Qa (wpAny_specialOf hT hl ?_)
 have fin:wpAny (model prog w) A (subscripted slice false o i) (fun r ju=>wpAny (model prog w) A (letTemporaryGo value o r >>= fun _=>pure r) Q E ju) E dX:=by
  rw[hs o i]
  exact wpAny_operating (Ze jt (fun r ju oC=>Qa (wpAny_letTemporaryGo (Qb oC))) fun _ _ x=>x)
 first
  | exact Qb (Qa fin)
  | exact Qa (Qb (Qa fin))
  | exact Qa fin
theorem Nu{y:V}(I:Inv X pins σ H s)(g:js H a y o):s.TypeIs (.ref a) "dict":=by
 rcases g with⟨ai,k,e,_,_⟩|⟨ai,k,b,e,_,_,_⟩
 ·obtain⟨_,_,vs,_,dd⟩:=rm I.aA e
  exact dd.typeIs
 ·obtain⟨_,_,xs,_,dd⟩:=rp I.aA e
  exact dd.typeIs
def Nv (td ty:TE):TE:=fun σ H Q=>td σ H fun x H1=>ty σ H1 fun y H2=>∃ a v,x=.ref a/\js H2 a y (some v)/\Q v H2
def Nw (ty td:TE):TE:=fun σ H Q=>ty σ H fun y H1=>td σ H1 fun x H2=>∃ a o,x=.ref a/\js H2 a y o/\Q (.bl (!o.isSome)) H2
def Nx (td ty tv:TE):TS:=fun D σ H=>tv σ H fun v H1=>td σ H1 fun x H2=>ty σ H2 fun y H3=>∃ a H4,x=.ref a/\oB H3 a y v H4/\D.nx σ H4
section
variable {X:Cx}{o i e value:Expr}{pos pos' zN:Pos}{td ty tv:TE}
theorem Ny(hu:X.A.units+1<cLine)(ho:PE X o td)(hi:PE X i ty)(hs:Ad i):PE X (.Subscript o i pos) (Nv td ty):=by
 intro pins s σ H Q I h
 refine Nt PySem.F.slot_dict_getitem.lookup hs (aN (ho pins s σ H _ I h) fun u s1 ⟨x,H1,I1,rx,q1⟩=>aN (hi pins s1 σ H1 _ I1 q1) fun iv s2 ak=>?_)
 obtain⟨y,H2,I2,ry,a,v,ex,g,q2⟩:=ak
 subst ex
 obtain rfl:u=Value.ref a:=rx
 exact⟨Nu I2 g,Nn hu I2 g ry fun w' s3 I3 j8=>⟨v,H2,I3,j8,q2⟩⟩
theorem Nz(hu:X.A.units+1<cLine)(hi:PE X i ty)(ho:PE X o td):PC X .NotIn i o (Nw ty td):=by
 intro pins s σ H Q I h
 refine aN (hi pins s σ H _ I h) fun iv s1 ⟨y,H1,I1,ry,q1⟩=>aN (ho pins s1 σ H1 _ I1 q1) fun u s2 ak=>?_
 obtain⟨x,H2,I2,rx,a,ov,ex,g,q2⟩:=ak
 subst ex
 obtain rfl:u=Value.ref a:=rx
 exact Nq hu I2 g ry fun s3 I3=>⟨.bl (!ov.isSome),H2,I3,rfl,q2⟩
theorem NA(hu:X.A.units+1<cLine)(ho:PE X o td)(hi:PE X i ty)(hv:PE X value tv)(hs:swapsWith value (some (.Subscript o i pos')) pos.line X.env=pure false) :
  PS X (.Assign [.Subscript o i pos'] value pos) (Nx td ty tv):=by
 intro pins s σ H D I h
 refine wpAny_Assign_Subscript (aN (hv pins s σ H _ I h) fun r s1 ⟨v,H1,I1,rv,q1⟩=>aN (ho pins s1 σ H1 _ I1 q1) fun u s2 ⟨x,H2,I2,rx,q2⟩=>aN (hi pins s2 σ H2 _ I2 q2) fun iv s3 ⟨y,H3,I3,ry,a,H4,ex,g,q3⟩=>?_) hs
 subst ex
 obtain rfl:u=Value.ref a:=rx
 exact Nr hu I3 g ry rv fun s4 I4=>⟨σ,H4,I4,q3⟩
end
theorem NB(h:Heap)(hb:sysModules<h.objs.size):cJ P w H (h.push { cls:=.type "dict",data:=.dict #[] }) h.objs.size (.dK []):=
 ⟨ZP _,Zm.mpr (Jb (QB hb)),[],.nil,Heap.DictOf.new h⟩
theorem NC(h:Heap)(hb:sysModules<h.objs.size):cJ P w H (h.push { cls:=.type "dict",data:=.dict #[] }) h.objs.size (.dT []):=
 ⟨ZP _,Zm.mpr (Jb (QB hb)),[],.nil,_,#[],0,Qm _ rfl,⟨rfl,rfl,rfl⟩,rfl,rfl,List.nodup_nil⟩
def ND:TE:=fun _ H Q=>∀ p,H p=none->Q (.ref p) (upd H p (.dT []))
section
variable {X:Cx}{pos:Pos}
theorem NF:PE X (.Dict [] [] pos) ND:=fun pins s σ H Q I h=>
 wpAny_Dict_empty ⟨.ref s.heap.objs.size,_,I.laid (a:=s.heap.objs.size) (o:=.dT []) (t':=s.toks) (fun _ _ q=>Qc _ q) (Qd _) (NC s.heap I.EJ),rfl,h _ (I.aA.fresh (Qd _))⟩
end
def Ae:List (TE×TE)->St->Hp->(List (V×V)->Hp->Prop)->Prop
 | [],_,H,Q=>Q [] H
 | (tk,tv)::r,σ,H,Q=>tk σ H fun x H1=>tv σ H1 fun y H2=>Ae r σ H2 fun ps H3=>Q ((x,y)::ps) H3
abbrev VV:List (V×V)->List (Value×Value)->Prop:=Paired fun p q=>bq p.1 q.1/\bq p.2 q.2
def xu (X:Cx)(pos:Pos)(keys:List (Option Expr))(values:List Expr)(pY:List (TE×TE)):Prop:=
 ∀ (pins:List (Addr×Obj)) (s:Shared) (σ:St) (H:Hp) (Q:List (V×V)->Hp->Prop),Inv X pins σ H s->Ae pY σ H Q->
  wpAny (model X.prog X.w) X.A (evalPairs (pairTrees keys values X.env pos)) (fun vs s'=>∃ ps H',Inv X pins σ H' s'/\VV ps vs/\Q ps H') X.xe s
theorem NH:xu X pos [] [] []:=fun pins s σ H Q I h=>pairTrees_nil_walk ⟨[],H,I,.nil,h⟩
theorem EL{k v:Expr}{ks:List (Option Expr)}{vs:List Expr}{tk tv:TE}(hk:PE X k tk)(hv:PE X v tv)(hr:xu X pos ks vs pY) :
  xu X pos (some k::ks) (v::vs) ((tk,tv)::pY):=fun pins s σ H Q I h=>
 pairTrees_cons_walk (aN (hk pins s σ H _ I h) fun u s1 ⟨x,H1,I1,rx,q1⟩=>aN (hv pins s1 σ H1 _ I1 q1) fun w2 s2 ⟨y,H2,I2,ry,q2⟩=>
  aN (hr pins s2 σ H2 _ I2 q2) fun ws s3 ⟨ps,H3,I3,rel,q3⟩=>⟨(x,y)::ps,H3,I3,.cons ⟨rx,ry⟩ rel,q3⟩)
def rq (ai more:List (Key×V)):List (Key×V):=more.foldl (fun acc kv=>eY acc kv.1 kv.2) ai
theorem KV.merge:∀ {more:List (Key×V)} {rs:List (Key×Value)} {ai:List (Key×V)} {vs:List (Key×Value)},KV more rs->KV ai vs->KV (rq ai more) (merged vs rs):=by
 intro more rs ai vs r
 unfold KV at r
 induction r generalizing ai vs with
 | nil=>intro q;exact q
 | @cons p q ps qs h t ih=>
  intro r0
  have e:KV (eY ai p.1 p.2) (stored vs q.1 q.2):=by
   have:=r0.put p.1 h.2
   rw[<- h.1];exact this
  exact ih e
theorem EM:∀ (more ai:List (Key×V)),(rq ai more).length<=ai.length+more.length
 | [],ai=>by show ai.length<=ai.length+0;omega
 | p::r,ai=>by
  have h1:=EM r (eY ai p.1 p.2)
  have h2:=xt ai p.1 p.2
  show(rq (eY ai p.1 p.2) r).length<=_
  rw[Qz];omega
theorem EN{P:Program}{w:World}:∀ {ai:List (Key×V)} {ws:List (Value×Value)},VV (ai.map fun kv=>(kV kv.1,kv.2)) ws->∃ rs,Carries (gW P w) ws rs/\KV ai rs
 | [],_,r=>by rw[ZU]at r;cases r;exact⟨[],True.intro,.nil⟩
 | p::ai,_,r=>by
  rw[QZ]at r
  cases r with
  | @cons a b as bs h t=>
   obtain⟨rs,c,q⟩:=EN (P:=P) (w:=w) t
   obtain⟨b1,b2⟩:=b
   exact⟨(p.1,b2)::rs,⟨rj h.1,rfl,c⟩,.cons ⟨rfl,h.2⟩ q⟩
def NI (pY:List (TE×TE)):TE:=fun σ H Q=>∀ p,H p=none->Ae pY σ (upd H p (.dK [])) fun ps H2=>H2 p=some (.dK [])/\∃ ai:List (Key×V),ps=ai.map (fun kv=>(kV kv.1,kv.2))/\ai.length<=15/\Q (.ref p) (upd H2 p (.dK (rq [] ai)))
theorem NJ{keys:List (Option Expr)}{values:List Expr}(h:xu X pos keys values pY)(mH:keys.all (·.isSome)=true)(hl:keys.length=values.length)(h0:keys ≠ [])
  (NK:keys.length<=15):PE X (.Dict keys values pos) (NI pY):=by
 intro pins s σ H Q I q
 have hn:=I.aA.fresh (Qd s.heap.objs.size)
 have I1:=I.laid (a:=s.heap.objs.size) (o:=.dK []) (h':=s.heap.push { cls:=.type "dict",data:=.dict #[] }) (t':=s.toks) (fun _ _ q=>Qc _ q) (Qd _) (NB s.heap I.EJ)
 refine wpAny_Dict_walk (knd:=gW X.prog X.w) mH hl h0 NK (aN (h pins _ σ _ _ I1 (q _ hn)) fun ws s2 ak=>?_)
 obtain⟨ps,H2,I2,rel,e,ai,ep,lk,q2⟩:=ak
 subst ep
 obtain⟨rs,c,rk⟩:=EN (P:=X.prog) (w:=X.w) rel
 obtain⟨z,hd,Af,r0,dd⟩:=EI I2.aA e
 cases r0
 refine⟨rs,c,dd,fun h' mK hs=>⟨.ref s.heap.objs.size,_,?_,rfl,q2⟩⟩
 have hz:(rq [] ai).length<=sizeLine:=by
  have h1:=EM ai []
  rw[List.length_nil]at h1
  rw[YX];omega
 have he:∃ q,h'.get? s.heap.objs.size=some q:=let ⟨q,_,_,hq,_⟩:=mK;⟨q,hq⟩
 exact uN I2 (by rw[e];exact True.intro) hs he (EK hz hd (rk.merge .nil) mK)
structure M1 (X:Cx) (o:Expr) (m:Str) (apos:Pos) (e:Expr) (ay:Pos):Prop where
 base:attributeBase o m X.env (eval o X.env)=eval o X.env
 jv:((backTo ay (starEach [e] X.env)).all (fun x=>!x.1)&&(backToKw ay (keywordEach [] X.env)).all (fun x=>x.1.isSome)
  && decide (([e]:List Expr).length+([]:List Keyword).length+(if([]:List Keyword).isEmpty then 0 else 1)<30))=true
 line:(apos.endLine==ay.line)=true
 trees:backTo ay (starEach [e] X.env)=[(false,eval e X.env)]
structure M2 (X:Cx) (o:Expr) (m:Str) (apos:Pos) (e f:Expr) (ay:Pos):Prop where
 base:attributeBase o m X.env (eval o X.env)=eval o X.env
 jv:((backTo ay (starEach [e,f] X.env)).all (fun x=>!x.1)&&(backToKw ay (keywordEach [] X.env)).all (fun x=>x.1.isSome)
  && decide (([e,f]:List Expr).length+([]:List Keyword).length+(if([]:List Keyword).isEmpty then 0 else 1)<30))=true
 line:(apos.endLine==ay.line)=true
 trees:backTo ay (starEach [e,f] X.env)=[(false,eval e X.env),(false,eval f X.env)]
def rA (H:Hp)(a:Addr):Prop:=(∃ ai,Rd H a (.dK ai))\/∃ ai,Rd H a (.dT ai)
theorem xw(I:Inv X pins σ H s)(d:rA H a) :
  s.TypeIs (.ref a) "dict" /\ (∀ b,Value.ref a=.ref b->∃ ob,s.heap.get? b=some ob/\ob.dict=none)/\(a==sysModules)=false:=by
 rcases d with⟨ai,e⟩|⟨ai,e⟩
 ·obtain⟨_,hd,vs,_,dd⟩:=rm I.aA e
  refine⟨dd.typeIs,fun b q=>?_,hd⟩
  cases q
  obtain⟨ob,_,_,h1,h2,_⟩:=dd
  exact⟨ob,h1,h2.2.1⟩
 ·obtain⟨_,hd,xs,_,dd⟩:=rp I.aA e
  refine⟨dd.typeIs,fun b q=>?_,hd⟩
  cases q
  obtain⟨ob,_,_,h1,h2,_⟩:=dd
  exact⟨ob,h1,h2.2.1⟩
section
variable {X:Cx}{pins:List (Addr×Obj)}{σ:St}{H:Hp}{s:Shared}{a:Addr}{y d:V}{u r:Value}{o:Option V}{A:Around}{E:Value->Shared->Prop}
theorem NL(hu:A.units+1<cLine)(I:Inv X pins σ H s)(g:js H a y o)(ry:bq y u)(h:∀ w' s',Inv X pins σ H s'->bq (o.getD .aX) w'->Q w' s') :
  wpAny (model X.prog X.w) A (call (.builtin "dict.get") [.ref a,u]) Q E s:=by
 rcases g with⟨ai,k,e,ey,l⟩|⟨ai,k,b,e,ey,eb,l⟩
 ·subst ey
  obtain⟨z,hd,vs,rel,dd⟩:=rm I.aA e
  refine JJ Zp dd.typeIs Z5 (YE _ _) (meets_dict_get (gW X.prog X.w) a (rj ry) hd) ⟨_,dd.mapOf,h _ _ (I.tok _) ?_⟩
  rw[l]
  exact(rel.val k).getD rfl
 ·subst ey
  cases (show u=Value.ref b from ry)
  obtain⟨z,hd,xs,rel,dd⟩:=rp I.aA e
  refine JJ Zp dd.typeIs Z5 (YE _ _) (meetsH_dict_get (tupleKind (gW X.prog X.w)) a b hd) ⟨Zr hu,k,xs,rn I.aA eb,dd,h _ _ (I.tok _) ?_⟩
  rw[l]
  exact(rel.val k).getD rfl
theorem NM(hu:A.units+1<cLine)(I:Inv X pins σ H s)(g:js H a y o)(ry:bq y u)(rd:bq d r)(h:∀ w' s',Inv X pins σ H s'->bq (o.getD d) w'->Q w' s') :
  wpAny (model X.prog X.w) A (call (.builtin "dict.get") [.ref a,u,r]) Q E s:=by
 rcases g with⟨ai,k,e,ey,l⟩|⟨ai,k,b,e,ey,eb,l⟩
 ·subst ey
  obtain⟨z,hd,vs,rel,dd⟩:=rm I.aA e
  refine JJ Zp dd.typeIs Z5 (YF _ _ _) (meets_dict_get_default (gW X.prog X.w) a (rj ry) hd r) ⟨_,dd.mapOf,h _ _ (I.tok _) ?_⟩
  rw[l]
  exact(rel.val k).getD rd
 ·subst ey
  cases (show u=Value.ref b from ry)
  obtain⟨z,hd,xs,rel,dd⟩:=rp I.aA e
  refine JJ Zp dd.typeIs Z5 (YF _ _ _) (meetsH_dict_get_default (tupleKind (gW X.prog X.w)) a b hd r) ⟨Zr hu,k,xs,rn I.aA eb,dd,h _ _ (I.tok _) ?_⟩
  rw[l]
  exact(rel.val k).getD rd
end
def NN (td ty:TE):TE:=fun σ H Q=>td σ H fun x H1=>∃ a,x=.ref a/\rA H1 a/\ty σ H1 fun y H2=>∃ o,js H2 a y o/\Q (o.getD .aX) H2
def NO (td ty tx:TE):TE:=fun σ H Q=>td σ H fun x H1=>∃ a,x=.ref a/\rA H1 a/\ty σ H1 fun y H2=>tx σ H2 fun z H3=>∃ o,js H3 a y o/\Q (o.getD z) H3
section
variable {X:Cx}{o e f:Expr}{apos ay:Pos}{td ty tx:TE}
theorem NP(hu:X.A.units+1<cLine)(ho:PE X o td)(he:PE X e ty)(m:M1 X o "get" apos e ay):PE X (.Call (.Attribute o "get" apos) [e] [] ay) (NN td ty):=by
 intro pins s σ H Q I h
 refine JK m.base m.jv m.line Z3 Zp YV (aN (ho pins s σ H _ I h) fun u s1 ak=>?_)
 obtain⟨x,H1,I1,rx,a,ex,d,q1⟩:=ak
 subst ex
 obtain rfl:u=Value.ref a:=rx
 obtain⟨t1,t2,_⟩:=xw I1 d
 refine⟨t1,t2,?_⟩
 rw[m.trees]
 refine ZG rfl (ZR (Za (aN (he pins s1 σ H1 _ I1 q1) fun iv s2 ⟨y,H2,I2,ry,ov,g,q2⟩=>ZQ ?_)))
 exact NL hu I2 g ry fun w' s3 I3 j8=>⟨_,H2,I3,j8,q2⟩
theorem NQ(hu:X.A.units+1<cLine)(ho:PE X o td)(he:PE X e ty)(hf:PE X f tx)(m:M2 X o "get" apos e f ay):PE X (.Call (.Attribute o "get" apos) [e,f] [] ay) (NO td ty tx):=by
 intro pins s σ H Q I h
 refine JK m.base m.jv m.line Z3 Zp YV (aN (ho pins s σ H _ I h) fun u s1 ak=>?_)
 obtain⟨x,H1,I1,rx,a,ex,d,q1⟩:=ak
 subst ex
 obtain rfl:u=Value.ref a:=rx
 obtain⟨t1,t2,_⟩:=xw I1 d
 refine⟨t1,t2,?_⟩
 rw[m.trees]
 refine ZG rfl (ZR (Za (aN (he pins s1 σ H1 _ I1 q1) fun iv s2 ⟨y,H2,I2,ry,q2⟩=>
  Za (aN (hf pins s2 σ H2 _ I2 q2) fun fv s3 ⟨z,H3,I3,rz,ov,g,q3⟩=>ZQ ?_))))
 exact NM hu I3 g ry rz fun w' s4 I4 j8=>⟨_,H3,I4,j8,q3⟩
end
theorem NR{R:Result->Shared->Prop}{target:Expr}{it acc:Value}(I:Nat->Shared->Prop)
  (turn:∀ n s,I n s->wpAny (model prog w) A (pyNext it) (fun r aH=>match r with
    | none=>R (.ok .next) aH
    | some v=>wpAny (model prog w) A (letOwnedTupleGo target it v) (fun _ pZ=>wpAny (model prog w) A (assign target env v) (fun _ dX=>
      wpAny (model prog w) A (forIn ifs true fun c r=>if r=true then do let ok <- isTrue c env (eval c env);pure (ForInStep.yield ok)else pure (ForInStep.yield r)) (fun ok ju=>
       if ok=true then wpAny (model prog w) A (eval elt env) (fun x oE=>
        wpAny (model prog w) A (call (.builtin "list.append") [acc,x]) (fun _ uO=>∃ m,m<n/\I m uO) (fun _ _=>False) oE) (fun _ _=>False) ju
       else ∃ m,m<n/\I m ju) (fun _ _=>False) dX) (fun _ _=>False) pZ) (fun _ _=>False) aH) (fun _ _=>False) s)
  (n:Nat) (h:I n s):codeAny (model prog w) A (.compLoop (.ListComp elt [⟨target,iter,ifs,0⟩] scope pos) 0 it acc env) R s:=by
 refine codeAny_loop rfl I (fun n s hI=>?_) n h
 show wpAny _ A ((compTurn (.ListComp elt [⟨target,iter,ifs,0⟩] scope pos) 0 it acc env).onRaise (fun x=>do noteFrame x env;theTreesLotGoes x)) _ _ s
 refine wpAny_noted ?_
 rw[compTurn_list]
 refine Qa (wpAny_standAt (Qa (Ze (turn n s hI) (fun r aH k9=>?_) fun _ _ h'=>h'.elim)))
 cases r with
 | none=>exact Qb k9
 | some v=>
  refine Qa (Ze k9 (fun _ pZ uP=>?_) fun _ _ h'=>h'.elim)
  refine Qa (Ze uP (fun _ dX jt=>Qa (Ze jt (fun ok ju oC=>?_) fun _ _ h'=>h'.elim)) fun _ _ h'=>h'.elim)
  cases ok with
  | false=>exact Qb ⟨rfl,oC⟩
  | true=>
   exact Qa (Qa (Ze oC (fun x oE Ag=>Qa (Ze Ag (fun _ uO Ah=>Qb (Qb ⟨rfl,Ah⟩)) fun _ _ h'=>h'.elim)) fun _ _ h'=>h'.elim))
theorem NS{M:Model}{A:Around}{E:Value->Shared->Prop}{globals:Addr}{cl:List (Str×Addr)}{outer:Env}{Q:Env->Shared->Prop}
  (hQ:Q (newEnv scope s.heap.objs.size globals (cellsFrom (s.heap.objs.size+1) scope.names cl) qual none .none (some outer) builtinsNs)
    { s with heap:=pushCells (s.heap.push { cls:=.type "dict",data:=.dict #[] }) scope.names }) :
  wpAny M A (newFunctionEnv scope globals cl [] qual none .none (some outer)) Q E s:=by
 simp only[newFunctionEnv,Option.isSome_some,JF]
 refine Qa (wpAny_alloc ?_)
 refine Qa (wpAny_layCells _ (fun name kind cells=>by cases NT:kind==NameKind.cell<;>simp[NT]) _ _ _ _ ?_)
 rw[show({ s with heap:=s.heap.push { cls:=.type "dict",data:=.dict #[] } }:Shared).heap.objs.size=s.heap.objs.size+1 from Zg ..]
 refine Qa ?_
 rw[List.forIn_nil]
 exact Qb (Qb hQ)
def iw (cells:List (Str×Addr)):List (Str×NameKind)->List (Str×Addr)->List (Str×Addr)
 | [],acc=>acc
 | (n,k)::r,acc=>if k == .free then(match cells.lookup n with
   | some c=>iw cells r ((n,c)::acc)
   | none=>iw cells r acc)else iw cells r acc
theorem EO(h:∀ y∈scope.names,y.2=.free->∃ c,env.cells.lookup y.1=some c):closureFor scope env=pure (iw env.cells scope.names []):=by
 unfold closureFor
 have key:∀ (names:List (Str×NameKind)) (acc:List (Str×Addr)),(∀ y∈names,y.2=.free->∃ c,env.cells.lookup y.1=some c)->
   (forIn names acc (fun(x:Str×NameKind) (r:List (Str×Addr))=>(match x with
     | (name,kind)=>if(kind==NameKind.free)=true then do
       let c <- cellOf env name
       pure (ForInStep.yield ((name,c)::r))
      else pure (ForInStep.yield r):Sem (ForInStep (List (Str×Addr))))))=(pure (iw env.cells names acc):Sem (List (Str×Addr))):=by
  intro names
  induction names with
  | nil=>intro acc _;rfl
  | cons y r ih=>
   intro acc hh
   obtain⟨n,kd⟩:=y
   rw[List.forIn_cons]
   unfold iw
   by_cases hk:(kd==NameKind.free)=true
   ·obtain⟨c,hc⟩:=hh (n,kd) Qi (by simpa using hk)
    have k7:env.cells.lookup n=some c:=hc
    simp only[hk,JF,k7]
    have e:cellOf env n=pure c:=by unfold cellOf;rw[k7]
    rw[e]
    exact ih ((n,c)::acc) fun z hz=>hh z (Qg _ hz)
   ·simp only[hk]
    exact ih acc fun z hz=>hh z (Qg _ hz)
 exact(JZ (fun m=>m >>= fun cs=>(pure cs:Sem (List (Str×Addr)))) (key scope.names [] h)).trans rfl
theorem xx:∀ {names:List (Str×NameKind)} {acc:List (Str×Addr)},(∀ y c,(y,c)∈acc->cells.lookup y=some c)->∀ y c,(y,c)∈iw cells names acc->cells.lookup y=some c
 | [],_,h,y,c,m=>h y c m
 | (n,k)::r,acc,h,y,c,m=>by
  unfold iw at m
  split at m
  ·split at m
   next c' e=>
    refine xx (acc:=(n,c')::acc) (fun z d hz=>?_) y c m
    rcases Qn.mp hz with q|q
    ·cases q;exact e
    ·exact h z d q
   ·exact xx h y c m
  ·exact xx h y c m
theorem xy:∀ {names:List (Str×NameKind)} {acc:List (Str×Addr)} {y:Str},(acc.lookup y).isSome=true->((iw cells names acc).lookup y).isSome=true
 | [],_,_,h=>h
 | (n,k)::r,acc,y,h=>by
  unfold iw
  split
  ·split
   ·refine xy ?_
    rw[QO]
    split
    ·rfl
    ·exact h
   ·exact xy h
  ·exact xy h
theorem uQ(hc:cells.lookup y=some c):∀ {names:List (Str×NameKind)} {acc:List (Str×Addr)},(y,NameKind.free)∈names->((iw cells names acc).lookup y).isSome=true
 | (n,k)::r,acc,h=>by
  unfold iw
  rcases Qn.mp h with q|q
  ·cases q
   simp only[hc]
   rw[Qe (by rfl)]
   refine xy ?_
   rw[QO,Zs]
   rfl
  ·split
   ·split
    ·exact uQ hc q
    ·exact uQ hc q
   ·exact uQ hc q
theorem Ai:∀ {names:List (Str×NameKind)} {h:Heap} {acc:List (Str×Addr)} {y:Str} {c:Addr},(y,c)∈cellsFrom h.objs.size names acc->(y,c)∈acc\/(h.objs.size<=c/\(pushCells h names).IsCell c none)
 | [],_,_,_,_,m=>.inl m
 | (n,k)::r,h,acc,y,c,m=>by
  unfold cellsFrom at m
  unfold pushCells
  split at m
  next hk=>
   rw[Qe hk]
   have m':(y,c)∈cellsFrom (h.push { cls:=.type "cell",data:=.cell none }).objs.size r ((n,h.objs.size)::acc):=by rw[Zg];exact m
   rcases Ai m' with q|⟨q1,q2⟩
   ·rcases Qn.mp q with e|q
    ·cases e
     refine .inr ⟨Qd _,_,Jx _ _ _ _ (Qm _ rfl),rfl⟩
    ·exact .inl q
   ·rw[Zg]at q1
    exact .inr ⟨by omega,q2⟩
  next hk=>
   rw[Qf hk]
   exact Ai m
theorem Aj:∀ {names:List (Str×NameKind)} {n:Nat} {acc:List (Str×Addr)},(∀ y c,(y,c)∈acc->c<n)->(∀ x y c,(x,c)∈acc->(y,c)∈acc->x=y)->∀ x y c,(x,c)∈cellsFrom n names acc->(y,c)∈cellsFrom n names acc->x=y
 | [],_,_,_,h=>h
 | (nm,k)::r,n,acc,cY,h=>by
  unfold cellsFrom
  split
  ·refine Aj (n:=n+1) (acc:=(nm,n)::acc) (fun y c m=>?_) (fun x y c m1 m2=>?_)
   ·rcases Qn.mp m with e|m
    ·cases e;exact Q1 _
    ·exact Q6 (cY y c m)
   ·rcases Qn.mp m1 with e1|m1<;>rcases Qn.mp m2 with e2|m2
    ·cases e1;cases e2;rfl
    ·cases e1;exact absurd (cY y _ m2) (QP _)
    ·cases e2;exact absurd (cY x _ m1) (QP _)
    ·exact h x y c m1 m2
  ·exact Aj cY h
theorem Ak:∀ {names:List (Str×NameKind)} {n:Nat} {acc:List (Str×Addr)},lo<=n->(∀ c,acc.lookup y=some c->lo<=c)->∀ c,(cellsFrom n names acc).lookup y=some c->lo<=c
 | [],_,_,_,h=>h
 | (nm,k)::r,n,acc,hn,h=>by
  unfold cellsFrom
  split
  ·refine Ak (n:=n+1) (by omega) fun c e=>?_
   rw[QO]at e
   split at e
   ·cases e;exact hn
   ·exact h c e
  ·exact Ak hn h
theorem Al:∀ {names:List (Str×NameKind)} {n:Nat} {acc:List (Str×Addr)},lo<=n->(y,NameKind.cell)∈names->∀ c,(cellsFrom n names acc).lookup y=some c->lo<=c
 | (nm,k)::r,n,acc,hn,h=>by
  unfold cellsFrom
  rcases Qn.mp h with q|q
  ·cases q
   rw[Qe (by rfl)]
   refine Ak (n:=n+1) (by omega) fun c e=>?_
   rw[QO,Zs]at e
   cases e;exact hn
  ·split
   ·exact Al (n:=n+1) (by omega) q
   ·exact Al hn q
theorem Am:∀ {names:List (Str×NameKind)} {n:Nat} {acc:List (Str×Addr)},(y,NameKind.cell) ∉ names->(cellsFrom n names acc).lookup y=acc.lookup y
 | [],_,_,_=>rfl
 | (nm,k)::r,n,acc,h=>by
  unfold cellsFrom
  split
  next hk=>
   rw[Am (fun z=>h (Qg _ z)),QO]
   have cR:(y==nm)=false:=by
    cases e:y==nm with
    | false=>rfl
    | true=>
     have e1:y=nm:=ZY.mp e
     have e2:k=NameKind.cell:=by simpa using hk
     exact absurd (by rw[e1,<- e2];exact Qi) h
   rw[cR]
  ·exact Am fun z=>h (Qg _ z)
def p6 (env:Env)(y:Str)(k:NameKind):NameKind:=if(k==NameKind.free&&env.scope.kind == .function&&env.kindOf y==some .cell)then .cell else k
theorem An{env:Env}{y:Str}:∀ (names:List (Str×NameKind)),(names.map fun(n,k)=>if(k==NameKind.free&&env.scope.kind == .function&&env.kindOf n==some .cell)then(n,NameKind.cell)else(n,k)).lookup y=(names.lookup y).map (p6 env y)
 | []=>rfl
 | (n,k)::r=>by
  have ih:=An (env:=env) (y:=y) r
  show List.lookup y ((if(k==NameKind.free&&env.scope.kind == .function&&env.kindOf n==some .cell)=true then(n,NameKind.cell)else(n,k))::_)=_
  cases hx:y==n with
  | true=>
   have e:=ZY.mp hx
   subst e
   rw[QO,QO]
   by_cases hc:(k==NameKind.free&&env.scope.kind == .function&&env.kindOf y==some .cell)=true
   ·simp only[p6,hc,JF,Zs,ZB]
   ·simp only[p6,hc,Zs,ZB]
    simp
  | false=>
   by_cases hc:(k==NameKind.free&&env.scope.kind == .function&&env.kindOf n==some .cell)=true
   ·rw[Qe hc,QO,QO];simp only[hx];exact ih
   ·rw[Qf hc,QO,QO];simp only[hx];exact ih
theorem ER{l:List (Str×NameKind)}(hn:(l.map (·.1)).Nodup){k:NameKind}(h:(y,k)∈l):l.lookup y=some k:=by
 induction l with
 | nil=>cases h
 | cons p r ih=>
  rw[QO]
  rcases Qn.mp h with e|h
  ·rw[<- e,Zs]
  ·have cR:y≠p.1:=fun e=>by
    have:=(Zo.mp hn).1
    exact this (by show p.1∈_;rw[<- e];exact QT.mpr ⟨(y,k),h,rfl⟩)
   have:(y==p.1)=false:=by simpa using cR
   rw[this]
   exact ih (Zo.mp hn).2 h
def ES (scope:Scope)(env:Env)(C:Addr):Env:=
 { newEnv scope C env.globals (cellsFrom (C+1) scope.names (iw env.cells scope.names [])) env.qual none .none (some env) builtinsNs with scope:=relabel scope env }
def gB (X:Cx)(N':List Str)(scope:Scope)(C:Addr)(s:Shared)(H:Hp)(fp:List Addr):Cx where
 prog:=X.prog
 w:=X.w
 K:=X.K
 mg:=X.mg
 base:=X.base
 A:=X.A
 N:=N'
 bA:=s
 cU:=H
 env:=ES scope X.env C
 outer:=X.stack
 stack:=X.stack
 ex:=fp
 fn:=fun y=>scope.names.lookup y==some .cell
 calm:=X.calm
 pn:=[]
 xe:=fun _ _=>False
structure bU (X:Cx) (k:Nat) (N':List Str) (scope:Scope):Prop where
 kind:scope.kind=.function
 names:(scope.names.map (·.1)).Nodup
 len:N'.length=X.N.length+k
 frees:(scope.names.all fun y=>y.2 != .free||X.env.kindOf y.1==some .cell||X.env.kindOf y.1==some .free)=true
 outs:((N'.zip X.N).all fun p=>(p.1==p.2&&scope.names.lookup p.1==some .free)||scope.names.lookup p.1==none||scope.names.lookup p.1==some .globalImplicit)=true
theorem bU.free{k:Nat}(S:bU X k N' scope)(h:(y,NameKind.free)∈scope.names):X.env.kindOf y=some .cell\/X.env.kindOf y=some .free:=by
 have:=Zt.mp S.frees (y,NameKind.free) h
 simp only[Bool.or_eq_true,bne_iff_ne,ne_eq,ZY]at this
 rcases this with(h1|h1)|h1
 ·exact absurd trivial h1
 ·exact .inl h1
 ·exact .inr h1
theorem bU.out{k:Nat}(S:bU X k N' scope)(eS:i<X.N.length)(h:N'[i]? = some y)(hv:sY (relabel scope X.env) y):X.N[i]? = some y/\scope.names.lookup y=some .free:=by
 have e2:X.N[i]? = some X.N[i]:=by simp[eS]
 have m:(y,X.N[i])∈N'.zip X.N:=Zx (i:=i) (by rw[List.getElem?_zip_eq_some];exact⟨h,e2⟩)
 have:=Zt.mp S.outs _ m
 simp only[Bool.or_eq_true,Z2,ZY]at this
 have hl:(relabel scope X.env).names.lookup y=(scope.names.lookup y).map (p6 X.env y):=An _
 rcases this with(⟨h1,h2⟩|h1)|h1
 ·exact⟨by rw[e2,<- h1],h2⟩
 ·rw[h1]at hl
  rcases hv with z|z|z<;>(rw[hl]at z;cases z)
 ·rw[h1]at hl
  have hr:p6 X.env y .globalImplicit=.globalImplicit:=rfl
  rw[ZB,hr]at hl
  rcases hv with z|z|z<;>(rw[hl]at z;cases z)
theorem Un.rB{fs ex:List Addr}{D:Addr}{o:HO}(u:Un fs ex H H' h h')(aA:df P w H h)(hD:h.objs.size<=D):Un fs ex H (upd H' D o) h h':=by
 have ne:∀ b ob,h.get? b=some ob->b≠D:=fun b ob e z=>absurd (Qo (Qj e) hD) (by rw[z];exact QP _)
 have ne':∀ b x,H b=some x->b≠D:=fun b x e z=>absurd (Qo (aA.lt e) hD) (by rw[z];exact QP _)
 refine⟨u.keep,u.slot,fun b ob e n hx=>?_,u.there,fun b xs e=>?_,fun b ob x e=>?_,fun b ps e=>?_⟩
 ·rw[aR (ne b ob e)];exact u.free b ob e n hx
 ·rw[aR (ne' b _ e)];exact u.iJ b xs e
 ·rw[aR (ne' b _ e)];exact u.g8 b ob x e
 ·rw[aR (ne' b _ e)];exact u.g9 b ps e
theorem df.add{D:Addr}{o:HO}(x:df P w H h)(hn:H D=none)(new:cJ P w (upd H D o) h D o):df P w (upd H D o) h:=fun b u e=>by
 by_cases hb:b=D
 ·subst hb;rw[de]at e;cases e;exact new
 ·rw[aR hb]at e
  exact(x b u e).jo (fun c v _ q=>q) (fun c q=>by rw[aR (eQ q hn)];exact q) fun c xs q=>by rw[aR (eQ q hn)];exact q
def tw (X:Cx)(ifs:List Expr)(t:TT):Prop:=
 ∀ (pins:List (Addr×Obj)) (s:Shared) (σ:St) (H:Hp) (Q:Bool->Hp->Prop),Inv X pins σ H s->t σ H Q->
  wpAny (model X.prog X.w) X.A (forIn ifs true fun c r=>if r=true then do let ok <- isTrue c X.env (eval c X.env);pure (ForInStep.yield ok)else pure (ForInStep.yield r)) (TP X pins σ Q) X.xe s
def NU:TT:=fun _ H Q=>Q true H
theorem NV:tw X [] NU:=fun pins s σ H Q I h=>wpAny_tests_nil ⟨H,I,h⟩
theorem NW{c:Expr}{t:TT}(h:PT X c t):tw X [c] t:=fun pins s σ H Q I q=>wpAny_tests_one (h pins s σ H Q I q)
def ET (k:Nat)(g:TG)(tt:TT)(te:TE)(σ:St)(J:It)(H:Hp)(Fin:List V->Hp->Prop):Prop:=
 ∃ W:Nat->Nat->List V->Hp->Prop,(∃ m,W 0 m [] H)/\∀ i m ys H2,W i m ys H2->ys.length<=sizeLine /\
  ((J.stop i H2/\Fin ys H2)\/(J.go i H2/\ys.length<sizeLine/\∀ x H3,J.qV i H2 x H3->g x (σ++List.replicate k none) H3 fun tz H4=>(∃ τ,tz=σ++τ/\τ.length=k) /\
    tt tz H4 fun b H5=>if b=true then te tz H5 fun v H6=>∃ m',m'<m/\W (i+1) m' (ys++[v]) H6 else ∃ m',m'<m/\W (i+1) m' ys H5))
def xA (k:Nat)(wi:TI)(g:TG)(tt:TT)(te:TE):TE:=fun σ H Q=>wi σ H fun J H1=>ET k g tt te σ J H1 fun ys H2=>∀ p,H2 p=none->Q (.ref p) (upd H2 p (.lst ys))
def hU (us:List Value)(n:Nat):Obj:={ cls:=.type "list",data:=.seq us.toArray n }
theorem EU{τ:St}(I:Inv X pins (σ++τ) H s):Inv X pins (σ++List.replicate τ.length none) H s:=
 I.weak (by simp) fun i v e=>by
  by_cases hi:i<σ.length
  ·rw[Qs hi]at e ⊢
   exact e
  ·rw[QN (by omega),Zk]at e
   split at e<;>cases e
section
variable {X:Cx}{k:Nat}{N':List Str}{scope:Scope}{pins:List (Addr×Obj)}{σ:St}{H2:Hp}{s2:Shared}{fp:List Addr}
abbrev uR (scope:Scope)(s2:Shared):Heap:=pushCells ((s2.heap.push (hU [] 0)).push { cls:=.type "dict",data:=.dict #[] }) scope.names
theorem NX(S:bU X k N' scope)(I2:Inv X pins σ H2 s2)(f2:∀ b∈fp,mw X pins H2 b)(rC:∀ b∈fp,b<s2.heap.objs.size) :
  Inv (gB X N' scope (s2.heap.objs.size+1) s2 H2 fp) [(s2.heap.objs.size,hU [] 0)] (σ++List.replicate k none) H2 { s2 with heap:=uR scope s2 }:=by
 have e1:(s2.heap.push (hU [] 0)).objs.size=s2.heap.objs.size+1:=Zg ..
 have e2:((s2.heap.push (hU [] 0)).push { cls:=.type "dict",data:=.dict #[] }).objs.size=s2.heap.objs.size+1+1:=by rw[Zg,e1]
 have keep:∀ b o,s2.heap.get? b=some o->(uR scope s2).get? b=some o:=fun b o e=>Jx _ _ b o (Qc _ (Qc _ e))
 have hV:∀ y c,(y,c)∈iw X.env.cells scope.names []->X.env.cells.lookup y=some c:=xx (fun _ _ m=>nomatch m)
 have rD:∀ y c,(y,c)∈cellsFrom (s2.heap.objs.size+1+1) scope.names (iw X.env.cells scope.names [])->X.env.cells.lookup y=some c\/(s2.heap.objs.size+1+1<=c/\(uR scope s2).IsCell c none):=fun y c m=>by
  have m':(y,c)∈cellsFrom ((s2.heap.push (hU [] 0)).push { cls:=.type "dict",data:=.dict #[] }).objs.size scope.names (iw X.env.cells scope.names []):=by rw[e2];exact m
  rcases Ai m' with q|⟨q1,q2⟩
  ·exact .inl (hV y c q)
  ·rw[e2]at q1;exact .inr ⟨q1,q2⟩
 have NY:∀ y c,X.env.cells.lookup y=some c->c<s2.heap.objs.size:=fun y c e=>by obtain⟨v,z⟩:=I2.cell y c e;exact z.lt
 have hl:∀ y,(relabel scope X.env).names.lookup y=(scope.names.lookup y).map (p6 X.env y):=fun y=>An _
 have ok:(gB X N' scope (s2.heap.objs.size+1) s2 H2 fp).Ok:=by
  refine⟨I2.ok.mod,S.kind,I2.ok.glob,I2.ok.blt,Je _,fun x y c h1 h2=>?_,fun x hx=>?_,fun x c hf h=>?_,I2.ok.hd,I2.ok.frames,.inl rfl,fun b hb=>⟨?_,fun x c h z=>?_⟩,I2.bs,QC I2.ok.lP I2.sz,fun b o e hb=>?_,fun b hb z=>?_,I2.stack,I2.iL⟩
  ·refine Aj (n:=s2.heap.objs.size+1+1) (names:=scope.names) (acc:=iw X.env.cells scope.names []) (fun y c m=>?_) (fun x y c m1 m2=>?_) x y c (Qw h1) (Qw h2)
   ·exact Qo (NY y c (hV y c m)) (by omega)
   ·exact I2.ok.inj x y c (hV x c m1) (hV y c m2)
  ·have iu:(relabel scope X.env).names.lookup x=some .cell\/(relabel scope X.env).names.lookup x=some .free:=hx
   rw[hl x]at iu
   have:scope.names.lookup x=some .cell\/scope.names.lookup x=some .free:=by
    cases e:scope.names.lookup x with
    | none=>rw[e]at iu;rcases iu with z|z<;>cases z
    | some kd=>
     rw[e,ZB]at iu
     cases kd<;>first
      | exact .inl rfl
      | exact .inr rfl
      | (rcases iu with z|z<;>(have z':=Qy z;unfold p6 at z';simp at z'))
   rcases this with q|q
   ·exact Zv.mp (Z4 scope.names (s2.heap.objs.size+1+1) _ (.inl q))
   ·have qm:=Qw q
    have hk:=S.free qm
    obtain⟨c,hc⟩:=I2.ok.has x hk
    exact Zv.mp (Z4 scope.names (s2.heap.objs.size+1+1) _ (.inr (uQ hc qm)))
  ·have NZ:(scope.names.lookup x==some .cell)=true:=hf
   have:=Al (lo:=s2.heap.objs.size) (n:=s2.heap.objs.size+1+1) (acc:=iw X.env.cells scope.names []) (by omega) (Qw (ZY.mp NZ)) c h
   exact this
  ·have:=rC b hb
   show b≠s2.heap.objs.size+1
   exact QB (Qo this (Je _))
  ·have q:=rC b hb
   rcases rD x c (Qw h)with w|⟨w,_⟩
   ·exact(f2 b hb).2.2.2.2.1 x c w z
   ·subst z;exact absurd (Qo q (QC (by omega) w)) (QP _)
  ·rcases(f2 b hb).2.2.2.1 with z|z
   ·exact I2.ok.mq b o e z
   ·have:=Qj e
    have:=I2.ok.lP
    exact absurd (Qo (Qj e) (QC I2.ok.lP z)) (QP _)
  ·rcases Qn.mp (I2.gz b z)with q|q
   ·exact(f2 b hb).2.1 q
   ·exact(f2 b hb).2.2.1 q
 obtain⟨m,hn,Ao⟩:=id I2.loc
 refine⟨ok,rfl,I2.bare,Un.kept keep,⟨fun _=>none,?_,fun i y v h1 h2 h3=>?_⟩,fun y c h=>?_,I2.aA.fresh (Je _),fun y c h=>?_,fun p hp=>?_,I2.aA.kept keep,?_⟩
 ·have:=(Heap.Ns.new (s2.heap.push (hU [] 0)) (.type "dict")).keeps (Jx scope.names _)
  rw[e1]at this
  exact this
 ·by_cases hi:i<σ.length
  ·have uS:sY (relabel scope X.env) y:=h3
   obtain⟨o1,o2⟩:=S.out (by rw[<- I2.len];exact hi) h1 uS
   have hk:=S.free (Qw o2)
   have hs:σ[i]? = some (some v):=by
    rw[Qs hi]at h2
    exact h2
   obtain⟨u,r,l⟩:=Ao i y v o1 hs (.inr hk)
   refine⟨u,r,?_⟩
   rcases l with⟨l,_⟩|⟨_,c,hc,kG⟩
   ·rcases hk with z|z<;>(rw[l]at z;cases z)
   ·refine .inr ⟨?_,c,?_,kG.keeps keep⟩
    ·show(relabel scope X.env).names.lookup y=some .cell\/(relabel scope X.env).names.lookup y=some .free
     rw[hl y,o2,ZB]
     unfold p6
     split
     ·exact .inl rfl
     ·exact .inr rfl
    ·show(cellsFrom (s2.heap.objs.size+1+1) scope.names (iw X.env.cells scope.names [])).lookup y=some c
     rw[Am (fun z=>by have:=ER S.names z;rw[o2]at this;cases this)]
     obtain⟨c',k7⟩:=Zv.mp (uQ (acc:=[]) hc (Qw o2))
     have:=hV y c' (Qw k7)
     rw[hc]at this;cases this
     exact k7
  ·rw[QN (by omega),Zk]at h2
   split at h2<;>cases h2
 ·rcases rD y c (Qw h)with w|⟨_,w⟩
  ·obtain⟨v,z⟩:=I2.cell y c w
   exact⟨v,z.keeps keep⟩
  ·exact⟨_,w⟩
 ·rcases rD y c (Qw h)with w|⟨w,_⟩
  ·exact I2.cQ y c w
  ·exact I2.aA.fresh (by omega)
 ·have e:p=(s2.heap.objs.size,hU [] 0):=by
   have:p ∈ [(s2.heap.objs.size,hU [] 0)]:=hp
   simpa using this
  subst e
  refine⟨Jx _ _ _ _ (Qc _ (Qm _ rfl)),I2.aA.fresh (Qd _),?_,fun z=>?_,fun v z=>nomatch z⟩
  ·show s2.heap.objs.size≠s2.heap.objs.size+1
   omega
  ·have z':s2.heap.objs.size∈iK X.stack:=z
   rcases Qn.mp (I2.gz _ z')with q|q
   ·exact absurd I2.lt (by rw[<- q];exact QP _)
   ·exact I2.uk (Qd _) q
 ·rw[Qh,QY,I2.len]
  exact S.len.symm
theorem N0{us:List Value}{ys:List V}{s':Shared}{aM:St}(I2:Inv X pins σ H2 s2)(f2:∀ b∈fp,mw X pins H2 b)
  (I3:Inv (gB X N' scope C s2 H2 fp) [(s2.heap.objs.size,hU us n)] aM H' s') (r:bf ys us) (hz:ys.length<=sizeLine):Inv X pins σ (upd H' s2.heap.objs.size (.lst ys)) s':=by
 obtain⟨e,hn,_⟩:=I3.pin (s2.heap.objs.size,hU us n) (Qk _ (Qt.mpr rfl))
 have u:Un (iK X.stack) fp H2 H' s2.heap s'.heap:=I3.base
 exact I2.uu (ch:=fp) I3.os (u.rB I2.aA (Qd _)) (I3.aA.add hn ⟨hz,us,n,r,e⟩) I3.bare fun b hb=>⟨(f2 b hb).2.2.2.1,(f2 b hb).2.1,(f2 b hb).2.2.2.2⟩
end
theorem EV{k:Nat}{H2:Hp}{s2:Shared}{fp:List Addr}{tg:Expr}{it:Addr}{tn:Nat->Heap->Prop}{J:It}{g:TG}{tt:TT}{te:TE}{Fin:List V->Hp->Prop}{E:Value->Shared->Prop}{RR:Value->Addr->Result->Shared->Prop}
  (hc:X.calm=true) (S:bU X k N' scope) (hg:∀ C s H fp,PG (gB X N' scope C s H fp) tg g) (ht:∀ C s H fp,tw (gB X N' scope C s H fp) ifs tt) (he:∀ C s H fp,PE (gB X N' scope C s H fp) elt te)
  (I2:Inv X pins σ H2 s2) (T:Turn X.prog X.w X.K tg J fp it tn) (pR:tn 0 s2.heap) (f2:∀ b∈fp,mw X pins H2 b) (R:ET k g tt te σ J H2 Fin)
  (N1:∀ C ys H' s' m',Inv X pins σ (upd H' s2.heap.objs.size (.lst ys)) s'->s'.heap.Ns C m'->H' s2.heap.objs.size=none->upd H' s2.heap.objs.size (.lst ys) C=none->C≠X.env.locals->X.bA.heap.objs.size<=C->s2.heap.objs.size<C->
    Fin ys H'->RR (.ref s2.heap.objs.size) C (.ok .next) s') :
  wpAny (model X.prog X.w) X.A (newList []) (fun acc ju=>wpAny (model X.prog X.w) X.A (newFunctionEnv scope X.env.globals (iw X.env.cells scope.names []) [] X.env.qual none .none (some X.env)) (fun uT oE=>
   codeAny (model X.prog X.w) X.A (.compStart (.ListComp elt [⟨tg,iter,ifs,0⟩] scope pos) 0 (.ref it) acc { uT with scope:=relabel scope X.env }) (RR acc uT.locals) oE) E ju) E s2:=by
 refine QF (NS ?_)
 have e1:(s2.heap.push (hU [] 0)).objs.size=s2.heap.objs.size+1:=Zg ..
 have rC:∀ b∈fp,b<s2.heap.objs.size:=fun b hb=>by obtain⟨o,e,_⟩:=T.obj _ _ pR b hb;exact Qj e
 obtain⟨W,⟨m0,w0⟩,turn⟩:=R
 have I3:=NX S I2 f2 rC
 have uw:tn 0 (uR scope s2):=T.keep _ _ _ pR fun b hb o e=>Jx _ _ b o (Qc _ (Qc _ e))
 have N2:s2.heap.objs.size≠s2.heap.objs.size+1:=by omega
 have j9:∀ {H':Hp} {us:List Value} {n:Nat},(∀ b∈fp,H' b=none)->∀ b∈fp,mw (gB X N' scope (s2.heap.objs.size+1) s2 H2 fp) [(s2.heap.objs.size,hU us n)] H' b:=fun {H' us n} hn b hb=>by
  have q:=I3.ok.zh b hb
  refine⟨hn b hb,q.1,I3.ok.mr b hb,.inl hb,q.2,fun p hp z=>?_⟩
  have rE:p ∈ [(s2.heap.objs.size,hU us n)]:=hp
  have e:p=(s2.heap.objs.size,hU us n):=by simpa using rE
  subst e
  have:=rC b hb
  have z':s2.heap.objs.size=b:=z
  exact absurd this (by rw[z'];exact QP _)
 have loop:∀ EW,EW=Value.ref it->codeAny (model X.prog X.w) X.A (.compLoop (.ListComp elt [⟨tg,iter,ifs,0⟩] scope pos) 0 EW (.ref s2.heap.objs.size) (ES scope X.env (s2.heap.objs.size+1))) (RR (.ref s2.heap.objs.size) (s2.heap.objs.size+1)) { s2 with heap:=uR scope s2 }:=by
  rintro _ rfl
  refine NR (fun n s'=>∃ i ys us cnt H',Inv (gB X N' scope (s2.heap.objs.size+1) s2 H2 fp) [(s2.heap.objs.size,hU us cnt)] (σ++List.replicate k none) H' s'/\tn i s'.heap/\(∀ b∈fp,H' b=none)/\bf ys us/\W i n ys H') ?_ m0
   ⟨0,[],[],0,H2,I3,uw,fun b hb=>(f2 b hb).1,.nil,w0⟩
  rintro n s3 ⟨i,ys,us,cnt,H3,J3,st,fr,r3,w3⟩
  obtain⟨hz,hw⟩:=turn i n ys H3 w3
  rcases hw with⟨stop,fin⟩|⟨go,cY,step⟩
  ·refine aN (T.done (gB X N' scope (s2.heap.objs.size+1) s2 H2 fp) rfl rfl rfl hc i _ s3 _ H3 _ J3 (j9 fr) st stop) fun rr s4 ⟨hr,I4⟩=>?_
   subst hr
   obtain⟨m',zo,_⟩:=id I4.loc
   obtain⟨eD,nD,_⟩:=I4.pin (s2.heap.objs.size,hU us cnt) (Qk _ (Qt.mpr rfl))
   refine N1 (s2.heap.objs.size+1) ys H3 s4 m' (N0 I2 f2 I4 r3 hz) zo nD ?_ ?_ ?_ (Q1 _) fin
   ·rw[aR (Jb N2)];exact I4.free
   ·exact Jb (QB (Qo I2.lt (Je _)))
   ·have:=I2.sz;omega
  ·refine aN (T.item (gB X N' scope (s2.heap.objs.size+1) s2 H2 fp) rfl rfl rfl hc i _ s3 _ H3 _ J3 (j9 fr) st go) fun rr s4 ⟨u,hr,h4⟩=>?_
   subst hr
   refine aN h4 fun _ s5 ak=>?_
   obtain⟨x,H5,I5,r5,y5,qW,zz⟩:=ak
   have zA:=I5.pinned (j9 zz) (T.obj _ _ qW)
   refine aN (hg _ _ _ _ _ s5 _ H5 x u _ zA r5 (step x H5 y5)) fun _ s6 ⟨D7,H6,I6,⟨τ,e6,l6⟩,q6⟩=>?_
   subst e6
   refine aN (ht _ _ _ _ _ s6 _ H6 _ I6 q6) fun ok s7 ak=>?_
   obtain⟨H7,I7,q7⟩:=ak
   have kept:∀ {s':Shared} {H':Hp} {aM:St},Inv (gB X N' scope (s2.heap.objs.size+1) s2 H2 fp) ([(s2.heap.objs.size,hU us cnt)]++pQ fp s5.heap) aM H' s'->tn (i+1) s'.heap/\∀ b∈fp,H' b=none:=fun {s' H' aM} I'=>by
    refine⟨T.keep _ _ _ qW fun b hb o e=>(I'.pin (b,o) (Qk _ (Qk _ (xk hb e)))).1,fun b hb=>?_⟩
    obtain⟨o,e,d⟩:=T.obj _ _ qW b hb
    exact(I'.pin (b,o) (Qk _ (Qk _ (xk hb e)))).2.1
   cases ok with
   | false=>
    rw[Qf (by decide)]at q7 ⊢
    obtain⟨m',hm,w7⟩:=q7
    have:=EU I7.eA
    rw[l6]at this
    exact⟨m',hm,i+1,ys,us,cnt,H7,this,(kept I7).1,(kept I7).2,r3,w7⟩
   | true=>
    rw[Qe rfl]at q7 ⊢
    refine aN (he _ _ _ _ _ s7 _ H7 _ I7 q7) fun u8 s8 ak=>?_
    obtain⟨v,H8,I8,r8,m',hm,w8⟩:=ak
    obtain⟨eD,nD,EX,N3,dD⟩:=I8.pin (s2.heap.objs.size,hU us cnt) (Qk _ (QM _ (Qt.mpr rfl)))
    refine append_at eD (fun h9 EY N4=>?_) (hsz:=by rw[Ql,<- r3.length];exact Zi cY)
    have Ia:=I8.gi (pins':=pQ fp s5.heap) fun p hp=>I8.pin p (Qk _ (Qk _ hp))
    have N5:∀ p∈pQ fp s5.heap,p.1≠s2.heap.objs.size:=fun p hp z=>by
     have:=rC p.1 (D5 hp).1
     exact absurd this (by rw[z];exact QP _)
    have Ib:=Ia.turned (h':=h9) (t':=s8.toks) (it:=s2.heap.objs.size) (fun b o hb e=>EY.extBut b o hb e) nD EX (.inr (Qd _)) (fun y c h z=>by
      obtain⟨vv,o,ho,hd⟩:=I8.cell y c h
      rw[z,eD]at ho
      cases ho
      cases hd) (fun p hp=>N5 p (by
      have rE:p ∈ []++pQ fp s5.heap:=hp
      simpa using rE))
    have Ic:=Ib.gi (pins':=[(s2.heap.objs.size,hU (us++[u8]) (cnt+1))]) fun p hp=>by
     have e:p=(s2.heap.objs.size,hU (us++[u8]) (cnt+1)):=by simpa using hp
     subst e
     refine⟨?_,nD,EX,N3,fun v z=>nomatch z⟩
     show h9.get? s2.heap.objs.size=_
     rw[N4]
     unfold hU
     simp
    have Id:=EU Ic
    rw[l6]at Id
    have kp:=kept I8
    refine⟨m',hm,i+1,ys++[v],us++[u8],cnt+1,H8,Id,T.keep _ _ _ kp.1 fun b hb o e=>EY.extBut b o (fun z=>by
     have:=rC b hb
     have z':b=s2.heap.objs.size:=z
     exact absurd this (by rw[z'];exact QP _)) e,kp.2,bf.append r3 (.cons r8 .nil),w8⟩
 have hC:(s2.heap.push { cls:=.type "list",dict:=none,data:=.seq ([]:List Value).toArray }).objs.size=s2.heap.objs.size+1:=Zg ..
 have fin:=codeAny_compStart_list (loop _ rfl) (T.self X.A 0 _ _ _ uw (loop _ rfl))
 dsimp only at fin ⊢
 rw[hC]
 exact fin
theorem bU.locs{k:Nat}(S:bU X k N' scope):∀ y∈scope.names,y.2=.local->scope.names.lookup y.1=some .local:=fun y hy e=>by
 obtain⟨n,kd⟩:=y
 have e':kd=.local:=e
 subst e'
 exact ER S.names hy
theorem Ap{m:Str->Option Value}{v:Option Value}(hn:h.Ns C m)(hc:h.IsCell c v):c≠C:=fun z=>by
 obtain⟨o,es,ep,ho,hd,_⟩:=hn
 obtain⟨o',jg,jR⟩:=hc
 rw[z,ho]at jg
 cases jg
 rw[hd]at jR
 cases jR
section
variable {X:Cx}{k:Nat}{N':List Str}{scope:Scope}{elt tg iter:Expr}{ifs:List Expr}{pos:Pos}{wi:TI}{g:TG}{tt:TT}{te:TE}
theorem N6(hc:X.calm=true)(S:bU X k N' scope)(hi:PI X tg iter wi)(hg:∀ C s H fp,PG (gB X N' scope C s H fp) tg g)(ht:∀ C s H fp,tw (gB X N' scope C s H fp) ifs tt)(he:∀ C s H fp,PE (gB X N' scope C s H fp) elt te)
  (hs:∀ x,foldedSetIterable iter X.env x=pure x:=by intro _;rfl):PE X (.ListComp elt [⟨tg,iter,ifs,0⟩] scope pos) (xA k wi g tt te):=by
 intro pins s σ H Q I h
 rw[eval_ListComp]
 refine wpAny_comprehension_free (use:=none) rfl hs (EO fun y hy e=>?_) S.kind S.locs (aN (hi pins s σ H _ I h) fun v s1 h1=>aN h1 fun xi s2 h2=>?_)
 ·obtain⟨n,kd⟩:=y
  have e':kd=.free:=e
  subst e'
  exact I.ok.has n (S.free hy)
 ·obtain⟨it,fp,tn,J,H2,e,I2,T,pR,f2,R⟩:=h2
  subst e
  refine EV hc S hg ht he I2 T pR f2 R ?_
  intro C ys H' s' m' I' hn hD Aq xB Ar As fin
  refine⟨m',hn,fun h' kI=>⟨.ref s2.heap.objs.size,_,I'.turned (h':=h') (t':=s'.toks) (it:=C) (fun b o hb e=>kI.extBut b o hb e) Aq xB (.inr Ar) (fun x c h=>?_) (fun p hp z=>?_),rfl,fin _ hD⟩⟩
  ·obtain⟨v,q⟩:=I'.cell x c h
   exact Ap hn q
  ·have:=Qj (I2.pin p hp).1
   exact absurd (JI this As) (by rw[z];exact QP _)
theorem N7{py mL:Pos}(hN:X.N.Nodup)(hy:X.N[i]? = some y)(hx:Loc X.env.scope y)(Au:swapsWith (.ListComp elt [⟨tg,iter,ifs,0⟩] scope pos) (some (.Name y py)) mL.line X.env=pure true)
  (hc:X.calm=true) (S:bU X k N' scope) (hi:PI X tg iter wi) (hg:∀ C s H fp,PG (gB X N' scope C s H fp) tg g) (ht:∀ C s H fp,tw (gB X N' scope C s H fp) ifs tt) (he:∀ C s H fp,PE (gB X N' scope C s H fp) elt te)
  (hs:∀ x,foldedSetIterable iter X.env x=pure x:=by intro _;rfl) (hf:X.fn y=true\/X.env.scope.names.lookup y=some .local:=by first|exact .inl rfl|exact .inr rfl|assumption) :
  PS X (.Assign [.Name y py] (.ListComp elt [⟨tg,iter,ifs,0⟩] scope pos) mL) (zt (xA k wi g tt te) (zr i)):=by
 intro pins s σ H D I h
 rw[exec_Assign_Name_used _ _ _ _ Au]
 refine Qa (wpAny_standAt (Qa ?_))
 show wpAny _ X.A (do let _ <- comprehension (.ListComp elt [⟨tg,iter,ifs,0⟩] scope pos) scope X.env _ (newList []) false (eval iter X.env) (some (assign (.Name y py) X.env))) _ _ s
 refine Qa (Ze (wpAny_comprehension_free (use:=some (assign (.Name y py) X.env)) (Q:=fun _ s'=>SP X pins D .next s') rfl hs (EO fun z hz e=>?_) S.kind S.locs
  (aN (hi pins s σ H _ I h) fun v s1 h1=>aN h1 fun xi s2 h2=>?_)) (fun _ s' hq=>Qb (Qb hq)) fun _ _ e=>e)
 ·obtain⟨n,kd⟩:=z
  have e':kd=.free:=e
  subst e'
  exact I.ok.has n (S.free hz)
 ·obtain⟨it,fp,tn,J,H2,e,I2,T,pR,f2,R⟩:=h2
  subst e
  refine EV hc S hg ht he I2 T pR f2 R ?_
  intro C ys H' s' m' I' hn hD Aq xB Ar As fin
  show wpAny _ X.A (assign (.Name y py) X.env (.ref s2.heap.objs.size)) _ _ _
  refine wpAny_assign_Name (D2 I' hN hy hx (v:=.ref s2.heap.objs.size) rfl (fun ti EZ ⟨a,sb,ha⟩=>?_) hf)
  have N8:C≠a:=fun z=>by
   rcases ha with q|q
   ·exact xB (z.trans q)
   ·obtain⟨v,w⟩:=I'.cell y a q
    exact Ap hn w z.symm
  have qY:=hn.sameBut sb N8
  refine⟨m',qY,fun h' kI=>⟨_,_,EZ.turned (h':=h') (t':=ti.toks) (it:=C) (fun b o hb e=>kI.extBut b o hb e) Aq xB (.inr Ar) (fun x c h=>?_) (fun p hp z=>?_),fin _ hD⟩⟩
  ·obtain⟨v,q⟩:=EZ.cell x c h
   exact Ap qY q
  ·have:=Qj (I2.pin p hp).1
   exact absurd (JI this As) (by rw[z];exact QP _)
end
end L2
namespace L3
open PySem PySem.Spec PyProof.Rows PySem.W L2
variable {M:Model}{R:Result->Shared->Prop}{h:Heap}
section
variable {prog:Program}{w:World}{A:Around}{E:Value->Shared->Prop}{s:Shared}{K:Frag}{x C:Addr}{ox:Obj}
structure nO (h:Heap) (x:Addr) (ox:Obj) (C:Addr):Prop where
 at_:h.get? x=some ox
 cls:ox.cls=.ref C
theorem nO.type(I:nO h x ox C):Looks M h (typeOf (.ref x)) (.ref C):=I.cls ▸ (Looks.ld I.at_).andThen .now
structure ke (K:Frag) (C:Addr):Prop where
 ci:(clsIn K C).isSome=true
 ga:findIn K (.ref C) "__getattribute__" = some (some (.builtin "BaseException.__getattribute__"))
 gt:findIn K (.ref C) "__getattr__" = some none
 cl:findIn K (.ref C) "__class__" = some (some (.builtin "object.__class__"))
 cg:specialIn K (.builtin "object.__class__") "__get__" = some (some (.builtin "getset_descriptor.__get__"))
 ct:takesIn K (.builtin "object.__class__")=some true
 mo:mroIn K C (.type "object")=some true
 mb:mroIn K C (.type "BaseException")=some true
theorem N9(X:K.In h)(I:nO h x ox C)(XC:ke K C):Looks M h (Builtin.ObjectAttr.find (.ref x) (.ref C) "__class__") (.bind (.builtin "getset_descriptor.__get__") (.builtin "object.__class__")):=by
 have L1:=looks_findIn (M:=M) X XC.cl
 have L2:Looks M h (Builtin.ObjectAttr.getOf (some (.builtin "object.__class__"))) _:=looks_specialIn (M:=M) X XC.cg
 have L3:=looks_takesIn (M:=M) X XC.ct
 exact L1.andThen (L2.andThen ((show Looks M h (Builtin.ObjectAttr.dataDescriptor? (some (.builtin "object.__class__")) (some (.builtin "getset_descriptor.__get__"))) (some ((.builtin "getset_descriptor.__get__"),(.builtin "object.__class__")))from L3.andThen .now).andThen (Looks.tag .now)))
theorem N_{tp:Value}(X:K.In s.heap)(I:nO s.heap x ox C)(hm:mroIn K C (.type "object")=some true)
  (h:R (.ok (.ret (.ref C))) s):codeAny (model prog w) A (.call (.builtin "getset_descriptor.__get__") ⟨[.builtin "object.__class__",.ref x,tp],[]⟩) R s:=by
 obtain⟨hh,g,dr,t,os⟩:=s
 have L0:=I.type (M:=model prog w)
 have L1:=looks_mroIn (M:=model prog w) X hm
 refine Jg KF.slot_gs.plain KF.entry_gs (KF.slot_gs.check _ _ _ _ _ _ _ _ KF.type_class (KF.args_gs _ _ _) ?_)
 unfold Builtin.«getset_descriptor.__get__» Builtin.Getset_descriptor.descrGet
 rw[dga_obj]
 refine Qa (Qb ?_)
 unfold Builtin.Getset_descriptor.descrGetter Builtin.Getset_descriptor.descrCheckInstance Builtin.Getset_descriptor.descrNameAndClass isInstance
 simp only[KF.owner_class]
 repeat lk
 refine⟨Code.quiet_builtin _ (by decide +kernel),J1 KF.entry_class ?_⟩
 unfold Builtin.«object.__class__» shownTypeOf
 repeat lk
 exact h
theorem Oa{p7:Value}{Q:Unit->Shared->Prop}(X:K.In s.heap)(I:nO s.heap x ox C)(XC:ke K C)(hq:Q () s):wpAny M A (checkBuiltinCall "BaseException.__getattribute__" ⟨[.ref x,p7],[]⟩) Q E s:=by
 obtain⟨hh,g,d,t,os⟩:=s
 have L0:=I.type (M:=M)
 have L1:=looks_mroIn (M:=M) X XC.mb
 have hk:builtinKind "BaseException.__getattribute__" = some .slot:=by decide +kernel
 have rF:splitId "BaseException.__getattribute__" = some ("BaseException","__getattribute__"):=by decide +kernel
 have ha:=PySem.F.args_bexc_ga (.ref x) p7
 simp only[checkBuiltinCall,hk,rF]
 unfold isInstance
 repeat lk
 exact hq
theorem Ob{tk:Tok}(X:K.In s.heap)(I:nO s.heap x ox C)(XC:ke K C)(h:R (.ok (.ret (.ref C))) s) :
  codeAny (model prog w) A (.call (.builtin "BaseException.__getattribute__") ⟨[.ref x,.str "__class__" tk],[]⟩) R s:=by
 refine Jg Yi.ga.plain PySem.F.entry_bexc_ga (Oa X I XC ?_)
 obtain⟨hh,g,d,t,os⟩:=s
 have L0:=I.type (M:=model prog w)
 have L1:=N9 (M:=model prog w) X I XC
 show wpAny _ _ (Builtin.«object.__getattribute__» ⟨[.ref x,.str "__class__" tk],[]⟩) _ _ _
 refine Qa (Qb ?_)
 refine Qa (Qb ?_)
 refine Qa (L0.at (Qa (L1.at ?_)))
 show wpAny _ _ (holding [.builtin "object.__class__"] (call (.builtin "getset_descriptor.__get__") [.builtin "object.__class__",.ref x,.ref C]) >>= ret) _ _ _
 exact Qa (Zw (Yf (N_ X I XC.mo (Qb h))))
theorem Oc{Q:Option Value->Shared->Prop}(X:K.In s.heap)(I:nO s.heap x ox C)(XC:ke K C)(h:Q (some (.ref C)) { s with toks:=s.toks+1 }):wpAny (model prog w) A (getAttr? (.ref x) "__class__") Q E s:=by
 obtain⟨hh,g,d,t,os⟩:=s
 have L0:=I.type (M:=model prog w)
 have L1:=looks_findIn (M:=model prog w) X XC.ga
 have L2:=looks_findIn (M:=model prog w) X XC.gt
 have f3:=Yi.ga.bind (.ref x)
 unfold getAttr? getAttrBy? getAttrBy
 refine Qa (wpAny_mkText (Qa (Yx (Zw (Qa (L0.at (Qa (L1.at ?_))))))))
 show wpAny _ _ (getAttrByItsOwn _ _ _ _ _ _) _ _ _
 unfold getAttrByItsOwn
 refine Qa (L2.at ?_)
 refine Qa (Yx (Zw ?_))
 show wpAny _ _ (boundAndCalled _ _ _) _ _ _
 unfold boundAndCalled
 rw[f3]
 refine Qa (Qb ?_)
 show wpAny _ _ (call (.builtin "BaseException.__getattribute__") [.ref x,.str "__class__" t]) _ _ _
 refine Yf (Ob (s:=⟨hh,g,d,t+1,os⟩) X I XC ?_)
 exact handed_on rfl (Qb h)
theorem Od{D:Addr}(X:K.In h)(e:(clsIn K D).isSome=true):Looks M h (isType (.ref D)) true:=by
 unfold clsIn at e
 split at e
 next c' d' cd' D0 ho=>
  intro A' Q' E' s' k q
  unfold isType loadHead
  exact Qa (wpAny_loadPart (k _ _ (X _ _ ho)) (Qb q))
 ·cases e
theorem Oe{c:Value}{jj:Int}{tk:Tok}{Q:Fin->Shared->Prop}(X:K.In s.heap)(I:nO s.heap x ox C)(XC:ke K C)(uF:Looks (model prog w) s.heap (typeOf c) (.type "type"))(dm:Looks (model prog w) s.heap (isType c) true)
  (cR:(Value.ref C==c)=false) (hV:Looks (model prog w) s.heap (isSubtype (.ref C) c) false) (h:Q (.done (.ret (.bool false))) { s with toks:=s.toks+1 }) :
  wpAny (model prog w) A (Builtin.«isinstance.nested» ⟨[.ref x,c,.int jj tk],[]⟩) Q E s:=by
 have Av:=Od (M:=model prog w) X XC.ci
 obtain⟨h0,g,d,tt,os⟩:=s
 have L0:=I.type (M:=model prog w)
 have LI:Looks (model prog w) h0 (isInstance (.ref x) c) false:=L0.andThen hV
 unfold Builtin.«isinstance.nested»
 refine Qa (L0.at ?_)
 rw[Qf (fun q=>by rw[cR]at q;exact Bool.noConfusion q)]
 refine Qa (uF.at ?_)
 rw[Qe (by decide)]
 k_delta "plainIsInstance"
 refine Qa (Qa (dm.at ?_))
 simp only[Y1,ZJ,Js]
 refine Qa (LI.at ?_)
 simp only[ZJ,Js]
 refine Qa (Oc X I XC ?_)
 refine Qa (Av.at ?_)
 simp only[Y1,ZJ,Js]
 refine Qa (Jz ?_)
 refine hV.at ?_
 first
  | exact Qb h
  | exact Qb (Qb h)
  | exact Qa (Qb (Qb h))
theorem Of{T:String}{Q:Value->Shared->Prop}(X:K.In s.heap)(I:nO s.heap x ox C)(XC:ke K C)(uF:typeOf (.type T)=pure (.type "type"))(e:subIn K (.ref C) (.type T)=some false)(h:Q (.bool false) { s with toks:=s.toks+1 }):wpAny (model prog w) A (call (.builtin "isinstance") [.ref x,.type T]) Q E s:=
 call_isinstance (S:=fun _ R s=>(K.In s.heap/\nO s.heap x ox C)/\R (.ok (.ret (.bool false))) { s with toks:=s.toks+1 })
  (fun _ _ _ _ _ hs=>isinstance_outer (Oe hs.1.1 hs.1.2 XC (Looks.of_pure uF) (Looks.of_pure rfl) (Bool.eq_false_iff.mpr fun q=>by cases ZY.mp q) (looks_subIn hs.1.1 e) hs.2) (by intro q;cases q)) ⟨⟨X,I⟩,h⟩
end
def Og:List Value:=[.type "ValueError",.type "Exception",.type "BaseException",.type "object"]
structure Aw (K:Frag) (nm:Str) (C:Addr):Prop where
 ns:nsIn K mainGlobals nm=some (some (.ref C))
 xc:ke K C
 ex:excIn K C Og "ValueError.__new__" = true
 ve:subIn K (.ref C) (.type "ValueError")=some true
 no:∀ T ∈ ["int","bool","tuple","list","str"],subIn K (.ref C) (.type T)=some false
def XO (K:Frag)(nm:Str)(ob:Obj):Prop:=∃ C,ob.cls=.ref C/\Aw K nm C
end L3
namespace L3
open PySem PySem.Spec PyProof.Rows L2
variable {A:Around}{E:XK}{F:List Addr}{H H' H1 H2:Hp}{K:PySem.W.Frag}{N ps:List Str}{X:Cx}{a p:Addr}{b c:Int}{deep:Bool}{e tg:Expr}{es:List Expr}{fd:FuncData}{h:Int->Int->V}{i n t':Nat}{op:CmpOp}{r:R2}{te:TE}{u:Tok}{v:V}{vs xs:List V}{x:HO}{y:Option HO}
theorem xC:Slot "function" "__getattribute__" "object.__getattribute__" :=
 .of (owner:="object") (n:="__getattribute__") (by rw[typeLookup_type,builtinLookup_eq_fast];kernel_rfl) (by decide +kernel) (by decide +kernel) (by decide +kernel)
  (by first|exact .inl (by decide +kernel)|exact .inr (by decide +kernel)) (by rw[isSubtype_type];kernel_rfl)
theorem Oh:typeLookup (.type "function") "__class__" = pure (some (.builtin "object.__class__")):=by rw[typeLookup_type,builtinLookup_eq_fast];kernel_rfl
theorem Oi:isSubtype (.type "function") (.type (".".intercalate ("object.__class__".cutAt '.').dropLast))=pure true:=by
 rw[PySem.F.owner_object_class,isSubtype_type];kernel_rfl
theorem Oj:entryFor table "object.__getattribute__" = some Builtin.«object.__getattribute__»:=entryFor_of_tree (by kernel_rfl)
theorem Ol(a b:Value):argsOk "object.__getattribute__" ⟨[a,b],[]⟩:=by unfold argsOk;kernel_rfl
section
variable {prog:Program}{w:World}{A:Around}{E:Value->Shared->Prop}{s:Shared}{a:Addr}
theorem Om{R:Result->Shared->Prop}(hT:s.TypeIs (.ref a) "function")(hq:R (.ok (.ret (.type "function"))) s) :
  codeAny (model prog w) A (.call (.builtin "getset_descriptor.__get__") ⟨[.builtin "object.__class__",.ref a,.type "function"],[]⟩) R s:=by
 obtain⟨h,g,d,t,os⟩:=s
 have h5:(⟨h,g,d,t,os⟩:Shared).TypeIs (.builtin "object.__class__") "getset_descriptor":=Jc
 have f8:=Oi
 refine Jg J9.plain PySem.F.entry_gs_get (J9.check _ _ _ _ _ _ _ _ h5 (PySem.F.args_gs_get _ _ _) ?_)
 repeat (any_goals (first|assumption|wp_step))
 refine⟨Code.quiet_builtin _ (by decide +kernel),J1 PySem.F.entry_object_class ?_⟩
 repeat (any_goals (first|assumption|wp_step))
theorem Oo{Q:Option Value->Shared->Prop}(hT:s.TypeIs (.ref a) "function")(hq:Q (some (.type "function")) { s with toks:=s.toks+1 }):wpAny (model prog w) A (getAttr? (.ref a) "__class__") Q E s:=by
 obtain⟨h,g,d,t,os⟩:=s
 have E1:∀ t',(⟨h,g,d,t',os⟩:Shared).TypeIs (.ref a) "function":=fun _=>hT
 have en:∀ {tk:Tok} {t':Nat} {Q:Fin->Shared->Prop} {E:Value->Shared->Prop} {A:Around},Q (.done (.ret (.type "function"))) ⟨h,g,d,t',os⟩->
   wpAny (model prog w) A (Builtin.«object.__getattribute__» ⟨[.ref a,.str "__class__" tk],[]⟩) Q E ⟨h,g,d,t',os⟩:=by
  intro tk t' Q E A hq
  have hT:=E1 t'
  have h5:(⟨h,g,d,t',os⟩:Shared).TypeIs (.builtin "object.__class__") "getset_descriptor":=Jc
  have f4:=Oh
  have f5:=Jc
  have f6:=J9.lookup
  have f7:=PySem.F.slot_gs_set.lookup
  repeat (any_goals (first|assumption|wp_step))
  refine Om hT ?_
  repeat (any_goals (first|assumption|wp_step))
 have Oq:∀ {tk:Tok} {t':Nat} {Q:Value->Shared->Prop} {E:Value->Shared->Prop} {A:Around},Q (.type "function") ⟨h,g,d,t',os⟩->wpAny (model prog w) A (getAttrBy (.ref a) (.str "__class__" tk) false) Q E ⟨h,g,d,t',os⟩:=by
  intro tk t' Q E A hq
  have hT:=E1 t'
  have f2:=xC.lookup
  have f3:=xC.bind (.ref a)
  repeat (any_goals (first|assumption|wp_step))
  refine Jg xC.plain Oj (xC.check _ _ _ _ _ _ _ _ hT (Ol _ _) (en ?_))
  repeat (any_goals (first|assumption|wp_step))
 unfold getAttr? getAttrBy?
 repeat (any_goals (first|assumption|with_reducible apply Oq | wp_step))
theorem Ot:PySem.W.KitX K (.ref a) (.type "function") (PySem.W.KitAt a "function"):=PySem.W.kitx_of PySem.W.kitAt_ty (fun {_ _ _ _ _ s} p k=>Oo (by obtain⟨o,h1,h2⟩:=p;exact⟨o,h1,h2⟩) k)
end
theorem nM{α:Type}{P:α->Prop}(a:α)(z:a∈([]:List α)):P a:=nomatch z
inductive MK where
 | t (ks:List (List Key))
 | k (ks:List Key)
 | i (nm:Str) (fs:List Str) (p:Option Addr)
def MK.len:MK->Nat
 | .t ks=>ks.length
 | .k ks=>ks.length
 | .i _ fs _=>fs.length
inductive D where
 | aX|bl (b:Bool)|int (i:Int)|str (x:Str)|tup (ds:List D)|lst (ds:List D)
 | gC (ks:List Str) (ds:List D)
 | exc (nm:Str)
 | ob (f:Addr) (fo:Obj) (vs:List V) (ds:List D)
 | mp (k:MK) (ds:List D)
abbrev St:=L2.St
inductive Ow where
 | s (i:Nat)|t (i:Nat)|f
 deriving DecidableEq
abbrev Wn:=Addr->Option Ow
def KL (K:PySem.W.Frag)(a:Addr)(xs:List V):Prop:=
 ∃ (o:Obj) (au:Array Value) (n:Nat),K.lookup a=some o/\o.cls=.type "list" /\ o.dict=none/\o.data=.seq au n/\au.size<=sizeLine/\bf xs au.toList
theorem cK.cases(h:cK K H a xs):Rd H a (.lst xs)\/KL K a xs:=h
theorem KL.sq(h:KL K a xs):cK K H a xs:=.inr h
def mM (ks:List Str)(vs:List V):List (Key×V):=(ks.map fun x=>(Sum.inr x:Key)).zip vs
def E2 (fo:Obj)(c:Addr)(oc:Obj):Prop:=fo.cls=.type "function" /\ (∃ fd,fo.data=.func fd/\fd.code=.ref c)/\∃ fs q t,oc.data=.fields fs/\fs[1]? = some (.str q t)
structure hX (K:PySem.W.Frag) (C:Addr):Prop where
 cl:L2.lS K C
 ha:PySem.W.findIn K (.ref C) "__class__" = some (some (.builtin "object.__class__"))
 hn:PySem.W.specialIn K (.builtin "object.__class__") "__get__" = some (some (.builtin "getset_descriptor.__get__"))
 uB:PySem.W.takesIn K (.builtin "object.__class__")=some true
 hm:PySem.W.mroIn K C (.type "object")=some true
 no:∀ t∈(["bool","int","tuple","list","str"]:List String),PySem.W.kitOne K (.ref C) (.type t)=some false
def MK.Is (K:PySem.W.Frag)(a:Addr):MK->List V->HO->Prop
 | .t ks,vs,x=>x=.dT (ks.zip vs)
 | .k ks,vs,x=>x=.dK (ks.zip vs)
 | .i nm fs p,vs,x=>∃ C dx,PySem.W.nsIn K mainGlobals nm=some (some (.ref C))/\x=.ins C dx (fs.zip vs)/\hX K C/\(∀ f∈fs,L2.pU K C f)/\∀ d,p=some d->a=d
mutual
inductive Rep (K:PySem.W.Frag) (H:Hp) (w:Wn) (o:Ow):Nat->D->V->List Addr->Prop
 | aX {q}:Rep K H w o q .aX .aX []
 | bl {q} (b:Bool):Rep K H w o q (.bl b) (.bl b) []
 | int {q} (i:Int):Rep K H w o q (.int i) (.int i) []
 | str {q} (x:Str):Rep K H w o q (.str x) (.str x) []
 | tup {q} {a:Addr} {vs:List V} {ds:List D}:H a=some (.tup vs)->af K H w o 0 ds vs []->Rep K H w o q (.tup ds) (.ref a) []
 | gC {q} {a:Addr} {ks:List Str} {vs:List V} {ds:List D}:H a=some (.dK (mM ks vs))->w a=none->af K H w o 0 ds vs []->Rep K H w o q (.gC ks ds) (.ref a) []
 | exc {q} {a:Addr} {nm:Str} {ob:Obj} {u:HO}:H a=some (.cu ob u)->XO K nm ob->(∀ xs,u ≠ .lst xs)->Rep K H w o q (.exc nm) (.ref a) []
 | ob {q} {f c:Addr} {fo oc:Obj} {u u':HO} {vs:List V} {ds:List D}:H f=some (.cu fo u)->H c=some (.cu oc u')->E2 fo c oc->af K H w o 0 ds vs []->Rep K H w o q (.ob f fo vs ds) (.ref f) []
 | kl {a:Addr} {vs:List V} {ds:List D}:KL K a vs->af K H w o 0 ds vs []->Rep K H w o 0 (.lst ds) (.ref a) []
 | shr {a:Addr} {vs:List V} {ds:List D}:Rd H a (.lst vs)->w a=none->af K H w o 0 ds vs []->Rep K H w o 0 (.lst ds) (.ref a) []
 | own {q} {a:Addr} {vs:List V} {ds:List D} {F:List Addr}:H a=some (.lst vs)->w a=some o->af K H w o q ds vs F->a ∉ F->Rep K H w o (q+1) (.lst ds) (.ref a) (a::F)
 | mO {a:Addr} {vs:List V} {ds:List D} {k:MK} {x:HO}:H a=some x->k.Is K a vs x->w a=none->k.len=ds.length->af K H w o 0 ds vs []->Rep K H w o 0 (.mp k ds) (.ref a) []
 | gD {q} {a:Addr} {vs:List V} {ds:List D} {k:MK} {x:HO}:H a=some x->k.Is K a vs x->w a=some o->k.len=ds.length->af K H w o 0 ds vs []->Rep K H w o (q+1) (.mp k ds) (.ref a) [a]
inductive af (K:PySem.W.Frag) (H:Hp) (w:Wn) (o:Ow):Nat->List D->List V->List Addr->Prop
 | nil {q}:af K H w o q [] [] []
 | cons {q} {d:D} {v:V} {ds:List D} {vs:List V} {F G:List Addr}:Rep K H w o q d v F->af K H w o q ds vs G->(∀ a∈F,a ∉ G)->af K H w o q (d::ds) (v::vs) (F++G)
end
def Ax:HO->Bool
 | .lst _=>true
 | .dK _=>true
 | .dT _=>true
 | .ins _ _ _=>true
 | _=>false
inductive OX where
 | l (vs:List V)|t (ai:List (List Key×V))|k (ai:List (Key×V))|i (C dx:Addr) (fs:List (Str×V))
def OX.ho:OX->HO
 | .l vs=>.lst vs
 | .t ai=>.dT ai
 | .k ai=>.dK ai
 | .i C dx fs=>.ins C dx fs
theorem OX.is(v:OX):Ax v.ho=true:=by cases v<;>rfl
theorem MK.ox{k:MK}(h:k.Is K a vs x):∃ v:OX,x=v.ho:=by
 cases k with
 | t ks=>exact⟨.t _,h⟩
 | k ks=>exact⟨.k _,h⟩
 | i nm fs p=>obtain⟨C,dx,_,h,_⟩:=h;exact⟨.i _ _ _,h⟩
def oF:HO->Bool
 | .dJ _=>true
 | _=>false
def Sm (x:HO)(y:Option HO):Prop:=match x with
 | .dJ _=>∃ ps,y=some (.dJ ps)
 | x=>y=some x
theorem sm(h:y=some x):Sm x y:=by cases x<;>first|exact h|exact⟨_,h⟩
theorem Sm.is(h:Sm x y):∃ z,y=some z/\oF z=oF x:=by
 cases x<;>first|exact⟨_,h,rfl⟩|(obtain⟨ps,e⟩:=h;exact⟨_,e,rfl⟩)
theorem Sm.eq(h:Sm x y)(n:oF x=false):y=some x:=by cases x<;>first|exact h|cases n
def nP:List Str:=["turned","chain_ladder","flat_ladder","paired","height_of","_law_high"]
structure TB (K:PySem.W.Frag) (H:Hp):Prop where
 tr:∀ P ps,H P=some (.dJ ps)->PySem.TriplesOk ps.toList
 cd:∀ P ps,H P=some (.dJ ps)->∀ pos cv,PySem.codeAmong pos ps.toList=some cv->∃ c oc u vs q t,cv=.ref c/\H c=some (.cu oc u)/\oc.data=.fields vs/\vs[1]? = some (.str q t)/\∀ xs,u ≠ .lst xs
 is:∀ x∈nP,∀ c P,PySem.W.tabIn K x=some (c,P)->∃ ps,H P=some (.dJ ps)
structure WL (K:PySem.W.Frag) (w:Wn) (H:Hp):Prop where
 own:∀ a o,w a=some o->∃ vs:OX,H a=some vs.ho
 tb:TB K H
instance {K:PySem.W.Frag} {w:Wn} {H:Hp}:CoeFun (WL K w H) (fun _=>∀ a o,w a=some o->∃ vs:OX,H a=some vs.ho):=⟨WL.own⟩
theorem TB.upd(t:TB K H)(hx:oF x=false)(hp:H p=none\/∃ vs:OX,H p=some vs.ho):TB K (L2.upd H p x):=by
 have ne:∀ a y,H a=some y->Ax y=false->a≠p:=fun a y e h z=>by
  subst z
  rcases hp with q|⟨vs,q⟩
  ·rw[e]at q;cases q
  ·rw[e]at q
   rw[Qy q,vs.is]at h
   cases h
 refine⟨fun P ps e=>?_,fun P ps e pos cv hc=>?_,fun x hx c P hP=>by
  obtain⟨ps,e⟩:=t.is x hx c P hP
  exact⟨ps,by rw[aR (ne P _ e rfl)];exact e⟩⟩
 ·by_cases hP:P=p
  ·subst hP;rw[de]at e;cases e;cases hx
  ·rw[aR hP]at e;exact t.tr P ps e
 ·by_cases hP:P=p
  ·subst hP;rw[de]at e;cases e;cases hx
  ·rw[aR hP]at e
   obtain⟨c,oc,u,vs,q,tt,h1,h2,h3,h4,h5⟩:=t.cd P ps e pos cv hc
   exact⟨c,oc,u,vs,q,tt,h1,by rw[aR (ne c _ h2 rfl)];exact h2,h3,h4,h5⟩
def cL (H:Hp)(w:Wn)(H':Hp)(w':Wn):Prop:=∀ a x,H a=some x->w a=none->Sm x (H' a)/\w' a=none
theorem cL.trans{w w1 w2:Wn}(a:cL H w H1 w1)(b:cL H1 w1 H2 w2):cL H w H2 w2:=fun c x h n=>by
 obtain⟨s1,n1⟩:=a c x h n
 cases ht:oF x with
 | false=>exact b c x (s1.eq ht) n1
 | true=>
  obtain⟨y,e,hy⟩:=s1.is
  obtain⟨s2,n2⟩:=b c y e n1
  refine⟨?_,n2⟩
  rw[ht]at hy
  cases x with
  | dJ ps=>
   cases y with
   | dJ ps'=>exact s2
   | _=>cases hy
  | _=>cases ht
theorem WL.tE{w:Wn}(wl:WL K w H)(e:H a=some x)(h:Ax x=false):w a=none:=by
 cases q:w a with
 | none=>rfl
 | some o=>
  obtain⟨vs,e'⟩:=wl a o q
  rw[e]at e'
  rw[Qy e',vs.is]at h
  cases h
theorem cE.go{w w':Wn}(wl:WL K w H)(st:cL H w H' w')(h:cE K H a vs):cE K H' a vs:=by
 rcases h with(h|⟨o,h⟩)|h
 ·exact .inl (.inl (st a _ h (wl.tE h rfl)).1)
 ·exact .inl (.inr ⟨o,(st a _ h (wl.tE h rfl)).1⟩)
 ·exact .inr h
theorem xD.go{w w':Wn}(st:cL H w H' w')(n:w a=none)(h:Rd H a (.lst vs)):Rd H' a (.lst vs)/\w' a=none:=by
 rcases h with h|⟨o,h⟩
 ·exact⟨.inl (st a _ h n).1,(st a _ h n).2⟩
 ·exact⟨.inr ⟨o,(st a _ h n).1⟩,(st a _ h n).2⟩
theorem Rep.go{w w':Wn}{o o':Ow}(wl:WL K w H)(st:cL H w H' w'):∀ {q:Nat} {d:D} {v:V} {F:List Addr},Rep K H w o q d v F->(∀ a∈F,H' a=H a/\w' a=some o')->Rep K H' w' o' q d v F:=by
 intro q d v F r
 refine Rep.rec (motive_1:=fun q d v F _=>(∀ a∈F,H' a=H a/\w' a=some o')->Rep K H' w' o' q d v F) (motive_2:=fun q ds vs F _=>(∀ a∈F,H' a=H a/\w' a=some o')->af K H' w' o' q ds vs F) ?_ ?_ ?_ ?_ ?_ ?_ ?_ ?_ ?_ ?_ ?_ ?_ ?_ ?_ ?_ r
 ·intro q _;exact .aX
 ·intro q b _;exact .bl b
 ·intro q i _;exact .int i
 ·intro q x _;exact .str x
 ·intro q a vs ds h r ih _;exact .tup (st _ _ h (wl.tE h rfl)).1 (ih nM)
 ·intro q a ks vs ds h n r ih _;exact .gC (st _ _ h n).1 (st _ _ h n).2 (ih nM)
 ·intro q a nm ob u h x n _;exact .exc (st _ _ h (wl.tE h rfl)).1 x n
 ·intro q f c fo oc u u' vs ds h1 h2 x r ih _;exact .ob (st _ _ h1 (wl.tE h1 rfl)).1 (st _ _ h2 (wl.tE h2 rfl)).1 x (ih nM)
 ·intro a vs ds h r ih _;exact .kl h (ih nM)
 ·intro a vs ds h n r ih _;exact .shr (xD.go st n h).1 (xD.go st n h).2 (ih nM)
 ·intro q a vs ds F h e r ne ih k;exact .own ((k _ Qi).1.trans h) (k _ Qi).2 (ih fun a m=>k a (Qg _ m)) ne
 ·intro a vs ds k x h i n l r ih _
  have nt:oF x=false:=by
   obtain⟨v,rfl⟩:=MK.ox i
   cases v<;>rfl
  exact .mO ((st _ _ h n).1.eq nt) i (st _ _ h n).2 l (ih nM)
 ·intro q a vs ds k x h i e l r ih kk;exact .gD ((kk _ Qi).1.trans h) i (kk _ Qi).2 l (ih nM)
 ·intro q _;exact .nil
 ·intro q d v ds vs F G r s ne oG oH k;exact .cons (oG fun a m=>k a (QM _ m)) (oH fun a m=>k a (Qk _ m)) ne
theorem af.go{w w':Wn}{o o':Ow}(wl:WL K w H)(st:cL H w H' w'):∀ {q:Nat} {ds:List D} {vs:List V} {F:List Addr},af K H w o q ds vs F->(∀ a∈F,H' a=H a/\w' a=some o')->af K H' w' o' q ds vs F
 | _,_,_,_,.nil,_=>.nil
 | _,_,_,_,.cons r s ne,k=>.cons (Rep.go wl st r fun a m=>k a (QM _ m)) (af.go wl st s fun a m=>k a (Qk _ m)) ne
theorem Rep.freeze{w w':Wn}{o o':Ow}(n:∀ a,w a=none->w' a=none):∀ {q:Nat} {d:D} {v:V} {F:List Addr},Rep K H w o q d v F->(∀ a∈F,w' a=none)->Rep K H w' o' 0 d v []:=by
 intro q d v F r
 refine Rep.rec (motive_1:=fun q d v F _=>(∀ a∈F,w' a=none)->Rep K H w' o' 0 d v []) (motive_2:=fun q ds vs F _=>(∀ a∈F,w' a=none)->af K H w' o' 0 ds vs []) ?_ ?_ ?_ ?_ ?_ ?_ ?_ ?_ ?_ ?_ ?_ ?_ ?_ ?_ ?_ r
 ·intro q _;exact .aX
 ·intro q b _;exact .bl b
 ·intro q i _;exact .int i
 ·intro q x _;exact .str x
 ·intro q a vs ds h r ih _;exact .tup h (ih nM)
 ·intro q a ks vs ds h e r ih _;exact .gC h (n _ e) (ih nM)
 ·intro q a nm ob u h x n _;exact .exc h x n
 ·intro q f c fo oc u u' vs ds h1 h2 x r ih _;exact .ob h1 h2 x (ih nM)
 ·intro a vs ds h r ih _;exact .kl h (ih nM)
 ·intro a vs ds h e r ih _;exact .shr h (n _ e) (ih nM)
 ·intro q a vs ds F h e r ne ih k;exact .shr (Rd.of h) (k _ Qi) (ih fun a m=>k a (Qg _ m))
 ·intro a vs ds k x h i e l r ih _;exact .mO h i (n _ e) l (ih nM)
 ·intro q a vs ds k x h i e l r ih kk;exact .mO h i (kk _ Qi) l (ih nM)
 ·intro q _;exact .nil
 ·intro q d v ds vs F G r s ne oG oH k;exact .cons (F:=[]) (G:=[]) (oG fun a m=>k a (QM _ m)) (oH fun a m=>k a (Qk _ m)) nM
theorem af.freeze{w w':Wn}{o o':Ow}(n:∀ a,w a=none->w' a=none):∀ {q:Nat} {ds:List D} {vs:List V} {F:List Addr},af K H w o q ds vs F->(∀ a∈F,w' a=none)->af K H w' o' 0 ds vs []
 | _,_,_,_,.nil,_=>.nil
 | _,_,_,_,.cons r s ne,k=>.cons (F:=[]) (G:=[]) (Rep.freeze n r fun a m=>k a (QM _ m)) (af.freeze n s fun a m=>k a (Qk _ m)) nM
theorem Rep.az{w:Wn}{o:Ow}:∀ {q:Nat} {d:D} {v:V} {F:List Addr},Rep K H w o q d v F->∀ a∈F,w a=some o:=by
 intro q d v F r
 refine Rep.rec (motive_1:=fun q d v F _=>∀ a∈F,w a=some o) (motive_2:=fun q ds vs F _=>∀ a∈F,w a=some o) ?_ ?_ ?_ ?_ ?_ ?_ ?_ ?_ ?_ ?_ ?_ ?_ ?_ ?_ ?_ r
 ·intro q a m;exact(QG m).elim
 ·intro q b a m;exact(QG m).elim
 ·intro q i a m;exact(QG m).elim
 ·intro q x a m;exact(QG m).elim
 ·intro q a vs ds h r ih b m;exact(QG m).elim
 ·intro q a ks vs ds h e r ih b m;exact(QG m).elim
 ·intro q a nm ob u h x n b m;exact(QG m).elim
 ·intro q f c fo oc u u' vs ds h1 h2 x r ih b m;exact(QG m).elim
 ·intro a vs ds h r ih b m;exact(QG m).elim
 ·intro a vs ds h e r ih b m;exact(QG m).elim
 ·intro q a vs ds F h e r ne ih b m
  rcases Qn.mp m with z|z
  ·rw[z];exact e
  ·exact ih b z
 ·intro a vs ds k x h i e l r ih b m;exact(QG m).elim
 ·intro q a vs ds k x h i e l r ih b m
  rw[Qt.mp m];exact e
 ·intro q a m;exact(QG m).elim
 ·intro q d v ds vs F G r s ne oG oH a m
  rcases QR.mp m with z|z
  ·exact oG a z
  ·exact oH a z
theorem af.az{w:Wn}{o:Ow}:∀ {q:Nat} {ds:List D} {vs:List V} {F:List Addr},af K H w o q ds vs F->∀ a∈F,w a=some o
 | _,_,_,_,.nil,a,m=>(QG m).elim
 | _,_,_,_,.cons r s ne,a,m=>(QR.mp m).elim (r.az a) (s.az a)
def D.cw:D->Bool
 | .lst _=>true
 | .mp _ _=>true
 | _=>false
@[simp] theorem D.xE:D.cw .aX=false:=rfl
@[simp] theorem D.Ay(b:Bool):D.cw (.bl b)=false:=rfl
@[simp] theorem D.xF(i:Int):D.cw (.int i)=false:=rfl
@[simp] theorem D.xG(x:Str):D.cw (.str x)=false:=rfl
@[simp] theorem D.xH(ds:List D):D.cw (.tup ds)=false:=rfl
@[simp] theorem D.xI(ks:List Str)(ds:List D):D.cw (.gC ks ds)=false:=rfl
@[simp] theorem D.xJ(nm:Str):D.cw (.exc nm)=false:=rfl
@[simp] theorem D.Az(f:Addr)(fo:Obj)(vs:List V)(ds:List D):D.cw (.ob f fo vs ds)=false:=rfl
@[simp] theorem D.AA(k:MK)(ds:List D):D.cw (.mp k ds)=true:=rfl
@[simp] theorem D.xK(ds:List D):D.cw (.lst ds)=true:=rfl
theorem Rep.bV{w:Wn}{o:Ow}{q:Nat}{d:D}(r:Rep K H w o q d v F)(h:d.cw=false):F=[]/\∀ q',Rep K H w o q' d v []:=by
 cases r with
 | aX=>exact⟨rfl,fun _=>.aX⟩
 | bl b=>exact⟨rfl,fun _=>.bl b⟩
 | int i=>exact⟨rfl,fun _=>.int i⟩
 | str x=>exact⟨rfl,fun _=>.str x⟩
 | tup h' r'=>exact⟨rfl,fun _=>.tup h' r'⟩
 | gC h' e' r'=>exact⟨rfl,fun _=>.gC h' e' r'⟩
 | exc h' x n=>exact⟨rfl,fun _=>.exc h' x n⟩
 | ob h1 h2 x r=>exact⟨rfl,fun _=>.ob h1 h2 x r⟩
 | kl=>cases h
 | shr=>cases h
 | own=>cases h
 | mO=>cases h
 | gD=>cases h
theorem Rep.zero{w:Wn}{o:Ow}{d:D}(r:Rep K H w o 0 d v F):F=[]:=by
 cases r<;>rfl
theorem af.zero{w:Wn}{o:Ow}:∀ {ds:List D} {vs:List V} {F:List Addr},af K H w o 0 ds vs F->F=[]
 | _,_,_,.nil=>rfl
 | _,_,_,.cons r s _=>by rw[r.zero,s.zero];rfl
theorem af.length{w:Wn}{o:Ow}{q:Nat}:∀ {ds:List D} {vs:List V} {F:List Addr},af K H w o q ds vs F->ds.length=vs.length
 | _,_,_,.nil=>rfl
 | _,_,_,.cons _ s _=>by simp[s.length]
theorem Rep.any{w:Wn}{o o':Ow}{q:Nat}{d:D}(r:Rep K H w o q d v [])(wl:WL K w H):Rep K H w o' q d v []:=
 Rep.go wl (fun a x h n=>⟨sm h,n⟩) r nM
theorem af.any{w:Wn}{o o':Ow}{q:Nat}{d:List D}{v:List V}(r:af K H w o q d v [])(wl:WL K w H):af K H w o' q d v []:=
 af.go wl (fun a x h n=>⟨sm h,n⟩) r nM
theorem af.get{w:Wn}{o:Ow}:∀ {ds:List D} {vs:List V} {i:Nat} {d:D},af K H w o 0 ds vs []->ds[i]? = some d->∃ v,vs[i]? = some v/\Rep K H w o 0 d v []
 | ds,vs,i,d,r,e=>by
  generalize hF:([]:List Addr)=F at r
  cases r with
  | nil=>simp at e
  | @cons _ d' v' ba d9 F' G' r s _=>
   have h1:F'=[]:=r.zero
   have h2:G'=[]:=s.zero
   subst h1 h2
   cases i with
   | zero=>simp at e;subst e;exact⟨v',rfl,r⟩
   | succ j=>
    obtain⟨v,h1,h2⟩:=af.get (i:=j) (d:=d) s (by simpa using e)
    exact⟨v,by simpa using h1,h2⟩
theorem af.snoc{w:Wn}{o:Ow}{q:Nat}{d:D}{G:List Addr}(r':Rep K H w o q d v G):∀ {ds:List D} {vs:List V} {F:List Addr},af K H w o q ds vs F->(∀ a∈F,a ∉ G)->af K H w o q (ds++[d]) (vs++[v]) (F++G)
 | _,_,_,.nil,_=>by
  have:af K H w o q [d] [v] (G++[]):=.cons r' .nil (fun a _ z=>nomatch z)
  simpa using this
 | _,_,_,.cons (F:=F) (G:=F') r s ne,k=>by
  rw[JH]
  refine .cons r (af.snoc r' s fun a m=>k a (Qk _ m)) fun a m z=>?_
  rcases QR.mp z with z|z
  ·exact ne a m z
  ·exact k a (QM _ m) z
abbrev OD:=Option (D×Nat)
abbrev aU:=List (OD)
structure Good (K:PySem.W.Frag) (ρ:aU) (σ:St) (H:Hp) (w:Wn) (t:Nat):Prop where
 wl:WL K w H
 ws:∀ a i,w a=some (.s i)->i<σ.length
 wt:∀ a i,w a=some (.t i)->i<t
 len:ρ.length=σ.length
 slot:∀ (i:Nat) d q,ρ[i]? = some (some (d,q))->∃ v F,σ[i]? = some (some v)/\Rep K H w (.s i) q d v F
structure Go (H:Hp) (w:Wn) (H':Hp) (w':Wn):Prop where
 bB:cL H w H' w'
 keep:∀ a o,w a=some o->(∀ i,o ≠ .s i)->H' a=H a/\w' a=some o
theorem Go.refl{w:Wn}:Go H w H w:=⟨fun a x h n=>⟨sm h,n⟩,fun a o e _=>⟨rfl,e⟩⟩
theorem Go.trans{w w1 w2:Wn}(a:Go H w H1 w1)(b:Go H1 w1 H2 w2):Go H w H2 w2:=
 ⟨a.bB.trans b.bB,fun c o e h=>by
   obtain⟨h1,w1⟩:=a.keep c o e h
   obtain⟨h2,w2⟩:=b.keep c o w1 h
   exact⟨h2.trans h1,w2⟩⟩
theorem Rep.gone{w w':Wn}{q:Nat}{d:D}(r:Rep K H w (.t i) q d v F)(wl:WL K w H)(g:Go H w H' w'):Rep K H' w' (.t i) q d v F:=
 Rep.go wl g.bB r fun a m=>g.keep a _ (r.az a m) (fun _ z=>nomatch z)
theorem af.gone{w w':Wn}{q:Nat}{d:List D}{v:List V}(r:af K H w (.t i) q d v F)(wl:WL K w H)(g:Go H w H' w'):af K H' w' (.t i) q d v F:=
 af.go wl g.bB r fun a m=>g.keep a _ (r.az a m) (fun _ z=>nomatch z)
def bG (t:Nat)(w:Wn):Wn:=fun a=>match w a with
 | some (.t i)=>if t<=i then none else some (.t i)
 | x=>x
theorem xM{t:Nat}{w:Wn}(h:w a=none):bG t w a=none:=by unfold bG;rw[h]
theorem Ou{t:Nat}{w:Wn}(h:w a=some (.s i)):bG t w a=some (.s i):=by unfold bG;rw[h]
theorem Ov{t:Nat}{w:Wn}(h:w a=some .f):bG t w a=some .f:=by unfold bG;rw[h]
theorem Ox{t:Nat}{w:Wn}(h:w a=some (.t i))(hi:i<t):bG t w a=some (.t i):=by unfold bG;rw[h];exact Qf (by omega)
theorem Oy{t:Nat}{w:Wn}(h:w a=some (.t i))(hi:t<=i):bG t w a=none:=by unfold bG;rw[h];exact Qe hi
theorem AB{t:Nat}{w:Wn}{o:Ow}(h:bG t w a=some o):w a=some o/\∀ i,o=.t i->i<t:=by
 unfold bG at h
 cases e:w a with
 | none=>rw[e]at h;cases h
 | some o'=>
  rw[e]at h
  cases o' with
  | s i=>cases h;exact⟨rfl,fun i z=>nomatch z⟩
  | f=>cases h;exact⟨rfl,fun i z=>nomatch z⟩
  | t i=>
   dsimp only at h
   split at h
   ·cases h
   ·cases h;exact⟨rfl,fun j z=>by cases z;omega⟩
theorem Good.drop{ρ:aU}{σ:St}{w:Wn}{t:Nat}(g:Good K ρ σ H w t):Good K ρ σ H (bG t' w) t':=by
 refine⟨⟨fun a o e=>g.wl a o (AB e).1,g.wl.tb⟩,fun a i e=>g.ws a i (AB e).1,fun a i e=>(AB e).2 i rfl,g.len,fun i d q e=>?_⟩
 obtain⟨v,F,h1,h2⟩:=g.slot i d q e
 exact⟨v,F,h1,Rep.go g.wl (fun a x h n=>⟨sm h,xM n⟩) h2 fun a m=>⟨rfl,Ou (h2.az a m)⟩⟩
theorem Go.drop{w w':Wn}{t:Nat}(g:Go H w H' w')(wt:∀ a i,w a=some (.t i)->i<t):Go H w H' (bG t w'):=
 ⟨fun a x h n=>⟨(g.bB a x h n).1,xM (g.bB a x h n).2⟩,fun a o e h=>by
   obtain⟨h1,h2⟩:=g.keep a o e h
   refine⟨h1,?_⟩
   cases o with
   | s i=>exact absurd rfl (h i)
   | f=>exact Ov h2
   | t i=>exact Ox h2 (wt a i e)⟩
theorem Rep.drop{w:Wn}{q:Nat}{d:D}{t:Nat}{o:Ow}(r:Rep K H w (.t t) q d v F)(h:t'<=t):Rep K H (bG t' w) o 0 d v []:=
 Rep.freeze (fun a n=>xM n) r fun a m=>Oy (r.az a m) h
abbrev aw:=aU->Option (D×Nat×aU)
def tD (K:PySem.W.Frag)(f:aw):TE:=fun σ H Q=>∃ ρ w t r q ρ',Good K ρ σ H w t/\f ρ=some (r,q,ρ')/\∀ v H' w' F,Good K ρ' σ H' w' (t+1)->Go H w H' w'->Rep K H' w' (.t t) q r v F->Q v H'
theorem PE.imp{t t':TE}(h:PE X e t)(i:∀ σ H Q,t' σ H Q->t σ H Q):PE X e t':=fun pins s σ H Q I q=>h pins s σ H Q I (i σ H Q q)
abbrev PD (X:Cx)(e:Expr)(f:aw):Prop:=PE X e (tD X.K f)
structure QD (X:Cx) (e:Expr) (f:aw):Prop where mk::o:PD X e f
theorem Good.up{ρ:aU}{σ:St}{w:Wn}{t:Nat}(g:Good K ρ σ H w t):Good K ρ σ H w (t+1):=⟨g.wl,g.ws,fun a i e=>Q6 (g.wt a i e),g.len,g.slot⟩
@[simp] def cj (d:D):Nat:=if d.cw then 0 else 9
theorem Rep.jj{w:Wn}{o:Ow}{d:D}(r:Rep K H w o 0 d v []):Rep K H w o (cj d) d v []:=by
 unfold cj
 cases e:d.cw with
 | true=>exact r
 | false=>exact(r.bV e).2 9
section
variable {K:PySem.W.Frag}{σ:St}{H:Hp}{ρ ρ' ρ1 ρ2:aU}{w:Wn}{t:Nat}{Q:VK}
theorem oI{fa fb:aw}{R:V->V->Hp->Prop}(g:Good K ρ σ H w t){d1 d2:D}{q1 q2:Nat}(e1:fa ρ=some (d1,q1,ρ1))(e2:fb ρ1=some (d2,q2,ρ2))
  (k:∀ x y H2 w2 F1 F2,Good K ρ2 σ H2 w2 (t+2)->Go H w H2 w2->Rep K H2 w2 (.t t) q1 d1 x F1->Rep K H2 w2 (.t (t+1)) q2 d2 y F2->R x y H2) :
  tD K fa σ H fun x H1=>tD K fb σ H1 fun y H2=>R x y H2:=
 ⟨ρ,w,t,d1,q1,ρ1,g,e1,fun x H1 w1 F1 g1 aK r1=>⟨ρ1,w1,t+1,d2,q2,ρ2,g1,e2,fun y H2 w2 F2 g2 br r2=>k x y H2 w2 F1 F2 g2 (aK.trans br) (r1.gone g1.wl br) r2⟩⟩
theorem k_{r:D}{q:Nat}{w2:Wn}{t2:Nat}(k:∀ v H' w' F,Good K ρ' σ H' w' (t+1)->Go H w H' w'->Rep K H' w' (.t t) q r v F->Q v H')(g:Good K ρ σ H w t)(g2:Good K ρ' σ H2 w2 t2)(go:Go H w H2 w2)
  (rr:Rep K H2 (bG t w2) (.t t) q r v []):Q v H2:=k v H2 (bG t w2) [] g2.drop.up (go.drop g.wt) rr
def iR (p:Addr)(o:Ow)(w:Wn):Wn:=fun a=>if a=p then some o else w a
theorem lV{o:Ow}{w:Wn}:iR p o w p=some o:=Qe rfl
theorem fx{o:Ow}{w:Wn}(h:a≠p):iR p o w a=w a:=Qf h
theorem tF{ds:List D}{w1:Wn}(g:Good K ρ σ H1 w1 t)(hp:H1 p=none)(r:af K H1 w1 .f 0 ds vs []) :
  Good K ρ σ (upd H1 p (.lst vs)) (iR p (.t t) w1) (t+1)/\Go H1 w1 (upd H1 p (.lst vs)) (iR p (.t t) w1)/\Rep K (upd H1 p (.lst vs)) (iR p (.t t) w1) (.t t) 1 (.lst ds) (.ref p) [p]:=by
 have ne:∀ a x,H1 a=some x->a≠p:=fun a x e=>eQ e hp
 have nw:∀ a o,w1 a=some o->a≠p:=fun a o e=>by obtain⟨vs,q⟩:=g.wl a o e;exact ne a _ q
 have st:cL H1 w1 (upd H1 p (.lst vs)) (iR p (.t t) w1):=fun a x e n=>⟨sm (by rw[aR (ne a x e)];exact e),by rw[fx (ne a x e)];exact n⟩
 refine⟨⟨⟨fun a o e=>?_,g.wl.tb.upd rfl (.inl hp)⟩,fun a i e=>?_,fun a i e=>?_,g.len,fun i d q e=>?_⟩,⟨st,fun a o e _=>⟨aR (nw a o e),(fx (nw a o e)).trans e⟩⟩,?_⟩
 ·by_cases h:a=p
  ·subst h;exact⟨.l vs,de⟩
  ·rw[fx h]at e
   obtain⟨us,q⟩:=g.wl a o e
   exact⟨us,by rw[aR h];exact q⟩
 ·by_cases h:a=p
  ·subst h;rw[lV]at e;cases e
  ·rw[fx h]at e;exact g.ws a i e
 ·by_cases h:a=p
  ·subst h;rw[lV]at e;cases e;exact Q1 _
  ·rw[fx h]at e;exact Q6 (g.wt a i e)
 ·obtain⟨v,F,h1,h2⟩:=g.slot i d q e
  exact⟨v,F,h1,Rep.go g.wl st h2 fun a m=>⟨aR (nw a _ (h2.az a m)),(fx (nw a _ (h2.az a m))).trans (h2.az a m)⟩⟩
 ·exact .own de lV (af.go g.wl st r nM) (fun z=>nomatch z)
theorem oJ{ds:List D}{w1:Wn}(g:Good K ρ σ H1 w1 t)(hp:H1 p=none)(r:af K H1 w1 .f 0 ds vs []) :
  Good K ρ σ (upd H1 p (.tup vs)) w1 (t+1)/\Go H1 w1 (upd H1 p (.tup vs)) w1/\Rep K (upd H1 p (.tup vs)) w1 (.t t) 9 (.tup ds) (.ref p) []:=by
 have ne:∀ a x,H1 a=some x->a≠p:=fun a x e=>eQ e hp
 have nw:∀ a o,w1 a=some o->a≠p:=fun a o e=>by obtain⟨vs,q⟩:=g.wl a o e;exact ne a _ q
 have st:cL H1 w1 (upd H1 p (.tup vs)) w1:=fun a x e n=>⟨sm (by rw[aR (ne a x e)];exact e),n⟩
 refine⟨⟨⟨fun a o e=>?_,g.wl.tb.upd rfl (.inl hp)⟩,g.ws,fun a i e=>Q6 (g.wt a i e),g.len,fun i d q e=>?_⟩,⟨st,fun a o e _=>⟨aR (nw a o e),e⟩⟩,?_⟩
 ·obtain⟨us,q⟩:=g.wl a o e
  exact⟨us,by rw[aR (nw a o e)];exact q⟩
 ·obtain⟨v,F,h1,h2⟩:=g.slot i d q e
  exact⟨v,F,h1,Rep.go g.wl st h2 fun a m=>⟨aR (nw a _ (h2.az a m)),h2.az a m⟩⟩
 ·exact .tup de (af.go g.wl st r nM)
end
@[simp] def eC (d:D):aw:=fun ρ=>some (d,9,ρ)
@[simp] def ab (i:Nat):aw:=fun ρ=>match ρ[i]? with
 | some (some (d,q))=>if d.cw=false then some (d,9,ρ)else if q=0 then some (d,0,ρ)else some (d,0,ρ.set i (some (d,0)))
 | _=>none
section
variable {X:Cx}{a b c e:Expr}{fa fb fc f:aw}{pos:Pos}
theorem uU{d:D}(h:PE X e (tC v))(r:∀ K H w o q,Rep K H w o q d v []):PD X e (eC d):=PE.imp h fun σ H Q ak=>by
 obtain⟨ρ,w,t,r',q,ρ',g,ee,k⟩:=ak
 cases ee
 exact k v H w [] g.up Go.refl (r _ _ _ _ _)
theorem bc{i j}:QD X (.Constant (.int i) j pos) (eC (.int i)):=⟨uU xf fun _ _ _ _ _=>.int i⟩
theorem dM{i j}:QD X (.Constant (.bool i) j pos) (eC (.bl i)):=⟨uU KO fun _ _ _ _ _=>.bl i⟩
theorem E3{j}:QD X (.Constant .none j pos) (eC .aX):=⟨uU KP fun _ _ _ _ _=>.aX⟩
theorem oK{x j}:QD X (.Constant (.str x) j pos) (eC (.str x)):=⟨uU zq fun _ _ _ _ _=>.str x⟩
def jU (i:Nat)(w:Wn):Wn:=fun a=>if w a=some (.s i)then none else w a
theorem xN{w:Wn}{a:Addr}(h:w a=none):jU i w a=none:=by unfold jU;rw[h];rfl
theorem E4{w:Wn}{a:Addr}(h:w a=some (.s i)):jU i w a=none:=by unfold jU;rw[Qe h]
theorem xO{w:Wn}{a:Addr}{o:Ow}(h:w a=some o)(n:o ≠ .s i):jU i w a=some o:=by unfold jU;rw[Qf (by rw[h];exact fun z=>n (Qy z))];exact h
theorem tG{w:Wn}{a:Addr}{o:Ow}(h:jU i w a=some o):w a=some o/\o ≠ .s i:=by
 unfold jU at h
 split at h
 ·cases h
 ·rename_i n;exact⟨h,fun z=>n (by rw[h,z])⟩
theorem Good.give{ρ:aU}{σ:St}{w:Wn}{t:Nat}{d:D}{q:Nat}(g:Good K ρ σ H w t)(e:ρ[i]? = some (some (d,q))):Good K (ρ.set i (some (d,0))) σ H (jU i w) t/\Go H w H (jU i w):=by
 have st:cL H w H (jU i w):=fun a x h n=>⟨sm h,xN n⟩
 refine⟨⟨⟨fun a o h=>g.wl a o (tG h).1,g.wl.tb⟩,fun a j h=>g.ws a j (tG h).1,fun a j h=>g.wt a j (tG h).1,by rw[QL];exact g.len,fun j d' q' e'=>?_⟩,⟨st,fun a o h n=>⟨rfl,xO h (n i)⟩⟩⟩
 by_cases hj:i=j
 ·subst hj
  rw[QI (Qr.mp e).1]at e'
  cases e'
  obtain⟨v,F,h1,h2⟩:=g.slot i d q e
  exact⟨v,[],h1,Rep.freeze (fun a n=>xN n) h2 fun a m=>E4 (h2.az a m)⟩
 ·rw[QJ hj]at e'
  obtain⟨v,F,h1,h2⟩:=g.slot j d' q' e'
  exact⟨v,F,h1,Rep.go g.wl st h2 fun a m=>⟨rfl,xO (h2.az a m) (fun z=>hj (by cases z;rfl))⟩⟩
theorem aY{x:Str}(h:QE X (.Name x pos) (fP i)):QD X (.Name x pos) (ab i):=⟨have h:=h.o;PE.imp h fun σ H Q ak=>by
 obtain⟨ρ,w,t,r',q,ρ',g,ee,k⟩:=ak
 unfold ab at ee
 split at ee
 next d q0 e0=>
  obtain⟨v,F,h1,h2⟩:=g.slot i d q0 e0
  refine⟨v,h1,?_⟩
  split at ee
  next hl=>
   cases ee
   obtain⟨hF,hr⟩:=h2.bV hl
   exact k v H w [] g.up Go.refl ((hr 9).any g.wl)
  ·split at ee
   next hq=>
    subst hq
    cases ee
    have:=h2.zero
    subst this
    exact k v H w [] g.up Go.refl (h2.any g.wl)
   ·cases ee
    obtain⟨g',fR⟩:=g.give e0
    refine k v H (jU i w) [] g'.up fR ?_
    exact Rep.freeze (fun a n=>xN n) h2 fun a m=>E4 (h2.az a m)
 ·cases ee⟩
def la:D->Option V
 | .aX=>some .aX
 | .bl b=>some (.bl b)
 | .int i=>some (.int i)
 | .str x=>some (.str x)
 | _=>none
theorem xP{w:Wn}{o:Ow}{q:Nat}{d:D}(h:la d=some v):Rep K H w o q d v []:=by
 cases d<;>cases h
 ·exact .aX
 ·exact .bl _
 ·exact .int _
 ·exact .str _
@[simp] def e2 (g:D->D->Option D)(fa fb:aw):aw:=fun ρ=>match fa ρ with
 | some (x,_,ρ1)=>match fb ρ1 with
  | some (y,_,ρ2)=>match g x y with
   | some d=>some (d,9,ρ2)
   | none=>none
  | none=>none
 | none=>none
theorem Oz{g:D->D->Option D}{ρ ρ':aU}{r:D}{q:Nat}(h:e2 g fa fb ρ=some (r,q,ρ')):∃ x q1 ρ1 y q2,fa ρ=some (x,q1,ρ1)/\fb ρ1=some (y,q2,ρ')/\g x y=some r/\q=9:=by
 unfold e2 at h
 split at h
 next x q1 ρ1 h1=>
  split at h
  next y q2 ρ2 h2=>
   split at h
   next d hd=>
    cases h
    exact⟨x,q1,ρ1,y,q2,h1,h2,hd,rfl⟩
   ·cases h
  ·cases h
 ·cases h
theorem p9{g:D->D->Option D}(hg:∀ x y d,g x y=some d->∃ v,la d=some v/\∀ H w o o' q q' u u' F F',Rep K H w o q x u F->Rep K H w o' q' y u' F'->WL K w H->∀ Q:VK,Q v H->r u u' H Q) :
  ∀ σ H Q,tD K (e2 g fa fb) σ H Q->jh r (tD K fa) (tD K fb) σ H Q:=fun σ H Q ak=>by
 obtain⟨ρ,w,t,r',q,ρ',gd,ee,k⟩:=ak
 obtain⟨x,q1,ρ1,y,q2,h1,h2,h3,rfl⟩:=Oz ee
 obtain⟨v,hv,hr⟩:=hg x y r' h3
 exact oI gd h1 h2 fun u u' H2 w2 F1 F2 g2 go r1 r2=>hr H2 w2 _ _ _ _ u u' F1 F2 r1 r2 g2.wl Q (k_ k gd g2 go (xP hv))
@[simp] def gI (f:Int->Int->Option D):D->D->Option D
 | .int i,.int j=>f i j
 | _,_=>none
theorem p_{f:Int->Int->Option D}{x y d:D}(h:gI f x y=some d):∃ i j,x=.int i/\y=.int j/\f i j=some d:=by
 unfold gI at h
 split at h
 ·exact⟨_,_,rfl,rfl,h⟩
 ·cases h
theorem dN{w:Wn}{o:Ow}{q:Nat}{i:Int}(r:Rep K H w o q (.int i) v F):v=.int i:=by cases r;rfl
theorem AD{f:Int->Int->Option D}{C:Int->Int->Prop}(hf:∀ i j d,f i j=some d->C i j/\la d=some (h i j)) :
  ∀ σ H Q,tD K (e2 (gI f) fa fb) σ H Q->jh (rI C h) (tD K fa) (tD K fb) σ H Q:=
 p9 fun x y d e=>by
  obtain⟨i,j,rfl,rfl,e⟩:=p_ e
  obtain⟨c,s⟩:=hf i j d e
  exact⟨_,s,fun H w o o' q q' u u' F F' r1 r2 _ Q hq=>⟨i,j,dN r1,dN r2,c,hq⟩⟩
theorem uV{f:Int->Int->Option D}(hf:∀ i j d,f i j=some d->la d=some (h i j)) :
  ∀ σ H Q,tD K (e2 (gI f) fa fb) σ H Q->jh (jS h) (tD K fa) (tD K fb) σ H Q:=
 p9 fun x y d e=>by
  obtain⟨i,j,rfl,rfl,e⟩:=p_ e
  exact⟨_,hf i j d e,fun H w o o' q q' u u' F F' r1 r2 _ Q hq=>⟨i,j,dN r1,dN r2,hq⟩⟩
@[simp] def dY:D->D->Option D:=gI fun i j=>some (.int (i+j))
@[simp] def fS:D->D->Option D:=gI fun i j=>some (.int (i-j))
@[simp] def uW:D->D->Option D:=gI fun i j=>if(-(2 ^ 64)<i/\i<2 ^ 64)\/(-(2 ^ 64)<j/\j<2 ^ 64)then some (.int (i*j))else none
@[simp] def E5:D->D->Option D:=gI fun i j=>if 0<j/\j<1073741824 then some (.int (i / j))else none
@[simp] def uX:D->D->Option D:=gI fun i j=>if 0<j then some (.int (i % j))else none
theorem kg(ha:QD X a fa)(hb:QD X b fb):QD X (.BinOp a .Add b pos) (e2 dY fa fb):=⟨have ha:=ha.o;have hb:=hb.o;PE.imp (nJ LP ha hb) (uV fun i j d h=>by cases h;rfl)⟩
theorem mP(ha:QD X a fa)(hb:QD X b fb):QD X (.BinOp a .Sub b pos) (e2 fS fa fb):=⟨have ha:=ha.o;have hb:=hb.o;PE.imp (nJ LQ ha hb) (uV fun i j d h=>by cases h;rfl)⟩
theorem xQ(ha:QD X a fa)(hb:QD X b fb):QD X (.BinOp a .Mult b pos) (e2 uW fa fb):=⟨have ha:=ha.o;have hb:=hb.o;PE.imp (nJ LR ha hb) (AD fun i j d h=>by
 split at h
 ·cases h;exact⟨by assumption,rfl⟩
 ·cases h)⟩
theorem OA(ha:QD X a fa)(hb:QD X b fb):QD X (.BinOp a .FloorDiv b pos) (e2 E5 fa fb):=⟨have ha:=ha.o;have hb:=hb.o;PE.imp (nJ LS ha hb) (AD fun i j d h=>by
 split at h
 ·cases h;exact⟨by assumption,rfl⟩
 ·cases h)⟩
theorem xR(ha:QD X a fa)(hb:QD X b fb):QD X (.BinOp a .Mod b pos) (e2 uX fa fb):=⟨have ha:=ha.o;have hb:=hb.o;PE.imp (nJ LU ha hb) (AD fun i j d h=>by
 split at h
 ·cases h;exact⟨by assumption,rfl⟩
 ·cases h)⟩
def dO:D->Int->Option D
 | .lst ds,i=>eR ds i
 | .tup ds,i=>eR ds i
 | _,_=>none
@[simp] def eT (fa fb:aw):aw:=fun ρ=>match fa ρ with
 | some (x,_,ρ1)=>match fb ρ1 with
  | some (.int i,_,ρ2)=>match dO x i with
   | some d=>some (d,cj d,ρ2)
   | none=>none
  | _=>none
 | none=>none
theorem Rep.oM{w:Wn}{o:Ow}{q:Nat}{ds:List D}(r:Rep K H w o q (.lst ds) v F):∃ a vs q' G,v=.ref a/\cK K H a vs/\af K H w o q' ds vs G:=by
 cases r with
 | kl h r=>exact⟨_,_,_,_,rfl,h.sq,r⟩
 | shr h n r=>exact⟨_,_,_,_,rfl,.inl h,r⟩
 | own h n r _=>exact⟨_,_,_,_,rfl,cK.of h,r⟩
theorem Rep.gE{w:Wn}{o:Ow}{ds:List D}(r:Rep K H w o 0 (.lst ds) v F):∃ a vs,v=.ref a/\cK K H a vs/\af K H w o 0 ds vs []:=by
 cases r with
 | kl h r=>exact⟨_,_,rfl,h.sq,r⟩
 | shr h n r=>exact⟨_,_,rfl,.inl h,r⟩
theorem Rep.eF{w:Wn}{o:Ow}{q:Nat}{ds:List D}(r:Rep K H w o q (.tup ds) v F):∃ a vs,v=.ref a/\cE K H a vs/\af K H w o 0 ds vs []:=by
 cases r with
 | tup h r=>exact⟨_,_,rfl,cE.of h,r⟩
theorem Rep.qc{w:Wn}{o:Ow}{q:Nat}{ds:List D}(r:Rep K H w o q (.tup ds) v F):∃ a vs,v=.ref a/\H a=some (.tup vs)/\af K H w o 0 ds vs []:=by
 cases r with
 | tup h r=>exact⟨_,_,rfl,h,r⟩
theorem af.eR{w:Wn}{o:Ow}{ds:List D}{i:Int}{d:D}(r:af K H w o 0 ds vs [])(h:L2.eR ds i=some d):∃ v,L2.eR vs i=some v/\Rep K H w o 0 d v []:=by
 unfold L2.eR at h ⊢
 rw[<- r.length]
 cases e:oy ds.length i with
 | none=>rw[e]at h;cases h
 | some j=>
  rw[e]at h
  exact r.get h
theorem fT(ha:QD X a fa)(hb:QD X b fb)(hs:uE b:=by exact fun _ _=>rfl):QD X (.Subscript a b pos) (eT fa fb):=⟨have ha:=ha.o;have hb:=hb.o;PE.imp (xp xq ha hb hs) fun σ H Q ak=>by
 obtain⟨ρ,w,t,r',q,ρ',gd,ee,k⟩:=ak
 unfold eT at ee
 split at ee
 next x q1 ρ1 h1=>
  split at ee
  next i q2 ρ2 h2=>
   split at ee
   next d hd=>
    cases ee
    refine oI gd h1 h2 fun u u' H2 w2 F1 F2 g2 go r1 r2=>?_
    have AE:=dN r2
    subst AE
    have r0:=r1.drop (o:=.t t) (Qd t)
    cases x with
    | lst ds=>
     obtain⟨p,vs,rfl,hq,rs⟩:=r0.gE
     obtain⟨v,hv,rv⟩:=rs.eR hd
     exact .inl ⟨p,vs,i,v,rfl,rfl,hq,hv,k_ k gd g2 go rv.jj⟩
    | tup ds=>
     obtain⟨p,vs,rfl,hq,rs⟩:=r0.eF
     obtain⟨v,hv,rv⟩:=rs.eR hd
     exact .inr (.inl ⟨p,vs,i,v,rfl,rfl,hq,hv,k_ k gd g2 go rv.jj⟩)
    | _=>cases hd
   ·cases ee
  ·cases ee
 ·cases ee⟩
abbrev bQ:=aU->Option (List D×aU)
def AF (K:PySem.W.Frag)(f:bQ):TA:=fun σ H Q=>∃ ρ w t ds ρ',Good K ρ σ H w t/\f ρ=some (ds,ρ')/\∀ vs H' w',Good K ρ' σ H' w' t->Go H w H' w'->af K H' w' .f 0 ds vs []->Q vs H'
abbrev E6 (X:Cx)(es:List Expr)(f:bQ):Prop:=PA X es (AF X.K f)
structure fU (X:Cx) (e:List Expr) (f:bQ):Prop where mk::o:E6 X e f
theorem PA.imp{X:Cx}{e:List Expr}{t t':TA}(h:PA X e t)(i:∀ σ H Q,t' σ H Q->t σ H Q):PA X e t':=fun pos pins s σ H Q I q=>h pos pins s σ H Q I (i σ H Q q)
@[simp] def ag:bQ:=fun ρ=>some ([],ρ)
@[simp] def aa (f:aw)(g:bQ):bQ:=fun ρ=>match f ρ with
 | some (d,_,ρ1)=>match g ρ1 with
  | some (ds,ρ2)=>some (d::ds,ρ2)
  | none=>none
 | none=>none
theorem aj:fU X [] ag:=⟨PA.imp pV fun σ H Q ak=>by
 obtain⟨ρ,w,t,ds,ρ',gd,ee,k⟩:=ak
 cases ee
 exact k [] H w gd Go.refl .nil⟩
theorem ao{g:bQ}(ha:QD X e f)(hr:fU X es g)(hs:starEach (e::es) X.env=(false,eval e X.env)::starEach es X.env:=by rfl):fU X (e::es) (aa f g):=⟨have ha:=ha.o;have hr:=hr.o;PA.imp (mB ha hr hs) fun σ H Q ak=>by
 obtain⟨ρ,w,t,ds,ρ',gd,ee,k⟩:=ak
 unfold aa at ee
 split at ee
 next d q ρ1 h1=>
  split at ee
  next ba ρ2 h2=>
   cases ee
   refine⟨ρ,w,t,d,q,ρ1,gd,h1,fun x H1 w1 F1 g1 aK r1=>⟨ρ1,bG t w1,t,ba,_,g1.drop,h2,fun vs H2 w2 g2 br r2=>?_⟩⟩
   have gl:=(g1.drop (t':=t)).wl
   have r0:Rep X.K H2 w2 .f 0 d x []:=Rep.go gl br.bB (r1.drop (o:=.f) (Qd t)) nM
   exact k (x::vs) H2 w2 g2 ((aK.drop gd.wt).trans br) (.cons (F:=[]) (G:=[]) r0 r2 nM)
  ·cases ee
 ·cases ee⟩
@[simp] def kh (g:bQ):aw:=fun ρ=>match g ρ with
 | some (ds,ρ1)=>if ds.length<=1000 then some (.lst ds,1,ρ1)else none
 | none=>none
@[simp] def bg (g:bQ):aw:=fun ρ=>match g ρ with
 | some (ds,ρ1)=>if ds.length<=1000 then some (.tup ds,9,ρ1)else none
 | none=>none
theorem qd(h:n<=1000):n<=sizeLine:=Zi (lU h)
theorem nQ{g:bQ}(h:fU X es g):QD X (.List es pos) (kh g):=⟨have h:=h.o;PE.imp (Mx h) fun σ H Q ak=>by
 obtain⟨ρ,w,t,r',q,ρ',gd,ee,k⟩:=ak
 unfold kh at ee
 split at ee
 next ds ρ1 h1=>
  split at ee
  next hl=>
   cases ee
   refine⟨ρ,w,t,ds,_,gd,h1,fun vs H1 w1 g1 aK r1=>⟨by rw[<- r1.length];exact qd hl,fun p hp=>?_⟩⟩
   obtain⟨a1,a2,a3⟩:=tF g1 hp r1
   exact k _ _ _ _ a1 (aK.trans a2) a3
  ·cases ee
 ·cases ee⟩
theorem bN{g:bQ}{x1}(h:fU X es g):QD X (.Tuple es x1 pos) (bg g):=⟨have h:=h.o;PE.imp (Mw h) fun σ H Q ak=>by
 obtain⟨ρ,w,t,r',q,ρ',gd,ee,k⟩:=ak
 unfold bg at ee
 split at ee
 next ds ρ1 h1=>
  split at ee
  next hl=>
   cases ee
   refine⟨ρ,w,t,ds,_,gd,h1,fun vs H1 w1 g1 aK r1=>⟨by rw[<- r1.length];exact qd hl,fun p hp=>?_⟩⟩
   obtain⟨a1,a2,a3⟩:=oJ g1 hp r1
   exact k _ _ _ _ a1 (aK.trans a2) a3
  ·cases ee
 ·cases ee⟩
def kJ (K:PySem.W.Frag)(n:Nat)(F:List D->OD):Sp:=fun vs H Q _=>vs.length=n/\∃ ds w r q,(∀ a o,w a=some o->o=.f)/\WL K w H/\af K H w .f 0 ds vs []/\F ds=some (r,q) /\
 ∀ v H' w' Fo,Go H w H' w'->WL K w' H'->Rep K H' w' (.t 0) q r v Fo->Q v H'
@[simp] def aB (F:List D->OD)(n:Nat)(g:bQ):aw:=fun ρ=>match g ρ with
 | some (ds,ρ1)=>if ds.length=n then match F ds with
  | some (r,q)=>some (r,q,ρ1)
  | none=>none
  else none
 | none=>none
theorem nR{ρ:aU}{σ:St}{w w':Wn}{t q:Nat}{d:D}{Fo:List Addr}(g:Good K ρ σ H w t)
  (go:Go H (fun a=>(w a).map fun _=>Ow.f) H' w') (lX:WL K w' H') (r:Rep K H' w' (.t 0) q d v Fo) :
  Good K ρ σ H' (fun a=>if a∈Fo then some (.t t)else w a) (t+1)/\Go H w H' (fun a=>if a∈Fo then some (.t t)else w a)/\Rep K H' (fun a=>if a∈Fo then some (.t t)else w a) (.t t) q d v Fo:=by
 have kf:∀ a o,w a=some o->H' a=H a/\w' a=some .f:=fun a o e=>go.keep a .f (by show(w a).map _=_;rw[e];rfl) (fun _ z=>nomatch z)
 have nf:∀ a x,H a=some x->a ∉ Fo:=fun a x e m=>by
  have h1:=r.az a m
  cases ew:w a with
  | none=>
   have:=(go.bB a x e (by show(w a).map _=_;rw[ew];rfl)).2
   rw[h1]at this;cases this
  | some o=>rw[(kf a o ew).2]at h1;cases h1
 have nw:∀ a o,w a=some o->a ∉ Fo:=fun a o e=>by obtain⟨vs,q⟩:=g.wl a o e;exact nf a _ q
 have st:cL H w H' (fun a=>if a∈Fo then some (.t t)else w a):=fun a x e n=>⟨(go.bB a x e (by show(w a).map _=_;rw[n];rfl)).1,by show(if a∈Fo then _ else _)=_;rw[Qf (nf a x e)];exact n⟩
 have wv:∀ a o,(if a∈Fo then some (Ow.t t)else w a)=some o->(a∈Fo/\o=.t t)\/w a=some o:=fun a o e=>by
  split at e
  ·cases e;exact .inl ⟨by assumption,rfl⟩
  ·exact .inr e
 refine⟨⟨⟨fun a o e=>?_,lX.tb⟩,fun a i e=>?_,fun a i e=>?_,g.len,fun i d q e=>?_⟩,⟨st,fun a o e _=>⟨(kf a o e).1,by show(if a∈Fo then _ else _)=_;rw[Qf (nw a o e)];exact e⟩⟩,?_⟩
 ·rcases wv a o e with⟨m,_⟩|z
  ·exact lX a _ (r.az a m)
  ·obtain⟨vs,h⟩:=g.wl a o z
   exact⟨vs,(kf a o z).1.trans h⟩
 ·rcases wv a _ e with⟨_,z⟩|z
  ·cases z
  ·exact g.ws a i z
 ·rcases wv a _ e with⟨_,z⟩|z
  ·cases z;exact Q1 _
  ·exact Q6 (g.wt a i z)
 ·obtain⟨v,F,h1,h2⟩:=g.slot i d q e
  refine⟨v,F,h1,Rep.go g.wl st h2 fun a m=>⟨(kf a _ (h2.az a m)).1,?_⟩⟩
  show(if a∈Fo then _ else _)=_
  rw[Qf (nw a _ (h2.az a m))]
  exact h2.az a m
 ·refine Rep.go lX (fun a x e n=>⟨sm e,?_⟩) r fun a m=>⟨rfl,Qe m⟩
  show(if a∈Fo then _ else _)=_
  rw[Qf (fun m=>by have:=r.az a m;rw[n]at this;cases this)]
  cases ew:w a with
  | none=>rfl
  | some o=>have:=(kf a o ew).2;rw[n]at this;cases this
theorem OB{CX:mC}{k:Nat}{fn:Addr}{x:Str}{p:Pos}{F:List D->OD}{g:bQ}(Fk:bY X.prog X.w X.K X.mg X.base CX k fn fd ps (kJ X.K n F))(hr:aF k X.A)(hm:X.mg x=some (.ref fn))(hk:PySem.W.keepIn X.K (.ref fn)=true)(hb:jT X.K fd ps [])
  (hx:pW CX X E) (ha:E6 X (e::es) g) (hg:Gl X x:=by rfl) (iP:(x==("__debug__":Str))=false:=by decide) (he:starEach (e::es) X.env=(false,eval e X.env)::starEach es X.env:=by rfl) (bT:(backTo pos (starEach es X.env)).any (·.1)=false:=by rfl) :
  PD X (.Call (.Name x p) (e::es) [] pos) (aB F n g):=PE.imp (Ej Fk hr hg hm hk hb .nil hx ha iP he bT) fun σ H Q ak=>by
 obtain⟨ρ,w,t,r',q,ρ',gd,ee,k⟩:=ak
 unfold aB at ee
 split at ee
 next ds ρ1 h1=>
  split at ee
  next hn=>
   split at ee
   next r0 q0 h2=>
    cases ee
    refine⟨ρ,w,t,ds,_,gd,h1,fun vs H1 w1 g1 aK r1=>?_⟩
    show kJ X.K n F (vs++[]) H1 Q E
    rw[Zj]
    refine⟨by rw[<- r1.length];exact hn,ds,fun a=>(w1 a).map fun _=>Ow.f,r',q,fun a o e=>?_,⟨fun a o e=>?_,g1.wl.tb⟩,?_,h2,fun v H2 w2 Fo br lg rr=>?_⟩
    ·dsimp only at e
     cases ew:w1 a with
     | none=>rw[ew]at e;cases e
     | some o'=>rw[ew]at e;cases e;rfl
    ·try dsimp only at e
     cases ew:w1 a with
     | none=>rw[ew]at e;cases e
     | some o'=>exact g1.wl a o' ew
    ·exact af.freeze (fun a n=>by show(w1 a).map _=_;rw[n];rfl) r1 nM
    ·obtain⟨b1,b2,b3⟩:=nR g1 br lg rr
     exact k _ _ _ _ b1 (aK.trans b2) b3
   ·cases ee
  ·cases ee
 ·cases ee
end
abbrev cD:=aU->Option (Bool×aU)
def rG (K:PySem.W.Frag)(f:cD):TT:=fun σ H Q=>∃ ρ w t b ρ',Good K ρ σ H w t/\f ρ=some (b,ρ')/\∀ H' w',Good K ρ' σ H' w' t->Go H w H' w'->Q b H'
theorem PT.imp{t t':TT}(h:PT X e t)(i:∀ σ H Q,t' σ H Q->t σ H Q):PT X e t':=fun pins s σ H Q I q=>h pins s σ H Q I (i σ H Q q)
theorem PW.imp{t t':TT}(h:PW X e t)(i:∀ σ H Q,t' σ H Q->t σ H Q):PW X e t':=fun whole pins s σ H Q I q=>h whole pins s σ H Q I (i σ H Q q)
abbrev AG (X:Cx)(e:Expr)(f:cD):Prop:=PT X e (rG X.K f)
structure hZ (X:Cx) (e:Expr) (f:cD):Prop where mk::o:AG X e f
abbrev OC (X:Cx)(e:Expr)(f:cD):Prop:=PW X e (rG X.K f)
structure rH (X:Cx) (e:Expr) (f:cD):Prop where mk::o:OC X e f
@[simp] def OE:D->Option Bool
 | .aX=>some false
 | .bl b=>some b
 | .int i=>some (i != 0)
 | .tup ds=>some (!ds.isEmpty)
 | .lst ds=>some (!ds.isEmpty)
 | .str _=>none
 | .gC _ _=>none
 | .exc _=>none
 | .ob _ _ _ _=>none
 | .mp _ _=>none
@[simp] def dP (f:aw):cD:=fun ρ=>match f ρ with
 | some (d,_,ρ1)=>match OE d with
  | some b=>some (b,ρ1)
  | none=>none
 | none=>none
section
variable {X:Cx}{a b c e:Expr}{fa fb fc f:aw}{ga gb gc:cD}{pos:Pos}
theorem xS{α β:Type}{l:List α}{l':List β}(h:l.length=l'.length):(!l.isEmpty) = !l'.isEmpty:=by
 cases l<;>cases l'<;>first|rfl|cases h
theorem gk(ha:QD X a fa)(he:∀ whole,isTrue a X.env whole=(do let v <- whole;standAt a.pos;holding [v] (truthy v)):=by exact fun _=>rfl):hZ X a (dP fa):=⟨have ha:=ha.o;PT.imp (L8 ha he) fun σ H Q ak=>by
 obtain⟨ρ,w,t,b,ρ',gd,ee,k⟩:=ak
 unfold dP at ee
 split at ee
 next d q ρ1 h1=>
  split at ee
  next b' hb=>
   cases ee
   refine⟨ρ,w,t,d,q,_,gd,h1,fun v H1 w1 F g1 aK r1=>⟨b,?_,k H1 (bG t w1) g1.drop (aK.drop gd.wt)⟩⟩
   cases r1 with
   | aX=>cases hb;rfl
   | bl x=>cases hb;rfl
   | int i=>cases hb;rfl
   | str x=>cases hb
   | tup h r=>cases hb;exact .inr (.inl ⟨_,cE.of h,xS r.length⟩)
   | gC h e r=>cases hb
   | exc h x n=>cases hb
   | ob h1 h2 x r=>cases hb
   | kl h r=>cases hb;exact .inl ⟨_,h.sq,xS r.length⟩
   | shr h _ r=>cases hb;exact .inl ⟨_,.inl h,xS r.length⟩
   | own h _ r _=>cases hb;exact .inl ⟨_,cK.of h,xS r.length⟩
   | mO h _ _ _ _=>cases hb
   | gD h _ _ _ _=>cases hb
  ·cases ee
 ·cases ee⟩
@[simp] def bJ (f:aw):cD:=fun ρ=>match f ρ with
 | some (.bl b,_,ρ1)=>some (b,ρ1)
 | _=>none
theorem E7(h:∀ σ H Q,tD K f σ H Q->te σ H Q):∀ σ H Q,rG K (bJ f) σ H Q->zH te σ H Q:=fun σ H Q ak=>by
 obtain⟨ρ,w,t,b,ρ',gd,ee,k⟩:=ak
 unfold bJ at ee
 split at ee
 next b' q ρ1 h1=>
  cases ee
  refine h σ H _ ⟨ρ,w,t,.bl b,q,_,gd,h1,fun v H1 w1 F g1 aK r1=>?_⟩
  cases r1
  exact⟨b,rfl,k H1 (bG t w1) g1.drop (aK.drop gd.wt)⟩
 ·cases ee
theorem rJ{g:D->D->Option D}(ho:b_ X (compareOp op) r)(hr:∀ σ H Q,tD X.K (e2 g fa fb) σ H Q->jh r (tD X.K fa) (tD X.K fb) σ H Q)(ha:PD X a fa)(hb:PD X b fb)(hm:behindInMarks op b=false) :
  AG X (.Compare a [op] [b] pos) (bJ (e2 g fa fb)):=PT.imp (LZ ho ha hb hm) (E7 hr)
theorem AH{g:D->D->Option D}(ho:b_ X (compareOp op) r)(hr:∀ σ H Q,tD X.K (e2 g fa fb) σ H Q->jh r (tD X.K fa) (tD X.K fb) σ H Q)(ha:PD X a fa)(hb:PD X b fb)(hm:behindInMarks op b=false) :
  PD X (.Compare a [op] [b] pos) (e2 g fa fb):=PE.imp (LY ho ha hb hm) hr
@[simp] def lY:D->D->Option D:=gI fun i j=>some (.bl (decide (i<j)))
@[simp] def tH:D->D->Option D:=gI fun i j=>some (.bl (decide (i<=j)))
@[simp] def AI:D->D->Option D:=gI fun i j=>some (.bl (decide (j<i)))
@[simp] def AJ:D->D->Option D:=gI fun i j=>some (.bl (decide (j<=i)))
theorem OF:∀ σ H Q,tD K (e2 lY fa fb) σ H Q->jh (jS fun i j=>.bl (decide (i<j))) (tD K fa) (tD K fb) σ H Q:=uV fun i j d h=>by cases h;rfl
theorem OG:∀ σ H Q,tD K (e2 AI fa fb) σ H Q->jh (jS fun i j=>.bl (decide (j<i))) (tD K fa) (tD K fb) σ H Q:=uV fun i j d h=>by cases h;rfl
theorem OH:∀ σ H Q,tD K (e2 AJ fa fb) σ H Q->jh (jS fun i j=>.bl (decide (j<=i))) (tD K fa) (tD K fb) σ H Q:=uV fun i j d h=>by cases h;rfl
theorem xT(ha:QD X a fa)(hb:QD X b fb):hZ X (.Compare a [.Lt] [b] pos) (bJ (e2 lY fa fb)):=⟨have ha:=ha.o;have hb:=hb.o;rJ Eb OF ha hb (pS _)⟩
theorem OI(ha:QD X a fa)(hb:QD X b fb):hZ X (.Compare a [.Gt] [b] pos) (bJ (e2 AI fa fb)):=⟨have ha:=ha.o;have hb:=hb.o;rJ LW OG ha hb (pS _)⟩
theorem OJ(ha:QD X a fa)(hb:QD X b fb):hZ X (.Compare a [.GtE] [b] pos) (bJ (e2 AJ fa fb)):=⟨have ha:=ha.o;have hb:=hb.o;rJ LX OH ha hb (pS _)⟩
@[simp] def eU (g:cD):cD:=fun ρ=>match g ρ with
 | some (b,ρ1)=>some (!b,ρ1)
 | none=>none
theorem iy(ha:hZ X a ga):hZ X (.UnaryOp .Not a pos) (eU ga):=⟨have ha:=ha.o;PT.imp (K4 ha) fun σ H Q ak=>by
 obtain⟨ρ,w,t,b,ρ',gd,ee,k⟩:=ak
 unfold eU at ee
 split at ee
 next b' ρ1 h1=>
  cases ee
  exact⟨ρ,w,t,b',_,gd,h1,fun H1 w1 g1 aK=>k H1 w1 g1 aK⟩
 ·cases ee⟩
@[simp] def AK (g h:cD):cD:=fun ρ=>match g ρ with
 | some (b,ρ1)=>if b=true then h ρ1 else some (false,ρ1)
 | none=>none
@[simp] def ki (g h:cD):cD:=fun ρ=>match g ρ with
 | some (b,ρ1)=>if b=true then some (true,ρ1)else h ρ1
 | none=>none
variable {bE:List Expr}
theorem OK(ha:hZ X a ga):rH X (.BoolOp .And [a] pos) ga:=⟨have ha:=ha.o;K0 ha⟩
theorem qe(ha:hZ X a ga):rH X (.BoolOp .Or [a] pos) ga:=⟨have ha:=ha.o;K1 ha⟩
theorem OL(ha:hZ X a ga)(hb:rH X (.BoolOp .And (b::bE) pos) gb):rH X (.BoolOp .And (a::b::bE) pos) (AK ga gb):=⟨have ha:=ha.o;have hb:=hb.o;PW.imp (K2 ha hb) fun σ H Q ak=>by
 obtain⟨ρ,w,t,b,ρ',gd,ee,k⟩:=ak
 unfold AK at ee
 split at ee
 next b' ρ1 h1=>
  refine⟨ρ,w,t,b',ρ1,gd,h1,fun H1 w1 g1 aK=>?_⟩
  split at ee
  ·rename_i hb;rw[Qe hb]
   exact⟨ρ1,w1,t,b,ρ',g1,ee,fun H2 w2 g2 br=>k H2 w2 g2 (aK.trans br)⟩
  ·rename_i hb;rw[Qf hb]
   cases ee
   exact k H1 w1 g1 aK
 ·cases ee⟩
theorem oN(ha:hZ X a ga)(hb:rH X (.BoolOp .Or (b::bE) pos) gb):rH X (.BoolOp .Or (a::b::bE) pos) (ki ga gb):=⟨have ha:=ha.o;have hb:=hb.o;PW.imp (K3 ha hb) fun σ H Q ak=>by
 obtain⟨ρ,w,t,b,ρ',gd,ee,k⟩:=ak
 unfold ki at ee
 split at ee
 next b' ρ1 h1=>
  refine⟨ρ,w,t,b',ρ1,gd,h1,fun H1 w1 g1 aK=>?_⟩
  split at ee
  ·rename_i hb;rw[Qe hb]
   cases ee
   exact k H1 w1 g1 aK
  ·rename_i hb;rw[Qf hb]
   exact⟨ρ1,w1,t,b,ρ',g1,ee,fun H2 w2 g2 br=>k H2 w2 g2 (aK.trans br)⟩
 ·cases ee⟩
@[simp] def oO (g:cD)(fa fb:aw):aw:=fun ρ=>match g ρ with
 | some (b,ρ1)=>if b=true then fa ρ1 else fb ρ1
 | none=>none
theorem AL(hc:hZ X c gc)(ha:QD X a fa)(hb:QD X b fb):QD X (.IfExp c a b pos) (oO gc fa fb):=⟨have hc:=hc.o;have ha:=ha.o;have hb:=hb.o;PE.imp (La hc ha hb) fun σ H Q ak=>by
 obtain⟨ρ,w,t,r',q,ρ',gd,ee,k⟩:=ak
 unfold oO at ee
 split at ee
 next b' ρ1 h1=>
  refine⟨ρ,w,t,b',ρ1,gd,h1,fun H1 w1 g1 aK=>?_⟩
  split at ee
  ·rename_i hb;rw[Qe hb]
   exact⟨ρ1,w1,t,r',q,ρ',g1,ee,fun v H2 w2 F g2 br=>k v H2 w2 F g2 (aK.trans br)⟩
  ·rename_i hb;rw[Qf hb]
   exact⟨ρ1,w1,t,r',q,ρ',g1,ee,fun v H2 w2 F g2 br=>k v H2 w2 F g2 (aK.trans br)⟩
 ·cases ee⟩
end
inductive Out where
 | nx (ρ:aU)|rt (d:D) (q:Nat)|bk (ρ:aU)|ct (ρ:aU)
abbrev av:=aU->Option Out
def nS (K:PySem.W.Frag)(Dn:Ends)(n:Nat)(H:Hp)(w:Wn):Out->Prop
 | .nx ρ'=>∀ aM H' w',aM.length=n->Good K ρ' aM H' w' 0->Go H w H' w'->Dn.nx aM H'
 | .bk ρ'=>∀ aM H' w',aM.length=n->Good K ρ' aM H' w' 0->Go H w H' w'->Dn.bk aM H'
 | .ct ρ'=>∀ aM H' w',aM.length=n->Good K ρ' aM H' w' 0->Go H w H' w'->Dn.ct aM H'
 | .rt d q=>∀ v H' w' F,WL K w' H'->Go H w H' w'->Rep K H' w' (.t 0) q d v F->Dn.rt v H'
def uY (K:PySem.W.Frag)(f:av):TS:=fun Dn σ H=>∃ ρ w o,Good K ρ σ H w 0/\f ρ=some o/\nS K Dn σ.length H w o
theorem PS.imp{e:Stmt}{t t':TS}(h:PS X e t)(i:∀ D σ H,t' D σ H->t D σ H):PS X e t':=fun pins s σ H D I q=>h pins s σ H D I (i D σ H q)
theorem iM.imp{e:List Stmt}{t t':TS}(h:iM X e t)(i:∀ D σ H,t' D σ H->t D σ H):iM X e t':=fun pins s σ H D I q=>h pins s σ H D I (i D σ H q)
abbrev OM (X:Cx)(st:Stmt)(f:av):Prop:=PS X st (uY X.K f)
structure km (X:Cx) (e:Stmt) (f:av):Prop where mk::o:OM X e f
abbrev qf (X:Cx)(st:List Stmt)(f:av):Prop:=iM X st (uY X.K f)
structure eG (X:Cx) (e:List Stmt) (f:av):Prop where mk::o:qf X e f
@[simp] def cM:av:=fun ρ=>some (.nx ρ)
@[simp] def aG (f g:av):av:=fun ρ=>match f ρ with
 | some (.nx ρ1)=>g ρ1
 | o=>o
theorem nS.trans{Dn:Ends}{w w1:Wn}(go:Go H w H1 w1):∀ {o:Out},nS K Dn n H w o->nS K Dn n H1 w1 o
 | .nx _,h=>fun aM H' w' e g fR=>h aM H' w' e g (go.trans fR)
 | .bk _,h=>fun aM H' w' e g fR=>h aM H' w' e g (go.trans fR)
 | .ct _,h=>fun aM H' w' e g fR=>h aM H' w' e g (go.trans fR)
 | .rt _ _,h=>fun v H' w' F wl fR=>h v H' w' F wl (go.trans fR)
section
variable {X:Cx}{a b c e:Expr}{fa fb fc f:aw}{ga gb gc:cD}{pos:Pos}{st:Stmt}{bE sa sb:List Stmt}{s s':av}
theorem dt:eG X [] cM:=⟨iM.imp Le fun D σ H ak=>by
 obtain⟨ρ,w,o,g,ee,k⟩:=ak
 cases ee
 exact k σ H w rfl g Go.refl⟩
theorem aL(h1:km X st s)(h2:eG X bE s'):eG X (st::bE) (aG s s'):=⟨have h1:=h1.o;have h2:=h2.o;iM.imp (Lf h1 h2) fun D σ H ak=>by
 obtain⟨ρ,w,o,g,ee,k⟩:=ak
 unfold aG at ee
 split at ee
 next ρ1 h1=>
  exact⟨ρ,w,.nx ρ1,g,h1,fun aM H' w' e g' fR=>⟨ρ1,w',o,g',ee,by rw[e];exact k.trans fR⟩⟩
 next cR=>
  refine⟨ρ,w,o,g,ee,?_⟩
  cases o with
  | nx ρ1=>exact absurd ee (cR ρ1)
  | bk ρ1=>exact k
  | ct ρ1=>exact k
  | rt d q=>exact k⟩
theorem aC(h1:km X st s):eG X [st] s:=⟨have h1:=h1.o;Lg h1⟩
@[simp] def aV (f:aw):av:=fun ρ=>match f ρ with
 | some (d,q,_)=>some (.rt d q)
 | none=>none
theorem aZ(h:QD X e f):km X (.Return (some e) pos) (aV f):=⟨have h:=h.o;PS.imp (D4 h) fun D σ H ak=>by
 obtain⟨ρ,w,o,g,ee,k⟩:=ak
 unfold aV at ee
 split at ee
 next d q ρ1 h1=>
  cases ee
  exact⟨ρ,w,0,d,q,ρ1,g,h1,fun v H' w' F g' fR r=>k v H' w' F g'.wl fR r⟩
 ·cases ee⟩
@[simp] def cy (g:cD)(s s':av):av:=fun ρ=>match g ρ with
 | some (b,ρ1)=>if b=true then s ρ1 else s' ρ1
 | none=>none
theorem du(hc:hZ X c gc)(ha:eG X sa s)(hb:eG X sb s'):km X (.If c sa sb pos) (cy gc s s'):=⟨have hc:=hc.o;have ha:=ha.o;have hb:=hb.o;PS.imp (Ll hc ha hb) fun D σ H ak=>by
 obtain⟨ρ,w,o,g,ee,k⟩:=ak
 unfold cy at ee
 split at ee
 next b' ρ1 h1=>
  refine⟨ρ,w,0,b',ρ1,g,h1,fun H1 w1 g1 aK=>?_⟩
  split at ee
  ·rename_i hb;rw[Qe hb]
   exact⟨ρ1,w1,o,g1,ee,k.trans aK⟩
  ·rename_i hb;rw[Qf hb]
   exact⟨ρ1,w1,o,g1,ee,k.trans aK⟩
 ·cases ee⟩
def lh (t i:Nat)(w:Wn):Wn:=fun a=>if w a=some (.t t)then some (.s i)else if w a=some (.s i)then none else w a
theorem Good.set{ρ:aU}{σ:St}{w:Wn}{q:Nat}{d:D}(g:Good K ρ σ H w 1)(hi:i<σ.length)(r:Rep K H w (.t 0) q d v F) :
  Good K (ρ.set i (some (d,q))) (σ.set i (some v)) H (lh 0 i w) 0/\∀ cU oQ,Go cU oQ H w->(∀ a j,oQ a=some (.t j)->j<0)->Go cU oQ H (lh 0 i w):=by
 have mN:∀ a,w a=none->lh 0 i w a=none:=fun a e=>by unfold lh;rw[e];rfl
 have mT:∀ a,w a=some (.t 0)->lh 0 i w a=some (.s i):=fun a e=>by unfold lh;rw[Qe e]
 have mS:∀ a j,w a=some (.s j)->j≠i->lh 0 i w a=some (.s j):=fun a j e n=>by
  unfold lh
  rw[Qf (by rw[e];exact fun z=>nomatch z),Qf (by rw[e];intro z;cases z;exact n rfl)]
  exact e
 have mF:∀ a,w a=some .f->lh 0 i w a=some .f:=fun a e=>by
  unfold lh
  rw[Qf (by rw[e];exact fun z=>nomatch z),Qf (by rw[e];exact fun z=>nomatch z)]
  exact e
 have mI:∀ a o,lh 0 i w a=some o->(w a=some (.t 0)/\o=.s i)\/(w a=some o/\o ≠ .s i/\o ≠ .t 0):=fun a o e=>by
  unfold lh at e
  split at e
  ·cases e;exact .inl ⟨by assumption,rfl⟩
  next n1=>
   split at e
   ·cases e
   ·rename_i n2;exact .inr ⟨e,fun z=>n2 (by rw[e,z]),fun z=>n1 (by rw[e,z])⟩
 have st:cL H w H (lh 0 i w):=fun a x h n=>⟨sm h,mN a n⟩
 refine⟨⟨⟨fun a o e=>?_,g.wl.tb⟩,fun a j e=>?_,fun a j e=>?_,by rw[QL,QL];exact g.len,fun j d' q' e'=>?_⟩,fun cU oQ go hw=>⟨fun a x h n=>⟨(go.bB a x h n).1,mN a (go.bB a x h n).2⟩,fun a o e n=>?_⟩⟩
 ·rcases mI a o e with⟨z,_⟩|⟨z,_⟩
  ·exact g.wl a _ z
  ·exact g.wl a _ z
 ·rw[QL]
  rcases mI a _ e with⟨_,z⟩|⟨z,_⟩
  ·cases z;exact hi
  ·exact g.ws a j z
 ·rcases mI a _ e with⟨_,z⟩|⟨z,_,n⟩
  ·cases z
  ·have:=g.wt a j z
   have:j=0:=by omega
   subst this
   exact absurd rfl n
 ·by_cases hj:i=j
  ·subst hj
   rw[QI (by rw[g.len];exact hi)]at e'
   cases e'
   exact⟨v,F,QI hi,Rep.go g.wl st r fun a m=>⟨rfl,mT a (r.az a m)⟩⟩
  ·rw[QJ hj]at e'
   obtain⟨v',F',h1,h2⟩:=g.slot j d' q' e'
   exact⟨v',F',by rw[QJ hj];exact h1,Rep.go g.wl st h2 fun a m=>⟨rfl,mS a j (h2.az a m) (fun z=>hj z.symm)⟩⟩
 ·obtain⟨h1,h2⟩:=go.keep a o e n
  refine⟨h1,?_⟩
  cases o with
  | s j=>exact absurd rfl (n j)
  | f=>exact mF a h2
  | t j=>exact absurd (hw a j e) (YS _)
@[simp] def bD (i:Nat)(f:aw):av:=fun ρ=>match f ρ with
 | some (d,q,ρ1)=>some (.nx (ρ1.set i (some (d,q))))
 | none=>none
theorem E8{D:Ends}{σ:St}(hi:i<σ.length)(he:∀ Q,tD K f σ H Q->te σ H Q)(h:uY K (bD i f) D σ H):te σ H fun x H1=>D.nx (σ.set i (some x)) H1:=by
 obtain⟨ρ,w,o,g,ee,k⟩:=h
 unfold bD at ee
 split at ee
 next d q ρ1 h1=>
  cases ee
  refine he _ ⟨ρ,w,0,d,q,ρ1,g,h1,fun v H' w' F g' fR r=>?_⟩
  obtain⟨a1,a2⟩:=g'.set hi r
  exact k _ _ _ (by rw[QL]) a1 (a2 _ _ fR g.wt)
 ·cases ee
theorem bW{x:Str}{pos':Pos}(hN:X.N.Nodup)(hi:X.N[i]? = some x)(hx:Loc X.env.scope x)(he:QD X e f)(hs:swapsWith e (some (.Name x pos')) pos.line X.env=pure false:=by rfl)(hf:X.fn x=true\/X.env.scope.names.lookup x=some .local:=by first|exact .inl rfl|exact .inr rfl):km X (.Assign [.Name x pos'] e pos) (bD i f):=⟨have he:=he.o;by
 intro pins s σ H D I h
 have hl:i<σ.length:=by rw[I.len];exact(Qr.mp hi).1
 exact Ly (te:=tD X.K f) hN hi hx he hs hf pins s σ H D I (E8 hl (fun _ z=>z) h)⟩
@[simp] def gF (f:aw):av:=fun ρ=>match f ρ with
 | some (_,_,ρ1)=>some (.nx ρ1)
 | none=>none
theorem jV(he:QD X e f)(hs:swapsWith e none pos.line X.env=pure false:=by rfl):km X (.Expr e pos) (gF f):=⟨have he:=he.o;PS.imp (Li he hs) fun D σ H ak=>by
 obtain⟨ρ,w,o,g,ee,k⟩:=ak
 unfold gF at ee
 split at ee
 next d q ρ1 h1=>
  cases ee
  exact⟨ρ,w,0,d,q,ρ1,g,h1,fun v H' w' F g' fR r=>k σ H' (bG 0 w') rfl g'.drop (fR.drop g.wt)⟩
 ·cases ee⟩
end
structure Mo (K:PySem.W.Frag) (H H':Hp):Prop where
 mo:∀ a o,H a=some o->H' a=some o
 tb:TB K H->TB K H'
theorem Mo.rK:Mo K H H:=⟨fun _ _ e=>e,fun t=>t⟩
structure mQ (K:PySem.W.Frag) (J:It) (ds:List D) (P:Hp->Wn->Prop):Prop where
 go:∀ i H w,P H w->i<ds.length->J.go i H
 qV:∀ i H w x H' d,P H w->WL K w H->ds[i]? = some d->J.qV i H x H'->Mo K H H'/\Rep K H' w .f 0 d x []/\P H' w
 stop:∀ H w,P H w->J.stop ds.length H
 st:∀ H w H' w',P H w->WL K w H->cL H w H' w'->P H' w'
abbrev ko:=aU->Option (List D×aU)
def xU (K:PySem.W.Frag)(f:ko):TI:=fun σ H R=>∃ ρ w t ds ρ',Good K ρ σ H w t/\f ρ=some (ds,ρ') /\
 ∀ J P H' w',Good K ρ' σ H' w' t->Go H w H' w'->mQ K J ds P->P H' w'->ds.length<sizeLine->R J H'
theorem PI.imp{t t':TI}(h:PI X tg e t)(i:∀ σ H R,t' σ H R->t σ H R):PI X tg e t':=fun pins s σ H R I q=>h pins s σ H R I (i σ H R q)
abbrev ON (X:Cx)(tg e:Expr)(f:ko):Prop:=PI X tg e (xU X.K f)
structure tI (X:Cx) (tg e:Expr) (f:ko):Prop where mk::o:ON X tg e f
theorem It.list{ds:List D}(hl:ds.length=vs.length):mQ K (zx K a) ds fun H w=>(KL K a vs\/(Rd H a (.lst vs)/\w a=none))/\af K H w .f 0 ds vs []:=by
 have sq:∀ {H:Hp} {w:Wn},KL K a vs\/(Rd H a (.lst vs)/\w a=none)->cK K H a vs:=fun h=>h.elim (fun z=>z.sq) fun z=>.inl z.1
 refine⟨fun i H w p hi=>⟨vs,vs[i],sq p.1,by simp[hl ▸ hi]⟩,fun i H w x H' d p wl hd y=>?_,fun H w p=>⟨vs,sq p.1,by omega⟩,fun H w H' w' p wl st=>?_⟩
 ·obtain⟨rfl,hx⟩:=y
  obtain⟨v,hv,rv⟩:=p.2.get hd
  have:=hx vs (sq p.1)
  rw[hv]at this
  cases this
  exact⟨Mo.rK,rv,p⟩
 ·refine⟨?_,af.go wl st p.2 nM⟩
  rcases p.1 with p|⟨p,n⟩
  ·exact .inl p
  ·exact .inr (xD.go st n p)
theorem It.tup{K:PySem.W.Frag}{a:Addr}{vs:List V}{ds:List D}(hl:ds.length=vs.length):mQ K (zy K a) ds fun H w=>cE K H a vs/\af K H w .f 0 ds vs []:=
 ⟨fun i H w p hi=>⟨vs,vs[i],p.1,by simp[hl ▸ hi]⟩,fun i H w x H' d p wl hd y=>by
   obtain⟨rfl,hx⟩:=y
   obtain⟨v,hv,rv⟩:=p.2.get hd
   have:=hx vs p.1
   rw[hv]at this
   cases this
   exact⟨Mo.rK,rv,p⟩,fun H w p=>⟨vs,p.1,by omega⟩,fun H w H' w' p wl st=>⟨cE.go wl st p.1,af.go wl st p.2 nM⟩⟩
def qg (n:Nat):List V:=(List.range n).map fun i=>.int (Int.ofNat i)
def dZ (n:Nat):List D:=(List.range n).map fun i=>.int (Int.ofNat i)
theorem jw(n:Nat):(dZ n).length=n:=by simp[dZ]
theorem E9(n:Nat):(qg n).length=n:=by simp[qg]
theorem It.range:mQ K (xj 0 n) (dZ n) fun _ _=>True:=by
 refine⟨fun i H w _ hi=>by rw[jw]at hi;exact hi,fun i H w x H' d _ _ hd y=>?_,fun H w _=>by rw[jw];exact Qd _,fun _ _ _ _ _ _ _=>trivial⟩
 have hi:i<n:=by have:=(Qr.mp hd).1;rw[jw]at this;exact this
 have e:x=.int (0+(i:Int)):=y.2
 have ed:d=.int (Int.ofNat i):=by
  have:(dZ n)[i]? = some (.int (Int.ofNat i)):=by simp[dZ,hi]
  rw[hd]at this
  exact Qy this
 obtain⟨rfl,_⟩:=y
 subst ed
 rw[e,Int.zero_add]
 exact⟨Mo.rK,.int _,trivial⟩
theorem xV{w:Wn}{o:Ow}:∀ (ns:List Int),af K H w o 0 (ns.map D.int) (ns.map V.int) []
 | []=>.nil
 | n::r=>.cons (F:=[]) (G:=[]) (.int n) (xV r) nM
theorem OO{w:Wn}{o:Ow}(n:Nat):af K H w o 0 (dZ n) (qg n) []:=by
 have:=xV (K:=K) (H:=H) (w:=w) (o:=o) ((List.range n).map Int.ofNat)
 rw[ZV,ZV]at this
 exact this
section
variable {X:Cx}{tg a b c e:Expr}{fa fb fc f:aw}{ga gb gc:cD}{pos p:Pos}
@[simp] def ck (g:bQ):ko:=fun ρ=>match g ρ with
 | some ([.int n],ρ1)=>if -1000<=n/\n<=1000 then some (dZ n.toNat,ρ1)else none
 | _=>none
theorem fy{g:bQ}(hm:X.mg "range" = none)(ha:fU X [a] g)(hg:Gl X "range":=by rfl)(hs:starEach [a] X.env=[(false,eval a X.env)]:=by rfl):tI X tg (.Call (.Name "range" p) [a] [] pos) (ck g):=⟨have ha:=ha.o;PI.imp (LK hg hm ha hs) fun σ H R ak=>by
 obtain⟨ρ,w,t,ds,ρ',gd,ee,k⟩:=ak
 unfold ck at ee
 split at ee
 next n ρ1 h1=>
  split at ee
  next hn=>
   cases ee
   refine⟨ρ,w,t,[.int n],_,gd,h1,fun vs H1 w1 g1 aK r1=>?_⟩
   have hv:vs=[.int n]:=by
    have l:=r1.length
    match vs,l with
    | [v],_=>
     obtain⟨v',h1,h2⟩:=r1.get (i:=0) rfl
     cases h1
     rw[dN h2]
   subst hv
   refine⟨n,rfl,by omega,by omega,k _ _ H1 w1 g1 aK It.range trivial ?_⟩
   rw[jw]
   exact lU (by omega)
  ·cases ee
 ·cases ee⟩
def OP (K:PySem.W.Frag)(tl:TE):TI:=fun σ H R=>tl σ H fun x H1=>∃ a,x=.ref a/\(((∃ xs,cK K H1 a xs)/\R (zx K a) H1)\/((∃ xs,cE K H1 a xs)/\R (zy K a) H1))
theorem OQ{l:Expr}{tl:TE}(hl:PE X l tl):PI X tg l (OP X.K tl):=by
 intro pins s σ H R I h
 refine aN (hl pins s σ H _ I h) fun v s1 ⟨x,H1,I1,r1,q1⟩=>?_
 obtain⟨a,e,q⟩:=q1
 subst e
 cases r1
 rcases q with⟨⟨xs,hq⟩,q⟩|⟨⟨xs,hq⟩,q⟩
 ·obtain⟨au,rv,p,hz⟩:=I1.list hq
  refine wpAny_pyIter_list p.isList ?_
  refine⟨s1.heap.objs.size,[s1.heap.objs.size],_,_,H1,rfl,I1.kept (t':=s1.toks) fun b o e=>Qc _ e,LD a _,⟨_,Qm _ rfl,rfl,rfl⟩,fun b hb=>?_,q⟩
  have e:b=s1.heap.objs.size:=by simpa using hb
  subst e
  exact I1.ot (Qd _) (I1.aA.fresh (Qd _))
 ·obtain⟨au,rv,p,hz⟩:=I1.tuple hq
  refine Z6 (show s1.heap.IsTuple a au.toArray from p) ?_
  refine⟨s1.heap.objs.size,[s1.heap.objs.size],_,_,H1,rfl,I1.kept (t':=s1.toks) fun b o e=>Qc _ e,LF a _,⟨_,Qm _ rfl,rfl,rfl⟩,fun b hb=>?_,q⟩
  have e:b=s1.heap.objs.size:=by simpa using hb
  subst e
  exact I1.ot (Qd _) (I1.aA.fresh (Qd _))
@[simp] def d_ (f:aw):ko:=fun ρ=>match f ρ with
 | some (.lst ds,_,ρ1)=>if ds.length<=1000 then some (ds,ρ1)else none
 | some (.tup ds,_,ρ1)=>if ds.length<=1000 then some (ds,ρ1)else none
 | _=>none
theorem iz(ha:QD X a fa):tI X tg a (d_ fa):=⟨have ha:=ha.o;PI.imp (OQ ha) fun σ H R ak=>by
 obtain⟨ρ,w,t,ds,ρ',gd,ee,k⟩:=ak
 unfold d_ at ee
 split at ee
 next ba q ρ1 h1=>
  split at ee
  next hl=>
   cases ee
   refine⟨ρ,w,t,.lst ds,q,ρ',gd,h1,fun v H1 w1 F g1 aK r1=>?_⟩
   have r0:=r1.drop (o:=.f) (Qd t)
   cases r0 with
   | kl h r=>exact⟨_,rfl,.inl ⟨⟨_,h.sq⟩,k _ _ H1 (bG t w1) g1.drop (aK.drop gd.wt) (It.list r.length) ⟨.inl h,r⟩ (lU hl)⟩⟩
   | shr h n r=>exact⟨_,rfl,.inl ⟨⟨_,.inl h⟩,k _ _ H1 (bG t w1) g1.drop (aK.drop gd.wt) (It.list r.length) ⟨.inr ⟨h,n⟩,r⟩ (lU hl)⟩⟩
  ·cases ee
 next ba q ρ1 h1=>
  split at ee
  next hl=>
   cases ee
   refine⟨ρ,w,t,.tup ds,q,ρ',gd,h1,fun v H1 w1 F g1 aK r1=>?_⟩
   have r0:=r1.drop (o:=.f) (Qd t)
   cases r0 with
   | tup h r=>exact⟨_,rfl,.inr ⟨⟨_,cE.of h⟩,k _ _ H1 (bG t w1) g1.drop (aK.drop gd.wt) (It.tup r.length) ⟨cE.of h,r⟩ (lU hl)⟩⟩
  ·cases ee
 ·cases ee⟩
end
abbrev fA:=D->aU->Option aU
def xW (K:PySem.W.Frag)(b:Nat)(pt:fA):TG:=fun v σ H Q=>∃ d ρ w t ρ',Good K ρ σ H w t/\Rep K H w .f 0 d v []/\pt d ρ=some ρ'/\∀ aM H' w',aM.length=σ.length->(∀ i,i<b->aM[i]? = σ[i]?)->Good K ρ' aM H' w' t->Go H w H' w'->Q aM H'
theorem PG.imp{t t':TG}(h:PG X tg t)(i:∀ v σ H Q,t' v σ H Q->t v σ H Q):PG X tg t':=fun pins s σ H v u Q I r q=>h pins s σ H v u Q I r (i v σ H Q q)
abbrev OR (X:Cx)(b:Nat)(tg:Expr)(pt:fA):Prop:=PG X tg (xW X.K b pt)
structure rL (X:Cx) (b:Nat) (e:Expr) (f:fA):Prop where mk::o:OR X b e f
@[simp] def aQ (i:Nat):fA:=fun d ρ=>if i<ρ.length then some (ρ.set i (some (d,cj d)))else none
theorem Good.rM{ρ:aU}{σ:St}{w:Wn}{t:Nat}{d:D}(g:Good K ρ σ H w t)(hi:i<σ.length)(r:Rep K H w .f 0 d v []) :
  Good K (ρ.set i (some (d,cj d))) (σ.set i (some v)) H (jU i w) t/\Go H w H (jU i w):=by
 have st:cL H w H (jU i w):=fun a x h n=>⟨sm h,xN n⟩
 refine⟨⟨⟨fun a o h=>g.wl a o (tG h).1,g.wl.tb⟩,fun a j h=>by rw[QL];exact g.ws a j (tG h).1,fun a j h=>g.wt a j (tG h).1,by rw[QL,QL];exact g.len,fun j d' q' e'=>?_⟩,⟨st,fun a o h n=>⟨rfl,xO h (n i)⟩⟩⟩
 by_cases hj:i=j
 ·subst hj
  rw[QI (by rw[g.len];exact hi)]at e'
  cases e'
  exact⟨v,[],QI hi,(Rep.go g.wl st r nM:Rep K H (jU i w) (.s i) 0 d v []).jj⟩
 ·rw[QJ hj]at e'
  obtain⟨v',F,h1,h2⟩:=g.slot j d' q' e'
  exact⟨v',F,by rw[QJ hj];exact h1,Rep.go g.wl st h2 fun a m=>⟨rfl,xO (h2.az a m) (fun z=>hj (by cases z;rfl))⟩⟩
theorem bM{b:Nat}{x:Str}{pos:Pos}(hb:b<=i)(hN:X.N.Nodup)(hi:X.N[i]? = some x)(hx:Loc X.env.scope x)(hf:X.fn x=true\/X.env.scope.names.lookup x=some .local:=by first|exact .inl rfl|exact .inr rfl):rL X b (.Name x pos) (aQ i):=⟨PG.imp (Lp hN hi hx hf) fun v σ H Q ak=>by
 obtain⟨d,ρ,w,t,ρ',g,r,e,k⟩:=ak
 unfold aQ at e
 split at e
 next hl=>
  cases e
  obtain⟨a1,a2⟩:=g.rM (by rw[<- g.len];exact hl) r
  exact k _ _ _ (by rw[QL]) (fun j hj=>QJ (by omega)) a1 a2
 ·cases e⟩
def iA (pt:fA)(body:av):List D->aU->Option Out
 | [],ρ=>some (.nx ρ)
 | d::ds,ρ=>match pt d ρ with
  | none=>none
  | some ρ1=>match body ρ1 with
   | some (.nx ρ2)=>iA pt body ds ρ2
   | some (.ct ρ2)=>iA pt body ds ρ2
   | some (.bk ρ2)=>some (.nx ρ2)
   | o=>o
@[simp] def dF (it:ko)(pt:fA)(body:av):av:=fun ρ=>match it ρ with
 | some (ds,ρ1)=>iA pt body ds ρ1
 | none=>none
theorem af.lZ{w w':Wn}{ds:List D}(r:af K H w .f 0 ds vs [])(wl:WL K w H)(st:cL H w H' w'):af K H' w' .f 0 ds vs []:=af.go wl st r nM
theorem Rep.lZ{w w':Wn}{ds:D}{vs:V}(r:Rep K H w .f 0 ds vs [])(wl:WL K w H)(st:cL H w H' w'):Rep K H' w' .f 0 ds vs []:=Rep.go wl st r nM
theorem af.mR{w:Wn}:∀ {ds:List D} {vs:List V} (i:Nat),af K H w .f 0 ds vs []->af K H w .f 0 (ds.drop i) (vs.drop i) []
 | _,_,0,r=>r
 | ds,vs,i+1,r=>by
  generalize hF:([]:List Addr)=F at r
  cases r with
  | nil=>exact .nil
  | cons r s _=>
   have h2:=s.zero
   have h1:=r.zero
   subst h2
   subst h1
   exact af.mR i s
theorem Good.more{ρ:aU}{σ:St}{w:Wn}{t:Nat}(g:Good K ρ σ H w t)(hm:Mo K H H'):Good K ρ σ H' w t/\Go H w H' w:=by
 have h:=hm.mo
 have st:cL H w H' w:=fun a x e n=>⟨sm (h a x e),n⟩
 have kp:∀ a o,w a=some o->H' a=H a:=fun a o e=>by
  obtain⟨vs,q⟩:=g.wl a o e
  rw[q,h a _ q]
 refine⟨⟨⟨fun a o e=>?_,hm.tb g.wl.tb⟩,g.ws,g.wt,g.len,fun i d q e=>?_⟩,st,fun a o e _=>⟨kp a o e,e⟩⟩
 ·obtain⟨vs,q⟩:=g.wl a o e
  exact⟨vs,h a _ q⟩
 ·obtain⟨v,F,h1,h2⟩:=g.slot i d q e
  exact⟨v,F,h1,Rep.go g.wl st h2 fun a m=>⟨kp a _ (h2.az a m),h2.az a m⟩⟩
theorem fV{iter:Expr}{body:List Stmt}{it:ko}{pt:fA}{s:av}{pos:Pos}(hp:PassesOwn (model X.prog X.w) X.A X.env X.xe)(hc:X.calm=true)(hi:tI X tg iter it)(hg:rL X 0 tg pt)(hb:eG X body s)(hs:∀ x,foldedSetIterable iter X.env x=pure x:=by intro _;rfl):km X (.For tg iter body [] pos) (dF it pt s):=⟨have hi:=hi.o;have hg:=hg.o;have hb:=hb.o;PS.imp (LM hp hc hi hg hb hs) fun D σ H ak=>by
 obtain⟨ρ,w,o,g,ee,k⟩:=ak
 unfold dF at ee
 split at ee
 next ds ρ1 h1=>
  refine⟨ρ,w,0,ds,ρ1,g,h1,fun J P H1 w1 g1 aK ok p1 hl=>?_⟩
  refine⟨fun i m aM H'=>m=ds.length-i/\i<=ds.length/\aM.length=σ.length/\∃ ρ' w',Good X.K ρ' aM H' w' 0/\P H' w'/\iA pt s (ds.drop i) ρ'=some o/\nS X.K D σ.length H' w' o,
   ⟨ds.length,by simp,ZP _,rfl,ρ1,w1,g1,p1,ee,k.trans aK⟩,?_⟩
  rintro i m aM H' ⟨rfl,rN,cZ,ρ',w',g',p',e',k'⟩
  by_cases cY:i<ds.length
  ·refine .inr ⟨ok.go i H' w' p' cY,fun mx H2=>ds.length-(i+1)=ds.length-(i+1)/\i+1<=ds.length/\mx.length=σ.length/\∃ ρ2 w2,Good X.K ρ2 mx H2 w2 0/\P H2 w2/\iA pt s (ds.drop (i+1)) ρ2=some o/\nS X.K D σ.length H2 w2 o,
    fun mx H2 n2=>⟨ds.length-(i+1),by omega,n2⟩,fun x H2 hy=>?_⟩
   obtain⟨mo,rx,p2⟩:=ok.qV i H' w' x H2 ds[i] p' g'.wl (Qv cY) hy
   obtain⟨g2,br⟩:=g'.more mo
   have ed:ds.drop i=ds[i]::ds.drop (i+1):=Yo cY
   rw[ed]at e'
   unfold iA at e'
   split at e'
   ·cases e'
   next dA h3=>
    refine⟨ds[i],ρ',w',0,dA,g2,rx,h3,fun tz H4 w4 l4 _ g4 oR=>?_⟩
    have p4:=ok.st _ _ _ _ p2 g2.wl oR.bB
    have nx:∀ {jk:aU},iA pt s (ds.drop (i+1)) jk=some o->∀ kq H5 w5,kq.length=tz.length->Good X.K jk kq H5 w5 0->Go H4 w4 H5 w5->ds.length-(i+1)=ds.length-(i+1)/\i+1<=ds.length/\kq.length=σ.length/\∃ ρ2 w2,Good X.K ρ2 kq H5 w2 0/\P H5 w2/\iA pt s (ds.drop (i+1)) ρ2=some o/\nS X.K D σ.length H5 w2 o:=fun {jk} e5 kq H5 w5 l5 g5 jx=>
     ⟨rfl,cY,by rw[l5,l4,cZ],jk,w5,g5,ok.st _ _ _ _ p4 g4.wl jx.bB,e5,k'.trans ((br.trans oR).trans jx)⟩
    cases h6:s dA with
    | none=>rw[h6]at e';cases e'
    | some o6=>
     rw[h6]at e'
     refine⟨dA,w4,o6,g4,h6,?_⟩
     cases o6 with
     | nx jk=>exact nx e'
     | ct jk=>exact nx e'
     | bk jk=>
      cases e'
      exact fun kq H5 w5 l5 g5 jx=>k' kq H5 w5 (by rw[l5,l4,cZ]) g5 ((br.trans oR).trans jx)
     | rt d q=>
      cases e'
      exact fun v H5 w5 F AM jx r5=>k' v H5 w5 F AM ((br.trans oR).trans jx) r5
  ·have eS:i=ds.length:=YT rN (YL.mp cY)
   subst eS
   refine .inl ⟨ok.stop H' w' p',?_⟩
   have ed:ds.drop ds.length=[]:=by simp
   rw[ed]at e'
   cases e'
   exact k' aM H' w' cZ g' Go.refl
 ·cases ee⟩
@[simp] def jW (n:Nat)(ds:List D):aU:=ds.map (fun d=>some (d,cj d))++List.replicate (n-ds.length) none
@[simp] def bb (n:Nat)(body:av):List D->OD:=fun ds=>match body (jW n ds)with
 | some (.rt d q)=>some (d,q)
 | some (.nx _)=>some (.aX,9)
 | _=>none
theorem AN{w:Wn}{ds:List D}(hw:∀ a o,w a=some o->o=.f)(wl:WL K w H)(r:af K H w .f 0 ds vs []):Good K (jW N.length ds) (gX N vs) H w 0:=by
 refine⟨wl,(fun a i e=>by cases (hw a _ e)),(fun a i e=>by cases (hw a _ e)),?_,fun i d q e=>?_⟩
 ·unfold jW L2.gX
  rw[Qh,Qh,QA,QA,QY,QY,r.length]
 ·unfold jW at e
  by_cases hi:i<ds.length
  ·rw[Qs (by simpa using hi),Qu]at e
   cases h:ds[i]? with
   | none=>rw[h]at e;cases e
   | some d'=>
    rw[h]at e
    cases e
    obtain⟨v,hv,rv⟩:=r.get h
    refine⟨v,[],?_,(rv.any wl:Rep K H w (.s i) 0 d v []).jj⟩
    unfold L2.gX
    rw[Qs (by rw[QA,<- r.length];exact hi),Qu,hv]
    rfl
  ·rw[QN (by simpa using hi),Zk]at e
   split at e<;>cases e
theorem E_{body:av}{Q:VK}(h:kJ K n (bb N.length body) vs H Q E):uY K body { nx:=fun _ H'=>Q .aX H',rt:=Q } (gX N vs) H:=by
 obtain⟨hn,ds,w,r,q,hw,wl,rs,e,k⟩:=h
 unfold bb at e
 split at e
 next d q' h1=>
  cases e
  exact⟨_,w,_,AN hw wl rs,h1,fun v H' w' F lX fR r'=>k v H' w' F fR lX r'⟩
 next ρ' h1=>
  cases e
  exact⟨_,w,_,AN hw wl rs,h1,fun aM H' w' _ g' fR=>k .aX H' w' [] fR g'.wl .aX⟩
 ·cases e
theorem AO{P:Program}{wd:World}{mg:Str->Option Value}{base:Heap}{x qual:Str}{st:Stmt}{f:Addr}{k:Nat}{body:av}(F:kH K x qual st f fd)(S:ae N ps (aJ st))
  (h:∀ (a_:Value) (A:Around) (outer:List Env) (s:Shared) (H:Hp) (E:XK),aF k (A.deeper (envOfC qual (aJ st) s.heap.objs.size f a_))->qf (fu cV P wd K mg base N qual (aJ st) f a_ A outer s H E).ft (gj st) body) :
  bY P wd K mg base cV (k+1) f fd ps (kJ K ps.length (bb N.length body)):=
 F.ok S (fun vs H Q E h=>h.1) fun a_ A outer s H vs Q E hr gY=>⟨_,h a_ A outer s H E hr,E_ gY⟩
def l3 (k:Nat)(pt:fA)(tt:cD)(te:aw)(deep:Bool):List D->aU->Option (List D×aU)
 | [],ρ=>some ([],ρ)
 | d::ds,ρ=>match pt d (ρ++List.replicate k none)with
  | none=>none
  | some ρ1=>match tt ρ1 with
   | none=>none
   | some (b,ρ2)=>if b=true then(match te ρ2 with
     | none=>none
     | some (v,q,dA)=>if deep=true/\v.cw=true/\q≠1 then none else match l3 k pt tt te deep ds (dA.take ρ.length)with
      | none=>none
      | some (vs,xX)=>some (v::vs,xX))
    else l3 k pt tt te deep ds (ρ2.take ρ.length)
@[simp] def dv (k:Nat)(it:ko)(pt:fA)(tt:cD)(te:aw)(deep:Bool):aw:=fun ρ=>match it ρ with
 | some (ds,ρ1)=>match l3 k pt tt te deep ds ρ1 with
  | some (vs,ρ2)=>some (.lst vs,if deep=true then 2 else 1,ρ2)
  | none=>none
 | none=>none
@[simp] def dB:cD:=fun ρ=>some (true,ρ)
theorem Good.ext{ρ:aU}{σ:St}{w:Wn}{t:Nat}(g:Good K ρ σ H w t)(k:Nat):Good K (ρ++List.replicate k none) (σ++List.replicate k none) H w t:=by
 refine⟨g.wl,fun a i e=>by rw[Qh];exact Qo (g.ws a i e) (Nat.le_add_right _ _),g.wt,by rw[Qh,Qh,QY,QY,g.len],fun i d q e=>?_⟩
 by_cases hi:i<ρ.length
 ·rw[Qs hi]at e
  obtain⟨v,F,h1,h2⟩:=g.slot i d q e
  exact⟨v,F,by rw[Qs (by rw[<- g.len];exact hi)];exact h1,h2⟩
 ·rw[QN (by omega),Zk]at e
  split at e<;>cases e
def mU (n:Nat)(w:Wn):Wn:=fun a=>match w a with
 | some (.s i)=>if n<=i then none else some (.s i)
 | x=>x
theorem OS{w:Wn}(h:w a=none):mU n w a=none:=by unfold mU;rw[h]
theorem OT{w:Wn}(h:w a=some (.s i))(hi:i<n):mU n w a=some (.s i):=by unfold mU;rw[h];exact Qf (by omega)
theorem OU{w:Wn}{o:Ow}(h:w a=some o)(hn:∀ i,o ≠ .s i):mU n w a=some o:=by
 unfold mU;rw[h]
 cases o with
 | s i=>exact absurd rfl (hn i)
 | t i=>rfl
 | f=>rfl
theorem AQ{w:Wn}{o:Ow}(h:mU n w a=some o):w a=some o/\∀ i,o=.s i->i<n:=by
 unfold mU at h
 cases e:w a with
 | none=>rw[e]at h;cases h
 | some o'=>
  rw[e]at h
  cases o' with
  | t i=>cases h;exact⟨rfl,fun i z=>nomatch z⟩
  | f=>cases h;exact⟨rfl,fun i z=>nomatch z⟩
  | s i=>
   dsimp only at h
   split at h
   ·cases h
   ·cases h;exact⟨rfl,fun j z=>by cases z;omega⟩
theorem Good.cut{ρ:aU}{σ τ:St}{w:Wn}{t:Nat}(g:Good K ρ (σ++τ) H w t):Good K (ρ.take σ.length) σ H (mU σ.length w) t/\Go H w H (mU σ.length w):=by
 have st:cL H w H (mU σ.length w):=fun a x h n=>⟨sm h,OS n⟩
 refine⟨⟨⟨fun a o e=>g.wl a o (AQ e).1,g.wl.tb⟩,fun a i e=>(AQ e).2 i rfl,fun a i e=>g.wt a i (AQ e).1,?_,fun i d q e=>?_⟩,⟨st,fun a o e n=>⟨rfl,OU e n⟩⟩⟩
 ·rw[Zc,g.len,Qh]
  omega
 ·by_cases hi:i<σ.length
  ·rw[ZZ hi]at e
   obtain⟨v,F,h1,h2⟩:=g.slot i d q e
   rw[Qs hi]at h1
   exact⟨v,F,h1,Rep.go g.wl st h2 fun a m=>⟨rfl,OT (h2.az a m) hi⟩⟩
  ·rw[Yj (by omega)]at e
   cases e
theorem OV{σ aM τ:St}(l:aM.length=(σ++τ).length)(h:∀ i,i<σ.length->aM[i]? = (σ++τ)[i]?):∃ Fb,aM=σ++Fb/\Fb.length=τ.length:=by
 refine⟨aM.drop σ.length,?_,by rw[Z1,l,Qh];omega⟩
 have e:aM.take σ.length=σ:=by
  apply Q7
  intro i
  by_cases hi:i<σ.length
  ·rw[ZZ hi,h i hi,Qs hi]
  ·rw[Yj (by omega),Qx (by omega)]
 conv=>lhs;rw[<- List.take_append_drop σ.length aM,e]
def dq (deep:Bool):Nat:=if deep=true then 1 else 0
def jX (deep:Bool)(t:Nat)(w:Wn):Wn:=fun a=>if w a=some (.t (t+1))then(if deep=true then some (.t t)else none)else w a
theorem OW{ρ:aU}{σ:St}{w:Wn}{t q:Nat}{d:D}(g:Good K ρ σ H w (t+2))(r:Rep K H w (.t (t+1)) q d v F)(hq:¬ (deep=true/\d.cw=true/\q≠1)) :
  Good K ρ σ H (jX deep t w) (t+1)/\(∃ F',Rep K H (jX deep t w) (.t t) (dq deep) d v F'/\∀ a∈F',w a=some (.t (t+1)))/\cL H w H (jX deep t w)/\(∀ a o,w a=some o->o ≠ .t (t+1)->jX deep t w a=some o):=by
 have hN:∀ a,w a=none->jX deep t w a=none:=fun a e=>by unfold jX;rw[e];rfl
 have hO:∀ a o,w a=some o->o ≠ .t (t+1)->jX deep t w a=some o:=fun a o e n=>by
  unfold jX
  rw[Qf (by rw[e];exact fun z=>n (Qy z))]
  exact e
 have hI:∀ a o,jX deep t w a=some o->(w a=some (.t (t+1))/\o=.t t)\/(w a=some o/\o ≠ .t (t+1)):=fun a o e=>by
  unfold jX at e
  split at e
  ·split at e
   ·cases e;exact .inl ⟨by assumption,rfl⟩
   ·cases e
  ·rename_i n;exact .inr ⟨e,fun z=>n (by rw[e,z])⟩
 have st:cL H w H (jX deep t w):=fun a x h n=>⟨sm h,hN a n⟩
 refine⟨⟨⟨fun a o e=>?_,g.wl.tb⟩,fun a i e=>?_,fun a i e=>?_,g.len,fun i d' q' e'=>?_⟩,?_,st,hO⟩
 ·rcases hI a o e with⟨z,_⟩|⟨z,_⟩<;>exact g.wl a _ z
 ·rcases hI a _ e with⟨_,z⟩|⟨z,_⟩
  ·cases z
  ·exact g.ws a i z
 ·rcases hI a _ e with⟨_,z⟩|⟨z,n⟩
  ·cases z;exact Q1 _
  ·have:=g.wt a i z
   have:i≠t+1:=fun z=>n (by rw[z])
   omega
 ·obtain⟨v',F',h1,h2⟩:=g.slot i d' q' e'
  exact⟨v',F',h1,Rep.go g.wl st h2 fun a m=>⟨rfl,hO a _ (h2.az a m) (fun z=>nomatch z)⟩⟩
 ·cases deep with
  | false=>
   refine⟨[],Rep.freeze hN r fun a m=>?_,fun _ z=>nomatch z⟩
   unfold jX
   rw[Qe (r.az a m)]
   rfl
  | true=>
   have hT:∀ a,w a=some (.t (t+1))->jX true t w a=some (.t t):=fun a e=>by unfold jX;rw[Qe e];rfl
   cases hl:d.cw with
   | false=>
    obtain⟨_,hr⟩:=r.bV hl
    exact⟨[],Rep.go g.wl st (hr 1) nM,fun _ z=>nomatch z⟩
   | true=>
    have:q=1:=by
     by_cases h:q=1
     ·exact h
     ·exact absurd ⟨rfl,hl,h⟩ hq
    subst this
    exact⟨F,Rep.go g.wl st r fun a m=>⟨rfl,hT a (r.az a m)⟩,r.az⟩
theorem OY{ρ:aU}{σ:St}{w1:Wn}{t q:Nat}{ds:List D}(g:Good K ρ σ H1 w1 (t+1))(hp:H1 p=none)(r:af K H1 w1 (.t t) q ds vs F) :
  Good K ρ σ (upd H1 p (.lst vs)) (iR p (.t t) w1) (t+1)/\Go H1 w1 (upd H1 p (.lst vs)) (iR p (.t t) w1)/\Rep K (upd H1 p (.lst vs)) (iR p (.t t) w1) (.t t) (q+1) (.lst ds) (.ref p) (p::F):=by
 have ne:∀ a x,H1 a=some x->a≠p:=fun a x e=>eQ e hp
 have nw:∀ a o,w1 a=some o->a≠p:=fun a o e=>by obtain⟨vs,q⟩:=g.wl a o e;exact ne a _ q
 have st:cL H1 w1 (upd H1 p (.lst vs)) (iR p (.t t) w1):=fun a x e n=>⟨sm (by rw[aR (ne a x e)];exact e),by rw[fx (ne a x e)];exact n⟩
 refine⟨⟨⟨fun a o e=>?_,g.wl.tb.upd rfl (.inl hp)⟩,fun a i e=>?_,fun a i e=>?_,g.len,fun i d q e=>?_⟩,⟨st,fun a o e _=>⟨aR (nw a o e),(fx (nw a o e)).trans e⟩⟩,?_⟩
 ·by_cases h:a=p
  ·subst h;exact⟨.l vs,de⟩
  ·rw[fx h]at e
   obtain⟨us,q⟩:=g.wl a o e
   exact⟨us,by rw[aR h];exact q⟩
 ·by_cases h:a=p
  ·subst h;rw[lV]at e;cases e
  ·rw[fx h]at e;exact g.ws a i e
 ·by_cases h:a=p
  ·subst h;rw[lV]at e;cases e;exact Q1 _
  ·rw[fx h]at e;exact g.wt a i e
 ·obtain⟨v,F,h1,h2⟩:=g.slot i d q e
  exact⟨v,F,h1,Rep.go g.wl st h2 fun a m=>⟨aR (nw a _ (h2.az a m)),(fx (nw a _ (h2.az a m))).trans (h2.az a m)⟩⟩
 ·exact .own de lV (af.go g.wl st r fun a m=>⟨aR (nw a _ (r.az a m)),(fx (nw a _ (r.az a m))).trans (r.az a m)⟩) fun m=>absurd rfl (nw p _ (r.az p m))
theorem Fc{k:Nat}{it:ko}{pt:fA}{tt:cD}{te:aw}:∀ σ H Q,tD K (dv k it pt tt te deep) σ H Q->xA k (xU K it) (xW K σ.length pt) (rG K tt) (tD K te) σ H Q:=fun σ H Q ak=>by
 obtain⟨ρ,w,t,r',q,ρ',g,ee,kk⟩:=ak
 unfold dv at ee
 split at ee
 next ds ρ1 h1=>
  split at ee
  next all ρ2 h2=>
   cases ee
   refine⟨ρ,w,t,ds,ρ1,g,h1,fun J P H1 w1 g1 aK ok p1 hl=>?_⟩
   refine⟨fun i m ys H'=>m=ds.length-i/\i<=ds.length/\ys.length<=i/\∃ dA w3 zs F bE,Good K dA σ H' w3 (t+1)/\Go H w H' w3/\P H' w3/\af K H' w3 (.t t) (dq deep) zs ys F /\
     l3 k pt tt te deep (ds.drop i) dA=some (bE,ρ')/\zs++bE=all,
    ⟨ds.length,by simp,ZP _,Qd _,ρ1,w1,[],[],all,g1.up,aK,p1,.nil,h2,rfl⟩,?_⟩
   rintro i m ys H' ⟨rfl,rN,hys,dA,w3,zs,F,bE,g0,lZ,p0,Fd,e3,ez⟩
   have hsz:ys.length<sizeLine:=by omega
   refine⟨Zi hsz,?_⟩
   by_cases cY:i<ds.length
   ·refine .inr ⟨ok.go i H' w3 p0 cY,hsz,fun x H2 hy=>?_⟩
    obtain⟨mo,rx,p3⟩:=ok.qV i H' w3 x H2 ds[i] p0 g0.wl (Qv cY) hy
    obtain⟨g3,br⟩:=g0.more mo
    have eV:=lZ.trans br
    have rz:=Fd.gone g0.wl br
    have ed:ds.drop i=ds[i]::ds.drop (i+1):=Yo cY
    rw[ed]at e3
    unfold l3 at e3
    split at e3
    ·cases e3
    next xX h4=>
     split at e3
     ·cases e3
     next b jk h5=>
      have gx:=g3.ext k
      have Fe:dA.length=σ.length:=g3.len
      refine⟨ds[i],_,w3,t+1,xX,gx,rx,h4,fun tz H4 w4 l4 s4 g4 oR=>?_⟩
      obtain⟨τ,rfl,OZ⟩:=OV l4 s4
      refine⟨⟨τ,rfl,by rw[OZ,QY]⟩,xX,w4,t+1,b,jk,g4,h5,fun H5 w5 g5 jx=>?_⟩
      have p5:=ok.st _ _ _ _ (ok.st _ _ _ _ p3 g3.wl oR.bB) g4.wl jx.bB
      have z5:af K H5 w5 (.t t) (dq deep) zs ys F:=(rz.gone g3.wl oR).gone g4.wl jx
      cases b with
      | false=>
       rw[Qf (by decide)]at e3
       dsimp only
       rw[Qf (by decide)]
       obtain⟨gc,rO⟩:=g5.cut
       rw[Fe]at e3
       refine⟨ds.length-(i+1),by omega,rfl,cY,by omega,_,_,zs,F,bE,gc,(eV.trans oR).trans (jx.trans rO),ok.st _ _ _ _ p5 g5.wl rO.bB,z5.gone g5.wl rO,e3,ez⟩
      | true=>
       rw[Qe rfl]at e3
       dsimp only
       rw[Qe rfl]
       split at e3
       ·cases e3
       next d6 q6 O0 h6=>
        split at e3
        ·cases e3
        next O1=>
         split at e3
         ·cases e3
         next O2 ρ7 h7=>
          cases e3
          refine⟨jk,w5,t+1,d6,q6,O0,g5,h6,fun v H6 w6 F6 g6 AR r6=>?_⟩
          obtain⟨gs,⟨F',rs,O3⟩,AS,Ff⟩:=OW g6 r6 O1
          obtain⟨gc,rO⟩:=gs.cut
          rw[Fe]at h7
          have Fg:=z5.gone g5.wl AR
          have zF:∀ a∈F,w6 a=some (.t t):=Fg.az
          have O4:af K H6 (jX deep t w6) (.t t) (dq deep) zs ys F:=af.go g6.wl AS Fg fun a m=>⟨rfl,Ff a _ (zF a m) (by intro z;cases z)⟩
          have O5:Go H w H6 (jX deep t w6):=by
           have go:Go H w H6 w6:=(eV.trans oR).trans (jx.trans AR)
           refine⟨go.bB.trans AS,fun a o h n=>⟨(go.keep a o h n).1,Ff a o (go.keep a o h n).2 fun z=>?_⟩⟩
           subst z
           have:=g.wt a _ h
           omega
          refine⟨ds.length-(i+1),by omega,rfl,cY,by rw[Qh];simp;omega,_,_,zs++[d6],F++F',O2,gc,O5.trans rO,ok.st _ _ _ _ (ok.st _ _ _ _ p5 g5.wl AR.bB |> fun q=>ok.st _ _ _ _ q g6.wl AS) gs.wl rO.bB,
           ?_,h7,by rw[JH];exact ez⟩
          refine(af.snoc rs O4 fun a m m'=>?_).gone gs.wl rO
          have h1:=zF a m
          rw[O3 a m']at h1
          cases h1
   ·have eS:i=ds.length:=YT rN (YL.mp cY)
    subst eS
    refine .inl ⟨ok.stop H' w3 p0,fun p hp=>?_⟩
    have ed:ds.drop ds.length=[]:=by simp
    rw[ed]at e3
    cases e3
    rw[Zj]at ez
    subst ez
    obtain⟨a1,a2,a3⟩:=OY g0 hp Fd
    refine kk _ _ _ (p::F) a1 (lZ.trans a2) ?_
    cases deep<;>exact a3
  ·cases ee
 ·cases ee
section
variable {X:Cx}{k:Nat}{N':List Str}{scope:Scope}{elt tg iter:Expr}{ifs:List Expr}{pos:Pos}{it:ko}{pt:fA}{tt:cD}{te:aw}
abbrev O6 (X:Cx)(ifs:List Expr)(f:cD):Prop:=tw X ifs (rG X.K f)
structure oS (X:Cx) (e:List Expr) (f:cD):Prop where mk::o:O6 X e f
theorem iS:oS X [] dB:=⟨fun pins s σ H Q I ak=>by
 obtain⟨ρ,w,t,b,ρ',gd,ee,k⟩:=ak
 cases ee
 exact NV pins s σ H Q I (k H w gd Go.refl)⟩
theorem xY{c:Expr}{g:cD}(h:hZ X c g):oS X [c] g:=⟨have h:=h.o;NW h⟩
theorem iT(deep:Bool)(hc:X.calm=true)(S:bU X k N' scope)(hi:tI X tg iter it)(hg:∀ C s H fp,rL (gB X N' scope C s H fp) X.N.length tg pt)(ht:∀ C s H fp,oS (gB X N' scope C s H fp) ifs tt)(he:∀ C s H fp,QD (gB X N' scope C s H fp) elt te)(hs:∀ x,foldedSetIterable iter X.env x=pure x:=by intro _;rfl):QD X (.ListComp elt [⟨tg,iter,ifs,0⟩] scope pos) (dv k it pt tt te deep):=⟨have hi:=hi.o;have hg:=fun C s H fp=>(hg C s H fp).o;have ht:=fun C s H fp=>(ht C s H fp).o;have he:=fun C s H fp=>(he C s H fp).o;by
 intro pins s σ H Q I h
 have:=Fc σ H Q h
 rw[I.len]at this
 exact N6 (N':=N') hc S hi hg ht he hs pins s σ H Q I this⟩
theorem xZ{y:Str}{py mL:Pos}(deep:Bool)(hN:X.N.Nodup)(hy:X.N[i]? = some y)(hx:Loc X.env.scope y)(Au:swapsWith (.ListComp elt [⟨tg,iter,ifs,0⟩] scope pos) (some (.Name y py)) mL.line X.env=pure true)(hc:X.calm=true)(S:bU X k N' scope)(hi:tI X tg iter it)(hg:∀ C s H fp,rL (gB X N' scope C s H fp) X.N.length tg pt)(ht:∀ C s H fp,oS (gB X N' scope C s H fp) ifs tt)(he:∀ C s H fp,QD (gB X N' scope C s H fp) elt te)(hs:∀ x,foldedSetIterable iter X.env x=pure x:=by intro _;rfl)(hf:X.fn y=true\/X.env.scope.names.lookup y=some .local:=by first|exact .inl rfl|exact .inr rfl|assumption):km X (.Assign [.Name y py] (.ListComp elt [⟨tg,iter,ifs,0⟩] scope pos) mL) (bD i (dv k it pt tt te deep)):=⟨have hi:=hi.o;have hg:=fun C s H fp=>(hg C s H fp).o;have ht:=fun C s H fp=>(ht C s H fp).o;have he:=fun C s H fp=>(he C s H fp).o;by
 intro pins s σ H D I h
 have hl:i<σ.length:=by rw[I.len];exact(Qr.mp hy).1
 refine N7 (N':=N') (te:=tD X.K te) (tt:=rG X.K tt) (g:=xW X.K X.N.length pt) (wi:=xU X.K it) hN hy hx Au hc S hi hg ht he hs hf pins s σ H D I ?_
 have z:=E8 (te:=xA k (xU X.K it) (xW X.K σ.length pt) (rG X.K tt) (tD X.K te)) hl (fun Q q=>Fc σ H Q q) h
 rw[I.len]at z
 exact z⟩
end
mutual
def dC:D->PyData
 | .aX=>.none
 | .bl b=>.bool b
 | .int i=>.int i
 | .str x=>.str x
 | .tup ds=>.tuple (gm ds)
 | .lst ds=>.list (gm ds)
 | .gC _ _=>.none
 | .exc _=>.none
 | .ob _ _ _ _=>.none
 | .mp _ _=>.none
def gm:List D->List PyData
 | []=>[]
 | d::ds=>dC d::gm ds
end
mutual
def gZ:D->Bool
 | .gC _ _=>false
 | .exc _=>false
 | .ob _ _ _ _=>false
 | .mp _ _=>false
 | .tup ds=>lj ds
 | .lst ds=>lj ds
 | _=>true
def lj:List D->Bool
 | []=>true
 | d::ds=>gZ d&&lj ds
end
def fB (d:D):Bool:=gZ d&&SeqAt.shaped (dC d)
theorem nT{d:D}(h:fB d=true):gZ d=true:=(QH.mp h).1
theorem nU{d:D}(h:fB d=true):SeqAt.shaped (dC d)=true:=(QH.mp h).2
def oT (d e:D):Bool:=PyData.eqv (dC d) (dC e)
section
variable {X:Cx}{pins:List (Addr×Obj)}{σ:St}{H:Hp}{s:Shared}
theorem Rep.reads(I:Inv X pins σ H s){w:Wn}{o:Ow}:∀ {q:Nat} {d:D} {v:V} {F:List Addr} {u:Value},Rep X.K H w o q d v F->bq v u->gZ d=true->∃ as,Reads s.heap u (dC d) as:=by
 intro q d v F u r
 refine(Rep.rec (motive_1:=fun q d v F _=>∀ u,bq v u->gZ d=true->∃ as,Reads s.heap u (dC d) as) (motive_2:=fun q ds vs F _=>∀ us,bf vs us->lj ds=true->∃ as,ReadsAll s.heap us (gm ds) as) ?_ ?_ ?_ ?_ ?_ ?_ ?_ ?_ ?_ ?_ ?_ ?_ ?_ ?_ ?_ r:∀ u,bq v u->gZ d=true->∃ as,Reads s.heap u (dC d) as) u
 ·intro q u ru hn;cases ru;exact⟨_,by unfold dC;exact .none⟩
 ·intro q b u ru hn;cases ru;exact⟨_,by unfold dC;exact .bool b⟩
 ·intro q i u ru hn;obtain⟨t,rfl⟩:=ru;exact⟨_,by unfold dC;exact .int i t⟩
 ·intro q x u ru hn;obtain⟨t,rfl⟩:=ru;exact⟨_,by unfold dC;exact .str x t⟩
 ·intro q a vs ds h r ih u ru hn
  cases ru
  obtain⟨au,rv,p,hz⟩:=I.tuple (cE.of h)
  obtain⟨as,ra⟩:=ih au rv (by unfold gZ at hn;exact hn)
  obtain⟨ob,ho,hc,n,hd⟩:=p
  exact⟨_,by unfold dC;exact .tuple ho hc hd ra⟩
 ·intro q a ks vs ds h e r ih u ru hn;cases hn
 ·intro q a nm ob v h x n u ru hn;cases hn
 ·intro q f c fo oc u1 u2 vs ds h1 h2 x r ih u ru hn;cases hn
 ·intro a vs ds h r ih u ru hn
  cases ru
  obtain⟨au,rv,p,hz⟩:=I.list h.sq
  obtain⟨as,ra⟩:=ih au rv (by unfold gZ at hn;exact hn)
  obtain⟨ob,ho,hc,n,hd⟩:=p.isList
  exact⟨_,by unfold dC;exact .list ho hc hd ra⟩
 ·intro a vs ds h n0 r ih u ru hn
  cases ru
  obtain⟨au,rv,p,hz⟩:=I.list (.inl h)
  obtain⟨as,ra⟩:=ih au rv (by unfold gZ at hn;exact hn)
  obtain⟨ob,ho,hc,n,hd⟩:=p.isList
  exact⟨_,by unfold dC;exact .list ho hc hd ra⟩
 ·intro q a vs ds F h e r ne ih u ru hn
  cases ru
  obtain⟨au,rv,p,hz⟩:=I.list (cK.of h)
  obtain⟨as,ra⟩:=ih au rv (by unfold gZ at hn;exact hn)
  obtain⟨ob,ho,hc,n,hd⟩:=p.isList
  exact⟨_,by unfold dC;exact .list ho hc hd ra⟩
 ·intro a vs ds k x h i e l r ih u ru hn;cases hn
 ·intro q a vs ds k x h i e l r ih u ru hn;cases hn
 ·intro q us ru hn;cases ru;exact⟨_,by unfold gm;exact .nil⟩
 ·intro q d v ds vs F G r s' ne oG oH us ru hn
  cases ru with
  | cons rv O7=>
   unfold lj at hn
   obtain⟨as,ra⟩:=oG _ rv (QH.mp hn).1
   obtain⟨bs,rb⟩:=oH _ O7 (QH.mp hn).2
   exact⟨_,by unfold gm;exact .cons ra rb⟩
end
def Is (K:PySem.W.Frag)(H:Hp)(d:D)(v:V):Prop:=∃ w o q F,Rep K H w o q d v F
def Fh (K:PySem.W.Frag):R2:=fun x y H Q=>∃ d e,Is K H d x/\Is K H e y/\fB d=true/\fB e=true/\Q (.bl (oT d e)) H
def Fi (K:PySem.W.Frag):R2:=fun x y H Q=>∃ d e,Is K H d x/\Is K H e y/\fB d=true/\fB e=true/\Q (.bl (!oT d e)) H
def inD (d:D):D->Option Bool
 | .lst ds=>some ((gm ds).any fun y=>PyData.eqv y (dC d))
 | .tup ds=>some ((gm ds).any fun y=>PyData.eqv y (dC d))
 | _=>none
def x6 (K:PySem.W.Frag)(neg:Bool):R2:=fun x y H Q=>∃ d e b,Is K H d x/\Is K H e y/\fB d=true/\fB e=true/\inD d e=some b/\Q (.bl (if neg then !b else b)) H
section
variable {X:Cx}{a b c e:Expr}{fa fb fc f:aw}{pos:Pos}
theorem Fj(hu:X.A.units+64<cLine):b_ X (compareOp .Eq) (Fh X.K):=by
 intro pins s σ H x y v u Q I rx ry ⟨d,e,⟨w,o,q,F,h1⟩,⟨w',o',q',F',h2⟩,k1,k2,hq⟩
 obtain⟨as,ra⟩:=h1.reads I rx (nT k1)
 obtain⟨bs,rb⟩:=h2.reads I ry (nT k2)
 exact eq_dataH ra rb (nU k1) (nU k2) hu ⟨.bl _,H,I,rfl,hq⟩
theorem O8(hu:X.A.units+64<cLine):b_ X (compareOp .NotEq) (Fi X.K):=by
 intro pins s σ H x y v u Q I rx ry ⟨d,e,⟨w,o,q,F,h1⟩,⟨w',o',q',F',h2⟩,k1,k2,hq⟩
 obtain⟨as,ra⟩:=h1.reads I rx (nT k1)
 obtain⟨bs,rb⟩:=h2.reads I ry (nT k2)
 exact ne_dataH ra rb (nU k1) (nU k2) hu ⟨.bl _,H,I,rfl,hq⟩
theorem O9(hu:X.A.units+65<cLine):b_ X (compareOp .In) (x6 X.K false):=by
 intro pins s σ H x y v u Q I rx ry ⟨d,e,b,⟨w,o,q,F,h1⟩,⟨w',o',q',F',h2⟩,k1,k2,hb,hq⟩
 obtain⟨as,ra⟩:=h1.reads I rx (nT k1)
 obtain⟨bs,rb⟩:=h2.reads I ry (nT k2)
 replace k1:=nU k1
 replace k2:=nU k2
 cases e with
 | lst ds=>
  cases hb
  unfold dC at rb k2
  exact SeqAt.in_list_reads rb ra (QU k2) (QU k1) (JL k1 hu) ⟨.bl _,H,I,rfl,hq⟩
 | tup ds=>
  cases hb
  unfold dC at rb k2
  exact SeqAt.in_tuple_reads rb ra (QU k2) (QU k1) (JL k1 hu) ⟨.bl _,H,I,rfl,hq⟩
 | _=>cases hb
theorem O_(hu:X.A.units+65<cLine):b_ X (compareOp .NotIn) (x6 X.K true):=by
 intro pins s σ H x y v u Q I rx ry ⟨d,e,b,⟨w,o,q,F,h1⟩,⟨w',o',q',F',h2⟩,k1,k2,hb,hq⟩
 obtain⟨as,ra⟩:=h1.reads I rx (nT k1)
 obtain⟨bs,rb⟩:=h2.reads I ry (nT k2)
 replace k1:=nU k1
 replace k2:=nU k2
 cases e with
 | lst ds=>
  cases hb
  unfold dC at rb k2
  exact SeqAt.notIn_list_reads rb ra (QU k2) (QU k1) (JL k1 hu) ⟨.bl _,H,I,rfl,hq⟩
 | tup ds=>
  cases hb
  unfold dC at rb k2
  exact SeqAt.notIn_tuple_reads rb ra (QU k2) (QU k1) (JL k1 hu) ⟨.bl _,H,I,rfl,hq⟩
 | _=>cases hb
def h_ (x y:D):Option D:=if fB x=true/\fB y=true then some (.bl (oT x y))else none
def cz (x y:D):Option D:=if fB x=true/\fB y=true then some (.bl (!oT x y))else none
def x8 (x y:D):Option D:=if fB x=true/\fB y=true then(inD x y).map fun b=>.bl b else none
def x9 (x y:D):Option D:=if fB x=true/\fB y=true then(inD x y).map fun b=>.bl (!b)else none
theorem Fl:∀ σ H Q,tD K (e2 h_ fa fb) σ H Q->jh (Fh K) (tD K fa) (tD K fb) σ H Q:=p9 fun x y d h=>by
 unfold h_ at h
 split at h
 next hk=>
  cases h
  exact⟨_,rfl,fun H w o o' q q' u u' F F' r1 r2 _ Q hq=>⟨x,y,⟨_,_,_,_,r1⟩,⟨_,_,_,_,r2⟩,hk.1,hk.2,hq⟩⟩
 ·cases h
theorem Pa:∀ σ H Q,tD K (e2 cz fa fb) σ H Q->jh (Fi K) (tD K fa) (tD K fb) σ H Q:=p9 fun x y d h=>by
 unfold cz at h
 split at h
 next hk=>
  cases h
  exact⟨_,rfl,fun H w o o' q q' u u' F F' r1 r2 _ Q hq=>⟨x,y,⟨_,_,_,_,r1⟩,⟨_,_,_,_,r2⟩,hk.1,hk.2,hq⟩⟩
 ·cases h
theorem hIn:∀ σ H Q,tD K (e2 x8 fa fb) σ H Q->jh (x6 K false) (tD K fa) (tD K fb) σ H Q:=p9 fun x y d h=>by
 unfold x8 at h
 split at h
 next hk=>
  cases hi:inD x y with
  | none=>rw[hi]at h;cases h
  | some b=>
   rw[hi]at h
   cases h
   exact⟨_,rfl,fun H w o o' q q' u u' F F' r1 r2 _ Q hq=>⟨x,y,b,⟨_,_,_,_,r1⟩,⟨_,_,_,_,r2⟩,hk.1,hk.2,hi,hq⟩⟩
 ·cases h
theorem Pb:∀ σ H Q,tD K (e2 x9 fa fb) σ H Q->jh (x6 K true) (tD K fa) (tD K fb) σ H Q:=p9 fun x y d h=>by
 unfold x9 at h
 split at h
 next hk=>
  cases hi:inD x y with
  | none=>rw[hi]at h;cases h
  | some b=>
   rw[hi]at h
   cases h
   exact⟨_,rfl,fun H w o o' q q' u u' F F' r1 r2 _ Q hq=>⟨x,y,b,⟨_,_,_,_,r1⟩,⟨_,_,_,_,r2⟩,hk.1,hk.2,hi,hq⟩⟩
 ·cases h
theorem uZ{k:Nat}(hr:aF k X.A)(ha:QD X a fa)(hb:QD X b fb):QD X (.Compare a [.Eq] [b] pos) (e2 h_ fa fb):=⟨have ha:=ha.o;have hb:=hb.o;AH (Fj hr.units) Fl ha hb (pS _)⟩
theorem x_{k:Nat}(hr:aF k X.A)(ha:QD X a fa)(hb:QD X b fb):hZ X (.Compare a [.Eq] [b] pos) (bJ (e2 h_ fa fb)):=⟨have ha:=ha.o;have hb:=hb.o;rJ (Fj hr.units) Fl ha hb (pS _)⟩
theorem jl{k:Nat}(hr:aF k X.A)(ha:QD X a fa)(hb:QD X b fb):hZ X (.Compare a [.NotEq] [b] pos) (bJ (e2 cz fa fb)):=⟨have ha:=ha.o;have hb:=hb.o;rJ (O8 hr.units) Pa ha hb (pS _)⟩
theorem AU{k:Nat}(r:aF k A):A.units+65<cLine:=by have:=r.un;omega
theorem Pc{k:Nat}(hr:aF k X.A)(ha:QD X a fa)(hb:QD X b fb)(hm:behindInMarks .In b=false:=by with_unfolding_all rfl):QD X (.Compare a [.In] [b] pos) (e2 x8 fa fb):=⟨have ha:=ha.o;have hb:=hb.o;AH (O9 (AU hr)) hIn ha hb hm⟩
theorem Pd{k:Nat}(hr:aF k X.A)(ha:QD X a fa)(hb:QD X b fb)(hm:behindInMarks .NotIn b=false:=by with_unfolding_all rfl):hZ X (.Compare a [.NotIn] [b] pos) (bJ (e2 x9 fa fb)):=⟨have ha:=ha.o;have hb:=hb.o;rJ (O_ (AU hr)) Pb ha hb hm⟩
end
@[simp] def eB (h:List D->Option D)(g:bQ):aw:=fun ρ=>match g ρ with
 | some (ds,ρ1)=>match h ds with
  | some d=>some (d,9,ρ1)
  | none=>none
 | none=>none
section
variable {X:Cx}{a b c e:Expr}{es:List Expr}{fa fb fc f:aw}{g:bQ}{pos p p1 p2:Pos}
theorem ya{h:List D->Option D}{r:List V->Hp->VK->Prop}(hh:∀ ds d,h ds=some d->∃ v,la d=some v/\∀ H w vs,WL K w H->af K H w .f 0 ds vs []->∀ Q:VK,Q v H->r vs H Q) :
  ∀ σ H Q,tD K (eB h g) σ H Q->xm r (AF K g) σ H Q:=fun σ H Q ak=>by
 obtain⟨ρ,w,t,r',q,ρ',gd,ee,k⟩:=ak
 unfold eB at ee
 split at ee
 next ds ρ1 h1=>
  split at ee
  next d hd=>
   cases ee
   obtain⟨v,hv,hr⟩:=hh ds _ hd
   exact⟨ρ,w,t,ds,_,gd,h1,fun vs H1 w1 g1 aK r1=>hr H1 w1 vs g1.wl r1 Q (k v H1 w1 [] g1.up aK (xP hv))⟩
  ·cases ee
 ·cases ee
theorem one{w:Wn}{o:Ow}{d:D}(r:af K H w o 0 [d] vs []):∃ v,vs=[v]/\Rep K H w o 0 d v []:=by
 have l:=r.length
 match vs,l with
 | [v],_=>
  obtain⟨v',h1,h2⟩:=r.get (i:=0) rfl
  cases h1
  exact⟨v,rfl,h2⟩
theorem two{w:Wn}{o:Ow}{d d':D}(r:af K H w o 0 [d,d'] vs []):∃ v v',vs=[v,v']/\Rep K H w o 0 d v []/\Rep K H w o 0 d' v' []:=by
 have l:=r.length
 match vs,l with
 | [v,v'],_=>
  obtain⟨u,h1,h2⟩:=r.get (i:=0) rfl
  obtain⟨u',h3,h4⟩:=r.get (i:=1) rfl
  cases h1
  cases h3
  exact⟨v,v',rfl,h2,h4⟩
def gp:D->Option Nat
 | .lst ds=>some ds.length
 | .tup ds=>some ds.length
 | _=>none
@[simp] def mV:List D->Option D
 | [d]=>(gp d).map fun n=>.int (Int.ofNat n)
 | _=>none
theorem Rep.len{w:Wn}{o:Ow}{q:Nat}{d:D}(r:Rep K H w o q d v F)(h:gp d=some n):∃ p ys,v=.ref p/\(cK K H p ys\/cE K H p ys)/\ys.length=n:=by
 cases d with
 | lst ds=>
  cases h
  obtain⟨p,vs,q',G,rfl,hq,rs⟩:=r.oM
  exact⟨p,vs,rfl,.inl hq,rs.length.symm⟩
 | tup ds=>
  cases h
  obtain⟨p,vs,rfl,hq,rs⟩:=r.eF
  exact⟨p,vs,rfl,.inr hq,rs.length.symm⟩
 | _=>cases h
theorem u0(hm:X.mg "len" = none)(ha:fU X [a] g)(hg:Gl X "len":=by rfl)(he:starEach [a] X.env=(false,eval a X.env)::starEach [] X.env:=by rfl)(bT:(backTo pos (starEach [] X.env)).any (·.1)=false:=by rfl):QD X (.Call (.Name "len" p) [a] [] pos) (eB mV g):=⟨have ha:=ha.o;PE.imp (q9 zU hg hm YY ha (by decide) (by decide) he bT) (ya fun ds d h=>by
  match ds,h with
  | [d0],h=>
   cases hl:gp d0 with
   | none=>simp only[mV,hl,Option.map_none]at h;cases h
   | some n=>
    simp only[mV,hl,ZB,Option.some.injEq]at h
    subst h
    refine⟨_,rfl,fun H w vs wl r Q hq=>?_⟩
    obtain⟨v,rfl,rv⟩:=one r
    obtain⟨p,ys,rfl,hs,hn⟩:=rv.len hl
    exact⟨p,ys,rfl,hs,by rw[hn];exact hq⟩)⟩
@[simp] def dE (i:Nat):aw:=fun ρ=>match ρ[i]? with
 | some (some (d,_))=>match gp d with
  | some n=>some (.int (Int.ofNat n),9,ρ)
  | none=>none
 | _=>none
theorem fC{x:Str}(hm:X.mg "len" = none)(h:QE X (.Name x p1) (fP i))(hg:Gl X "len":=by rfl)(he:starEach [.Name x p1] X.env=(false,eval (.Name x p1) X.env)::starEach [] X.env:=by rfl)(bT:(backTo pos (starEach [] X.env)).any (·.1)=false:=by rfl):QD X (.Call (.Name "len" p) [.Name x p1] [] pos) (dE i):=⟨have h:=h.o;PE.imp (q9 zU hg hm YY (mB h pV he) (by decide) (by decide) he bT) fun σ H Q ak=>by
 obtain⟨ρ,w,t,r',q,ρ',gd,ee,k⟩:=ak
 unfold dE at ee
 split at ee
 next d q0 e0=>
  split at ee
  next n hn=>
   cases ee
   obtain⟨v,F,h1,h2⟩:=gd.slot i d q0 e0
   obtain⟨p,ys,rfl,hs,hl⟩:=h2.len hn
   exact⟨_,h1,p,ys,rfl,hs,by rw[hl];exact k _ H w [] gd.up Go.refl (.int _)⟩
  ·cases ee
 ·cases ee⟩
@[simp] def AV:List D->Option D
 | [.int i,.int j]=>some (.int (if j > i then j else i))
 | _=>none
theorem Pe(hc:X.calm=true)(hm:X.mg "max" = none)(hb:bootBuiltins "max" = some (.builtin "max"))(ha:fU X (a::es) g)(hg:Gl X "max":=by rfl)(he:starEach (a::es) X.env=(false,eval a X.env)::starEach es X.env:=by rfl)(bT:(backTo pos (starEach es X.env)).any (·.1)=false:=by rfl):QD X (.Call (.Name "max" p) (a::es) [] pos) (eB AV g):=⟨have ha:=ha.o;PE.imp (q9 (L9 hc) hg hm hb ha (by decide) (by decide) he bT) (ya fun ds d h=>by
  unfold AV at h
  split at h
  next i j=>
   cases h
   refine⟨_,rfl,fun H w vs wl r Q hq=>?_⟩
   obtain⟨v,v',rfl,r1,r2⟩:=two r
   exact⟨i,j,by rw[dN r1,dN r2],hq⟩
  ·cases h)⟩
@[simp] def j8m (g:bQ):aw:=fun ρ=>match g ρ with
 | some ([.lst ds],ρ1)=>some (.lst ds,1,ρ1)
 | some ([.tup ds],ρ1)=>some (.lst ds,1,ρ1)
 | _=>none
@[simp] def iU (g:bQ):aw:=fun ρ=>match g ρ with
 | some ([.lst ds],ρ1)=>some (.tup ds,9,ρ1)
 | some ([.tup ds],ρ1)=>some (.tup ds,9,ρ1)
 | _=>none
theorem lr(hm:X.mg "tuple" = none)(hb:bootBuiltins "tuple" = some (.type "tuple"))(ha:fU X [a] g)(hg:Gl X "tuple":=by rfl)(he:starEach [a] X.env=(false,eval a X.env)::starEach [] X.env:=by rfl)(bT:(backTo pos (starEach [] X.env)).any (·.1)=false:=by rfl):QD X (.Call (.Name "tuple" p) [a] [] pos) (iU g):=⟨have ha:=ha.o;PE.imp (xn M7 hg hm hb ha (by decide) (by decide) he bT) fun σ H Q ak=>by
 obtain⟨ρ,w,t,r',q,ρ',gd,ee,k⟩:=ak
 unfold iU at ee
 split at ee
 next ds ρ1 h1=>
  cases ee
  refine⟨ρ,w,t,_,_,gd,h1,fun vs H1 w1 g1 aK r1=>?_⟩
  obtain⟨v,rfl,rv⟩:=one r1
  obtain⟨p,ys,rfl,hs,rs⟩:=rv.gE
  refine⟨p,ys,rfl,.inl ⟨hs,fun l hl=>?_⟩⟩
  obtain⟨a1,a2,a3⟩:=oJ g1 hl rs
  exact k _ _ _ _ a1 (aK.trans a2) a3
 next ds ρ1 h1=>
  cases ee
  refine⟨ρ,w,t,_,_,gd,h1,fun vs H1 w1 g1 aK r1=>?_⟩
  obtain⟨v,rfl,rv⟩:=one r1
  have rr:=rv
  obtain⟨p,ys,rfl,hs,rs⟩:=rv.eF
  refine⟨p,ys,rfl,.inr ⟨hs,?_⟩⟩
  exact k _ H1 w1 [] g1.up aK (((rr.bV rfl).2 9).any g1.wl)
 ·cases ee⟩
def Fm (ta:TA):TE:=fun σ H Q=>ta σ H fun vs H1=>∃ j:Int,vs=[.int j] /\ -(2 ^ 62)<=j/\j<2 ^ 62/\∀ p,H1 p=none->Q (.ref p) (upd H1 p (.mn 0 j))
theorem Fn{ta:TA}(hg:Gl X "range")(hm:X.mg "range" = none)(ha:PA X [a] ta)(hs:starEach [a] X.env=[(false,eval a X.env)]:=by rfl):PE X (.Call (.Name "range" p) [a] [] pos) (Fm ta):=by
 intro pins s σ H Q I h
 refine Call_ (s_ I hg hm boot_range (ZF (aN (ha pos pins s σ H _ I h) fun us s1 ⟨vs,H1,I1,r1,q1⟩=>?_) hs rfl))
 obtain⟨j,e,q1,q2,q⟩:=q1
 subst e
 cases r1 with
 | cons r rr=>
  cases rr
  obtain⟨t,rfl⟩:=r
  refine call_range_1 ?_
  exact⟨.ref s1.heap.objs.size,upd H1 s1.heap.objs.size (.mn 0 j),I1.laid (fun b u e=>Qc _ e) (Qd _) ⟨_,_,_,Qm _ rfl⟩,rfl,q _ (I1.aA.fresh (Qd _))⟩
end
theorem Fp{j:Int}(h1:-(2 ^ 62)<=j)(h2:j<2 ^ 62):Builtin.Range.small 0 j 1=true:=by
 have hs:Builtin.Range.rangeSize 0 j 1=((j.toNat:Nat):Int):=by
  simp[Builtin.Range.rangeSize]<;>split<;>omega
 simp only[Builtin.Range.small,hs,Builtin.Range.rangeFitsLong]
 simp
 omega
theorem Fq(j:Int):Builtin.Range.rangeSize 0 j 1=((j.toNat:Nat):Int):=by
 simp[Builtin.Range.rangeSize]<;>split<;>omega
theorem Ft{acc:Array Value}(h:ItemsOf (fun i v=>∃ t,v=Value.int (0+(i:Nat)*1) t) acc n):bf (qg n) acc.toList:=by
 have key:∀ (us:List Value) (k:Nat),(∀ j v,us[j]? = some v->∃ t,v=Value.int (((k+j:Nat)):Int) t)->bf ((List.range' k us.length).map fun i=>V.int (Int.ofNat i)) us:=by
  intro us
  induction us with
  | nil=>intro k _;exact .nil
  | cons u r ih=>
   intro k hk
   obtain⟨t,e⟩:=hk 0 u rfl
   refine .cons ⟨t,by rw[e];rfl⟩ (ih (k+1) fun j v hv=>?_)
   obtain⟨t',e'⟩:=hk (j+1) v (by simpa using hv)
   exact⟨t',by rw[e'];congr 2;omega⟩
 have:=key acc.toList 0 fun j v hv=>by
  obtain⟨t,e⟩:=h.2 j v (by simpa using hv)
  exact⟨t,by rw[e];congr 1;omega⟩
 have hl:acc.toList.length=n:=by simpa using h.1
 rw[hl]at this
 unfold qg
 rw[List.range_eq_range']
 exact this
section
variable {prog:Program}{w:World}{A:Around}{E:Value->Shared->Prop}{s:Shared}
open AutoSeq1 (wpAny_loadPart')
theorem Pf{Q:List Value->Shared->Prop}{r:Addr}{a:Int}{t v:Tok}(hh:A.handled=none)(hr:IsRange s.heap r a b c t u v)(gG:Builtin.Range.small a b c=true)(hn:Builtin.Range.rangeSize a b c=n)(hlen:n<=2 ^ 24)
  (hQ:∀ h' tk bp,(∀ b o',s.heap.get? b=some o'->h'.get? b=some o')->ItemsOf (fun i v=>∃ t,v=.int (a+i*c) t) bp n->Q bp.toList { s with heap:=h',toks:=tk }) :
  wpAny (model prog w) A (collect (.ref r)) Q E s:=by
 unfold collect
 refine Qa (wpAny_runValue (J1 F.entry_proto_collect ?_))
 rw[Around.under_plainId F.plain_proto_collect _]
 show wpAny _ A.in1 (newList [] >>= fun l=>again (.builtin "list.__iadd__" ⟨[l,.ref r],[]⟩)) _ _ s
 refine Qa (QF ?_)
 refine Qb ⟨plainId_quiet F.plain_list_iadd _,J1 F.entry_list_iadd ?_⟩
 rw[Around.under_plainId F.plain_list_iadd _]
 show wpAny _ A.in1 (Builtin.List.listExtendWith (.ref s.heap.objs.size) (.ref r) (.ref s.heap.objs.size)) _ _ _
 have hS:(s.heap.push { cls:=.type "list",data:=.seq ([]:List Value).toArray }).get? s.heap.objs.size=some { cls:=.type "list",data:=.seq #[] 0 }:=Qm _ rfl
 have u4:∀ (h':Heap) (tk:Nat) (bp:Array Value) (c':Nat),(∀ b o,b≠s.heap.objs.size->(s.heap.push { cls:=.type "list",data:=.seq ([]:List Value).toArray }).get? b=some o->h'.get? b=some o)->
   h'.get? s.heap.objs.size=some { cls:=.type "list",dict:=none,data:=.seq bp c',slots:=#[] }->ItemsOf (fun i v=>∃ t,v=.int (a+i*c) t) bp n->wpAny (model prog w) A (match Value.ref s.heap.objs.size with
   | Value.ref a=>do
    match (<- load a).data with
     | Data.seq xs _=>pure xs.toList
     | _=>unsupported "internal:collect"
   | _=>unsupported "internal:collect") Q E { s with heap:=h',toks:=tk }:=fun h' tk bp c' hk oU cW=>by
  show wpAny _ A (load s.heap.objs.size >>= _) _ _ _
  refine Qa (wpAny_load oU ?_)
  refine Qb (hQ h' tk bp (fun b o' hb=>?_) cW)
  exact hk b o' (QB (Qj hb)) (Qc _ hb)
 refine Ze (wpAny_extend_range (A:=A) (R:=fun rs s'=>rs=.ok (.ret (.ref s.heap.objs.size))/\∃ h' tk bp c',s'={ s with heap:=h',toks:=tk }/\(∀ b o,b≠s.heap.objs.size->(s.heap.push { cls:=.type "list",data:=.seq ([]:List Value).toArray }).get? b=some o->h'.get? b=some o) /\
   h'.get? s.heap.objs.size=some { cls:=.type "list",dict:=none,data:=.seq bp c',slots:=#[] }/\ItemsOf (fun i v=>∃ t,v=.int (a+i*c) t) bp n)
  (s:={ s with heap:=s.heap.push { cls:=.type "list",data:=.seq ([]:List Value).toArray } }) hh (Qc _ hr) gG hn hlen s.heap.objs.size (.ref s.heap.objs.size) 0 hS (fun h' tk bp c' hk oU cW=>⟨rfl,h',tk,bp,c',rfl,hk,oU,cW⟩)) (fun fin s' h=>?_) (fun e s' h=>?_)
 ·cases fin with
  | done f=>
   obtain⟨e,h',tk,bp,c',rfl,hk,oU,cW⟩:=h
   cases e
   exact u4 h' tk bp c' hk oU cW
  | again c'=>exact⟨h.1,Jj h.2 fun r ti hr=>by
    obtain⟨rfl,h',tk,bp,c',rfl,hk,oU,cW⟩:=hr
    exact u4 h' tk bp c' hk oU cW⟩
 ·exact absurd h.1 (by simp)
end
theorem Pg(r:Addr)(a b c:Int)(t u v:Tok)(n:Nat)(gG:Builtin.Range.small a b c=true)(hn:Builtin.Range.rangeSize a b c=n)(hlen:n<=2 ^ 24) :
  Meets (Builtin.«tuple.__new__» ⟨[.type "tuple",.ref r],[]⟩)
   (fun A R s=>A.handled=none/\IsRange s.heap r a b c t u v/\∀ (h':Heap) tk bp,(∀ b o',s.heap.get? b=some o'->h'.get? b=some o')->ItemsOf (fun i v=>∃ t,v=.int (a+i*c) t) bp n->R (.ok (.ret (.ref h'.objs.size))) { s with heap:=h'.push { cls:=.type "tuple",data:=.seq bp },toks:=tk }):=
 .of_wp fun prog w A R s h=>by
  obtain⟨hp,g,d,tk,os⟩:=s;obtain⟨hh,hr,h⟩:=h
  have hV:=sub_tuple_self
  have Fu:=init_tuple_lookup
  have hmh:=madeHere_tuple
  have hT:Shared.TypeIs ⟨hp,g,d,tk,os⟩ (.ref r) "range":=⟨_,hr,rfl⟩
  have rP:A.in1.handled=none:=hh
  wp_walk using AutoSeq1.wpAny_loadPart' hr,JG hT,Pf rP hr gG hn hlen
  intro h' Ph bp hk cW
  show wpAny _ _ (Builtin.Tuple.tupleExact bp.toList.toArray >>= fun v=>ret v) _ _ _
  unfold Builtin.Tuple.tupleExact
  have hsz:bp.size<=sizeLine:=by rw[cW.1];exact hlen
  refine Qa (QF ?_ (by show bp.toList.toArray.size<=sizeLine;simpa using hsz))
  refine Qb ⟨_,rfl,?_⟩
  have e:bp.toList.toArray=bp:=by simp
  rw[e]
  exact h h' Ph bp hk cW
theorem Pj{prog:Program}{w:World}{E:Value->Shared->Prop}{s:Shared}{r:Addr}{a:Int}{t v:Tok}{Q:Value->Shared->Prop}(hh:A.handled=none)(hr:IsRange s.heap r a b c t u v)(gG:Builtin.Range.small a b c=true)(hn:Builtin.Range.rangeSize a b c=n)(hlen:n<=2 ^ 24)
  (h:∀ (h':Heap) tk bp,(∀ b o',s.heap.get? b=some o'->h'.get? b=some o')->ItemsOf (fun i v=>∃ t,v=.int (a+i*c) t) bp n->Q (.ref h'.objs.size) { s with heap:=h'.push { cls:=.type "tuple",data:=.seq bp },toks:=tk }) :
  wpAny (model prog w) A (call (.type "tuple") [.ref r]) Q E s:=
 callType_new F.called_tuple (by decide) (F.typeCall_tuple_1 _) (F.newCall_tuple_1 _) (fun obj=>F.args_object_init_2 obj _) F.entry_tuple_new
  (Pg r a b c t u v n gG hn hlen) ⟨hh,hr,fun h' tk bp hk cW=>⟨⟨_,Qm _ rfl,rfl⟩,h h' tk bp hk cW⟩⟩
section
variable {X:Cx}
def AW (mk:List V->HO):List V->Hp->VK->Prop:=fun xs H Q=>∃ a j,xs=[.ref a]/\H a=some (.mn 0 j) /\ -1000<=j/\j<=1000/\∀ p,H p=none->Q (.ref p) (upd H p (mk (qg j.toNat)))
theorem Pk(hc:X.calm=true):mz X (.type "list") (AW .lst):=by
 intro pins s σ H xs us Q I r h
 obtain⟨a,j,rfl,hr,j1,j2,q⟩:=h
 obtain⟨u,rfl,rx⟩:=qX r
 cases rx
 obtain⟨t,u,v,ho⟩:=(show cJ X.prog X.w H s.heap a (.mn 0 j)from I.aA a _ hr)
 refine call_list_range (I.ok.hd hc) ho (Fp (by omega) (by omega)) (Fq j) (by omega) fun h' tk bp c' hk oU cW=>?_
 refine⟨.ref s.heap.objs.size,_,I.laid (t':=tk) (o:=.lst (qg j.toNat)) hk (Qd _) ⟨by rw[E9];exact QC (by omega:j.toNat<=1000) (by decide),bp.toList,c',Ft cW,by simpa using oU⟩,rfl,q _ (I.aA.fresh (Qd _))⟩
theorem Pl(hc:X.calm=true):mz X (.type "tuple") (AW .tup):=by
 intro pins s σ H xs us Q I r h
 obtain⟨a,j,rfl,hr,j1,j2,q⟩:=h
 obtain⟨u,rfl,rx⟩:=qX r
 cases rx
 obtain⟨t,u,v,ho⟩:=(show cJ X.prog X.w H s.heap a (.mn 0 j)from I.aA a _ hr)
 refine Pj (I.ok.hd hc) ho (Fp (by omega) (by omega)) (Fq j) (by omega) fun h' tk bp hk cW=>?_
 have I1:Inv X pins σ H { s with heap:=h',toks:=tk }:=I.kept hk
 have I2:Inv X pins σ (upd H h'.objs.size (.tup (qg j.toNat))) { s with heap:=h'.push { cls:=.type "tuple",data:=.seq bp },toks:=tk }:=
  I1.laid (t':=tk) (fun b o e=>Qc _ e) (Qd _) (show cJ X.prog X.w _ _ _ (.tup _)from⟨by rw[E9];exact QC (by omega:j.toNat<=1000) (by decide),bp.toList,Ft cW,by simpa using j7.new h' bp⟩)
 exact⟨.ref h'.objs.size,_,I2,rfl,q _ (I1.aA.fresh (Qd _))⟩
variable {a:Expr}{g:bQ}{pos p p1 ls:Pos}
@[simp] def AX (g:bQ):aw:=fun ρ=>match ck g ρ with
 | some (ds,ρ1)=>some (.lst ds,1,ρ1)
 | none=>none
@[simp] def AY (g:bQ):aw:=fun ρ=>match ck g ρ with
 | some (ds,ρ1)=>some (.tup ds,9,ρ1)
 | none=>none
theorem Fv{mk:List V->HO}{q0:Nat}{md:List D->D}(al:∀ {ρ:aU} {σ:St} {H1:Hp} {w1:Wn} {t:Nat} {p:Addr} {vs:List V} {ds:List D},Good K ρ σ H1 w1 t->H1 p=none->af K H1 w1 .f 0 ds vs []->∃ w' F,Good K ρ σ (upd H1 p (mk vs)) w' (t+1)/\Go H1 w1 (upd H1 p (mk vs)) w'/\Rep K (upd H1 p (mk vs)) w' (.t t) q0 (md ds) (.ref p) F) :
  ∀ σ H Q,tD K (fun ρ=>match ck g ρ with
   | some (ds,ρ1)=>some (md ds,q0,ρ1)
   | none=>none) σ H Q->xm (AW mk) (Eh (Fm (AF K g)) zO) σ H Q:=fun σ H Q ak=>by
 obtain⟨ρ,w,t,r',q,ρ',gd,ee,k⟩:=ak
 dsimp only at ee
 split at ee
 next ds ρ1 h1=>
  cases ee
  unfold ck at h1
  split at h1
  next n ρ2 h2=>
   split at h1
   next hn=>
    cases h1
    refine⟨ρ,w,t,_,_,gd,h2,fun vs H1 w1 g1 aK r1=>?_⟩
    obtain⟨v,rfl,rv⟩:=one r1
    have hv:=dN rv
    subst hv
    refine⟨n,rfl,by omega,by omega,fun p hp=>⟨p,n,rfl,de,hn.1,hn.2,fun l hl=>?_⟩⟩
    have ne:∀ a x,H1 a=some x->a≠p:=fun a x e=>eQ e hp
    have st:cL H1 w1 (upd H1 p (.mn 0 n)) w1:=fun a x e nn=>⟨sm (by rw[aR (ne a x e)];exact e),nn⟩
    have nw:∀ a o,w1 a=some o->a≠p:=fun a o e=>by obtain⟨vs,q⟩:=g1.wl a o e;exact ne a _ q
    have g2:Good K ρ' σ (upd H1 p (.mn 0 n)) w1 t:=⟨⟨fun a o e=>by
     obtain⟨us,q⟩:=g1.wl a o e
     exact⟨us,by rw[aR (nw a o e)];exact q⟩,g1.wl.tb.upd rfl (.inl hp)⟩,g1.ws,g1.wt,g1.len,fun i d q e=>by
     obtain⟨v,F,h1,h2⟩:=g1.slot i d q e
     exact⟨v,F,h1,Rep.go g1.wl st h2 fun a m=>⟨aR (nw a _ (h2.az a m)),h2.az a m⟩⟩⟩
    have br:Go H1 w1 (upd H1 p (.mn 0 n)) w1:=⟨st,fun a o e _=>⟨aR (nw a o e),e⟩⟩
    obtain⟨w',F,a1,a2,a3⟩:=al g2 hl (OO n.toNat)
    exact k _ _ _ _ a1 ((aK.trans br).trans a2) a3
   ·cases h1
  ·cases h1
 ·cases ee
theorem Pm(hc:X.calm=true)(hm:X.mg "list" = none)(hb:bootBuiltins "list" = some (.type "list"))(AZ:X.mg "range" = none)(ha:fU X [a] g)(hg:Gl X "list":=by rfl)(A_:Gl X "range":=by rfl)(hs:starEach [a] X.env=[(false,eval a X.env)]:=by rfl)(he:starEach [.Call (.Name "range" p1) [a] [] ls] X.env=(false,eval (.Call (.Name "range" p1) [a] [] ls) X.env)::starEach [] X.env:=by rfl)(bT:(backTo pos (starEach [] X.env)).any (·.1)=false:=by rfl):QD X (.Call (.Name "list" p) [.Call (.Name "range" p1) [a] [] ls] [] pos) (AX g):=⟨have ha:=ha.o;PE.imp (xn (Pk hc) hg hm hb (mB (Fn A_ AZ ha hs) pV he) (by decide) (by decide) he bT) (Fv fun g hp r=>by
  obtain⟨a1,a2,a3⟩:=tF g hp r
  exact⟨_,_,a1,a2,a3⟩)⟩
theorem Fw(hc:X.calm=true)(hm:X.mg "tuple" = none)(hb:bootBuiltins "tuple" = some (.type "tuple"))(AZ:X.mg "range" = none)(ha:fU X [a] g)(hg:Gl X "tuple":=by rfl)(A_:Gl X "range":=by rfl)(hs:starEach [a] X.env=[(false,eval a X.env)]:=by rfl)(he:starEach [.Call (.Name "range" p1) [a] [] ls] X.env=(false,eval (.Call (.Name "range" p1) [a] [] ls) X.env)::starEach [] X.env:=by rfl)(bT:(backTo pos (starEach [] X.env)).any (·.1)=false:=by rfl):QD X (.Call (.Name "tuple" p) [.Call (.Name "range" p1) [a] [] ls] [] pos) (AY g):=⟨have ha:=ha.o;PE.imp (xn (Pl hc) hg hm hb (mB (Fn A_ AZ ha hs) pV he) (by decide) (by decide) he bT) (Fv fun g hp r=>by
  obtain⟨a1,a2,a3⟩:=oJ g hp r
  exact⟨_,_,a1,a2,a3⟩)⟩
end
end L3
namespace L3
open PySem PySem.Spec PyProof.Rows L2
theorem Pn{M:Model}{A:Around}{E:Value->Shared->Prop}{s:Shared}{β:Type}{n:Nat}(f:Nat->β->Sem (ForInStep β))(I:List Nat->β->Shared->Prop)(Q:β->Shared->Prop)(b:β)
  (turn:∀ x bE b s,I (x::bE) b s->wpAny M A (f x b) (fun r s'=>match r with|.yield b'=>I bE b' s' | .done b'=>Q b' s') E s)
  (fin:∀ b s,I [] b s->Q b s) (h:I (List.range' 0 n 1) b s):wpAny M A (forIn [0:n] b f) Q E s:=by
 rw[Jh]
 refine wpAny_forIn_list f I Q turn fin _ b ?_
 have e:(Std.Legacy.Range.size [0:n])=n:=by simp[Std.Legacy.Range.size]
 show I (List.range' 0 (Std.Legacy.Range.size [0:n]) 1) b s
 rw[e]
 exact h
open AutoSeq1 (wpAny_loadPart') in
theorem Po(l:Addr)(items:Array Value)(n:Nat)(dd:Option Addr)(sl:Array (Option Value))(x:Value)(e:Value->Bool)(j:Nat)(hj:j<items.size)(hit:e items[j]=true)(zS:∀ m (hm:m<items.size),m<j->e items[m]=false) :
  Meets (Builtin.«tuple.index» ⟨[.ref l,x],[]⟩)
   (fun A R s=>s.heap.get? l=some { cls:=.type "tuple",dict:=dd,data:=.seq items n,slots:=sl }/\(∀ y,y∈items->SeqAt.EqAt A.in1 s y x (e y))/\R (.ok (.ret (.int j s.toks))) { s with toks:=s.toks+1 }):=
 .of_wp fun prog w A R s h=>by
  obtain⟨hp,g,d,tk,os⟩:=s;obtain⟨hl,he,h⟩:=h
  wp_walk using wpAny_loadPart' hl,Pn _ (fun bE b s'=>b.1=none/\s'=⟨hp,g,d,tk,os⟩/\∃ i k,bE=List.range' i k 1/\i+k=items.size/\i<=j) _
  case turn=>
   rintro y bE b s' ⟨hb,rfl,i,k,hr,Pp,uv⟩
   cases k with
   | zero=>simp at hr
   | succ k=>
    rw[JV]at hr
    obtain⟨rfl,rfl⟩:=List.cons.inj hr
    have cY:y<items.size:=by omega
    have Ba:items[y]? = some items[y]:=by simp[cY]
    rw[Ba]
    refine Qa (he _ (Array.getElem_mem cY) prog w _ _ ?_)
    by_cases Pq:y=j
    ·subst Pq
     rw[hit]
     wp_walk
     exact⟨_,rfl,h⟩
    ·rw[zS y cY (by omega)]
     wp_walk
     exact⟨rfl,rfl,y+1,k,rfl,by omega,by omega⟩
  case fin=>
   rintro ⟨b1,b2⟩ s' ⟨hb,rfl,i,k,hr,Pp,uv⟩
   cases k with
   | zero=>omega
   | succ k=>simp[JV]at hr
  case h=>
   exact⟨rfl,rfl,0,items.size,by simp,by omega,by omega⟩
end L3
namespace L3
open PySem PySem.Spec PyProof.Rows L2
variable {F:List Addr}{H:Hp}{K:PySem.W.Frag}{N ps:List Str}{P:Program}{Q:Value->Shared->Prop}{Sq:Hp->List V->Prop}{X:Cx}{base:Heap}{body:av}{d:D}{ds:List D}{g1 g2:Int->Int->Option D}{h1 h2:Int->Int->V}{i j n q:Nat}{it p sl:Addr}{mg:Str->Option Value}{o:Ow}{op k6:CmpOp}{p3 p4:Pos}{st:Stmt}{u:Value}{vs:List V}{w:Wn}{x:Str}{ρ:aU}{σ:St}
def yb (d:D)(ds:List D):Option Nat:=(gm ds).findIdx? fun y=>PyData.eqv y (dC d)
def Pr (K:PySem.W.Frag):V->List V->Hp->VK->Prop:=fun x xs H Q=>∃ ds d y j,xs=[y]/\Is K H (.tup ds) x/\Is K H d y/\fB (.tup ds)=true/\fB d=true/\yb d ds=some j/\Q (.int (Int.ofNat j)) H
section
variable {X:Cx}{a b c e:Expr}{es:List Expr}{fa fb fc f:aw}{g:bQ}{pos p p1 p2 ay apos:Pos}
theorem Pu(hu:X.A.units+65<cLine):Ez X "tuple.index" (Pr X.K):=by
 intro pins s σ H x xs v us Q I rx rs ⟨ds,d,y,j,e,⟨w,o,q,F,h1⟩,⟨w',o',q',F',h2⟩,k1,k2,hj,hq⟩
 subst e
 obtain⟨u,rfl,ru⟩:=qX rs
 obtain⟨as,ra⟩:=h1.reads I rx (nT k1)
 obtain⟨bs,rb⟩:=h2.reads I ru (nT k2)
 replace k1:=nU k1
 replace k2:=nU k2
 unfold dC at ra k1
 have l7:PyData.canLayAll0 (gm ds)=true:=QU k1
 have mD:=QU k2
 cases ra with
 | @tuple a ob vs n _ _ ho oV hd Fx=>
  obtain⟨cls,dd,data,sl⟩:=ob
  simp only at oV hd
  subst oV hd
  have u5:=SeqAt.readsAll_map _ _ _ l7 Fx
  have Pw:=List.findIdx?_eq_some_iff_getElem.mp hj
  obtain⟨Px,Py,Pz⟩:=Pw
  have hlen:vs.size=(gm ds).length:=by rw[<- u5];simp
  have Fy:∀ m (hm:m<vs.size) (nV:m<(gm ds).length),SeqAt.readOf s.heap vs[m]=(gm ds)[m]:=fun m hm nV=>by
   have:(vs.toList.map (SeqAt.readOf s.heap))[m]? = (gm ds)[m]?:=by rw[u5]
   simpa [hm,nV]using this
  refine Jf Yy ⟨_,ho,rfl⟩ PySem.F.entry_tuple_index (PySem.F.args_tuple_index_2 _ _)
   (Po a vs n dd sl u (fun y=>PyData.eqv (SeqAt.readOf s.heap y) (dC d)) j (by omega) (by rw[Fy j (by omega) Px];simpa using Py) (fun m hm PB=>by rw[Fy m hm (by omega)];simpa using Pz m PB)) ⟨ho,SeqAt.items_eqAt Fx rb l7 mD (JL k2 hu),?_⟩
  exact⟨.int (Int.ofNat j),H,I.tok _,⟨_,rfl⟩,hq⟩
@[simp] def Bb (fo:aw)(g:bQ):aw:=fun ρ=>match fo ρ with
 | some (.tup ds,_,ρ1)=>match g ρ1 with
  | some ([d],ρ2)=>if fB (.tup ds)=true/\fB d=true then match yb d ds with
   | some j=>some (.int (Int.ofNat j),9,ρ2)
   | none=>none
   else none
  | _=>none
 | _=>none
theorem PF{k:Nat}(hr:aF k X.A)(ho:QD X a fa)(ha:fU X [e] g)(cF:attributeBase a "index" X.env (eval a X.env)=eval a X.env:=by rfl)(eX:((backTo ay (starEach [e] X.env)).all (fun x=>!x.1)&&(backToKw ay (keywordEach [] X.env)).all (fun x=>x.1.isSome)
   && decide ([e].length+([]:List Keyword).length+(if([]:List Keyword).isEmpty then 0 else 1)<30))=true:=by rfl) (cG:(apos.endLine==ay.line)=true:=by rfl) (hs:starEach [e] X.env=(false,eval e X.env)::starEach [] X.env:=by rfl) (gA:(backTo ay (starEach [] X.env)).any (·.1)=false:=by rfl):QD X (.Call (.Attribute a "index" apos) [e] [] ay) (Bb fa g):=⟨have ho:=ho.o;have ha:=ha.o;PE.imp (EE PySem.F.plainAttrs_tuple Yy PySem.F.type_tuple_index (Pu (AU hr)) ho ha cF eX cG hs gA) fun σ H Q ak=>by
 obtain⟨ρ,w,t,r',q,ρ',gd,ee,k⟩:=ak
 unfold Bb at ee
 split at ee
 next ds q1 ρ1 h1=>
  split at ee
  next d ρ2 h2=>
   split at ee
   next aA=>
    split at ee
    next j hj=>
     cases ee
     refine⟨ρ,w,t,_,_,_,gd,h1,fun v H1 w1 F1 g1 aK r1=>?_⟩
     have r0:=r1.drop (o:=.f) (Qd t)
     have gg:=g1.drop (t':=t)
     obtain⟨p0,vs,rfl,hq,rs⟩:=r0.qc
     refine⟨?_,ρ1,bG t w1,t,_,_,gg,h2,fun vs2 H2 w2 g2 br r2=>?_⟩
     ·exact .inr (.inl ⟨rfl,.inr ⟨_,hq⟩⟩)
     ·obtain⟨v2,rfl,yc⟩:=one r2
      have r3:Rep X.K H2 w2 .f 0 (.tup ds) (.ref p0) []:=r0.lZ gg.wl br.bB
      exact⟨ds,d,v2,j,rfl,⟨_,_,_,_,r3⟩,⟨_,_,_,_,yc⟩,aA.1,aA.2,hj,k _ H2 w2 [] g2.up ((aK.drop gd.wt).trans br) (.int _)⟩
    ·cases ee
   ·cases ee
  ·cases ee
 ·cases ee⟩
theorem Good.mut{t:Nat}(g:Good K ρ σ H w t)(e:ρ[i]? = some (some (.lst ds,1))) :
  ∃ l vs,σ[i]? = some (some (.ref l))/\H l=some (.lst vs)/\af K H w .f 0 ds vs []/\∀ ba d9,af K H w .f 0 ba d9 []->
   Good K (ρ.set i (some (.lst ba,1))) σ (upd H l (.lst d9)) w t/\Go H w (upd H l (.lst d9)) w:=by
 obtain⟨v,F,h1,h2⟩:=g.slot i _ _ e
 cases h2 with
 | @own _ l vs _ F' hl hw rs ne=>
  have hF:=rs.zero
  subst hF
  refine⟨l,vs,h1,hl,rs.any g.wl,fun ba d9 r'=>?_⟩
  have nl:∀ a o,w a=some o->o ≠ .s i->a≠l:=fun a o e n z=>by subst z;rw[hw]at e;exact n (Qy e).symm
  have nn:∀ a,w a=none->a≠l:=fun a e z=>by subst z;rw[hw]at e;cases e
  have st:cL H w (upd H l (.lst d9)) w:=fun a x h n=>⟨sm (by rw[aR (nn a n)];exact h),n⟩
  refine⟨⟨⟨fun a o h=>?_,g.wl.tb.upd rfl (.inr (g.wl l _ hw))⟩,g.ws,g.wt,by rw[QL];exact g.len,fun j d' q' e'=>?_⟩,⟨st,fun a o h n=>⟨aR (nl a o h (n i)),h⟩⟩⟩
  ·by_cases z:a=l
   ·subst z;exact⟨.l _,de⟩
   ·obtain⟨us,q⟩:=g.wl a o h
    exact⟨us,by rw[aR z];exact q⟩
  ·by_cases hj:i=j
   ·subst hj
    rw[QI (Qr.mp e).1]at e'
    cases e'
    exact⟨_,_,h1,.own de hw (af.go g.wl st r' nM) (fun z=>nomatch z)⟩
   ·rw[QJ hj]at e'
    obtain⟨v',F',rQ,gq⟩:=g.slot j d' q' e'
    exact⟨v',F',rQ,Rep.go g.wl st gq fun a m=>⟨aR (nl a _ (gq.az a m) (fun z=>hj (by cases z;rfl))),gq.az a m⟩⟩
@[simp] def yd:Option (OD)->Bool
 | some (some (.lst _,_))=>true
 | _=>false
theorem Good.cw{t:Nat}(g:Good K ρ σ H w t)(h:yd ρ[i]? = true):∃ l,σ[i]? = some (some (.ref l))/\∃ vs,cK K H l vs:=by
 unfold yd at h
 split at h
 next ds q e=>
  obtain⟨v,F,h1,h2⟩:=g.slot i _ _ e
  obtain⟨p,vs,_,_,rfl,hq,_⟩:=h2.oM
  exact⟨p,h1,vs,hq⟩
 ·cases h
@[simp] def tJ (i:Nat)(g:bQ):aw:=fun ρ=>if yd ρ[i]? = true then match g ρ with
 | some ([d],ρ1)=>match ρ1[i]? with
  | some (some (.lst ds,1))=>if ds.length<=1000 then some (.aX,9,ρ1.set i (some (.lst (ds++[d]),1)))else none
  | _=>none
 | _=>none
 else none
theorem Fz(h:QE X (.Name x p1) (fP i))(ha:fU X [e] g)(cF:attributeBase (.Name x p1) "append" X.env (eval (.Name x p1) X.env)=eval (.Name x p1) X.env:=by rfl)(eX:((backTo ay (starEach [e] X.env)).all (fun x=>!x.1)&&(backToKw ay (keywordEach [] X.env)).all (fun x=>x.1.isSome)
   && decide ([e].length+([]:List Keyword).length+(if([]:List Keyword).isEmpty then 0 else 1)<30))=true:=by rfl) (cG:(apos.endLine==ay.line)=true:=by rfl) (hs:starEach [e] X.env=(false,eval e X.env)::starEach [] X.env:=by rfl) (gA:(backTo ay (starEach [] X.env)).any (·.1)=false:=by rfl):QD X (.Call (.Attribute (.Name x p1) "append" apos) [e] [] ay) (tJ i g):=⟨have h:=h.o;have ha:=ha.o;PE.imp (EE PySem.F.plainAttrs_list PySem.F.slot_list_append PySem.F.type_list_append Nc h ha cF eX cG hs gA) fun σ H Q ak=>by
 obtain⟨ρ,w,t,r',q,ρ',gd,ee,k⟩:=ak
 unfold tJ at ee
 split at ee
 next hl=>
  obtain⟨l,cZ,us,hq⟩:=gd.cw hl
  split at ee
  next d ρ1 h1=>
   split at ee
   next ds e1=>
    split at ee
    next hlen=>
     cases ee
     refine⟨_,cZ,.inl ⟨rfl,us,hq⟩,ρ,w,t,_,_,gd,h1,fun vs H1 w1 g1 aK r1=>?_⟩
     obtain⟨v,rfl,rv⟩:=one r1
     obtain⟨l',ws,eI,hH,rs,mk⟩:=g1.mut e1
     rw[cZ]at eI
     cases eI
     have r2:af X.K H1 w1 .f 0 (ds++[d]) (ws++[v]) []:=af.snoc (F:=[]) (G:=[]) rv rs nM
     obtain⟨m1,m2⟩:=mk _ _ r2
     refine⟨l,ws,v,rfl,rfl,hH,by rw[<- rs.length];exact lU hlen,?_⟩
     exact k .aX _ w1 [] m1.up (aK.trans m2) .aX
    ·cases ee
   ·cases ee
  ·cases ee
 ·cases ee⟩
end
theorem af.u6:∀ {ds:List D} {vs:List V} {F:List Addr} {i:Nat} {d:D},af K H w o q ds vs F->ds[i]? = some d->∃ v G,vs[i]? = some v/\Rep K H w o q d v G/\∀ a∈G,a∈F
 | _,_,_,_,_,.nil,e=>by simp at e
 | _,_,_,0,_,.cons r _ _,e=>by
  simp at e;subst e;exact⟨_,_,rfl,r,fun a m=>QM _ m⟩
 | _,_,_,i+1,d,.cons _ s _,e=>by
  obtain⟨v,G,h1,h2,h3⟩:=af.u6 (i:=i) (d:=d) s (by simpa using e)
  exact⟨v,G,by simpa using h1,h2,fun a m=>Qk _ (h3 a m)⟩
theorem af.FA{i:Int}(r:af K H w o q ds vs F)(h:L2.eR ds i=some d):∃ v G,L2.eR vs i=some v/\Rep K H w o q d v G/\∀ a∈G,a∈F:=by
 unfold L2.eR at h ⊢
 rw[<- r.length]
 cases e:oy ds.length i with
 | none=>rw[e]at h;cases h
 | some j=>
  rw[e]at h
  exact r.u6 h
@[simp] def aW (n:Nat)(fb:aw):aw:=fun ρ=>match ρ[n]? with
 | some (some _)=>match fb ρ with
  | some (.int i,_,ρ2)=>match ρ2[n]? with
   | some (some (x,q))=>match dO x i with
    | some d=>if d.cw=true/\1<q/\x.cw=true then none else some (d,cj d,ρ2)
    | none=>none
   | _=>none
  | _=>none
 | _=>none
section
variable {X:Cx}{a b c e:Expr}{es:List Expr}{fa fb fc f:aw}{g:bQ}{pos p p1 p2 ay apos:Pos}
theorem bj(h:QE X (.Name x p1) (fP n))(hb:QD X b fb)(hs:uE b:=by exact fun _ _=>rfl):QD X (.Subscript (.Name x p1) b pos) (aW n fb):=⟨have h:=h.o;have hb:=hb.o;PE.imp (xp xq h hb hs) fun σ H Q ak=>by
 obtain⟨ρ,w,t,r',q,ρ',gd,ee,k⟩:=ak
 unfold aW at ee
 split at ee
 next z0 e0=>
  obtain⟨d0,q0⟩:=z0
  obtain⟨v,F,cZ,_⟩:=gd.slot n d0 q0 e0
  split at ee
  next i q2 ρ2 h2=>
   split at ee
   next x q e2=>
    split at ee
    next d hd=>
     split at ee
     ·cases ee
     next hn=>
      cases ee
      refine⟨v,cZ,ρ,w,t,_,_,_,gd,h2,fun y H2 w2 F2 g2 go r2=>?_⟩
      have hy:=dN r2
      subst hy
      have gg:=g2.drop (t':=t)
      obtain⟨v',F',eI,rr⟩:=gg.slot n x q e2
      rw[cZ]at eI
      cases eI
      have fin:∀ u,Rep X.K H2 (bG t w2) (.t t) 0 r' u []->Q u H2:=fun u ru=>k u H2 (bG t w2) [] gg.up (go.drop gd.wt) ru.jj
      cases x with
      | lst ds=>
       by_cases Bc:q=0
       ·subst Bc
        obtain⟨p0,vs,rfl,hq,rs⟩:=rr.gE
        obtain⟨u,hu,ru⟩:=rs.eR hd
        exact .inl ⟨p0,vs,i,u,rfl,rfl,hq,hu,fin u (ru.any gg.wl)⟩
       ·by_cases PH:q=1
        ·subst PH
         cases rr with
         | own h0 _ rs _=>
          have z0:=rs.zero
          subst z0
          obtain⟨u,hu,ru⟩:=rs.eR hd
          exact .inl ⟨_,_,i,u,rfl,rfl,cK.of h0,hu,fin u (ru.any gg.wl)⟩
        ·obtain⟨p0,vs,q',G,rfl,hq,rs⟩:=rr.oM
         obtain⟨u,G',hu,ru,_⟩:=rs.FA hd
         refine .inl ⟨p0,vs,i,u,rfl,rfl,hq,hu,fin u ?_⟩
         cases hL:r'.cw with
         | false=>exact((ru.bV hL).2 0).any gg.wl
         | true=>exact absurd ⟨hL,by omega,rfl⟩ hn
      | tup ds=>
       obtain⟨p0,vs,rfl,hq,rs⟩:=rr.eF
       obtain⟨u,hu,ru⟩:=rs.eR hd
       exact .inr (.inl ⟨p0,vs,i,u,rfl,rfl,hq,hu,fin u (ru.any gg.wl)⟩)
      | _=>cases hd
    ·cases ee
   ·cases ee
  ·cases ee
 ·cases ee⟩
@[simp] def u7 (fa fb:aw):aw:=fun ρ=>match fa ρ with
 | some (.lst ds,1,ρ1)=>match fb ρ1 with
  | some (.int n,_,ρ2)=>if -1000<=n/\n<=1000/\ds.length*n.toNat<=1000 then some (.lst (List.replicate n.toNat ds).flatten,1,ρ2)else none
  | _=>none
 | _=>none
theorem af.app{es:List D}{us:List V}(s:af K H w .f 0 es us []):∀ {ds:List D} {vs:List V},af K H w .f 0 ds vs []->af K H w .f 0 (ds++es) (vs++us) []
 | ds,vs,r=>by
  generalize hF:([]:List Addr)=F at r
  cases r with
  | nil=>rw[<- hF];exact s
  | @cons _ d v ds vs F G r t _=>
   have h1:F=[]:=r.zero
   have h2:G=[]:=t.zero
   subst h1 h2
   exact .cons (F:=[]) (G:=[]) r (af.app s t) nM
theorem af.times(r:af K H w .f 0 ds vs []):∀ n:Nat,af K H w .f 0 (List.replicate n ds).flatten (List.replicate n vs).flatten []
 | 0=>.nil
 | n+1=>by
  rw[Zn,Zn,ZT,ZT]
  exact af.app (af.times r n) r
theorem Bd(ha:QD X a fa)(hb:QD X b fb):QD X (.BinOp a .Mult b pos) (u7 fa fb):=⟨have ha:=ha.o;have hb:=hb.o;PE.imp (nJ Nf ha hb) fun σ H Q ak=>by
 obtain⟨ρ,w,t,r',q,ρ',gd,ee,k⟩:=ak
 unfold u7 at ee
 split at ee
 next ds ρ1 h1=>
  split at ee
  next n q2 ρ2 h2=>
   split at ee
   next hn=>
    cases ee
    refine oI gd h1 h2 fun u u' H2 w2 F1 F2 g2 go r1 r2=>?_
    have AE:=dN r2
    subst AE
    cases r1 with
    | @own _ l vs _ F hl hw rs ne=>
     have hF:=rs.zero
     subst hF
     have gg:=g2.drop (t':=t)
     have jY:af X.K H2 (bG t w2) .f 0 ds vs []:=af.go g2.wl (fun a x h n=>⟨sm h,xM n⟩) rs nM
     refine⟨l,n,vs,rfl,rfl,hl,by omega,by omega,?_,fun p hp=>?_⟩
     ·rw[<- rs.length];exact qd hn.2.2
     ·obtain⟨a1,a2,a3⟩:=tF gg hp (jY.times n.toNat)
      exact k _ _ _ _ a1 ((go.drop gd.wt).trans a2) a3
   ·cases ee
  ·cases ee
 ·cases ee⟩
theorem af.rev:∀ {ds:List D} {vs:List V},af K H w .f 0 ds vs []->af K H w .f 0 ds.reverse vs.reverse []
 | ds,vs,r=>by
  generalize hF:([]:List Addr)=F at r
  cases r with
  | nil=>rw[<- hF];exact .nil
  | @cons _ d v ds vs F G r t _=>
   have h1:F=[]:=r.zero
   have h2:G=[]:=t.zero
   subst h1 h2
   rw[ZS,ZS]
   exact af.snoc (F:=[]) (G:=[]) r (af.rev t) nM
end
abbrev lu:=aU->Option Int
def tQ (K:PySem.W.Frag)(f:lu):TE:=fun σ H Q=>∃ ρ w t i,Good K ρ σ H w t/\f ρ=some i/\Q (.int i) H
abbrev PQ (X:Cx)(e:Expr)(f:lu):Prop:=PE X e (tQ X.K f)
structure QQ (X:Cx) (e:Expr) (f:lu):Prop where mk::o:PQ X e f
@[simp] def k0g (n:Nat):lu:=fun ρ=>match ρ[n]? with
 | some (some (.int i,_))=>some i
 | _=>none
@[simp] def Be (n:Nat)(f:lu):lu:=fun ρ=>match f ρ with
 | some i=>match ρ[n]? with
  | some (some (x,_))=>match dO x i with
   | some (.int j)=>some j
   | _=>none
  | _=>none
 | none=>none
section
variable {X:Cx}{a b c e:Expr}{es:List Expr}{fa fb fc f:aw}{qa qb:lu}{g:bQ}{pos p p1 p2 ay apos:Pos}
theorem PJ(h:QE X (.Name x p1) (fP n))(hb:QQ X b qb)(hs:uE b:=by exact fun _ _=>rfl):QQ X (.Subscript (.Name x p1) b pos) (Be n qb):=⟨have h:=h.o;have hb:=hb.o;PE.imp (xp xq h hb hs) fun σ H Q ak=>by
 obtain⟨ρ,w,t,i,gd,ee,k⟩:=ak
 unfold Be at ee
 split at ee
 next i0 h0=>
  split at ee
  next x q e0=>
   split at ee
   next j hj=>
    cases ee
    obtain⟨v,F,h1,h2⟩:=gd.slot n _ _ e0
    refine⟨v,h1,ρ,w,t,i0,gd,h0,?_⟩
    cases x with
    | lst ds=>
     obtain⟨p0,vs,q',G,rfl,hq,rs⟩:=h2.oM
     obtain⟨u,G',hu,ru,_⟩:=rs.FA hj
     rw[dN ru]at hu
     exact .inl ⟨p0,vs,i0,_,rfl,rfl,hq,hu,k⟩
    | tup ds=>
     obtain⟨p0,vs,rfl,hq,rs⟩:=h2.eF
     obtain⟨u,hu,ru⟩:=rs.eR hj
     rw[dN ru]at hu
     exact .inr (.inl ⟨p0,vs,i0,_,rfl,rfl,hq,hu,k⟩)
    | _=>cases hj
   ·cases ee
  ·cases ee
 ·cases ee⟩
end
@[simp] def kK (fa fb:aw):aw:=fun ρ=>match fa ρ with
 | some (.bl b,_,ρ1)=>if b=true then fb ρ1 else some (.bl false,9,ρ1)
 | _=>none
@[simp] def Bf (fa:aw):aw:=fun ρ=>match fa ρ with
 | some (.bl b,_,ρ1)=>some (.bl (!b),9,ρ1)
 | _=>none
section
variable {X:Cx}{a b c e:Expr}{es bE:List Expr}{fa fb fc f:aw}{g:bQ}{pos p p1 p2 ay apos:Pos}
theorem rR{op}(h:QD X a fa):QD X (.BoolOp op [a] pos) fa:=⟨have h:=h.o;K7 h⟩
theorem qh(ha:QD X a fa)(hb:QD X (.BoolOp .And (b::bE) pos) fb):QD X (.BoolOp .And (a::b::bE) pos) (kK fa fb):=⟨have ha:=ha.o;have hb:=hb.o;PE.imp (K8 ha hb) fun σ H Q ak=>by
 obtain⟨ρ,w,t,r',q,ρ',gd,ee,k⟩:=ak
 unfold kK at ee
 split at ee
 next b' q1 ρ1 h1=>
  refine⟨ρ,w,t,_,_,_,gd,h1,fun v H1 w1 F1 g1 aK r1=>?_⟩
  cases r1
  refine⟨b',rfl,?_⟩
  split at ee
  ·rename_i hb;rw[Qe hb]
   exact⟨ρ1,bG t w1,t,r',q,ρ',g1.drop,ee,fun v H2 w2 F g2 br=>k v H2 w2 F g2 ((aK.drop gd.wt).trans br)⟩
  ·rename_i hb;rw[Qf hb]
   cases ee
   exact k _ H1 w1 [] g1 aK (.bl false)
 ·cases ee⟩
theorem PK(ha:QD X a fa):QD X (.UnaryOp .Not a pos) (Bf fa):=⟨have ha:=ha.o;PE.imp (K9 ha) fun σ H Q ak=>by
 obtain⟨ρ,w,t,r',q,ρ',gd,ee,k⟩:=ak
 unfold Bf at ee
 split at ee
 next b' q1 ρ1 h1=>
  cases ee
  refine⟨ρ,w,t,_,_,_,gd,h1,fun v H1 w1 F1 g1 aK r1=>?_⟩
  cases r1
  exact⟨b',rfl,k _ H1 w1 [] g1 aK (.bl _)⟩
 ·cases ee⟩
end
section
variable {es bE:List Expr}{a b c e:Expr}{pos:Pos}{env:Env}
theorem jZ{op}:starEach (.BinOp a op b pos::bE) env=(false,eval (.BinOp a op b pos) env)::starEach bE env:=by simp only[starEach]
theorem PL:starEach (.IfExp a b c pos::bE) env=(false,eval (.IfExp a b c pos) env)::starEach bE env:=by simp only[starEach]
theorem ly{g sc}:starEach (.ListComp a g sc pos::bE) env=(false,eval (.ListComp a g sc pos) env)::starEach bE env:=by simp only[starEach]
theorem cI{k}:starEach (.Call a es k pos::bE) env=(false,eval (.Call a es k pos) env)::starEach bE env:=by simp only[starEach]
theorem qj{v k}:starEach (.Constant v k pos::bE) env=(false,eval (.Constant v k pos) env)::starEach bE env:=by simp only[starEach]
theorem oW{x}:starEach (.Attribute a x pos::bE) env=(false,eval (.Attribute a x pos) env)::starEach bE env:=by simp only[starEach]
theorem e_:starEach (.Subscript a b pos::bE) env=(false,eval (.Subscript a b pos) env)::starEach bE env:=by simp only[starEach]
theorem bC{x}:starEach (.Name x pos::bE) env=(false,eval (.Name x pos) env)::starEach bE env:=by simp only[starEach]
theorem FC:starEach (.List es pos::bE) env=(false,eval (.List es pos) env)::starEach bE env:=by simp only[starEach]
theorem gu{k}:starEach (.Tuple es k pos::bE) env=(false,eval (.Tuple es k pos) env)::starEach bE env:=by simp only[starEach]
theorem FD{ar sc}:starEach (.Lambda ar b sc pos::bE) env=(false,eval (.Lambda ar b sc pos) env)::starEach bE env:=by simp only[starEach]
end
def At (K:PySem.W.Frag)(mg:Str->Option Value)(x:Str)(st:Stmt)(ps:List Str):Prop:=
 ∃ f fd,kH K x x st f fd/\mg x=some (.ref f)/\jT K fd ps []
def ah (P:Program)(w:World)(K:PySem.W.Frag)(mg:Str->Option Value)(base:Heap)(k:Nat)(x:Str)(n:Nat)(F:List D->OD):Prop:=
 ∃ f fd ps,bY P w K mg base cV k f fd ps (kJ K n F)/\mg x=some (.ref f)/\PySem.W.keepIn K (.ref f)=true/\jT K fd ps []
theorem ah.mk{w:World}{k:Nat}(a:At K mg x st ps)(S:ae N ps (aJ st))
  (h:∀ (f:Addr) (a_:Value) (A:Around) (outer:List Env) (s:Shared) (H:Hp) (E:XK),aF k (A.deeper (envOfC x (aJ st) s.heap.objs.size f a_))->qf (fu cV P w K mg base N x (aJ st) f a_ A outer s H E).ft (gj st) body) :
  ah P w K mg base (k+1) x ps.length (bb N.length body):=by
 obtain⟨f,fd,F,m,b⟩:=a
 exact⟨f,fd,ps,AO F S (h f),m,F.kp,b⟩
section
variable {X:Cx}{a b c e:Expr}{es bE:List Expr}{fa fb fc f:aw}{g:bQ}{pos p p1 p2 ay apos:Pos}
theorem aO{k:Nat}{F:List D->OD}(C:ah X.prog X.w X.K X.mg X.base k x n F)(hr:aF j X.A)(hk:k<=j)(ha:fU X (e::es) g)(hg:Gl X x:=by rfl)(iP:(x==("__debug__":Str))=false:=by decide)(he:starEach (e::es) X.env=(false,eval e X.env)::starEach es X.env:=by rfl)(bT:(backTo pos (starEach es X.env)).any (·.1)=false:=by rfl):QD X (.Call (.Name x p) (e::es) [] pos) (aB F n g):=⟨have ha:=ha.o;by
 obtain⟨f,fd,ps,G,hm,u9,hb⟩:=C
 exact OB G (hr.mono hk) hm u9 hb tu ha hg iP he bT⟩
end
theorem PM{F:List D->OD}(h:∀ ns:List Int,ns.length<=63->∃ q,F [.lst (ns.map D.int)]=some (.bl true,q)){a:Addr}{ns:List Int}(hl:ns.length<=63)(hS:cK K H a (ns.map V.int))(tb:TB K H){E:XK} :
  kJ K 1 F [.ref a] H (fun v _=>v=.bl true) E:=by
 obtain⟨q,e⟩:=h ns hl
 have r:Rep K H (fun _=>none) .f 0 (.lst (ns.map D.int)) (.ref a) []:=by
  rcases cK.cases hS with z|z
  ·exact .shr z rfl (xV ns)
  ·exact .kl z (xV ns)
 exact⟨rfl,[.lst (ns.map D.int)],fun _=>none,.bl true,q,(fun a o z=>nomatch z),⟨(fun a o z=>nomatch z),tb⟩,.cons (F:=[]) (G:=[]) r .nil nM,e,fun v H' w' Fo _ _ rr=>by cases rr;rfl⟩
theorem PN{w:World}{k:Nat}{f:Addr}{fd:FuncData}(F:kH K x x st f fd)(S:ae N ps (aJ st))
  (h:∀ (f:Addr) (a_:Value) (A:Around) (outer:List Env) (s:Shared) (H:Hp) (E:XK),aF k (A.deeper (envOfC x (aJ st) s.heap.objs.size f a_))->qf (fu cV P w K mg base N x (aJ st) f a_ A outer s H E).ft (gj st) body) :
  bY P w K mg base cV (k+1) f fd ps (kJ K ps.length (bb N.length body)):=AO F S (h f)
section
variable {prog:Program}{w:World}{A:Around}{E:Value->Shared->Prop}{s:Shared}
theorem PR{j:Addr}{vs:Array Value}{v:Value}(a:s.heap.IsTupleIter j p n)(b:s.heap.IsTuple p vs)(c:vs[n]? = some v)
  (k:∀ g:Heap,g.IsTupleIter j p (n+1)->Heap.SameBut j s.heap g->Q v { s with heap:=g }):wpAny (model prog w) A (Builtin.SmallTypes.nextOf (.ref j)) Q E s:=by
 obtain⟨oj,ej,kj,dj⟩:=id a
 obtain⟨op,ep,_,mp,dp⟩:=b
 unfold Builtin.SmallTypes.nextOf
 refine Qa (Q8 (name:=Str.ofString "__next__") a.typeIs ZK (Zq ZK a.typeIs Yc ?_ (J2 _)))
 show wpAny _ _ (field (.ref j) 0 >>= _) _ _ s
 refine Qa (ZH ej dj (x:=.ref p) rfl ?_)
 show wpAny _ _ (if(Value.ref p==Value.none)=true then _ else _) _ _ s
 rw[Qf (show ¬ ((Value.ref p==Value.none)=true)from QW)]
 show wpAny _ _ (field (.ref j) 1 >>= _) _ _ s
 refine Qa (ZH ej dj (x:=.int n 0) rfl ?_)
 show wpAny _ _ (seqItems? (.ref p) >>= _) _ _ s
 refine Qa (wpAny_seqItems ep dp ?_)
 simp only[JM,c]
 refine Qa (Yk ej dj (by simp) (Qb ⟨v,rfl,Qb (k _ ⟨_,ZL _ ej (Obj.isFreed_of_fields (JB dj _)),(Obj.cls_mapFields ..).trans kj,?_⟩ (QS ..))⟩))
 rw[JB dj]
 simp[rawInt]
theorem PU{j:Addr}{vs:Array Value}{Q:Value->Shared->Prop}(hh:A.handled=none)(a:s.heap.IsTupleIter j p n)(b:s.heap.IsTuple p vs)(c:vs[n]? = none)
  (k:∀ (g:Heap) x,Heap.ExtBut j s.heap g->(∃ o,g.get? x=some o/\o.cls=.type "StopIteration")->E (.ref x) { s with heap:=g }):wpAny (model prog w) A (Builtin.SmallTypes.nextOf (.ref j)) Q E s:=by
 obtain⟨oj,ej,kj,dj⟩:=id a
 obtain⟨op,ep,_,mp,dp⟩:=b
 unfold Builtin.SmallTypes.nextOf
 refine Qa (Q8 (name:=Str.ofString "__next__") a.typeIs ZK (Zq ZK a.typeIs Yc ?_ (J2 _)))
 show wpAny _ _ (field (.ref j) 0 >>= _) _ _ s
 refine Qa (ZH ej dj (x:=.ref p) rfl ?_)
 show wpAny _ _ (if(Value.ref p==Value.none)=true then _ else _) _ _ s
 rw[Qf (show ¬ ((Value.ref p==Value.none)=true)from QW)]
 show wpAny _ _ (field (.ref j) 1 >>= _) _ _ s
 refine Qa (ZH ej dj (x:=.int n 0) rfl ?_)
 show wpAny _ _ (seqItems? (.ref p) >>= _) _ _ s
 refine Qa (wpAny_seqItems ep dp ?_)
 simp only[JM,c]
 refine Qa (Jz (Qa (Yk ej dj (by simp) ?_)))
 show wpAny _ _ (newExc (.type "StopIteration") [] >>= _) _ _ _;refine Qa ?_;simp only[newExc,newTuple]
 refine Qa (QF ?_ (by size_fits));refine Qa (m:=firstArgMember _ _) (wpAny_of_eq (a:=Value.none) (by first|rfl|(simp only[firstArgMember];rfl)) (QF ?_ (by size_fits)))
 simp only[raiseNew]
 refine Qa (wpAny_handled ?_);first|rw[show A.in1.handled=none from hh]|rw[hh]
 exact Qa (Qb (wpAny_throw (k _ _ (((QS ..).extBut.push _).push _) ⟨_,Qm _ rfl,rfl⟩)))
end
theorem PV{pins:List (Addr×Obj)}{s:Shared}{h':Heap}{t':Nat}{ch:List Addr}(I:Inv X pins σ H s)(k:∀ b o,b ∉ ch->s.heap.get? b=some o->h'.get? b=some o)(hf:∀ b∈ch,mw X pins H b) :
  Inv X pins σ H { s with heap:=h',toks:=t' }:=by
 have uo:∀ b u,H b=some u->b ∉ ch:=fun b u e z=>by rw[(hf b z).1]at e;cases e
 refine I.step (g':=s.gens) (d':=s.drawn) (ch:=ch) (fun b hb=>?_) (fun b o _ _ hc e _=>k b o hc e) (fun b o _ _ hc e _=>⟨o.slots,k b o hc e⟩) (fun _ _ _ _ n=>n)
  (fun b o hc e=>⟨o,k b o hc e⟩) (fun _ _ e=>e) (fun _ _ _ e=>e) (fun b ps e=>⟨#[],by rw[e];simp⟩) (fun m hm=>?_) (fun b u e=>?_) I.bare
 ·obtain⟨f0,f1,f2,f3,f4,f5⟩:=hf b hb
  exact⟨f3,f1,f4,f5⟩
 ·obtain⟨o,es,ep,ho,r⟩:=hm
  exact⟨o,es,ep,k _ o (fun z=>(hf _ z).2.1 rfl) ho,r⟩
 ·refine(I.aA b u e).jo (fun c v hc q=>k c v ?_ q) (fun _ q=>q) fun _ _ q=>q
  rcases hc with z|z
  ·rw[z];exact uo b u e
  ·exact uo c _ z
section
variable {X:Cx}{a b c e:Expr}{es elts:List Expr}{fa fb fc f:aw}{g:bQ}{pos p p1 p2 tp:Pos}{kt:Nat}
@[simp] def j9g (g:bQ):ko:=fun ρ=>match g ρ with
 | some ([.tup ds,.tup es],ρ1)=>if ds.length<=1000 then some ((ds.zip es).map fun x=>.tup [x.1,x.2],ρ1)else none
 | _=>none
end
abbrev oX:=List D->aU->Option aU
def PX (K:PySem.W.Frag)(b:Nat)(pt:oX):oq:=fun vs σ H Q=>∃ ds ρ w t ρ',Good K ρ σ H w t/\af K H w .f 0 ds vs []/\pt ds ρ=some ρ'/\∀ aM H' w',aM.length=σ.length->(∀ i,i<b->aM[i]? = σ[i]?)->Good K ρ' aM H' w' t->Go H w H' w'->Q aM H'
theorem nH.imp{tg:List Expr}{t t':oq}(h:nH X tg t)(i:∀ v σ H Q,t' v σ H Q->t v σ H Q):nH X tg t':=fun pins s σ H v u Q I r q=>h pins s σ H v u Q I r (i v σ H Q q)
abbrev PY (X:Cx)(b:Nat)(tg:List Expr)(pt:oX):Prop:=nH X tg (PX X.K b pt)
structure oY (X:Cx) (b:Nat) (e:List Expr) (f:oX):Prop where mk::o:PY X b e f
@[simp] def kL:oX:=fun ds ρ=>match ds with
 | []=>some ρ
 | _=>none
@[simp] def cX (pt:fA)(ps:oX):oX:=fun ds ρ=>match ds with
 | []=>none
 | d::r=>match pt d ρ with
  | some ρ1=>ps r ρ1
  | none=>none
@[simp] def l8 (ps:oX):fA:=fun d ρ=>match d with
 | .tup ds=>ps ds ρ
 | _=>none
section
variable {X:Cx}{k b:Nat}{e:Expr}{es:List Expr}{pt:fA}{ps:oX}{pos:Pos}
theorem rS:oY X b [] kL:=⟨nH.imp Ls fun v σ H Q ak=>by
 obtain⟨ds,ρ,w,t,ρ',g,r,e,k⟩:=ak
 unfold kL at e
 split at e
 ·cases e
  generalize hF:([]:List Addr)=F at r
  cases r
  exact⟨rfl,k σ H w rfl (fun _ _=>rfl) g Go.refl⟩
 ·cases e⟩
theorem jy(h1:rL X b e pt)(h2:oY X b es ps)(hs:(assignEach (e::es) X.env).map (·.2)=assign e X.env::(assignEach es X.env).map (·.2):=by rfl):oY X b (e::es) (cX pt ps):=⟨have h1:=h1.o;have h2:=h2.o;nH.imp (Lu h1 h2 hs) fun v σ H Q ak=>by
 obtain⟨ds,ρ,w,t,ρ',g,r,e,k⟩:=ak
 unfold cX at e
 split at e
 ·cases e
 next d bE=>
  split at e
  next ρ1 h1=>
   generalize hF:([]:List Addr)=F at r
   cases r with
   | cons ra rb _=>
    have z1:=ra.zero
    have z2:=rb.zero
    subst z1 z2
    refine⟨_,_,rfl,d,ρ,w,t,ρ1,g,ra,h1,fun nI H1 w1 l1 s1 g1 aK=>⟨bE,ρ1,w1,t,ρ',g1,rb.lZ g.wl aK.bB,e,fun mx H2 w2 l2 s2 g2 br=>k mx H2 w2 (l2.trans l1) (fun i hi=>(s2 i hi).trans (s1 i hi)) g2 (aK.trans br)⟩⟩
  ·cases e⟩
theorem rT(hc:X.calm=true)(h:oY X b es ps)(hl:∀ ds ρ ρ',ps ds ρ=some ρ'->ds.length=n)(hn:(assignEach es X.env).length=n:=by rfl)(k8:(assignEach es X.env).findIdx? (·.1)=none:=by rfl):rL X b (.Tuple es k pos) (l8 ps):=⟨have h:=h.o;PG.imp (Lw hc h hn k8) fun v σ H Q ak=>by
 obtain⟨d,ρ,w,t,ρ',g,r,e,k⟩:=ak
 unfold l8 at e
 split at e
 next ds=>
  obtain⟨a,vs,rfl,hq,rs⟩:=r.eF
  exact⟨a,vs,rfl,hq,by rw[<- rs.length];exact hl _ _ _ e,ds,ρ,w,t,ρ',g,rs,e,k⟩
 ·cases e⟩
theorem ye{p q:fA}:∀ ds ρ ρ',cX p (cX q kL) ds ρ=some ρ'->ds.length=2:=fun ds ρ ρ' h=>by
 match ds with
 | []=>cases h
 | [_]=>unfold cX at h;simp at h;split at h<;>cases h
 | [_,_]=>rfl
 | _::_::_::_=>
  exfalso
  unfold cX at h
  simp at h
  split at h
  ·split at h<;>cases h
  ·cases h
end
theorem FE:∀ {bs:List Bool} {us:List Value},bf (bs.map V.bl) us->LSm.BoolsAre us bs
 | [],_,h=>by cases h;exact .nil
 | b::bs,_,h=>by
  cases h with
  | cons r rr=>
   cases r
   exact .cons b (FE rr)
section
variable {X:Cx}{a b c e:Expr}{es:List Expr}{fa fb fc f:aw}{g:bQ}{pos p p1 p2:Pos}
theorem PZ(hc:X.calm=true):mz X (.builtin "all") (fun xs H Q=>∃ (a:Addr) (bs:List Bool),xs=[.ref a]/\cK X.K H a (bs.map V.bl)/\Q (.bl (bs.all id)) H):=by
 intro pins s σ H xs us Q I r h
 obtain⟨l,bs,rfl,hq,q⟩:=h
 obtain⟨u,rfl,ru⟩:=qX r
 cases ru
 obtain⟨au,rv,pl,hz⟩:=I.list hq
 have hb:=FE rv
 have hl:s.heap.IsList l au.toArray:=pl.isList
 have lt:l<s.heap.objs.size:=by obtain⟨_,e,_⟩:=hl;exact Qj e
 refine call_all_walk (wpAny_pyIter_list hl ⟨s.heap.objs.size,[s.heap.objs.size,l],[s.heap.objs.size],au.toArray.size,_,_,fun i=>(bs[i]?).getD true,rfl,Walks.list (A:=X.A.in1) (I.ok.hd hc) _ l (QB lt) au.toArray,
  ⟨⟨_,Qm _ rfl,rfl,rfl⟩,hl.push _⟩,fun i v s' Q' E' hP hQ=>?_,fun h' tk hk=>?_⟩)
 ·obtain⟨b,e,rfl⟩:=hb.get i v (by simpa using hP)
  simp only[e,Option.getD_some]at hQ
  exact Zf hQ
 ·have e:((List.range au.toArray.size).all fun i=>(bs[i]?).getD true)=bs.all id:=by
   rw[Ql,hb.length];exact LSm.range_all bs
  rw[e]
  exact⟨.bl (bs.all id),H,I.kept fun b o z=>hk b o (fun m=>by rw[Qt.mp m]at z;exact QP _ (Qj z)) (Qc _ z),rfl,q⟩
def qk:List D->Option (List Bool)
 | []=>some []
 | .bl b::r=>(qk r).map (b :: ·)
 | _=>none
def mW:List D->Option D
 | [.lst ds]=>(qk ds).map fun bs=>.bl (bs.all id)
 | _=>none
theorem FF:∀ {ds:List D} {vs:List V} {bs:List Bool},af K H w o 0 ds vs []->qk ds=some bs->vs=bs.map V.bl
 | ds,vs,bs,r,e=>by
  generalize hF:([]:List Addr)=F at r
  cases r with
  | nil=>cases e;rfl
  | @cons _ d v ba d9 F' G' r1 r2 _=>
   have h2:G'=[]:=r2.zero
   subst h2
   cases r1 with
   | bl b=>
    unfold qk at e
    cases e':qk ba with
    | none=>rw[e']at e;cases e
    | some bs'=>
     rw[e']at e
     cases e
     rw[FF r2 e']
     rfl
   | _=>cases e
theorem u_(hc:X.calm=true)(hm:X.mg "all" = none)(ha:fU X [a] g)(hg:Gl X "all":=by rfl)(he:starEach [a] X.env=(false,eval a X.env)::starEach [] X.env:=by rfl)(bT:(backTo pos (starEach [] X.env)).any (·.1)=false:=by rfl):QD X (.Call (.Name "all" p) [a] [] pos) (eB mW g):=⟨have ha:=ha.o;PE.imp (q9 (PZ hc) hg hm PyProof.Rows.boot_all ha (by decide) (by decide) he bT) (ya fun ds d h=>by
  unfold mW at h
  split at h
  next fW=>
   cases e:qk fW with
   | none=>rw[e]at h;cases h
   | some bs=>
    rw[e]at h
    cases h
    refine⟨_,rfl,fun H w vs wl r Q hq=>?_⟩
    obtain⟨v,rfl,rv⟩:=one r
    obtain⟨p,ys,rfl,hs,rs⟩:=rv.gE
    rw[FF rs e]at hs
    exact⟨p,bs,rfl,hs,hq⟩
  ·cases h)⟩
theorem FG{α:Type}(l:List α)(f:α->Bool):qk (l.map fun i=>.bl (f i))=some (l.map f):=by
 induction l with
 | nil=>rfl
 | cons a l ih=>rw[QZ,qk,ih];rfl
end
inductive IT where
 | int|bool|tuple|list|str
def IT.nm:IT->String
 | .int=>"int"
 | .bool=>"bool"
 | .tuple=>"tuple"
 | .list=>"list"
 | .str=>"str"
def gH:IT->D->Bool
 | .int,.int _=>true
 | .int,.bl _=>true
 | .bool,.bl _=>true
 | .tuple,.tup _=>true
 | .list,.lst _=>true
 | .str,.str _=>true
 | _,_=>false
def FH:D->String
 | .aX=>"NoneType"
 | .bl _=>"bool"
 | .int _=>"int"
 | .str _=>"str"
 | .tup _=>"tuple"
 | .gC _ _=>"dict"
 | .exc _=>"object"
 | .ob _ _ _ _=>"function"
 | .mp _ _=>"dict"
 | .lst _=>"list"
section
variable {X:Cx}{pins:List (Addr×Obj)}{σ:St}{H:Hp}{s:Shared}
theorem P0{x:V}{c:Value}{b:Bool}{A:Around}{E:Value->Shared->Prop}(I:Inv X pins σ H s)(rx:bq x u)(r:Rep X.K H w o q d x F)
  (e:PySem.W.kitOne X.K (.type (FH d)) c=some b) (hx:∀ nm,d ≠ .exc nm) (hi:∀ C fs p ds,d ≠ .mp (.i C fs p) ds) (h:∀ tk,Q (.bool b) { s with toks:=tk }):wpAny (model X.prog X.w) A (call (.builtin "isinstance") [u,c]) Q E s:=by
 cases r with
 | exc _ _ _=>exact absurd rfl (hx _)
 | ob h1 h2 x r=>
  cases rx
  obtain⟨e1,_⟩:=(show cJ X.prog X.w H s.heap _ (.cu _ _)from I.aA _ _ h1)
  exact Q0 Ot I.dW ⟨_,e1,x.1⟩ e (fun z=>nomatch z) h
 | aX=>exact ka I rx .aX e h
 | bl y=>exact ka I rx (.bl y) e h
 | int i=>exact ka I rx (.int i) e h
 | str y=>exact ka I rx (.str y) e h
 | tup ha _=>exact ka I rx (.tup ha) e h
 | gC ha _ _=>exact ka I rx (.dK ha) e h
 | kl ha _=>
  obtain⟨ob,au,n,hk,hc,hd,_⟩:=ha
  cases rx
  exact Q0 Yp I.dW ⟨ob,I.dW _ _ hk,hc⟩ e (fun z=>nomatch z) h
 | shr ha _ _=>
  rcases ha with ha|⟨ob,ha⟩
  ·exact ka I rx (.lst ha) e h
  ·exact ka I rx (.cu ha) e h
 | own ha _ _ _=>exact ka I rx (.lst ha) e h
 | @mO a vs ds k y ha i _ _ _=>
  cases k with
  | t ks=>cases i;exact ka I rx (.dT ha) e h
  | k ks=>cases i;exact ka I rx (.dK ha) e h
  | i C fs p=>exact absurd rfl (hi _ _ _ _)
 | @gD q a vs ds k y ha i _ _ _=>
  cases k with
  | t ks=>cases i;exact ka I rx (.dT ha) e h
  | k ks=>cases i;exact ka I rx (.dK ha) e h
  | i C fs p=>exact absurd rfl (hi _ _ _ _)
theorem P1{C:Str}{fs:List Str}{pn:Option Addr}{x:V}{A:Around}{E:Value->Shared->Prop}(I:Inv X pins σ H s)(rx:bq x u)(r:Rep X.K H w o q (.mp (.i C fs pn) ds) x F)
  (T:IT) (h:∀ tk,Q (.bool false) { s with toks:=tk }):wpAny (model X.prog X.w) A (call (.builtin "isinstance") [u,.type T.nm]) Q E s:=by
 cases r with
 | mO ha i _ _ _=>
  obtain⟨C,dx,_,rfl,c,_⟩:=i
  exact ka I rx (.ins ha c.cl c.ha c.hn c.uB c.hm) (c.no _ (by cases T<;>simp[IT.nm])) h
 | gD ha i _ _ _=>
  obtain⟨C,dx,_,rfl,c,_⟩:=i
  exact ka I rx (.ins ha c.cl c.ha c.hn c.uB c.hm) (c.no _ (by cases T<;>simp[IT.nm])) h
theorem P2(T:IT)(d:D)(hx:∀ nm,d ≠ .exc nm):PySem.W.kitOne K (.type (FH d)) (.type T.nm)=some (gH T d):=by
 cases T<;>cases d<;>first|rfl|exact absurd rfl (hx _)
end
section
variable {X:Cx}{a b c e:Expr}{es:List Expr}{fa fb fc f:aw}{ga gb:cD}{g:bQ}{pos p p1 p2 pT:Pos}
theorem P4(T:IT):mz X (.builtin "isinstance") (fun xs H Q=>∃ x w o q F d,xs=[x,.ty T.nm]/\Rep X.K H w o q d x F/\Q (.bl (gH T d)) H):=by
 intro pins s σ H xs us Q I r h
 obtain⟨x,w,o,q,F,d,rfl,rd,hq⟩:=h
 obtain⟨u,v,rfl,ru,rv⟩:=zI r
 cases rv
 by_cases hx:∃ nm,d=.exc nm
 ·obtain⟨nm,rfl⟩:=hx
  cases rd with
  | exc ha xo _=>
   obtain⟨C,hc,k⟩:=xo
   cases ru
   obtain⟨e1,_⟩:=(show cJ X.prog X.w H s.heap _ (.cu _ _)from I.aA _ _ ha)
   have hT:gH T (.exc nm)=false:=by cases T<;>rfl
   rw[hT]at hq
   refine Of (x:=_) I.dW ⟨e1,hc⟩ k.xc (by cases T<;>kernel_rfl) (k.no _ (by cases T<;>simp[IT.nm])) ⟨.bl false,H,I.tok _,rfl,hq⟩
 ·by_cases hi:∃ C fs p ds,d=.mp (.i C fs p) ds
  ·obtain⟨C,fs,p,ds,rfl⟩:=hi
   exact P1 I ru rd T fun tk=>⟨.bl (gH T (.mp (.i C fs p) ds)),H,I.tok _,by cases T<;>rfl,hq⟩
  ·exact P0 I ru rd (P2 T d fun nm z=>hx ⟨nm,z⟩) (fun nm z=>hx ⟨nm,z⟩) (fun C fs p ds z=>hi ⟨C,fs,p,ds,z⟩) fun tk=>⟨.bl (gH T d),H,I.tok _,rfl,hq⟩
@[simp] def oZ (T:IT)(fa:aw):aw:=fun ρ=>match fa ρ with
 | some (d,_,ρ1)=>some (.bl (gH T d),9,ρ1)
 | none=>none
theorem rV(T:IT){t:Str}(hm:X.mg "isinstance" = none)(P5:X.mg t=none)(P6:bootBuiltins t=some (.type T.nm))(ha:QD X a fa)(hg:Gl X "isinstance":=by rfl)(P7:Gl X t:=by rfl)(P8:t ≠ "__name__":=by decide)(P9:(t==("__debug__":Str))=false:=by decide)(hs:starEach [a,.Name t pT] X.env=(false,eval a X.env)::starEach [.Name t pT] X.env:=by rfl)(bT:(backTo pos (starEach [.Name t pT] X.env)).any (·.1)=false:=by rfl):QD X (.Call (.Name "isinstance" p) [a,.Name t pT] [] pos) (oZ T fa):=⟨have ha:=ha.o;PE.imp (q9 (P4 T) hg hm PyProof.Rows.boot_isinstance (mB ha (mB (KR (v:=.ty T.nm) P7 P5 P6 rfl P8 P9) pV bC) hs) (by decide) (by decide) hs bT) fun σ H Q ak=>by
 obtain⟨ρ,w,t,r',q,ρ',gd,ee,k⟩:=ak
 unfold oZ at ee
 split at ee
 next d q1 ρ1 h1=>
  cases ee
  refine⟨ρ,w,t,_,_,_,gd,h1,fun v H1 w1 F1 g1 aK r1=>?_⟩
  exact⟨v,w1,_,_,F1,d,rfl,r1,k _ H1 (bG t w1) [] g1.drop.up (aK.drop gd.wt) (.bl _)⟩
 ·cases ee⟩
@[simp] def qo (g1 g2:D->D->Option D)(fa fb fc:aw):aw:=fun ρ=>match fa ρ with
 | some (x,_,ρ1)=>match fb ρ1 with
  | some (y,_,ρ2)=>match g1 x y with
   | some (.bl true)=>match fc ρ2 with
    | some (z,_,dA)=>match g2 y z with
     | some d=>some (d,9,dA)
     | none=>none
    | none=>none
   | some (.bl false)=>some (.bl false,9,ρ2)
   | _=>none
  | none=>none
 | none=>none
theorem P_(ho:b_ X (compareOp op) (jS h1))(jg:b_ X (compareOp k6) (jS h2))(e1:∀ i j d,g1 i j=some d->la d=some (h1 i j))(lA:∀ i j d,g2 i j=some d->la d=some (h2 i j))
  (ha:PD X a fa) (hb:PD X b fb) (hc:PD X c fc) (hm:lastMarks [op,k6] [b,c]=false:=by with_unfolding_all rfl):PD X (.Compare a [op,k6] [b,c] pos) (qo (gI g1) (gI g2) fa fb fc):=PE.imp (L4 ho jg ha hb hc hm) fun σ H Q ak=>by
 obtain⟨ρ,w,t,r',q,ρ',gd,ee,k⟩:=ak
 unfold qo at ee
 split at ee
 next x q1 ρ1 a1=>
  split at ee
  next y q2 ρ2 a2=>
   refine oI gd a1 a2 fun u v H2 w2 F1 F2 va br r1 r2=>?_
   have gg:=va.drop (t':=t)
   split at ee
   next hg=>
    obtain⟨i,j,rfl,rfl,rW⟩:=p_ hg
    refine⟨i,j,dN r1,dN r2,true,by have:=e1 i j _ rW;simpa [la]using this.symm,?_⟩
    rw[Qe rfl]
    split at ee
    next z q3 dA a3=>
     refine⟨ρ2,bG t w2,t,z,q3,dA,gg,a3,fun v3 H3 w3 F3 g3 eV r3=>?_⟩
     split at ee
     next d hd=>
      cases ee
      obtain⟨j',l,ej,rfl,jR⟩:=p_ hd
      cases ej
      exact⟨j,l,dN r2,dN r3,k_ k gd g3 ((br.drop gd.wt).trans eV) (xP (lA j l _ jR))⟩
     ·cases ee
    ·cases ee
   next hg=>
    obtain⟨i,j,rfl,rfl,rW⟩:=p_ hg
    cases ee
    refine⟨i,j,dN r1,dN r2,false,by have:=e1 i j _ rW;simpa [la]using this.symm,?_⟩
    rw[Qf (by decide)]
    exact k_ k gd va br (.bl false)
   ·cases ee
  ·cases ee
 ·cases ee
theorem Q_(ha:QD X a fa)(hb:QD X b fb)(hc:QD X c fc)(hm:lastMarks [.LtE,.Lt] [b,c]=false:=by with_unfolding_all rfl):QD X (.Compare a [.LtE,.Lt] [b,c] pos) (qo tH lY fa fb fc):=⟨have ha:=ha.o;have hb:=hb.o;have hc:=hc.o;P_ zG Eb (fun i j d h=>by cases h;rfl) (fun i j d h=>by cases h;rfl) ha hb hc hm⟩
def tK:D->D->Option D
 | .bl x,.bl y=>some (.bl (x==y))
 | _,_=>none
def vb:D->D->Option D
 | .bl x,.bl y=>some (.bl (!(x==y)))
 | _,_=>none
theorem Ra:b_ X (compareOp .Is) (fun x y H Q=>∃ i j,x=.bl i/\y=.bl j/\Q (.bl (i==j)) H):=by
 intro pins s σ H x y v u Q I rx ry h
 obtain⟨i,j,rfl,rfl,q⟩:=h
 cases rx
 cases ry
 cases i<;>cases j
 ·exact Qb ⟨.bl true,H,I,rfl,q⟩
 ·exact Qb ⟨.bl false,H,I,rfl,q⟩
 ·exact Qb ⟨.bl false,H,I,rfl,q⟩
 ·exact Qb ⟨.bl true,H,I,rfl,q⟩
theorem Rb:b_ X (compareOp .IsNot) (fun x y H Q=>∃ i j,x=.bl i/\y=.bl j/\Q (.bl (!(i==j))) H):=by
 intro pins s σ H x y v u Q I rx ry h
 obtain⟨i,j,rfl,rfl,q⟩:=h
 cases rx
 cases ry
 cases i<;>cases j
 ·exact Qb ⟨.bl false,H,I,rfl,q⟩
 ·exact Qb ⟨.bl true,H,I,rfl,q⟩
 ·exact Qb ⟨.bl true,H,I,rfl,q⟩
 ·exact Qb ⟨.bl false,H,I,rfl,q⟩
theorem Rc:∀ σ H Q,tD K (e2 tK fa fb) σ H Q->jh (fun x y H Q=>∃ i j,x=.bl i/\y=.bl j/\Q (.bl (i==j)) H) (tD K fa) (tD K fb) σ H Q:=p9 fun x y d h=>by
 unfold tK at h
 split at h
 ·cases h
  exact⟨_,rfl,fun H w o o' q q' u u' F F' r1 r2 _ Q hq=>by cases r1;cases r2;exact⟨_,_,rfl,rfl,hq⟩⟩
 ·cases h
theorem Rf:∀ σ H Q,tD K (e2 vb fa fb) σ H Q->jh (fun x y H Q=>∃ i j,x=.bl i/\y=.bl j/\Q (.bl (!(i==j))) H) (tD K fa) (tD K fb) σ H Q:=p9 fun x y d h=>by
 unfold vb at h
 split at h
 ·cases h
  exact⟨_,rfl,fun H w o o' q q' u u' F F' r1 r2 _ Q hq=>by cases r1;cases r2;exact⟨_,_,rfl,rfl,hq⟩⟩
 ·cases h
theorem Bg(ha:QD X a fa)(hb:QD X b fb):QD X (.Compare a [.Is] [b] pos) (e2 tK fa fb):=⟨have ha:=ha.o;have hb:=hb.o;AH Ra Rc ha hb (pS _)⟩
theorem Rg(ha:QD X a fa)(hb:QD X b fb):hZ X (.Compare a [.IsNot] [b] pos) (bJ (e2 vb fa fb)):=⟨have ha:=ha.o;have hb:=hb.o;rJ Rb Rf ha hb (pS _)⟩
@[simp] def Bh (fa:aw):aw:=fun ρ=>match fa ρ with
 | some (.int i,_,ρ1)=>some (.int (-i),9,ρ1)
 | _=>none
theorem Rh(ha:QD X a fa):QD X (.UnaryOp .USub a pos) (Bh fa):=⟨have ha:=ha.o;PE.imp (D9 Ea ha) fun σ H Q ak=>by
 obtain⟨ρ,w,t,r',q,ρ',gd,ee,k⟩:=ak
 unfold Bh at ee
 split at ee
 next i q1 ρ1 h1=>
  cases ee
  refine⟨ρ,w,t,_,_,_,gd,h1,fun v H1 w1 F1 g1 aK r1=>?_⟩
  exact⟨i,dN r1,k _ H1 (bG t w1) [] g1.drop.up (aK.drop gd.wt) (.int _)⟩
 ·cases ee⟩
section
variable {prog:Program}{w:World}{A:Around}{E:Value->Shared->Prop}{s:Shared}
theorem Ri(l b:Addr)(us vs:Array Value)(n m:Nat)(d1 d2:Option Addr)(s1 s2:Array (Option Value))(h0:us.isEmpty=true) :
  Meets (Builtin.«tuple.__add__» ⟨[.ref l,.ref b],[]⟩) (fun _ R s=>s.heap.get? l=some { cls:=.type "tuple",dict:=d1,data:=.seq us n,slots:=s1 }/\s.heap.get? b=some { cls:=.type "tuple",dict:=d2,data:=.seq vs m,slots:=s2 }/\R (.ok (.ret (.ref b))) s):=
 .of_wp fun prog w A R s h=>by
  obtain⟨hp,g,d,tk,os⟩:=s
  obtain⟨hl,hb,h⟩:=h
  have f2:=AutoSeq1.sub_tuple_tuple
  wp_walk using wpAny_loadPart' hl,wpAny_loadPart' hb
  exact⟨_,rfl,h⟩
theorem Rj{t b:Addr}{ws:List Value}(ht:IsTup s.heap t #[])(hb:IsTup s.heap b ws.toArray)(h:Q (.ref b) s):wpAny (model prog w) A (binaryOp .Add (.ref t) (.ref b)) Q E s:=by
 obtain⟨⟨c1,d1,a1,s1⟩,e1,l7,n1,qp⟩:=id ht
 obtain⟨⟨c2,d2,a2,s2⟩,e2,mD,n2,FI⟩:=id hb
 simp only at l7 qp mD FI
 subst l7 qp mD FI
 exact YK ⟨_,e1,rfl⟩ ⟨_,e2,rfl⟩ YB seq_tuple_add JE JC (Jr _ _) (Ri t b #[] ws.toArray n1 n2 d1 d2 s1 s2 rfl) ⟨e1,e2,h⟩
end
theorem Rk:b_ X (binaryOp .Add) (fun x y H Q=>∃ a b ys,x=.ref a/\y=.ref b/\cE X.K H a []/\cE X.K H b ys/\Q (.ref b) H):=by
 intro pins s σ H x y v u Q I rx ry h
 obtain⟨a,b,ys,rfl,rfl,ha,hb,q⟩:=h
 cases rx
 cases ry
 obtain⟨au,r1,p1,_⟩:=I.tuple ha
 obtain⟨mG,r2,p2,_⟩:=I.tuple hb
 cases r1
 exact Rj p1 p2 ⟨.ref b,H,I,rfl,q⟩
theorem b_.or{f:Value->Value->Sem Value}{r r':R2}(h:b_ X f r)(h':b_ X f r'):b_ X f (fun x y H Q=>r x y H Q\/r' x y H Q):=fun pins s σ H x y v u Q I rx ry q=>q.elim (fun z=>h pins s σ H x y v u Q I rx ry z) fun z=>h' pins s σ H x y v u Q I rx ry z
@[simp] def o7 (fa fb:aw):aw:=fun ρ=>match fa ρ with
 | some (.tup ds,_,ρ1)=>match fb ρ1 with
  | some (.tup es,_,ρ2)=>if ds.length+es.length<=1000 then some (.tup (ds++es),9,ρ2)else none
  | _=>none
 | _=>none
theorem vc(ha:QD X a fa)(hb:QD X b fb):QD X (.BinOp a .Add b pos) (o7 fa fb):=⟨have ha:=ha.o;have hb:=hb.o;PE.imp (nJ (b_.or Rk MV) ha hb) fun σ H Q ak=>by
 obtain⟨ρ,w,t,r',q,ρ',gd,ee,k⟩:=ak
 unfold o7 at ee
 split at ee
 next ds q1 ρ1 h1=>
  split at ee
  next es q2 ρ2 h2=>
   split at ee
   next hl=>
    cases ee
    refine oI gd h1 h2 fun u u' H2 w2 F1 F2 g2 go r1 r2=>?_
    have nW:=r1.drop (o:=.f) (Qd t)
    have rX:=r2.drop (o:=.f) (Je t)
    have gg:=g2.drop (t':=t)
    have l9:=go.drop gd.wt
    obtain⟨p1,vs,rfl,kO,s1⟩:=nW.eF
    obtain⟨p2,us,rfl,yf,s2⟩:=rX.eF
    have l1:=s1.length
    have l2:=s2.length
    cases ds with
    | nil=>
     have:vs=[]:=Q2.mp (by rw[<- l1];rfl)
     subst this
     refine .inl ⟨p1,p2,us,rfl,rfl,kO,yf,k _ H2 (bG t w2) [] gg.up l9 ?_⟩
     exact(Rep.go gg.wl (fun a x e n=>⟨sm e,n⟩) rX nM:Rep X.K H2 (bG t w2) (.t t) 0 _ _ []).bV rfl |>.2 9
    | cons d ds=>
     refine .inr ⟨p1,p2,vs,us,rfl,rfl,kO,yf,(fun z=>by rw[z]at l1;cases l1),qd (by rw[<- l1,<- l2];exact hl),fun z=>?_,fun _ p hp=>?_⟩
     ·have:es=[]:=Q2.mp (by rw[l2,z];rfl)
      subst this
      rw[Zj]at k
      exact k _ H2 (bG t w2) [] gg.up l9 ((Rep.go gg.wl (fun a x e n=>⟨sm e,n⟩) nW nM:Rep X.K H2 (bG t w2) (.t t) 0 _ _ []).bV rfl |>.2 9)
     ·obtain⟨a1,a2,a3⟩:=oJ gg hp (s2.app s1)
      exact k _ _ _ _ a1 (l9.trans a2) a3
   ·cases ee
  ·cases ee
 ·cases ee⟩
abbrev o8:=aU->Option (Option Int×aU)
def Rl (K:PySem.W.Frag)(f:o8):TO:=fun σ H Q=>∃ ρ w t o ρ',Good K ρ σ H w t/\f ρ=some (o,ρ')/\∀ H' w',Good K ρ' σ H' w' t->Go H w H' w'->Q o H'
abbrev Rm (X:Cx)(e:Option Expr)(f:o8):Prop:=PO X e (Rl X.K f)
structure tL (X:Cx) (e:Option Expr) (f:o8):Prop where mk::o:Rm X e f
@[simp] def vd:o8:=fun ρ=>some (none,ρ)
@[simp] def qr (f:aw):o8:=fun ρ=>match f ρ with
 | some (.int i,_,ρ1)=>some (some i,ρ1)
 | _=>none
theorem PO.imp{e:Option Expr}{t t':TO}(h:PO X e t)(i:∀ σ H Q,t' σ H Q->t σ H Q):PO X e t':=fun pins s σ H Q I q=>h pins s σ H Q I (i σ H Q q)
theorem Bi:tL X none vd:=⟨PO.imp MP fun σ H Q ak=>by
 obtain⟨ρ,w,t,o,ρ',gd,ee,k⟩:=ak
 cases ee
 exact k H w gd Go.refl⟩
theorem Bj(h:QD X e f):tL X (some e) (qr f):=⟨have h:=h.o;PO.imp (MQ h) fun σ H Q ak=>by
 obtain⟨ρ,w,t,o,ρ',gd,ee,k⟩:=ak
 unfold qr at ee
 split at ee
 next i q1 ρ1 h1=>
  cases ee
  exact⟨ρ,w,t,_,_,_,gd,h1,fun v H1 w1 F1 g1 aK r1=>⟨i,dN r1,k H1 (bG t w1) g1.drop (aK.drop gd.wt)⟩⟩
 ·cases ee⟩
section
variable {prog:Program}{w:World}{A:Around}{E:Value->Shared->Prop}{s:Shared}
theorem Rn{t:Addr}{us:Array Value}{vl vu:Value}{lo hi:Option Int}(ht:IsTup s.heap t us)(hs:s.heap.IsSliceOf sl vl vu .none)(pl:IsPart vl lo)(pu:IsPart vu hi)
  (hw:HT.bo us.size 0 lo=0/\HT.bo us.size us.size hi=us.size) (h:Q (.ref t) s):wpAny (model prog w) A (getItem (.ref t) (.ref sl)) Q E s:=by
 obtain⟨os,lT,tq,mE⟩:=id hs
 have ts:s.TypeIs (.ref sl) "slice":=⟨os,lT,tq⟩
 unfold getItem
 try with_reducible refine Zw ?_
 first|refine Qa (Qb ?_)|skip
 refine Qa (Yq ht.typeIs (by decide) (Qa (Q8 (name:=Str.ofString "__getitem__") ht.typeIs QK (Zq QK ht.typeIs J8 ?_ (Yh _ _)))))
 show wpAny _ _ (Builtin.Tuple.tupleItemsOf (.ref t) >>= _) _ _ s
 refine Qa (tupleItemsOf_ ht (Qa (JG ts ?_)))
 rw[Qe (by decide)]
 refine Qa (HT.Ew hs pl pu ?_)
 have yes:(((HT.bo us.size 0 lo:Nat):Int)==0&&(1:Int)==1&&(HT.bo us.size us.size hi-HT.bo us.size 0 lo)==us.size)=true:=by rw[hw.1,hw.2];simp
 show wpAny _ _ (if(((HT.bo us.size 0 lo:Nat):Int)==0&&(1:Int)==1&&(HT.bo us.size us.size hi-HT.bo us.size 0 lo)==us.size)=true then _ else _) _ _ s
 rw[Qe yes]
 refine Qa (m:=Builtin.Tuple.tupleIsExact _) ?_
 unfold Builtin.Tuple.tupleIsExact
 refine Qa (JG ht.typeIs (Qb ?_))
 rw[Qe (by decide)]
 exact Qa (Jz (Qb ⟨_,rfl,Qb h⟩))
end
def j0 (xs:List D)(lo hi:Option Int):List D:=(xs.drop (HT.bo xs.length 0 lo)).take (HT.bo xs.length xs.length hi-HT.bo xs.length 0 lo)
@[simp] def yg (fa:aw)(fl fh:o8):aw:=fun ρ=>match fa ρ with
 | some (.tup ds,_,ρ1)=>match fl ρ1 with
  | some (lo,ρ2)=>match fh ρ2 with
   | some (hi,dA)=>some (.tup (j0 ds lo hi),9,dA)
   | none=>none
  | none=>none
 | _=>none
theorem af.mX:∀ {ds:List D} {vs:List V} (i:Nat),af K H w .f 0 ds vs []->af K H w .f 0 (ds.take i) (vs.take i) []
 | _,_,0,_=>by rw[List.take_zero,List.take_zero];exact .nil
 | ds,vs,i+1,r=>by
  generalize hF:([]:List Addr)=F at r
  cases r with
  | nil=>exact .nil
  | cons r s _=>
   have h2:=s.zero
   have h1:=r.zero
   subst h2
   subst h1
   exact .cons (F:=[]) (G:=[]) r (af.mX i s) nM
theorem Ro:pX X (fun x lo hi H Q=>∃ a xs,x=.ref a/\cE X.K H a xs/\(HT.bo xs.length 0 lo=0/\HT.bo xs.length xs.length hi=xs.length)/\Q (.ref a) H):=by
 intro pins s σ H x v vl vu lo hi sl Q I rx hs pl pu h
 obtain⟨a,xs,rfl,hx,hw,q⟩:=h
 cases rx
 obtain⟨au,r,ht,hz⟩:=I.tuple hx
 have hlen:au.toArray.size=xs.length:=by rw[Ql];exact r.length.symm
 exact⟨"tuple",_,QK.lookup,ht.typeIs,Rn ht hs pl pu (by rw[hlen];exact hw) ⟨.ref a,H,I,rfl,q⟩⟩
theorem FJ{lo hi:Option Expr}{fl fh:o8}(ha:QD X a fa)(hl:tL X lo fl)(hh:tL X hi fh):QD X (.Subscript a (.Slice lo hi none p2) pos) (yg fa fl fh):=⟨have ha:=ha.o;have hl:=hl.o;have hh:=hh.o;PE.imp (Ex (Ro.or MT) ha hl hh) fun σ H Q ak=>by
 obtain⟨ρ,w,t,r',q,ρ',gd,ee,k⟩:=ak
 unfold yg at ee
 split at ee
 next ds q1 ρ1 h1=>
  split at ee
  next lo ρ2 h2=>
   split at ee
   next hi dA h3=>
    cases ee
    refine⟨ρ,w,t,_,_,_,gd,h1,fun v H1 w1 F1 g1 aK r1=>?_⟩
    have nX:=g1.drop (t':=t)
    have r0:=r1.drop (o:=.f) (Qd t)
    refine⟨ρ1,bG t w1,t,_,_,nX,h2,fun H2 w2 g2 br=>⟨ρ2,w2,t,_,_,g2,h3,fun H3 w3 g3 eV=>?_⟩⟩
    have r3:=(r0.lZ nX.wl br.bB).lZ g2.wl eV.bB
    obtain⟨p1,vs,rfl,kO,s1⟩:=r3.eF
    have l1:=s1.length
    by_cases hw:HT.bo ds.length 0 lo=0/\HT.bo ds.length ds.length hi=ds.length
    ·have ec:j0 ds lo hi=ds:=by unfold j0;rw[hw.1,hw.2,YZ,YM,JW]
     rw[ec]at k
     refine .inl ⟨p1,vs,rfl,kO,by rw[<- l1];exact hw,?_⟩
     exact k _ H3 w3 [] g3.up (((aK.drop gd.wt).trans br).trans eV) ((Rep.go g3.wl (fun a x e n=>⟨sm e,n⟩) r3 nM:Rep X.K H3 w3 (.t t) 0 _ _ []).bV rfl |>.2 9)
    ·refine .inr ⟨p1,vs,rfl,kO,by rw[<- l1];exact hw,fun p hp=>?_⟩
     have s4:af X.K H3 w3 .f 0 (j0 ds lo hi) (nL vs lo hi) []:=by
      unfold j0 nL
      rw[<- l1]
      exact(s1.mR _).mX _
     obtain⟨a1,a2,a3⟩:=oJ g3 hp s4
     exact k _ _ _ _ a1 ((((aK.drop gd.wt).trans br).trans eV).trans a2) a3
   ·cases ee
  ·cases ee
 ·cases ee⟩
end
section
variable {X:Cx}{k b n:Nat}{a c e tg:Expr}{es:List Expr}{pt:fA}{ps:oX}{pos:Pos}{fa fb f:aw}
theorem Bk{p q r:fA}:∀ ds ρ ρ',cX p (cX q (cX r kL)) ds ρ=some ρ'->ds.length=3:=fun ds ρ ρ' h=>by
 match ds with
 | []=>cases h
 | [_]=>unfold cX at h;simp at h;split at h<;>cases h
 | [_,_]=>unfold cX at h;simp at h;split at h;(split at h<;>cases h);cases h
 | [_,_,_]=>rfl
 | _::_::_::_::_=>
  exfalso
  unfold cX at h
  simp at h
  split at h
  ·split at h
   ·split at h<;>cases h
   ·cases h
  ·cases h
@[simp] def vf (f:aw)(pt:fA):av:=fun ρ=>match f ρ with
 | some (d,_,ρ1)=>match pt d ρ1 with
  | some ρ2=>some (.nx ρ2)
  | none=>none
 | none=>none
theorem Rp(he:QD X e f)(hg:rL X 0 tg pt)(hs:swapsWithSole [tg] e pos.line X.env=pure false:=by rfl)(hw:swappedStores [tg] e X.env=pure none:=by rfl)(h1:(assignEach [tg] X.env).map (·.2)=[assign tg X.env]:=by rfl):km X (.Assign [tg] e pos) (vf f pt):=⟨have he:=he.o;have hg:=hg.o;PS.imp (Lx he hg hs hw h1) fun D σ H ak=>by
 obtain⟨ρ,w,o,g,ee,k⟩:=ak
 unfold vf at ee
 split at ee
 next d q ρ1 h1=>
  split at ee
  next ρ2 h2=>
   cases ee
   refine⟨ρ,w,0,d,q,ρ1,g,h1,fun v H1 w1 F1 g1 aK r1=>?_⟩
   exact⟨d,ρ1,bG 0 w1,0,ρ2,g1.drop,r1.drop (Qd 0),h2,fun aM H' w' hl _ g' fR=>k aM H' w' hl g' ((aK.drop g.wt).trans fR)⟩
  ·cases ee
 ·cases ee⟩
end
theorem FK:fillsNumberSlot (.type "tuple") "mul" = pure false:=PySem.fillsNumberSlot_seq (id:="tuple.__mul__") (r:=some (.builtin "tuple.__rmul__")) Jk.lookup (by decide +kernel) F.slot_tuple_rmul.lookup (by decide +kernel)
theorem FL:seqRepeat? (.type "tuple")=pure (some (.builtin "tuple.__mul__")):=by
 unfold seqRepeat?
 rw[PySem.seqSlot_of (T:="tuple") (name:="__mul__") (id:="tuple.__mul__") Jk.lookup (by decide +kernel),PySem.seqSlot_of (T:="tuple") (name:="__rmul__") (id:="tuple.__rmul__") F.slot_tuple_rmul.lookup (by decide +kernel)];rfl
theorem FN(a:Int)(t:Tok)(l:Addr)(us:Array Value)(n:Nat)(dd:Option Addr)(sl:Array (Option Value)) :
  Meets (Builtin.«int.__rmul__» ⟨[.int a t,.ref l],[]⟩) (fun _ R s=>s.heap.get? l=some { cls:=.type "tuple",dict:=dd,data:=.seq us n,slots:=sl }/\R (.ok (.ret Value.notImplemented)) s):=.of_wp fun prog w A R s h=>by
 obtain⟨hp,g,d,tk,os⟩:=s
 obtain⟨hl,h⟩:=h
 wp_walk
 exact⟨_,rfl,h⟩
theorem Rq(t:Tok)(l:Addr)(us:Array Value)(n:Nat)(dd:Option Addr)(sl:Array (Option Value)) :
  Meets (Builtin.«tuple.__mul__» ⟨[.ref l,.int 1 t],[]⟩) (fun _ R s=>s.heap.get? l=some { cls:=.type "tuple",dict:=dd,data:=.seq us n,slots:=sl }/\R (.ok (.ret (.ref l))) s):=.of_wp fun prog w A R s h=>by
 obtain⟨hp,g,d,tk,os⟩:=s
 obtain⟨hl,h⟩:=h
 have f1:=YG
 wp_walk using wpAny_loadPart' hl
 exact⟨_,rfl,h⟩
theorem Rr(k:Int)(t:Tok)(l:Addr)(us:Array Value)(n:Nat)(dd:Option Addr)(sl:Array (Option Value))(h2:¬ (decide (k < -(2 ^ 63))||decide (k ≥ 2 ^ 63))=true)(h3:¬ (us.isEmpty||k==1)=true)(h4:¬ (decide (k<=0)||us.isEmpty)=true)(h5:¬ (us.size:Int)*k > (2 ^ 63-1) / 8)(h6:¬ Builtin.Tuple.tupleTooMany ((us.size:Int)*k)=true)(hsz:(List.foldl (· ++ ·) #[] (List.replicate k.toNat us)).size<=sizeLine) :
  Meets (Builtin.«tuple.__mul__» ⟨[.ref l,.int k t],[]⟩) (fun _ R s=>s.heap.get? l=some { cls:=.type "tuple",dict:=dd,data:=.seq us n,slots:=sl }/\R (.ok (.ret (.ref s.heap.objs.size))) { s with heap:=s.heap.push { cls:=.type "tuple",data:=.seq (List.foldl (· ++ ·) #[] (List.replicate k.toNat us)) } }):=.of_wp fun prog w A R s h=>by
 obtain⟨hp,g,d,tk,os⟩:=s
 obtain⟨hl,h⟩:=h
 have f1:=YG
 wp_walk using wpAny_loadPart' hl
 rw[Qf h2]
 wp_walk using wpAny_loadPart' hl
 rw[Qf h5]
 wp_walk using wpAny_loadPart' hl
 exact⟨_,rfl,h⟩
section
variable {X:Cx}{a b c e:Expr}{fa fb fc f:aw}{pos:Pos}
theorem FO:b_ X (binaryOp .Mult) (fun x y H Q=>∃ a k xs,x=.ref a/\y=.int k/\cE X.K H a xs/\xs ≠ []/\1<=k/\xs.length*k.toNat<=1000/\(k=1->Q (.ref a) H)/\(k≠1->∀ p,H p=none->Q (.ref p) (upd H p (.tup (List.replicate k.toNat xs).flatten)))):=by
 intro pins s σ H x y v u Q I rx ry h
 obtain⟨l,k,xs,rfl,rfl,hq,cR,h1,hz,q1,q2⟩:=h
 cases rx
 obtain⟨t,rfl⟩:=ry
 obtain⟨au,r,pt,_⟩:=I.tuple hq
 obtain⟨⟨c1,d1,a1,s1⟩,e,l7,n1,qp⟩:=id pt
 simp only at l7 qp
 subst l7 qp
 have hl:=r.length
 have mY:0<au.length:=by rw[<- hl];exact Jp.mpr cR
 refine Jm (T:="tuple") (U:="int") (by decide) ⟨_,e,rfl⟩ (fun s'=>JT s' k t) FK YR Z9 FL YC.lookup
  (Jf Z9 (JT s k t) YD (Yr _ _) (FN k t l au.toArray n1 d1 s1) ⟨e,rfl,⟨_,e,rfl⟩,?_⟩)
 by_cases hk:k=1
 ·subst hk
  exact Jf Jk ⟨_,e,rfl⟩ Ys (Yl _ _) (Rq t l au.toArray n1 d1 s1) ⟨e,⟨.ref l,H,I,rfl,q1 rfl⟩⟩
 ·have hm:au.length*k.toNat<=1000:=by rw[<- hl];exact hz
  have hk':k.toNat<=1000:=by
   have:=Nat.le_mul_of_pos_left k.toNat mY
   omega
  have f0:List.foldl (fun x1 x2=>x1++x2) #[] (List.replicate k.toNat au.toArray)=(List.replicate k.toNat au).flatten.toArray:=by
   have:=zV au k.toNat []
   rw[Jw]at this
   exact this
  have lf:(List.replicate k.toNat au).flatten.length<=1000:=by rw[zX,Y5];exact hm
  have em:((au.toArray.size:Nat):Int)*k=((au.length*k.toNat:Nat):Int):=by
   rw[Ql,Int.natCast_mul,Y0 (by omega)]
  refine Jf Jk ⟨_,e,rfl⟩ Ys (Yl _ _) (Rr k t l au.toArray n1 d1 s1 (by simp;omega) (by simp[hk];exact Jn mY) (by simp;exact⟨by omega,Jn mY⟩) (by rw[em];omega) (by
   unfold Builtin.Tuple.tupleTooMany
   rw[em]
   simp only[gt_iff_lt,Zz,Int.not_lt]
   have:(1000:Nat)<=sizeLine:=by decide
   omega) (by rw[f0,Ql];exact qd lf)) ⟨e,?_⟩
  rw[f0]
  refine⟨.ref s.heap.objs.size,_,I.laid (t':=s.toks) (o:=.tup (List.replicate k.toNat xs).flatten) (fun b ob q=>Qc _ q) (Qd _) ?_,rfl,q2 hk _ (I.aA.fresh (Qd _))⟩
  exact⟨qd (by rw[zX,Y5];exact hz),_,r.rep k.toNat,j7.new _ _⟩
@[simp] def mZ (fa fb:aw):aw:=fun ρ=>match fa ρ with
 | some (.tup ds,_,ρ1)=>match fb ρ1 with
  | some (.int n,_,ρ2)=>if ds.isEmpty=false/\1<=n/\ds.length*n.toNat<=1000 then some (.tup (List.replicate n.toNat ds).flatten,9,ρ2)else none
  | _=>none
 | _=>none
theorem Bl(ha:QD X a fa)(hb:QD X b fb):QD X (.BinOp a .Mult b pos) (mZ fa fb):=⟨have ha:=ha.o;have hb:=hb.o;PE.imp (nJ FO ha hb) fun σ H Q ak=>by
 obtain⟨ρ,w,t,r',q,ρ',gd,ee,k⟩:=ak
 unfold mZ at ee
 split at ee
 next ds q1 ρ1 h1=>
  split at ee
  next n q2 ρ2 h2=>
   split at ee
   next hl=>
    cases ee
    obtain⟨hd,hn,hz⟩:=hl
    refine oI gd h1 h2 fun u u' H2 w2 F1 F2 g2 go r1 r2=>?_
    have nW:=r1.drop (o:=.f) (Qd t)
    have gg:=g2.drop (t':=t)
    have l9:=go.drop gd.wt
    obtain⟨p1,vs,rfl,kO,s1⟩:=nW.eF
    have l1:=s1.length
    refine⟨p1,n,vs,rfl,dN r2,kO,fun z=>?_,hn,by rw[<- l1];exact hz,fun z=>?_,fun _ p hp=>?_⟩
    ·subst z
     have:ds=[]:=Q2.mp l1
     subst this
     cases hd
    ·subst z
     have e:(List.replicate (Int.toNat 1) ds).flatten=ds:=by show(List.replicate 1 ds).flatten=ds;simp
     rw[e]at k
     exact k _ H2 (bG t w2) [] gg.up l9 ((Rep.go gg.wl (fun a x e n=>⟨sm e,n⟩) nW nM:Rep X.K H2 (bG t w2) (.t t) 0 _ _ []).bV rfl |>.2 9)
    ·obtain⟨a1,a2,a3⟩:=oJ gg hp (s1.times n.toNat)
     exact k _ _ _ _ a1 (l9.trans a2) a3
   ·cases ee
  ·cases ee
 ·cases ee⟩
end
section
variable {X:Cx}{a b c e:Expr}{es:List Expr}{fa fb fc f:aw}{ga gb:cD}{g:bQ}{pos p p1 p2 ay apos:Pos}
theorem FP{i:Int}(h:∃ t,X.mg x=some (.int i t))(hg:Gl X x:=by rfl)(hd:(x==("__debug__":Str))=false:=by decide):QD X (.Name x pos) (eC (.int i)):=⟨by
 obtain⟨t,h⟩:=h
 exact uU (KQ (v:=.int i) hg h ⟨t,rfl⟩ hd) fun _ _ _ _ _=>.int i⟩
theorem Rt(ho:b_ X (compareOp op) (jS h1))(jg:b_ X (compareOp k6) (jS h2))(e1:∀ i j d,g1 i j=some d->la d=some (h1 i j))(lA:∀ i j d,g2 i j=some d->la d=some (h2 i j))
  (ha:PD X a fa) (hb:PD X b fb) (hc:PD X c fc) (hm:lastMarks [op,k6] [b,c]=false:=by with_unfolding_all rfl):AG X (.Compare a [op,k6] [b,c] pos) (bJ (qo (gI g1) (gI g2) fa fb fc)):=PT.imp (L5 ho jg ha hb hc hm) (E7 fun σ H Q ak=>by
 obtain⟨ρ,w,t,r',q,ρ',gd,ee,k⟩:=ak
 unfold qo at ee
 split at ee
 next x q1 ρ1 a1=>
  split at ee
  next y q2 ρ2 a2=>
   refine oI gd a1 a2 fun u v H2 w2 F1 F2 va br r1 r2=>?_
   have gg:=va.drop (t':=t)
   split at ee
   next hg=>
    obtain⟨i,j,rfl,rfl,rW⟩:=p_ hg
    refine⟨i,j,dN r1,dN r2,true,by have:=e1 i j _ rW;simpa [la]using this.symm,?_⟩
    rw[Qe rfl]
    split at ee
    next z q3 dA a3=>
     refine⟨ρ2,bG t w2,t,z,q3,dA,gg,a3,fun v3 H3 w3 F3 g3 eV r3=>?_⟩
     split at ee
     next d hd=>
      cases ee
      obtain⟨j',l,ej,rfl,jR⟩:=p_ hd
      cases ej
      exact⟨j,l,dN r2,dN r3,k_ k gd g3 ((br.drop gd.wt).trans eV) (xP (lA j l _ jR))⟩
     ·cases ee
    ·cases ee
   next hg=>
    obtain⟨i,j,rfl,rfl,rW⟩:=p_ hg
    cases ee
    refine⟨i,j,dN r1,dN r2,false,by have:=e1 i j _ rW;simpa [la]using this.symm,?_⟩
    rw[Qf (by decide)]
    exact k_ k gd va br (.bl false)
   ·cases ee
  ·cases ee
 ·cases ee)
theorem Ru(ha:QD X a fa)(hb:QD X b fb)(hc:QD X c fc)(hm:lastMarks [.LtE,.LtE] [b,c]=false:=by with_unfolding_all rfl):hZ X (.Compare a [.LtE,.LtE] [b,c] pos) (bJ (qo tH tH fa fb fc)):=⟨have ha:=ha.o;have hb:=hb.o;have hc:=hc.o;Rt zG zG (fun i j d h=>by cases h;rfl) (fun i j d h=>by cases h;rfl) ha hb hc hm⟩
end
section
variable {X:Cx}{a b c e:Expr}{es:List Expr}{fa fb fc f:aw}{ga gb gc:cD}{g:bQ}{qa qb:lu}{s:av}{pos p p1 p2 ay apos:Pos}
@[simp] def o9:av:=fun _=>none
theorem rY:km X st o9:=⟨PS.imp Lo fun D σ H ak=>by obtain⟨ρ,w,o,g,ee,k⟩:=ak;cases ee⟩
def m6 (c:cD)(b:av):Nat->aU->Option Out
 | 0,_=>none
 | m+1,ρ=>match c ρ with
  | none=>none
  | some (t,ρ1)=>if t=true then match b ρ1 with
    | none=>none
    | some (.nx ρ2)=>m6 c b m ρ2
    | some (.ct ρ2)=>m6 c b m ρ2
    | some (.bk ρ2)=>some (.nx ρ2)
    | some (.rt d q)=>some (.rt d q)
   else some (.nx ρ1)
def tM (c:cD)(b:av):av:=m6 c b 1000
theorem yh{body:List Stmt}(hp:PassesOwn (model X.prog X.w) X.A X.env X.xe)(hc:hZ X c gc)(hb:eG X body s):km X (.While c body [] pos) (tM gc s):=⟨have hc:=hc.o;have hb:=hb.o;PS.imp (LC hp hc hb) fun D σ H ak=>by
 obtain⟨ρ,w,o,g,ee,k⟩:=ak
 refine⟨fun m aM H'=>aM.length=σ.length/\∃ ρ' w',Good X.K ρ' aM H' w' 0/\m6 gc s m ρ'=some o/\nS X.K D σ.length H' w' o,⟨1000,rfl,ρ,w,g,ee,k⟩,?_⟩
 rintro m aM H' ⟨cZ,ρ',w',g',e',k'⟩
 cases m with
 | zero=>cases e'
 | succ m=>
  unfold m6 at e'
  split at e'
  ·cases e'
  next t ρ1 h1=>
   refine⟨ρ',w',0,t,ρ1,g',h1,fun H1 w1 g1 aK=>?_⟩
   cases t with
   | true=>
    rw[Qe rfl]at e' ⊢
    refine⟨fun mx H2=>mx.length=σ.length/\∃ ρ2 w2,Good X.K ρ2 mx H2 w2 0/\m6 gc s m ρ2=some o/\nS X.K D σ.length H2 w2 o,fun mx H2 n2=>⟨m,Q1 m,n2⟩,?_⟩
    have nx:∀ {jk:aU},m6 gc s m jk=some o->∀ kq H5 w5,kq.length=aM.length->Good X.K jk kq H5 w5 0->Go H1 w1 H5 w5->kq.length=σ.length/\∃ ρ2 w2,Good X.K ρ2 kq H5 w2 0/\m6 gc s m ρ2=some o/\nS X.K D σ.length H5 w2 o:=fun {jk} e5 kq H5 w5 l5 g5 jx=>⟨by rw[l5,cZ],jk,w5,g5,e5,k'.trans (aK.trans jx)⟩
    cases h6:s ρ1 with
    | none=>rw[h6]at e';cases e'
    | some o6=>
     rw[h6]at e'
     refine⟨ρ1,w1,o6,g1,h6,?_⟩
     cases o6 with
     | nx jk=>exact nx e'
     | ct jk=>exact nx e'
     | bk jk=>
      cases e'
      exact fun kq H5 w5 l5 g5 jx=>k' kq H5 w5 (by rw[l5,cZ]) g5 (aK.trans jx)
     | rt d q=>
      cases e'
      exact fun v H5 w5 F AM jx r5=>k' v H5 w5 F AM (aK.trans jx) r5
   | false=>
    rw[Qf (by decide)]at e' ⊢
    cases e'
    exact k' aM H1 w1 cZ g1 aK⟩
@[simp] def j9n (n:Nat)(qi:lu)(fe:aw):av:=fun ρ=>match fe ρ with
 | some (d,_,ρ1)=>match qi ρ1,ρ1[n]? with
  | some i,some (some (.lst ds,1))=>match oy ds.length i with
   | some m=>some (.nx (ρ1.set n (some (.lst (ds.set m d),1))))
   | none=>none
  | _,_=>none
 | none=>none
def Rv (K:PySem.W.Frag):R2:=fun x y H Q=>∃ l b xs zs,x=.ref l/\y=.ref b/\cK K H l xs/\cK K H b zs/\xs.length+zs.length<=sizeLine/\∀ p,H p=none->Q (.ref p) (upd H p (.lst (xs++zs)))
theorem Rw:b_ X (binaryOp .Add) (Rv X.K):=by
 intro pins s σ H x y v u Q I rx ry h
 obtain⟨l,b,xs,zs,rfl,rfl,hH,hB,hz,q⟩:=h
 cases rx
 cases ry
 obtain⟨au,r,pl,z⟩:=I.list hH
 obtain⟨mG,r2,Rx,z2⟩:=I.list hB
 obtain⟨⟨cls,dd,data,sl⟩,n,ho,hc,_,hd⟩:=pl
 obtain⟨⟨zQ,tj,data2,tm⟩,n2,q_,mD,_,hd2⟩:=Rx
 simp only at hc hd mD hd2
 subst hc hd mD hd2
 have l1:=r.length
 have l2:=r2.length
 refine YK ⟨_,ho,rfl⟩ ⟨_,q_,rfl⟩ noFill_list_add seq_list_add PySem.F.slot_list_add PySem.F.entry_list_add (PySem.F.args_list_add_2 _ _) (list_addW l b au.toArray mG.toArray n n2 dd tj sl tm (by rw[Ql,Ql,<- l1,<- l2];exact hz)) ⟨ho,q_,?_⟩
 have e:au.toArray++mG.toArray=(au++mG).toArray:=by simp
 rw[e]
 exact⟨.ref _,_,I.uG (t':=s.toks) (r.append r2) (by rw[Qh];omega),rfl,q _ I.fresh⟩
@[simp] def qt (fa fb:aw):aw:=fun ρ=>match fa ρ with
 | some (.lst ds,_,ρ1)=>match fb ρ1 with
  | some (.lst es,_,ρ2)=>if ds.length+es.length<=1000 then some (.lst (ds++es),1,ρ2)else none
  | _=>none
 | _=>none
theorem yi(ha:QD X a fa)(hb:QD X b fb):QD X (.BinOp a .Add b pos) (qt fa fb):=⟨have ha:=ha.o;have hb:=hb.o;PE.imp (nJ Rw ha hb) fun σ H Q ak=>by
 obtain⟨ρ,w,t,r',q,ρ',gd,ee,k⟩:=ak
 unfold qt at ee
 split at ee
 next ds q1 ρ1 h1=>
  split at ee
  next es q2 ρ2 h2=>
   split at ee
   next hl=>
    cases ee
    refine oI gd h1 h2 fun u u' H2 w2 F1 F2 g2 go r1 r2=>?_
    have nW:=r1.drop (o:=.f) (Qd t)
    have rX:=r2.drop (o:=.f) (Je t)
    have gg:=g2.drop (t':=t)
    have l9:=go.drop gd.wt
    obtain⟨p1,vs,rfl,kO,s1⟩:=nW.gE
    obtain⟨p2,us,rfl,yf,s2⟩:=rX.gE
    refine⟨p1,p2,vs,us,rfl,rfl,kO,yf,qd (by rw[<- s1.length,<- s2.length];exact hl),fun p hp=>?_⟩
    obtain⟨a1,a2,a3⟩:=tF gg hp (s2.app s1)
    exact k _ _ _ _ a1 (l9.trans a2) a3
   ·cases ee
  ·cases ee
 ·cases ee⟩
end
section
variable {X:Cx}{a b c e:Expr}{es:List Expr}{fa fb fc f:aw}{ga gb gc:cD}{g:bQ}{qa qb:lu}{s:av}{pos p p1 p2 p3 ay apos:Pos}
@[simp] def qC (i:Int):lu:=fun _=>some i
theorem Ry{i:Int}:QQ X (.Constant (.int i) j pos) (qC i):=⟨PE.imp xf fun σ H Q ak=>by
 obtain⟨ρ,w,t,i,gd,ee,k⟩:=ak
 cases ee
 exact k⟩
@[simp] def o_ (n:Nat)(c:Int):lu:=fun ρ=>match ρ[n]? with
 | some (some (.tup es,_))=>match L2.eR es c with
  | some d=>match gp d with
   | some m=>some (Int.ofNat m)
   | none=>none
  | none=>none
 | _=>none
theorem Bm{n j:Nat}{c:Int}(hm:X.mg "len" = none)(h:QE X (.Name x p1) (fP n))(hg:Gl X "len":=by rfl)(hs:uE (.Constant (.int c) j p2):=by exact fun _ _=>rfl)(he:starEach [.Subscript (.Name x p1) (.Constant (.int c) j p2) p3] X.env=(false,eval (.Subscript (.Name x p1) (.Constant (.int c) j p2) p3) X.env)::starEach [] X.env:=by rfl)(bT:(backTo pos (starEach [] X.env)).any (·.1)=false:=by rfl):QQ X (.Call (.Name "len" p) [.Subscript (.Name x p1) (.Constant (.int c) j p2) p3] [] pos) (o_ n c):=⟨have h:=h.o;PE.imp (q9 zU hg hm YY (mB (xp xq h xf hs) pV he) (by decide) (by decide) he bT) fun σ H Q ak=>by
 obtain⟨ρ,w,t,i,gd,ee,k⟩:=ak
 unfold o_ at ee
 split at ee
 next es q e0=>
  split at ee
  next d hd=>
   split at ee
   next m nV=>
    cases ee
    obtain⟨v,F,h1,h2⟩:=gd.slot n _ _ e0
    obtain⟨p0,vs,rfl,hq,rs⟩:=h2.eF
    obtain⟨u,hu,ru⟩:=rs.eR hd
    obtain⟨p',ys,rfl,kI,hl⟩:=ru.len nV
    exact⟨_,h1,.inr (.inl ⟨p0,vs,c,_,rfl,rfl,hq,hu,p',ys,rfl,kI,by rw[hl];exact k⟩)⟩
   ·cases ee
  ·cases ee
 ·cases ee⟩
@[simp] def tN (k l:Str)(qa qb:lu):aw:=fun ρ=>match qa ρ,qb ρ with
 | some i,some j=>some (.gC [k,l] [.int i,.int j],9,ρ)
 | _,_=>none
theorem RA{t:Nat}{H1:Hp}{p:Addr}{ks:List Str}{w1:Wn}(g:Good K ρ σ H1 w1 t)(hp:H1 p=none)(r:af K H1 w1 .f 0 ds vs []) :
  Good K ρ σ (upd H1 p (.dK (mM ks vs))) w1 (t+1)/\Go H1 w1 (upd H1 p (.dK (mM ks vs))) w1/\Rep K (upd H1 p (.dK (mM ks vs))) w1 (.t t) 9 (.gC ks ds) (.ref p) []:=by
 have ne:∀ a x,H1 a=some x->a≠p:=fun a x e=>eQ e hp
 have nw:∀ a o,w1 a=some o->a≠p:=fun a o e=>by obtain⟨vs,q⟩:=g.wl a o e;exact ne a _ q
 have st:cL H1 w1 (upd H1 p (.dK (mM ks vs))) w1:=fun a x e n=>⟨sm (by rw[aR (ne a x e)];exact e),n⟩
 refine⟨⟨⟨fun a o e=>?_,g.wl.tb.upd rfl (.inl hp)⟩,g.ws,fun a i e=>Q6 (g.wt a i e),g.len,fun i d q e=>?_⟩,⟨st,fun a o e _=>⟨aR (nw a o e),e⟩⟩,?_⟩
 ·obtain⟨us,q⟩:=g.wl a o e
  exact⟨us,by rw[aR (nw a o e)];exact q⟩
 ·obtain⟨v,F,h1,h2⟩:=g.slot i d q e
  exact⟨v,F,h1,Rep.go g.wl st h2 fun a m=>⟨aR (nw a _ (h2.az a m)),h2.az a m⟩⟩
 ·exact .gC de (by
   cases q:w1 p with
   | none=>rfl
   | some o=>exact absurd rfl (nw p o q)) (af.go g.wl st r nM)
theorem FQ{k l:Str}{j1 j2:Nat}(RB:k≠l)(ha:QQ X a qa)(hb:QQ X b qb):QD X (.Dict [some (.Constant (.str k) j1 p1),some (.Constant (.str l) j2 p2)] [a,b] pos) (tN k l qa qb):=⟨have ha:=ha.o;have hb:=hb.o;PE.imp (NJ (EL zq ha (EL zq hb NH)) rfl rfl (by simp) (by show 2<=15;decide)) fun σ H Q ak=>by
 obtain⟨ρ,w,t,r',q,ρ',gd,ee,kk⟩:=ak
 unfold tN at ee
 split at ee
 next i j hi hj=>
  cases ee
  intro p0 hp
  have ne:∀ a x,H a=some x->upd H p0 (.dK []) a=some x:=fun a x e=>by rw[aR (eQ e hp)];exact e
  obtain⟨g1,aK⟩:=gd.more ⟨ne,fun t=>t.upd rfl (.inl hp)⟩
  refine⟨ρ,w,t,i,g1,hi,ρ,w,t,j,g1,hj,de,[(.inr k,.int i),(.inr l,.int j)],rfl,by show 2<=15;decide,?_⟩
  have e:rq [] [((.inr k:Key),V.int i),(.inr l,.int j)]=mM [k,l] [.int i,.int j]:=by
   have Bn:¬ ((Sum.inr k:Key)=.inr l):=fun z=>RB (Y7 z)
   simp[rq,eY,mM,Bn]
  rw[e,KA]
  obtain⟨a1,a2,a3⟩:=RA (ks:=[k,l]) (ds:=[.int i,.int j]) (vs:=[.int i,.int j]) gd hp (.cons (F:=[]) (G:=[]) (.int i) (.cons (F:=[]) (G:=[]) (.int j) .nil nM) nM)
  exact kk _ _ _ _ a1 a2 a3
 ·cases ee⟩
def j3:List Str->List D->Str->Option D
 | x::ks,d::ds,k=>if x=k then some d else j3 ks ds k
 | _,_,_=>none
@[simp] def Bo (fo fe ff:aw):aw:=fun ρ=>match fo ρ with
 | some (.gC ks ds,_,ρ1)=>match fe ρ1 with
  | some (.str k,_,ρ2)=>match ff ρ2 with
   | some (z,_,dA)=>some ((j3 ks ds k).getD z,cj ((j3 ks ds k).getD z),dA)
   | none=>none
  | _=>none
 | _=>none
theorem FR(k:Str):∀ {ks:List Str} {ds:List D} {vs:List V},af K H w o 0 ds vs []->
  (∀ d,j3 ks ds k=some d->∃ v,fw (mM ks vs) (.inr k)=some v/\Rep K H w o 0 d v [])/\(j3 ks ds k=none->fw (mM ks vs) (.inr k)=none)
 | [],ds,vs,r=>by
  refine⟨fun d h=>?_,fun _=>rfl⟩
  unfold j3 at h
  cases h
 | x::ks,ds,vs,r=>by
  generalize hF:([]:List Addr)=F at r
  cases r with
  | nil=>exact⟨(fun d h=>by unfold j3 at h;cases h),fun _=>rfl⟩
  | @cons _ d' v' ba d9 F' G' r s _=>
   have h1:F'=[]:=r.zero
   have h2:G'=[]:=s.zero
   subst h1 h2
   have ih:=FR k (ks:=ks) s
   by_cases hx:x=k
   ·subst hx
    refine⟨fun d h=>?_,fun h=>?_⟩
    ·unfold j3 at h
     rw[Qe rfl]at h
     cases h
     exact⟨v',uJ rfl,r⟩
    ·unfold j3 at h
     rw[Qe rfl]at h
     cases h
   ·have hk:¬ ((Sum.inr x:Key)=.inr k):=fun z=>hx (Y7 z)
    have e:fw (mM (x::ks) (v'::d9)) (.inr k)=fw (mM ks d9) (.inr k):=uK hk
    rw[e]
    unfold j3
    rw[Qf hx]
    exact ih
theorem RC{k:Nat}(hr:aF k X.A)(ho:QD X a fa)(he:QD X b fb)(hf:QD X c fc)(cF:attributeBase a "get" X.env (eval a X.env)=eval a X.env:=by rfl)(eX:((backTo ay (starEach [b,c] X.env)).all (fun x=>!x.1)&&(backToKw ay (keywordEach [] X.env)).all (fun x=>x.1.isSome)
   && decide (([b,c]:List Expr).length+([]:List Keyword).length+(if([]:List Keyword).isEmpty then 0 else 1)<30))=true:=by rfl) (cG:(apos.endLine==ay.line)=true:=by rfl) (rZ:backTo ay (starEach [b,c] X.env)=[(false,eval b X.env),(false,eval c X.env)]:=by rfl):QD X (.Call (.Attribute a "get" apos) [b,c] [] ay) (Bo fa fb fc):=⟨have ho:=ho.o;have he:=he.o;have hf:=hf.o;PE.imp (NQ (rg hr) ho he hf ⟨cF,eX,cG,rZ⟩) fun σ H Q ak=>by
 obtain⟨ρ,w,t,r',q,ρ',gd,ee,kk⟩:=ak
 unfold Bo at ee
 split at ee
 next ks ds q1 ρ1 h1=>
  split at ee
  next k0 q2 ρ2 h2=>
   split at ee
   next z q3 dA h3=>
    cases ee
    refine⟨ρ,w,t,_,_,_,gd,h1,fun x H1 w1 F1 g1 aK r1=>?_⟩
    have Bp:=r1
    cases Bp with
    | @gC _ a0 _ Af _ vg _ _=>
     refine⟨a0,rfl,.inl ⟨_,.inl vg⟩,ρ1,w1,t+1,_,_,_,g1,h2,fun y H2 w2 F2 g2 br r2=>⟨ρ2,w2,t+2,_,_,_,g2,h3,fun zv H3 w3 F3 g3 eV r3=>?_⟩⟩
     have hy:y=kV (.inr k0):=by cases r2;rfl
     subst hy
     have RD:=(r1.gone g1.wl (br.trans eV)).drop (o:=.t t) (Qd t)
     have rz:=r3.drop (o:=.t t) (t':=t) (by omega)
     have go:=(aK.trans br).trans eV
     cases RD with
     | @gC _ _ _ vs _ hH _ rs=>
      obtain⟨v1,v2⟩:=FR (ks:=ks) k0 rs
      refine⟨_,js.k hH,?_⟩
      cases hg:j3 ks ds k0 with
      | none=>
       rw[v2 hg]
       rw[hg]at kk
       exact k_ kk gd g3 go rz.jj
      | some d=>
       obtain⟨v,ev,rv⟩:=v1 d hg
       rw[ev]
       rw[hg]at kk
       exact k_ kk gd g3 go rv.jj
   ·cases ee
  ·cases ee
 ·cases ee⟩
theorem FT{bE:List Expr}{env:Env}{ks:List (Option Expr)}{vs:List Expr}:starEach (.Dict ks vs pos::bE) env=(false,eval (.Dict ks vs pos) env)::starEach bE env:=by simp only[starEach]
end
theorem RE{prog:Program}{w:World}{A:Around}(hh:A.handled=none)(it p:Addr)(cR:p≠it)(items:Array Value) :
  Draws prog w A it [it,p] items.size (fun i v=>items[i]? = some v) (fun i h=>h.IsTupleIter it p i/\h.IsTuple p items) where
 live:=fun _ _ st=>by obtain⟨⟨o,ho,_⟩,_⟩:=st;exact⟨o,ho⟩
 frame:=fun _ _ _ st hk=>by
  obtain⟨a,⟨o,e,r⟩⟩:=st
  exact⟨a.at fun o e=>hk it (by simp) o e,⟨o,hk p (by simp) o e,r⟩⟩
 item:=fun i s Q E hi st hQ=>by
  refine PR st.1 st.2 (v:=items[i]) (by simp[hi]) fun h' pd kI=>?_
  exact hQ _ h' s.toks (by simp[hi]) ⟨pd,st.2.extBut kI.extBut cR⟩ kI
 done:=fun s Q E st hE=>PU hh st.1 st.2 (by simp) hE
section
variable {prog:Program}{w:World}{A:Around}{E:Value->Shared->Prop}{s:Shared}
theorem RF{xs:Array Value}(t1:s.heap.IsTuple p xs)
  (k:∀ h',IsEnum h' (s.heap.objs.size+1) s.heap.objs.size 0 .none->h'.IsTupleIter s.heap.objs.size p 0->h'.objs.size=s.heap.objs.size+2->
    (∀ b o,s.heap.get? b=some o->h'.get? b=some o)->Q (.ref (s.heap.objs.size+1)) { s with heap:=h' }) :
  wpAny (model prog w) A (call (.type "enumerate") [.ref p]) Q E s:=by
 have mt:Meets (Builtin.«enumerate.__new__» ⟨[.type "enumerate",.ref p],[]⟩) (fun _ R s'=>s'=s /\
   R (.ok (.ret (.ref (s.heap.push { cls:=.type "tuple_iterator",data:=.fields #[.ref p,.int 0 0] }).objs.size)))
    { s with heap:=(s.heap.push { cls:=.type "tuple_iterator",data:=.fields #[.ref p,.int 0 0] }).push { cls:=.type "enumerate",data:=.fields #[.none,.bool false,.ref s.heap.objs.size,rawInt 0,.none,.none] } }):=.of_wp fun prog w A R s' h=>by
  obtain⟨rfl,h⟩:=h
  have hV:=sub_enumerate
  obtain⟨hp,gn,dr,tk,os⟩:=s'
  have q1:Heap.IsTuple (Shared.heap ⟨hp,gn,dr,tk,os⟩) p xs:=t1
  wp_walk using Z6 q1
  refine wpAny_stack_any fun st=>Qb ?_
  split
  next c _ _ _ _ _=>
   cases (c==Value.type "enumerate")
   ·wp_walk using Z6 q1
    exact⟨_,rfl,h⟩
   ·wp_walk using Z6 q1
    exact⟨_,rfl,h⟩
  ·wp_walk using Z6 q1
   exact⟨_,rfl,h⟩
 refine callType_new F.called_enumerate (by decide) (F.typeCall_enumerate_1 _) (F.newCall_enumerate_1 _) (fun obj=>F.args_object_init_2 obj _) F.entry_enumerate_new mt ⟨rfl,?_⟩
 have hz:(s.heap.push { cls:=.type "tuple_iterator",data:=.fields #[.ref p,.int 0 0] }).objs.size=s.heap.objs.size+1:=Zg ..
 show _/\_
 rw[hz]
 have he:IsEnum ((s.heap.push { cls:=.type "tuple_iterator",data:=.fields #[.ref p,.int 0 0] }).push
   { cls:=.type "enumerate",data:=.fields #[.none,.bool false,.ref s.heap.objs.size,rawInt 0,.none,.none] }) (s.heap.objs.size+1) s.heap.objs.size 0 .none:=by
  have:=Qm (s.heap.push { cls:=.type "tuple_iterator",data:=.fields #[.ref p,.int 0 0] })
   (o:={ cls:=.type "enumerate",data:=.fields #[.none,.bool false,.ref s.heap.objs.size,rawInt 0,.none,.none] }) rfl
  rw[hz]at this;exact this
 exact⟨⟨_,he,rfl⟩,k _ he ⟨_,Qc _ (Qm _ rfl),rfl,rfl⟩ (by rw[Zg,hz]) fun b o x=>Qc _ (Qc _ x)⟩
end
structure Src (P:Program) (w:World) (K:PySem.W.Frag) (it p:Addr) (Sq:Hp->List V->Prop) (tn:Nat->Heap->Prop):Prop where
 keep:∀ i h h',tn i h->(∀ o,h.get? it=some o->h'.get? it=some o)->tn i h'
 obj:∀ i h,tn i h->∃ o vs,h.get? it=some o/\o.data=.fields vs
 draw:∀ (X:Cx),X.prog=P->X.w=w->X.K=K->X.calm=true->∀ (pins:List (Addr×Obj)) (s:Shared) (σ:St) (H:Hp) (xs:List V),Inv X pins σ H s->Sq H xs->∃ (us:List Value) (St:Nat->Heap->Prop),bf xs us /\
  Draws P w X.A.in1 it [it,p] us.length (fun i v=>us[i]? = some v) St/\(∀ i,tn i s.heap->St i s.heap)/\(∀ i h,St i h->tn i h)/\∀ ys,Sq H ys->ys=xs
theorem RG{w:World}(cR:p≠it):Src P w K it p (fun H xs=>cK K H p xs) (fun i h=>h.IsListIter it p i) where
 keep:=fun i h h' st k=>st.at k
 obj:=fun i h st=>by obtain⟨o,e,c,d⟩:=st;exact⟨o,_,e,d⟩
 draw:=fun X hP hw hK hc pins s σ H xs I hq=>by
  subst hP hw hK
  obtain⟨au,rv,pl,_⟩:=I.list hq
  have D:=Draws.list (prog:=X.prog) (w:=X.w) (A:=X.A.in1) (I.ok.hd hc) it p cR au.toArray
  rw[Ql]at D
  exact⟨au,(fun i h=>h.IsListIter it p i/\h.IsList p au.toArray),rv,(by simpa using D),fun i st=>⟨st,pl.isList⟩,fun i h st=>st.1,fun ys hy=>I.jq hy hq⟩
theorem RH{w:World}(cR:p≠it):Src P w K it p (fun H xs=>cE K H p xs) (fun i h=>h.IsTupleIter it p i) where
 keep:=fun i h h' st k=>st.at k
 obj:=fun i h st=>by obtain⟨o,e,c,d⟩:=st;exact⟨o,_,e,d⟩
 draw:=fun X hP hw hK hc pins s σ H xs I hq=>by
  subst hP hw hK
  obtain⟨au,rv,pl,_⟩:=I.tuple hq
  have D:=RE (prog:=X.prog) (w:=X.w) (A:=X.A.in1) (I.ok.hd hc) it p cR au.toArray
  rw[Ql]at D
  exact⟨au,(fun i h=>h.IsTupleIter it p i/\h.IsTuple p au.toArray),rv,(by simpa using D),fun i st=>⟨st,pl⟩,fun i h st=>st.1,fun ys hy=>I.ir hy hq⟩
def vh (Sq:Hp->List V->Prop):It:=
 ⟨fun i H=>∃ xs x,Sq H xs/\xs[i]? = some x,
  fun i H v H'=>∃ T x,v=.ref T/\H T=none/\(∀ xs,Sq H xs->xs[i]? = some x)/\H'=upd H T (.tup [.int (Int.ofNat i),x]),
  fun i H=>∃ xs,Sq H xs/\xs.length=i⟩
theorem RI{w:World}{elts:List Expr}{kt:Nat}{tp:Pos}{e:Addr}{tn:Nat->Heap->Prop}(S:Src P w K it p Sq tn)(cR:e≠it)(hp:e≠p) :
  Turn P w K (.Tuple elts kt tp) (vh Sq) [e,it] e (fun i h=>(∃ old,IsEnum h e it i old)/\tn i h) where
 mem:=by simp
 obj:=fun i h st b hb=>by
  obtain⟨⟨old,he⟩,st⟩:=st
  simp only[Qn,QG,or_false]at hb
  rcases hb with rfl|rfl
  ·exact⟨_,he,fun v e=>nomatch e⟩
  ·obtain⟨o,vs,e,d⟩:=S.obj i h st
   exact⟨o,e,fun v z=>by rw[d]at z;cases z⟩
 keep:=fun i h h' st k=>by
  obtain⟨⟨old,he⟩,st⟩:=st
  exact⟨⟨old,k e (by simp) _ he⟩,S.keep i h h' st fun o z=>k it (by simp) o z⟩
 item:=by
  intro X hP hw hK hc i pins s σ H E I hf st hg
  obtain⟨⟨old,he⟩,st⟩:=st
  obtain⟨xs,x,hq,hx⟩:=hg
  obtain⟨us,St,rv,D,s1,s2,inj⟩:=S.draw X hP hw hK hc pins s σ H xs I hq
  obtain⟨u,hu,ru⟩:=rv.get hx
  have cY:i<us.length:=(Qr.mp hu).1
  refine wpAny_pyNext_enum_itemD D he (s1 i st) cY cR (by simp[cR,hp]) fun u' g tk FU ho kI hT hsz hk=>?_
  have eu:u'=u:=by rw[hu]at FU;exact(Qy FU).symm
  subst eu
  refine⟨_,rfl,wpAny_letOwnedTupleGo_enum (s:={ s with heap:=g,toks:=tk+1 }) ho fun g' RJ sb=>?_⟩
  have Bq:Heap.SameBut e g g':=sb
  have fr:H s.heap.objs.size=none:=I.aA.fresh (Qd _)
  have ri:bq (.int (Int.ofNat i)) (.int i tk):=⟨tk,rfl⟩
  have I1:Inv X pins σ (upd H s.heap.objs.size (.tup [.int (Int.ofNat i),x])) { s with heap:=s.heap.push { cls:=.type "tuple",data:=.seq #[.int i tk,u'] } }:=
   I.laid (t':=s.toks) (fun b q e=>Qc _ e) (Qd _) (show cJ X.prog X.w _ _ _ (.tup _)from⟨(by show 2<=sizeLine;decide),[.int i tk,u'],.cons ri (.cons ru .nil),j7.new _ _⟩)
  have lt:∀ b ∈ [e,it],b<s.heap.objs.size:=fun b hb=>by
   simp only[Qn,QG,or_false]at hb
   rcases hb with rfl|rfl
   ·exact Qj he
   ·obtain⟨o,_,e,_⟩:=S.obj i _ st;exact Qj e
  have hn:∀ b ∈ [e,it],upd H s.heap.objs.size (.tup [.int (Int.ofNat i),x]) b=none:=fun b hb=>by rw[aR (QB (lt b hb))];exact(hf b hb).1
  have I2:Inv X pins σ (upd H s.heap.objs.size (.tup [.int (Int.ofNat i),x])) { s with heap:=g',toks:=tk+1 }:=PV (s:={ s with heap:=s.heap.push { cls:=.type "tuple",data:=.seq #[.int i tk,u'] } }) (t':=tk+1) (ch:=[e,it]) I1 (fun b q nb z=>by
   have b1:b≠e:=fun h=>nb (by simp[h])
   have b2:b≠it:=fun h=>nb (by simp[h])
   rcases Heap.get?_push_cases z with⟨rfl,rfl⟩|z'
   ·exact Bq.extBut _ _ b1 hT
   ·exact Bq.extBut _ _ b1 (hk b q b1 b2 z')) fun b hb=>by
     obtain⟨f0,f1,f2,f3,f4,f5⟩:=hf b hb
     exact⟨hn b hb,f1,f2,f3,f4,f5⟩
  refine⟨.ref s.heap.objs.size,_,I2,rfl,⟨s.heap.objs.size,x,rfl,fr,fun zs hz=>?_,rfl⟩,⟨⟨_,RJ⟩,?_⟩,hn⟩
  ·rw[inj zs hz];exact hx
  ·exact S.keep _ _ _ (s2 _ _ kI) fun o z=>Bq.extBut _ _ (Jb cR) z
 done:=by
  intro X hP hw hK hc i pins s σ H E I hf st hg
  obtain⟨⟨old,he⟩,st⟩:=st
  obtain⟨xs,hq,hx⟩:=hg
  obtain⟨us,St,rv,D,s1,s2,inj⟩:=S.draw X hP hw hK hc pins s σ H xs I hq
  have hl:us.length=i:=by rw[<- rv.length];exact hx
  subst hl
  refine wpAny_pyNext_enum_endD D he (s1 _ st) fun g kp=>⟨rfl,?_⟩
  obtain⟨f0,f1,f2,f3,f4,f5⟩:=hf it (by simp)
  exact I.turned (t':=s.toks) (fun b o hb z=>kp b o hb z) f0 f1 f3 f4 f5
 self:=fun _ _ _ _ _ st h=>by
  obtain⟨⟨old,he⟩,_⟩:=st
  exact wpAny_pyIter_enum he h
section
variable {X:Cx}{a b c e:Expr}{es elts:List Expr}{fa fb fc f:aw}{g:bQ}{pos p p1 p2 tp:Pos}{kt:Nat}
def RK (K:PySem.W.Frag)(ta:TA):TI:=fun σ H R=>ta σ H fun vs H1=>∃ p,vs=[.ref p]/\(((∃ xs,cK K H1 p xs)/\R (vh fun H xs=>cK K H p xs) H1)\/((∃ xs,cE K H1 p xs)/\R (vh fun H xs=>cE K H p xs) H1))
theorem RL{ta:TA}(hg:Gl X "enumerate")(hm:X.mg "enumerate" = none)(ha:PA X [a] ta)(hs:starEach [a] X.env=[(false,eval a X.env)]:=by rfl) :
  PI X (.Tuple elts kt tp) (.Call (.Name "enumerate" p) [a] [] pos) (RK X.K ta):=by
 intro pins s σ H R I h
 refine Call_ (s_ I hg hm boot_enumerate (ZF (aN (ha pos pins s σ H _ I h) fun us s1 ⟨vs,H1,I1,r1,q1⟩=>?_) hs rfl))
 obtain⟨q,ee,hq⟩:=q1
 subst ee
 cases r1 with
 | cons r rr=>
  cases rr
  cases r
  have ne1:s1.heap.objs.size+1≠s1.heap.objs.size:=Nat.succ_ne_self _
  have fin:∀ {g:Heap} {Sq:Hp->List V->Prop} {tn:Nat->Heap->Prop},q<s1.heap.objs.size->Src X.prog X.w X.K s1.heap.objs.size q Sq tn->IsEnum g (s1.heap.objs.size+1) s1.heap.objs.size 0 .none->tn 0 g->(∀ b o,s1.heap.get? b=some o->g.get? b=some o)->R (vh Sq) H1->
    wpAny (model X.prog X.w) X.A (pyIter (.ref (s1.heap.objs.size+1))) (zu X pins σ (.Tuple elts kt tp) R) X.xe { s1 with heap:=g }:=fun {g Sq tn} lq S he ht kp hR=>by
   have ne2:s1.heap.objs.size+1≠q:=Y3 (Q6 lq)
   refine wpAny_pyIter_enum he ⟨s1.heap.objs.size+1,[s1.heap.objs.size+1,s1.heap.objs.size],_,_,H1,rfl,I1.kept (t':=s1.toks) kp,RI S ne1 ne2,⟨⟨_,he⟩,ht⟩,fun b hb=>?_,hR⟩
   have FV:s1.heap.objs.size<=b:=by
    simp only[Qn,QG,or_false]at hb
    rcases hb with rfl|rfl
    ·exact Nat.le_add_right _ _
    ·exact Qd _
   exact I1.ot FV (I1.aA.fresh FV)
  rcases hq with⟨⟨xs,hx⟩,hR⟩|⟨⟨xs,hx⟩,hR⟩
  ·obtain⟨au,rv,pl,_⟩:=I1.list hx
   have lq:q<s1.heap.objs.size:=by obtain⟨_,e,_⟩:=pl.isList;exact Qj e
   exact call_enumerate_list pl.isList fun g he hi _ kp=>fin lq (RG (QB lq)) he hi kp hR
  ·obtain⟨au,rv,pl,_⟩:=I1.tuple hx
   have lq:q<s1.heap.objs.size:=by obtain⟨_,e,_⟩:=pl;exact Qj e
   exact RF (show s1.heap.IsTuple q au.toArray from pl) fun g he hi _ kp=>fin lq (RH (QB lq)) he hi kp hR
def pe (ds:List D):List D:=ds.zipIdx.map fun x=>.tup [.int (Int.ofNat x.2),x.1]
theorem yj(ds:List D):(pe ds).length=ds.length:=by simp[pe]
theorem RM(ds:List D)(i:Nat):(pe ds)[i]? = (ds[i]?).map fun d=>.tup [.int (Int.ofNat i),d]:=by
 simp only[pe,Qu,List.getElem?_zipIdx,Option.map_map]
 cases ds[i]? with
 | none=>rfl
 | some d=>simp
@[simp] def yk (g:bQ):ko:=fun ρ=>match g ρ with
 | some ([.lst ds],ρ1)=>if ds.length<=1000 then some (pe ds,ρ1)else none
 | some ([.tup ds],ρ1)=>if ds.length<=1000 then some (pe ds,ρ1)else none
 | _=>none
theorem It.enum{P:Hp->Wn->Prop}(hl:ds.length=vs.length)(sq:∀ H w,P H w->Sq H vs/\af K H w .f 0 ds vs [])(ps:∀ H w H' w',P H w->WL K w H->cL H w H' w'->P H' w'):mQ K (vh Sq) (pe ds) P:=by
 refine⟨fun i H w p hi=>⟨vs,vs[i]'(by rw[yj]at hi;omega),(sq H w p).1,by simp⟩,fun i H w x H' d p wl hd y=>?_,fun H w p=>⟨vs,(sq H w p).1,by rw[yj];exact hl.symm⟩,ps⟩
 obtain⟨T,v,rfl,hT,hv,rfl⟩:=y
 obtain⟨q1,r1⟩:=sq H w p
 rw[RM]at hd
 cases hz:ds[i]? with
 | none=>rw[hz]at hd;cases hd
 | some d0=>
  rw[hz]at hd
  cases hd
  obtain⟨v',zK,rv⟩:=r1.get hz
  have ev:v'=v:=by have:=hv vs q1;rw[zK]at this;exact Qy this
  subst ev
  have mo:∀ a o,H a=some o->upd H T (.tup [.int (Int.ofNat i),v']) a=some o:=fun a o e=>by rw[aR (eQ e hT)];exact e
  have st:cL H w (upd H T (.tup [.int (Int.ofNat i),v'])) w:=fun a x e n=>⟨sm (mo a x e),n⟩
  exact⟨⟨mo,fun t=>t.upd rfl (.inl hT)⟩,.tup de (.cons (F:=[]) (G:=[]) (.int _) (.cons (F:=[]) (G:=[]) (Rep.lZ rv wl st) .nil nM) nM),ps _ _ _ _ p wl st⟩
theorem FW(hm:X.mg "enumerate" = none)(ha:fU X [a] g)(hg:Gl X "enumerate":=by rfl)(hs:starEach [a] X.env=[(false,eval a X.env)]:=by rfl):tI X (.Tuple elts kt tp) (.Call (.Name "enumerate" p) [a] [] pos) (yk g):=⟨have ha:=ha.o;PI.imp (RL hg hm ha hs) fun σ H R ak=>by
 obtain⟨ρ,w,t,ds,ρ',gd,ee,k⟩:=ak
 unfold yk at ee
 split at ee
 next d1 ρ1 h1=>
  split at ee
  next hl=>
   cases ee
   refine⟨ρ,w,t,_,_,gd,h1,fun vs H1 w1 g1 aK r1=>?_⟩
   obtain⟨v,rfl,rv⟩:=one r1
   have hz:(pe d1).length<sizeLine:=by rw[yj];exact lU hl
   cases rv with
   | kl h r=>exact⟨_,rfl,.inl ⟨⟨_,h.sq⟩,k _ _ H1 w1 g1 aK (It.enum (P:=fun H w=>(KL X.K _ _\/False)/\af X.K H w .f 0 d1 _ []) r.length (fun H w p=>⟨p.1.elim (fun z=>z.sq) fun z=>z.elim,p.2⟩) fun H w H' w' p wl st=>⟨p.1,af.go wl st p.2 nM⟩) ⟨.inl h,r⟩ hz⟩⟩
   | shr h n r=>exact⟨_,rfl,.inl ⟨⟨_,.inl h⟩,k _ _ H1 w1 g1 aK (It.enum (P:=fun H w=>(Rd H _ (.lst _)/\w _=none)/\af X.K H w .f 0 d1 _ []) r.length (fun H w p=>⟨.inl p.1.1,p.2⟩) fun H w H' w' p wl st=>⟨xD.go st p.1.2 p.1.1,af.go wl st p.2 nM⟩) ⟨⟨h,n⟩,r⟩ hz⟩⟩
  ·cases ee
 next d1 ρ1 h1=>
  split at ee
  next hl=>
   cases ee
   refine⟨ρ,w,t,_,_,gd,h1,fun vs H1 w1 g1 aK r1=>?_⟩
   obtain⟨v,rfl,rv⟩:=one r1
   have hz:(pe d1).length<sizeLine:=by rw[yj];exact lU hl
   obtain⟨p1,as,rfl,q1,s1⟩:=rv.eF
   exact⟨p1,rfl,.inr ⟨⟨_,q1⟩,k _ _ H1 w1 g1 aK (It.enum (P:=fun H w=>cE X.K H p1 as/\af X.K H w .f 0 d1 as []) s1.length (fun H w p=>p) fun H w H' w' p wl st=>⟨cE.go wl st p.1,af.go wl st p.2 nM⟩) ⟨q1,s1⟩ hz⟩⟩
  ·cases ee
 ·cases ee⟩
end
section
variable {prog:Program}{w:World}{A:Around}{E:Value->Shared->Prop}{s:Shared}
theorem RN(n:Nat):Builtin.Slice.slicePlaces ((n:Int)-1) (-1) (-1)=n:=by
 unfold Builtin.Slice.slicePlaces
 rw[Qf (show ¬ ((-1:Int) > 0)by decide),show(- -1:Int)=1 by decide,Int.ediv_one]
 split<;>omega
theorem RO(xs:Array Value):((List.range xs.size).filterMap fun(m:Nat)=>xs[(((xs.size:Int)-1)+(m:Int) * -1).toNat]?).toArray=xs.toList.reverse.toArray:=by
 have e:(fun(m:Nat)=>xs[(((xs.size:Int)-1)+(m:Int) * -1).toNat]?)=fun m=>xs[xs.size-1-m]?:=funext fun m=>by
  have:(((xs.size:Int)-1)+(m:Int) * -1).toNat=xs.size-1-m:=by omega
  rw[this]
 rw[e]
 have h2:=List.filterMap_map (f:=fun k=>xs.size-1-k) (g:=fun k=>xs[k]?) (l:=List.range xs.size)
 have h3:((fun k=>xs[k]?) ∘ fun k=>xs.size-1-k)=fun m=>xs[xs.size-1-m]?:=rfl
 rw[h3]at h2
 rw[<- h2,PySem.W.krv_range,List.filterMap_reverse,PySem.W.krv_all]
theorem RP{t:Addr}{items:Array Value}{tk:Tok}(ht:IsTup s.heap t items)(hs:s.heap.IsSliceOf sl .none .none (.int (-1) tk))
  (h:Q (.ref s.heap.objs.size) { s with heap:=s.heap.push { cls:=.type "tuple",data:=.seq items.toList.reverse.toArray } })
  (hsz:items.size<=sizeLine):wpAny (model prog w) A (getItem (.ref t) (.ref sl)) Q E s:=by
 have eE:sizeOk (.seq items.toList.reverse.toArray):=by
  show items.toList.reverse.toArray.size<=sizeLine
  rw[Ql,Ya,Q5]
  exact hsz
 obtain⟨os,lT,tq,mE⟩:=id hs
 have zR:s.TypeIs (.ref sl) "slice":=⟨os,lT,tq⟩
 unfold getItem
 try with_reducible refine Zw ?_
 first|refine Qa (Qb ?_)|skip
 refine Qa (Yq ht.typeIs (by decide) ?_)
 refine Qa (Q8 (name:=Str.ofString "__getitem__") ht.typeIs QK
  (Zq QK ht.typeIs J8 ?_ (Yh _ _)))
 show wpAny _ _ (Builtin.Tuple.tupleItemsOf (.ref t) >>= _) _ _ s
 refine Qa (tupleItemsOf_ ht ?_)
 refine Qa (JG zR ?_)
 rw[Qe (by decide)]
 refine Qa ?_
 unfold Builtin.Slice.sliceApplied Builtin.Slice.sliceFields
 refine Qa (Qa (ZH lT mE (x:=.none) rfl (Qa (ZH lT mE (x:=.none) rfl (Qa (ZH lT mE (x:=.int (-1) tk) rfl (Qb ?_)))))))
 refine Qa (slicePart_int ?_)
 show wpAny _ _ (if((-1:Int)==0)=true then _ else _) _ _ s
 rw[Qf (by decide)]
 refine Qa (Yg (Qa (Yg (Qa (Qb ?_)))))
 show wpAny _ _ (pure (((items.size:Int)-1),(-1:Int),Builtin.Slice.slicePlaces ((items.size:Int)-1) (-1) (-1))) _ _ s
 rw[RN]
 refine Qb ?_
 show wpAny _ _ (if((((items.size:Int)-1)==0&&(-1:Int)==1&&items.size==items.size)=true)then _ else _) _ _ s
 rw[Qf (by rw[show((-1:Int)==1)=false by decide,Bool.and_false,Bool.false_and];decide),RO]
 first
  | exact Qa (m:=Builtin.Tuple.tupleExact _) (QF (Qb ⟨_,rfl,Qb h⟩) eE)
  | exact Qa (m:=Builtin.Tuple.tupleExact _) (QF (Qa (Qb (Qb ⟨_,rfl,Qb h⟩))) eE)
  | exact Qa (Qa (m:=Builtin.Tuple.tupleExact _) (QF (Qb (Qb ⟨_,rfl,Qb h⟩)) eE))
  | exact Qa (Qa (m:=Builtin.Tuple.tupleExact _) (QF (Qb ⟨_,rfl,Qb h⟩) eE))
end
section
variable {X:Cx}{a b c e:Expr}{fa fb fc f:aw}{pos p p1 p2 tp:Pos}
@[simp] def vi (fa:aw):aw:=fun ρ=>match fa ρ with
 | some (.tup ds,_,ρ1)=>some (.tup ds.reverse,9,ρ1)
 | _=>none
def RQ (K:PySem.W.Frag)(te:TE):TE:=fun σ H Q=>te σ H fun x H1=>∃ a xs,x=.ref a/\cE K H1 a xs/\∀ p,H1 p=none->Q (.ref p) (upd H1 p (.tup xs.reverse))
theorem RS{te:TE}(he:PE X e te):PE X (.Subscript e (.Slice none none (some (.UnaryOp .USub (.Constant (.int 1) j p3) p4)) p2) pos) (RQ X.K te):=by
 intro pins s σ H Q I h
 refine Subscript_ (aN (he pins s σ H _ I h) fun v s1 ak=>?_)
 obtain⟨x,H1,I1,r1,q1⟩:=ak
 have k8:PE X (.UnaryOp .USub (.Constant (.int 1) j p3) p4) (D8 (rU fun i=>.int (-i)) (tC (.int 1))):=D9 Ea xf
 refine wpAny_Slice ?_
 rw[evalPart_none]
 refine Qb ?_
 refine Qb ?_
 rw[evalPart_some]
 refine aN (k8 pins s1 σ H1 (fun y H2=>y=.int (-1)/\H2=H1) I1 ⟨1,rfl,rfl,rfl⟩) fun vk s2 rP=>?_
 obtain⟨y,H2,I2,r2,e2,e3⟩:=rP
 subst e2 e3
 obtain⟨tk,rfl⟩:=r2
 obtain⟨a0,xs,rfl,hx,q⟩:=q1
 cases r1
 obtain⟨au,r,ht,hz⟩:=I2.tuple hx
 have hlen:=r.length
 have I4:L2.Inv X pins σ H2 { s2 with heap:=s2.heap.push { cls:=.type "slice",data:=.fields #[.none,.none,.int (-1) tk] } }:=I2.kept (t':=s2.toks) fun b ob q=>Qc _ q
 show wpAny (model X.prog X.w) X.A (subscriptTail e _ (.ref a0) (.ref s2.heap.objs.size)) (EP X pins σ Q) X.xe { s2 with heap:=s2.heap.push { cls:=.type "slice",data:=.fields #[.none,.none,.int (-1) tk] } }
 have gh:IsTup (s2.heap.push { cls:=.type "slice",data:=.fields #[.none,.none,.int (-1) tk] }) a0 au.toArray:=ht.keeps fun _ _ e=>Qc _ e
 refine tail_any (ops:=[.ref a0,.ref s2.heap.objs.size]) (T:="tuple") (IsTup.typeIs (s:={ s2 with heap:=s2.heap.push { cls:=.type "slice",data:=.fields #[.none,.none,.int (-1) tk] } }) gh) slot_tuple_getitem.lookup ?_ (by with_unfolding_all rfl)
 refine RP gh (Heap.IsSliceOf.new ..) ?_ (by rw[Ql];omega)
 refine⟨.ref _,_,I4.laid (t':=s2.toks) (o:=.tup xs.reverse) (fun b ob q=>Qc _ q) (Qd _) ?_,rfl,q _ (I4.aA.fresh (Qd _))⟩
 exact⟨by rw[Ya];exact hz,au.reverse,r.reverse,j7.new _ _⟩
theorem RT(ha:QD X a fa):QD X (.Subscript a (.Slice none none (some (.UnaryOp .USub (.Constant (.int 1) j p3) p4)) p2) pos) (vi fa):=⟨have ha:=ha.o;PE.imp (RS ha) fun σ H Q ak=>by
 obtain⟨ρ,w,t,r',q,ρ',gd,ee,k⟩:=ak
 unfold vi at ee
 split at ee
 next ds q1 ρ1 h1=>
  cases ee
  refine⟨ρ,w,t,_,_,_,gd,h1,fun v H1 w1 F1 g1 aK r1=>?_⟩
  have r0:=r1.drop (o:=.f) (Qd t)
  obtain⟨p0,vs,rfl,hq,rs⟩:=r0.eF
  refine⟨p0,vs,rfl,hq,fun l hl=>?_⟩
  obtain⟨a1,a2,a3⟩:=oJ (g1.drop (t':=t)) hl rs.rev
  exact k _ _ _ _ a1 ((aK.drop gd.wt).trans a2) a3
 ·cases ee⟩
end
end L3
namespace L3
open PySem PySem.Spec PyProof.Rows PySem.W L2
structure RU (P:Program) (w:World) (outer:List Env) (H:Hp) (s:Shared) (a C t:Addr) (B:Heap) (H':Hp) (s':Shared):Prop where
 os:s'.os=s.os
 bare:AllBare s'.gens
 un:Un (iK outer) [] H H' s.heap s'.heap
 aA:df P w H' s'.heap
 fl:Heap.FlyingW B outer a (.ref C) (.ref t) s'.heap
 old:∀ b o,s.heap.get? b=some o->H b=none->b ∉ iK outer->B.get? b=some o
 RV:∀ b o,s.heap.get? b=some o->b ∉ iK outer->∃ o',B.get? b=some o'
 uj:∀ b u o,H' b=some u->s'.heap.get? b=some o->B.get? b=some o
 free:H' a=none
abbrev k0h:=aU->Option Str
theorem Good.grow{K:PySem.W.Frag}{ρ:aU}{σ:St}{H H':Hp}{w:Wn}{t:Nat}(g:Good K ρ σ H w t)(h:∀ b o,H b=some o->Sm o (H' b))(tb:TB K H'):Good K ρ σ H' w t/\Go H w H' w:=by
 have st:cL H w H' w:=fun a x e n=>⟨h a x e,n⟩
 have kp:∀ a o,w a=some o->H' a=H a:=fun a o e=>by
  obtain⟨vs,q⟩:=g.wl a o e
  rw[q,(h a _ q).eq (by cases vs<;>rfl)]
 refine⟨⟨⟨fun a o e=>?_,tb⟩,g.ws,g.wt,g.len,fun i d q e=>?_⟩,st,fun a o e _=>⟨kp a o e,e⟩⟩
 ·obtain⟨vs,q⟩:=g.wl a o e
  exact⟨vs,(h a _ q).eq (by cases vs<;>rfl)⟩
 ·obtain⟨v,F,h1,h2⟩:=g.slot i d q e
  exact⟨v,F,h1,Rep.go g.wl st h2 fun a m=>⟨kp a _ (h2.az a m),h2.az a m⟩⟩
end L3
namespace L3
open PySem PySem.Spec PyProof.Rows PySem.W L2 PySem.SeqAt
end L3
namespace L3
open PySem PySem.Spec PyProof.Rows L2
section
variable {X:Cx}{a b c e:Expr}{fa fb fc f:aw}{pos p p1 p2 pT ay apos:Pos}
@[simp] def vj (fa:aw)(fl fh:o8):aw:=fun ρ=>match fa ρ with
 | some (.lst ds,_,ρ1)=>match fl ρ1 with
  | some (lo,ρ2)=>match fh ρ2 with
   | some (hi,dA)=>some (.lst (j0 ds lo hi),1,dA)
   | none=>none
  | none=>none
 | _=>none
theorem RW{lo hi:Option Expr}{fl fh:o8}(ha:QD X a fa)(hl:tL X lo fl)(hh:tL X hi fh):QD X (.Subscript a (.Slice lo hi none p2) pos) (vj fa fl fh):=⟨have ha:=ha.o;have hl:=hl.o;have hh:=hh.o;PE.imp (Ex M6 ha hl hh) fun σ H Q ak=>by
 obtain⟨ρ,w,t,r',q,ρ',gd,ee,k⟩:=ak
 unfold vj at ee
 split at ee
 next ds q1 ρ1 h1=>
  split at ee
  next lo ρ2 h2=>
   split at ee
   next hi dA h3=>
    cases ee
    refine⟨ρ,w,t,_,_,_,gd,h1,fun v H1 w1 F1 g1 aK r1=>?_⟩
    have nX:=g1.drop (t':=t)
    have r0:=r1.drop (o:=.f) (Qd t)
    refine⟨ρ1,bG t w1,t,_,_,nX,h2,fun H2 w2 g2 br=>⟨ρ2,w2,t,_,_,g2,h3,fun H3 w3 g3 eV=>?_⟩⟩
    have r3:=(r0.lZ nX.wl br.bB).lZ g2.wl eV.bB
    obtain⟨p1,vs,rfl,kO,s1⟩:=r3.gE
    have l1:=s1.length
    refine⟨p1,vs,rfl,kO,fun p hp=>?_⟩
    have s4:af X.K H3 w3 .f 0 (j0 ds lo hi) (nL vs lo hi) []:=by
     unfold j0 nL
     rw[<- l1]
     exact(s1.mR _).mX _
    obtain⟨a1,a2,a3⟩:=tF g3 hp s4
    exact k _ _ _ _ a1 ((((aK.drop gd.wt).trans br).trans eV).trans a2) a3
   ·cases ee
  ·cases ee
 ·cases ee⟩
end
end L3
namespace L3
open PySem PySem.Spec PyProof.Rows PySem.W L2
abbrev k0f:=aU->Option (Str×aU)
def CE (Y:Cx)(pins:List (Addr×Obj))(σ:St)(H:Hp)(w:Wn)(nm:Str)(ρ1:aU)(ev:Value)(s':Shared):Prop:=
 ∃ s1 H1 w1 a C t B H',ev=.ref a/\Inv Y.ft pins σ H1 s1/\Good Y.K ρ1 σ H1 w1 0/\Go H w H1 w1/\RU Y.prog Y.w Y.stack H1 s1 a C t B H' s'/\nsIn Y.K mainGlobals nm=some (some (.ref C))/\(∀ b o,H1 b=some o->Sm o (H' b))/\TB Y.K H'
def Br (K:PySem.W.Frag)(n:Nat)(ob:D)(G:List D->OD):Sp:=fun vs H Q _=>vs.length=n/\∃ ds w r q,(∀ a o,w a=some o->o=.f)/\WL K w H/\af K H w .f 0 ds vs []/\(∃ v,Rep K H w .f 0 ob v [])/\G ds=some (r,q) /\
 ∀ v H' w' Fo,Go H w H' w'->WL K w' H'->Rep K H' w' (.t 0) q r v Fo->Q v H'
def r_ (P:Program)(w:World)(K:PySem.W.Frag)(mg:Str->Option Value)(base:Heap)(k:Nat)(ob:D)(n:Nat)(G:List D->OD):Prop:=
 ∃ f fo vs ds fd ps,ob=.ob f fo vs ds/\fo.data=.func fd/\bY P w K mg base cV k f fd ps (Br K n ob G)/\∀ us:List Value,us.length=ps.length->bindArgs fd ⟨us,[]⟩=pure (ps.zip us)
open Classical in
def vm (ob:D)(G:List D->OD)(i n:Nat)(g:bQ):aw:=fun ρ=>if ρ[i]? = some (some (ob,9))then aB G n g ρ else none
section
variable {X:Cx}{e:Expr}{es:List Expr}{g:bQ}{pos p:Pos}
theorem RX{i j k n:Nat}{x:Str}{ob:D}{G:List D->OD}(h:QE X (.Name x p) (fP i))(C:r_ X.prog X.w X.K X.mg X.base k ob n G)(hr:aF j X.A)(hk:k<=j)(ha:fU X (e::es) g)(he:starEach (e::es) X.env=(false,eval e X.env)::starEach es X.env:=by rfl)(bT:(backTo pos (starEach es X.env)).any (·.1)=false:=by rfl):QD X (.Call (.Name x p) (e::es) [] pos) (vm ob G i n g):=⟨have h:=h.o;have ha:=ha.o;by
 intro pins s σ H Q I ak
 obtain⟨ρ,w,t,r',q,ρ',gd,ee,k'⟩:=ak
 unfold vm at ee
 split at ee
 next hs=>
  unfold aB at ee
  split at ee
  next ds ρ1 h1=>
   split at ee
   next hn=>
    split at ee
    next r0 q0 h2=>
     cases ee
     obtain⟨f,fo,gJ,cds,fd,ps,rfl,RY,F,hb⟩:=C
     obtain⟨v,F0,s1,s2⟩:=gd.slot i _ _ hs
     have vn:=s2.bV rfl
     obtain rfl:=vn.1
     cases s2 with
     | ob a1 a2 a3 a4=>
     have fnAt:∀ {H1:Hp} {s1:Shared} {nI:St} {u:HO},Inv X pins nI H1 s1->H1 f=some (.cu fo u)->FnAt f s1.heap:=fun {H1 s1 nI u} I1 e1=>by
      obtain⟨e2,_⟩:=(show cJ X.prog X.w H1 s1.heap _ (.cu _ _)from I1.aA _ _ e1)
      obtain⟨oc,od,da,sl⟩:=fo
      cases RY
      exact⟨_,_,_,_,e2⟩
     refine ZI (aN (h pins s σ H (fun v' H'=>v'=.ref f/\H'=H) I ⟨_,s1,rfl,rfl⟩) fun u s1 rP=>?_)
     obtain⟨v',H',I1,rv,e1,e2⟩:=rP
     subst e1
     obtain rfl:H=H':=e2.symm
     cases rv
     refine callWith_F (fnAt I1 a1) (aN (ha pos pins s1 σ H (fun vs H1=>∃ w1,Good X.K ρ' σ H1 w1 t/\Go H w H1 w1/\af X.K H1 w1 .f 0 ds vs []) I1 ⟨ρ,w,t,ds,ρ',gd,h1,fun vs H1 w1 g1 aK r1=>⟨w1,g1,aK,r1⟩⟩) fun us s2 Bs=>?_) he bT
     obtain⟨vs,H1,I2,yc,w1,g1,aK,r1⟩:=Bs
     have yl:Rep X.K H1 w1 .f 0 (.ob f fo gJ cds) (.ref f) []:=Rep.go gd.wl aK.bB (vn.2 0) nM
     obtain⟨u1,b1⟩:∃ u,H1 f=some (.cu fo u):=by
      cases yl with
      | ob b1 _ _ _=>exact⟨_,b1⟩
     refine⟨fnAt I2 b1,?_⟩
     have gY:Br X.K n (.ob f fo gJ cds) G vs H1 Q E0:=by
      refine⟨by rw[<- r1.length];exact hn,ds,fun a=>(w1 a).map fun _=>Ow.f,r',q,fun a o e=>?_,⟨fun a o e=>?_,g1.wl.tb⟩,?_,⟨.ref f,?_⟩,h2,fun v H2 w2 Fo br lg rr=>?_⟩
      ·try dsimp only at e
       cases ew:w1 a with
       | none=>rw[ew]at e;cases e
       | some o'=>rw[ew]at e;cases e;rfl
      ·try dsimp only at e
       cases ew:w1 a with
       | none=>rw[ew]at e;cases e
       | some o'=>exact g1.wl a o' ew
      ·exact af.freeze (fun a n=>by show(w1 a).map _=_;rw[n];rfl) r1 nM
      ·exact Rep.freeze (fun a n=>by show(w1 a).map _=_;rw[n];rfl) yl nM
      ·obtain⟨b1,b2,b3⟩:=nR g1 br lg rr
       exact k' _ _ _ _ b1 (aK.trans b2) b3
     have hl:us.length=ps.length:=by rw[<- yc.length];exact F.len _ _ _ _ gY
     refine Yf (Jj (F.run X.A X.stack s2 H1 ⟨us,[]⟩ us vs Q E0 (hr.mono hk) I2.qZ (.of_eq (hb us hl)) yc gY) fun r s' hq=>?_)
     cases r with
     | error e=>exact False.elim hq
     | ok fl=>
      cases fl with
      | ret u=>exact I2.after hq
      | next=>exact False.elim hq
      | brk=>exact False.elim hq
      | cont=>exact False.elim hq
    ·cases ee
   ·cases ee
  ·cases ee
 ·cases ee⟩
end
end L3
namespace L3
open PySem PySem.Spec PyProof.Rows PySem.W L2
variable {A:Around}{H:Hp}{K:PySem.W.Frag}{P a c f:Addr}{b:Int}{base h:Heap}{body:Expr}{cells cl:List (Str×Addr)}{cs ps:List Str}{gJ:List V}{ex:List Addr}{fb:aw}{mg:Str->Option Value}{o oc:Obj}{params:Arguments}{q qual x:Str}{s:Shared}{scope:Scope}{w:World}
theorem FX{u:Value}:∀ {ps:List Str} {us:List Value} {i:Nat},ps.Nodup->ps[i]? = some x->us[i]? = some u->(ps.zip us).reverse.lookup x=some u
 | [],_,_,_,h,_=>by simp at h
 | _::_,[],_,_,_,h=>by simp at h
 | p::ps,v::us,0,nd,h1,h2=>by
  simp at h1 h2
  subst h1
  subst h2
  rw[Ym,ZS,List.lookup_append]
  have:(ps.zip us).reverse.lookup p=none:=List.lookup_eq_none_iff.mpr fun q hq=>by
   have:=(Jv (JX.mp hq)).1
   exact bne_iff_ne.mpr fun z=>(Zo.mp nd).1 (z ▸ this)
  rw[this]
  simp
 | p::ps,v::us,i+1,nd,h1,h2=>by
  rw[Ym,ZS,List.lookup_append,FX (i:=i) (Zo.mp nd).2 (by simpa using h1) (by simpa using h2)]
  rfl
theorem RZ{prog:Program}{R:Result->Shared->Prop}{args:Args}{fd:FuncData}{fs:Array Value}{t:Tok}(vp:A.depth<recursionLimit)(ho:s.heap.get? a=some o)
  (jR:o.data=.func fd) (R0:fd.scope.isCoroutine=false) (Bu:fd.scope.isGenerator=false) (dk:fd.body=.expr body) (hc:fd.code=.ref c) (s9:s.heap.get? c=some oc) (R1:oc.data=.fields fs) (hq:fs[1]? = some (.str q t))
  (h:wpAny (model prog w) A.in1 (bindArgs fd args) (fun binds aH=>
    wpAny (model prog w) A.in1 (newFunctionEnv fd.scope fd.globals fd.closure binds (q ++ ".<locals>.") (some a) fd.code none fd.builtins)
     (fun env dX=>dX.heap.NoLimit/\codeAny (model prog w) A (.expr body env) R dX) (fun e s'=>R (.error e) s') aH) (fun e s'=>R (.error e) s') s) :
  codeAny (model prog w) A (.call (.ref a) args) R s:=by
 refine codeAny_of_tree ?_
 show wpAny _ A.in1 (callAny (.ref a) args) _ _ s
 simp only[callAny]
 refine Qa (wpAny_load ho ?_)
 simp only[jR,callFunction,R0,Bu,dk,hc]
 rw[hc]at h
 refine Qa (m:=field (.ref c) 1) (ZH s9 R1 hq (Qa (Qb ?_)))
 exact Qa (Ze h (fun binds aH k9=>Qa (Ze k9 (fun env dX jt=>Qa (wpAny_enterFrame jt.1 vp
  (Qb (And.intro rfl jt.2)))) fun _ _ h'=>h')) fun _ _ h'=>h')
def vq (P:Program)(w:World)(K:PySem.W.Frag)(mg:Str->Option Value)(base:Heap)(N:List Str)(qual:Str)(scope:Scope)(f:Addr)(cd:Value)(cl:List (Str×Addr))(A:Around)(outer:List Env)(s:Shared)(H:Hp):Cx where
 prog:=P
 w:=w
 K:=K
 mg:=mg
 base:=base
 A:=A.deeper (envX qual scope s.heap.objs.size f cd cl)
 N:=N
 bA:=s
 cU:=H
 env:=envX qual scope s.heap.objs.size f cd cl
 outer:=outer
 stack:=envX qual scope s.heap.objs.size f cd cl::outer
 ex:=[]
 calm:=true
 fn:=fun _=>false
 pn:=[]
 xe:=fun _ _=>False
structure bS (ps cs:List Str) (sc:Scope):Prop where
 kind:sc.kind=.function
 co:sc.isCoroutine=false
 gen:sc.isGenerator=false
 nd:(ps++cs).Nodup
 par:∀ x∈ps,sc.names.lookup x=some .local
 Bv:∀ x∈cs,sc.names.lookup x=some .free
 iV:∀ y∈sc.names,y.2 ≠ .cell
 free:∀ x,sc.names.lookup x=some .free->x∈cs
structure CellsOk (base:Heap) (cl:List (Str×Addr)) (cs:List Str) (gJ:List V):Prop where
 len:gJ.length=cs.length
 at':∀ (i:Nat) (x:Str) (v:V),cs[i]? = some x->gJ[i]? = some v->∃ c u,cl.lookup x=some c/\bq v u/\base.IsCell c (some u)
 inj:∀ x y c,cl.lookup x=some c->cl.lookup y=some c->x=y
 all:∀ x c,cl.lookup x=some c->∃ v,base.IsCell c v
theorem R3{P:Program}{cd:Value}{outer:List Env}{h1:Heap}{tk:Nat}{us:List Value}{vs:List V}
  (S:bS ps cs scope) (C:CellsOk base cl cs gJ) (hd:A.handled=none) (e0:iO P w K mg base A outer s H) (hl:vs.length=ps.length) (r:bf vs us)
  (jm:h1.Ns s.heap.objs.size (fun x=>(ps.zip us).reverse.lookup x)) (hk:∀ b o,s.heap.get? b=some o->h1.get? b=some o) :
  Inv (vq P w K mg base (ps++cs) qual scope f cd cl A outer s H) [] (L2.gX (ps++cs) (vs++gJ)) H { s with heap:=h1,toks:=tk }:=by
 have nK:∀ b:Addr,b ∉ (vq P w K mg base (ps++cs) qual scope f cd cl A outer s H).ex:=fun b z=>absurd (show b∈([]:List Addr)from z) (by simp)
 refine⟨⟨e0.mod,S.kind,rfl,rfl,Qd _,C.inj,fun y hy=>?_,(fun y c z=>by cases z),fun _=>hd,Around.frames_deeper e0.frames,.inr ⟨rfl,rfl⟩,fun b z=>absurd z (nK b),e0.bs,e0.lP,fun b _ _=>nK b,fun b z=>absurd z (nK b),e0.eo,e0.pN⟩,
  rfl,e0.bare,Un.kept hk,⟨_,jm,fun i y v h1 h2 h3=>?_⟩,fun y c h=>?_,e0.aA.fresh (Qd _),fun y c h=>?_,fun p hp=>absurd (show p∈([]:List (Addr×Obj))from hp) (by simp),e0.aA.kept hk,?_⟩
 ·have hy:scope.names.lookup y=some .cell\/scope.names.lookup y=some .free:=hy
  rcases hy with hy|hy
  ·exact absurd rfl (S.iV _ (Qw hy))
  ·obtain⟨i,hi⟩:=List.mem_iff_getElem?.mp (S.free y hy)
   have:i<gJ.length:=by rw[C.len];exact(Qr.mp hi).1
   obtain⟨c,u,e,_⟩:=C.at' i y _ hi (Qv this)
   exact⟨c,e⟩
 ·have hN:(ps++cs)[i]? = some y:=h1
  have gq:(vs++gJ)[i]? = some v:=by
   unfold L2.gX at h2
   have tO:(vs++gJ).length=(ps++cs).length:=by rw[Qh,Qh,hl,C.len]
   rw[tO,Nat.sub_self,List.replicate_zero,Zj,Qu]at h2
   cases e:(vs++gJ)[i]? with
   | none=>rw[e]at h2;cases h2
   | some a=>rw[e]at h2;cases h2;rfl
  by_cases hi:i<ps.length
  ·rw[Qs hi]at hN
   rw[Qs (by rw[hl];exact hi)]at gq
   obtain⟨u,hu,rv⟩:=r.get gq
   exact⟨u,rv,.inl ⟨S.par y (Zx hN),FX (Yt.mp S.nd).1 hN hu⟩⟩
  ·rw[QN (JU hi)]at hN
   rw[QN (by rw[hl];exact JU hi),hl]at gq
   obtain⟨c,u,e,rv,hc⟩:=C.at' _ y v hN gq
   exact⟨u,rv,.inr ⟨.inr (S.Bv y (Zx hN)),c,e,(hc.keeps fun b o e=>(e0.bs b o e).1).keeps hk⟩⟩
 ·obtain⟨v,hv⟩:=C.all y c h
  exact⟨v,(hv.keeps fun b o e=>(e0.bs b o e).1).keeps hk⟩
 ·obtain⟨v,o,ho,_⟩:=C.all y c h
  exact(e0.bs c o ho).2
 ·unfold L2.gX
  show _=(ps++cs).length
  rw[Qh,QA,QY,Qh,Qh,hl,C.len]
  omega
def lC (fb:aw)(cds:List D):List D->OD:=fun ds=>match fb (jW (ds++cds).length (ds++cds))with
 | some (d,q,_)=>some (d,q)
 | none=>none
theorem R4{P:Program}{nm:Str}{pm iW:Value}{k:Nat}{cds:List D}
  (S:bS ps cs scope) (C:CellsOk base cl cs gJ)
  (dk:∀ (q:Str) (A:Around) (outer:List Env) (s:Shared) (H:Hp),aF k (A.deeper (envX q scope s.heap.objs.size f (.ref c) cl))->PD (vq P w K mg base (ps++cs) q scope f (.ref c) cl A outer s H) body fb) :
  bY P w K mg base cV (k+1) f (kla_fn nm qual params body scope cl pm (.ref c) iW) ps (Br K ps.length (.ob f (kla_obj nm qual params body scope cl pm c iW) gJ cds) (lC fb cds)):=by
 refine⟨fun vs H Q E h=>h.1,fun A outer s H args us vs Q E hr e0 hb r gY=>?_⟩
 obtain⟨hn,ds,wn,r',q',hw,wl,rs,⟨vo,ro⟩,ee,k'⟩:=gY
 cases ro with
 | ob a1 a2 a3 a4=>
 obtain⟨x1,⟨fd',x2,x3⟩,fs,q,t,x4,x5⟩:=a3
 cases x2
 cases x3
 obtain⟨o1,_⟩:=(show cJ P w H s.heap _ (.cu _ _)from e0.aA _ _ a1)
 obtain⟨o2,_⟩:=(show cJ P w H s.heap _ (.cu _ _)from e0.aA _ _ a2)
 have lim:s.heap.NoLimit:=e0.mod.nolimit.keeps fun b o e=>(e0.bs b o e).1
 refine RZ hr.depth o1 rfl S.co S.gen rfl rfl o2 x4 x5 (hb _ _ _ _ ?_)
 refine wpAny_newFunctionEnv S.iV (fun y hy=>S.par y.1 (Jv hy).1) (fun h1 jm FY=>⟨lim.fresh _ FY,?_⟩) S.kind
 have hk:∀ b o,s.heap.get? b=some o->h1.get? b=some o:=fun b o e=>FY.extBut b o (QB (Qj e)) (Qc _ e)
 show codeAny _ _ (.expr body (envX q scope s.heap.objs.size f (.ref c) cl)) _ _
 have I:=R3 (cd:=.ref c) (f:=f) (qual:=q) (tk:=s.toks+(ps.zip us).length) S C hr.hd e0 hn r jm hk
 unfold lC at ee
 split at ee
 next d q0 ρ' h1=>
  cases ee
  have gd:Good K (jW (ds++cds).length (ds++cds)) (L2.gX (ps++cs) (vs++gJ)) H wn 0:=by
   have e1:(ds++cds).length=(ps++cs).length:=by rw[Qh,Qh,rs.length,a4.length,hn,C.len]
   rw[e1]
   refine AN hw wl ?_
   have app:∀ {ds:List D} {vs:List V},af K H wn .f 0 ds vs []->af K H wn .f 0 (ds++cds) (vs++gJ) []:=by
    intro ds
    induction ds with
    | nil=>intro vs r;cases r;exact a4
    | cons d ds ih=>
     intro vs r
     generalize hF:([]:List Addr)=F at r
     cases r with
     | cons r1 r2 ne=>
      obtain rfl:=r1.zero
      obtain rfl:=r2.zero
      exact .cons (F:=[]) (G:=[]) r1 (ih r2) nM
   exact app rs
  refine kla_codeExpr (Ze (dk q A outer s H (hr.deeper _) [] _ _ H Q I ⟨_,wn,0,_,_,_,gd,h1,fun v H' w' F g1 aK r1=>k' v H' w' F aK g1.wl r1⟩) (fun v s' hh=>?_) fun e s' z=>False.elim z)
  obtain⟨v',H',J,rv,qq⟩:=hh
  exact⟨v',H',J.os,J.bare,J.base,J.aA,rv,qq⟩
 ·cases ee
structure Lm (K:PySem.W.Frag) (mg:Str->Option Value) (base:Heap):Prop where
 bm:∃ bm o,mg "__builtins__" = some (.ref bm)/\bm≠builtinsNs/\base.get? bm=some o/\o.cls=.type "module" /\ o.dict=some builtinsNs/\o.data=.plain
 cd:∀ x∈nP,∀ c P,tabIn K x=some (c,P)->CodeHd base c P
theorem R5{pos:Pos}{a:Int}{c cv:Value}:∀ (l:List Value),TriplesOk l->codeAmong pos (l++[rawInt a,rawInt b,c])=some cv->codeAmong pos l=some cv\/cv=c:=by
 intro l h
 fun_induction TriplesOk l with
 | case1=>
  intro e
  simp only[Jw,rawInt,codeAmong]at e
  split at e
  ·cases e;exact .inr rfl
  ·cases e
 | case2 a1 t1 a2 t2 v bE ih=>
  intro e
  simp only[List.cons_append,codeAmong]at e ⊢
  split at e
  next hc=>
   rw[Qe hc]
   exact .inl e
  next hc=>
   rw[Qf hc]
   exact ih h e
 | case3=>exact h.elim
theorem TB.grow(t:TB K H){ps:Array Value}{a:Int}{u:HO}{fs:Array Value}{tk:Tok}(hP:H P=some (.dJ ps))(hc:H c=none)(hu:∀ xs,u ≠ .lst xs)(h1:oc.data=.fields fs)(h2:fs[1]? = some (.str q tk)) :
  TB K (L2.upd (L2.upd H P (.dJ (ps ++ #[rawInt a,rawInt b,.ref c]))) c (.cu oc u)):=by
 have hcP:P≠c:=fun z=>by rw[z,hc]at hP;cases hP
 have cu:∀ d o v,H d=some (.cu o v)->L2.upd (L2.upd H P (.dJ (ps ++ #[rawInt a,rawInt b,.ref c]))) c (.cu oc u) d=some (.cu o v):=fun d o v e=>by
  rw[aR (fun z=>by rw[z,hc]at e;cases e),aR (fun z=>by rw[z,hP]at e;cases e)]
  exact e
 have get:∀ Q qs,L2.upd (L2.upd H P (.dJ (ps ++ #[rawInt a,rawInt b,.ref c]))) c (.cu oc u) Q=some (.dJ qs)->(Q=P/\qs=ps ++ #[rawInt a,rawInt b,.ref c])\/H Q=some (.dJ qs):=fun Q qs e=>by
  by_cases h1:Q=c
  ·subst h1;rw[de]at e;cases e
  ·rw[aR h1]at e
   by_cases h2:Q=P
   ·subst h2;rw[de]at e;cases e;exact .inl ⟨rfl,rfl⟩
   ·rw[aR h2]at e;exact .inr e
 refine⟨fun Q qs e=>?_,fun Q qs e pos cv ym=>?_,fun x hx c' P' e=>?_⟩
 ·rcases get Q qs e with⟨_,rfl⟩|e
  ·have:=TriplesOk_snoc a b (.ref c) ps.toList (t.tr P ps hP)
   simpa using this
  ·exact t.tr Q qs e
 ·have old:∀ Q qs,H Q=some (.dJ qs)->codeAmong pos qs.toList=some cv->∃ c' yn u' vs q t,cv=.ref c'/\L2.upd (L2.upd H P (.dJ (ps ++ #[rawInt a,rawInt b,.ref c]))) c (.cu oc u) c'=some (.cu yn u')/\yn.data=.fields vs/\vs[1]? = some (.str q t)/\∀ xs,u' ≠ .lst xs:=fun Q qs e ym=>by
   obtain⟨c',yn,u',vs,q',t',g1,g2,g3,g4,g5⟩:=t.cd Q qs e pos cv ym
   exact⟨c',yn,u',vs,q',t',g1,cu _ _ _ g2,g3,g4,g5⟩
  rcases get Q qs e with⟨_,rfl⟩|e
  ·rcases R5 (pos:=pos) (cv:=cv) (c:=.ref c) (a:=a) (b:=b) ps.toList (t.tr P ps hP) (by simpa using ym)with z|z
   ·exact old P ps hP z
   ·exact⟨c,oc,u,fs,q,tk,z,de,h1,h2,hu⟩
  ·exact old Q qs e ym
 ·obtain⟨qs,e'⟩:=t.is x hx c' P' e
  have n1:P'≠c:=fun z=>by rw[z,hc]at e';cases e'
  by_cases n2:P'=P
  ·subst n2;exact⟨_,by rw[aR n1,de]⟩
  ·exact⟨qs,by rw[aR n1,aR n2];exact e'⟩
def kn (a:Addr)(o:Obj):HO:=.cu o (.ext fun h=>h.get? a=some o)
theorem Bw{P:Program}(e:h.get? a=some o):cJ P w H h a (kn a o):=⟨e,e,⟨o,e⟩,fun _ _ p k=>k _ p⟩
section
variable {X:Cx}{pins:List (Addr×Obj)}{σ:St}{H:Hp}{s:Shared}{E:Value->Shared->Prop}{Q:Value->Shared->Prop}
theorem Inv.table{ps ps':Array Value}{fo:Obj}{h':Heap}{tk:Nat}(I:Inv X pins σ H s)(hP:H P=some (.dJ ps))(hx:Heap.ExtBut P s.heap h')(hc:s.heap.objs.size<=c)(hf:c<f)(e1:h'.get? c=some oc)(e2:h'.get? P=some (tabObj (ps++ps')))(e3:h'.get? f=some fo) :
  Inv X pins σ (L2.upd (L2.upd (L2.upd H P (.dJ (ps++ps'))) c (kn c oc)) f (kn f fo)) { s with heap:=h',toks:=tk }:=by
 have nc:H c=none:=I.aA.fresh hc
 have nf:H f=none:=I.aA.fresh (QC hc (Zi hf))
 have keep:∀ b u,H b=some u->b≠P->L2.upd (L2.upd (L2.upd H P (.dJ (ps++ps'))) c (kn c oc)) f (kn f fo) b=some u:=fun b u e n=>by
  rw[aR (eQ e nf),aR (eQ e nc),aR n];exact e
 have PP:L2.upd (L2.upd (L2.upd H P (.dJ (ps++ps'))) c (kn c oc)) f (kn f fo) P=some (.dJ (ps++ps')):=by
  rw[aR (eQ hP nf),aR (eQ hP nc),de]
 have kp:∀ b o,s.heap.get? b=some o->H b=none->h'.get? b=some o:=fun b o e n=>hx b o (fun z=>by rw[z,hP]at n;cases n) e
 refine I.un ⟨fun b o e n _ _=>kp b o e n,fun b o e n _ _=>⟨o.slots,kp b o e n⟩,fun b o e n _=>?_,fun b o e _=>?_,fun b xs e=>keep b _ e (fun z=>by rw[z,hP]at e;cases e),fun b o u e=>keep b _ e (fun z=>by rw[z,hP]at e;cases e),fun b qs e=>?_⟩ fun a o e=>?_
 ·have lt:=Qj e
  rw[aR (QB (JI (Qo lt hc) hf)),aR (QB (Qo lt hc)),aR (fun z=>by rw[z,hP]at n;cases n)]
  exact n
 ·by_cases hb:b=P
  ·rw[hb];exact⟨_,e2⟩
  ·exact⟨o,hx b o hb e⟩
 ·by_cases hb:b=P
  ·subst hb
   rw[hP]at e;cases e
   exact⟨ps',PP⟩
  ·exact⟨#[],by rw[Array.append_empty];exact keep b _ e hb⟩
 ·by_cases h1:a=f
  ·subst h1;rw[de]at e;cases e;exact Bw e3
  ·rw[aR h1]at e
   by_cases h2:a=c
   ·subst h2;rw[de]at e;cases e;exact Bw e1
   ·rw[aR h2]at e
    by_cases h3:a=P
    ·subst h3;rw[de]at e;cases e;exact e2
    ·rw[aR h3]at e
     refine(I.aA a o e).jo (fun b u hb q=>hx b u (fun z=>?_) q) (fun b q=>keep b _ q (fun z=>by rw[z,hP]at q;cases q)) fun b xs q=>keep b _ q (fun z=>by rw[z,hP]at q;cases q)
     subst z
     rcases hb with hb|hb
     ·exact h3 hb.symm
     ·rw[hP]at hb;cases hb
theorem R6{body:Expr}{pos:Pos}{A:Around}{M:Model}{se:List (Str×Addr)}(I:Inv X pins σ H s)(L:Lm X.K X.mg X.base)(tb:TB X.K H)(hx:x∈nP)(ht:tabIn X.K x=some (c,P))(kQ:X.env.code=.ref c)
  (oV:closureFor scope X.env=pure se) (mJ:defaultsOf params X.env=([],[]))
  (h:∀ (f c':Addr) (pm iW:Value) (oc:Obj) (h':Heap) (tk:Nat) (H':Hp) (u u':HO),Inv X pins σ H' { s with heap:=h',toks:=tk }->H' f=some (.cu (kla_obj "<lambda>" (X.env.qual ++ "<lambda>") params body scope se pm c' iW) u)->H' c'=some (.cu oc u')->
    E2 (kla_obj "<lambda>" (X.env.qual ++ "<lambda>") params body scope se pm c' iW) c' oc->(∀ b o,H b=some o->Sm o (H' b))->TB X.K H'->Q (.ref f) { s with heap:=h',toks:=tk }) :
  wpAny M A (eval (.Lambda params body scope pos) X.env) Q E s:=by
 obtain⟨ps,hP⟩:=tb.is x hx c P ht
 have oP:s.heap.get? P=some (tabObj ps):=I.aA P _ hP
 have C:=(L.cd x hx c P ht).keeps I.bk
 have hg:=I.mod.glob.keeps I.bk
 have R7:mainGlobals≠P:=fun q=>by
  obtain⟨o,es,ep,e,hd,_⟩:=hg
  rw[q,oP]at e;cases e;cases hd
 have hB:s.heap.BuiltinsAt X.mg P:=by
  obtain⟨bm,ob,b1,b2,b3,b4,b5,b6⟩:=L.bm
  have vt:=I.bk _ _ b3
  refine⟨bm,ob,b1,b2,fun q=>?_,fun q=>?_,vt,b4,b5,b6⟩
  ·obtain⟨o,es,ep,e,hd,_⟩:=hg
   rw[q,e]at vt;cases vt;rw[hd]at b6;cases b6
  ·rw[q,oP]at vt;cases vt;cases b4
 refine kla_eval mJ ?_
 cases hf:codeAmong pos ps.toList with
 | none=>
  refine kla_makeFunction (mg:=X.mg) oV I.ok.glob hg kQ C oP (tb.tr P ps hP) hf R7 hB fun c' iW h' tk R8 Bx cY sf R9=>?_
  obtain⟨c2,oc,vs,t,e2,s9,hd,hv⟩:=sf
  cases e2
  have nc:H c'=none:=I.aA.fresh Bx
  have nf:H h'.objs.size=none:=I.aA.fresh (QC Bx (Zi cY))
  refine h h'.objs.size c' _ iW oc _ tk _ _ _ (Inv.table (ps':=#[rawInt pos.line,rawInt pos.col,.ref c']) (oc:=oc) I hP (fun b o n e=>Qc _ (R8 b o n e)) Bx cY (Qc _ s9) (Qc _ R9) (Qm _ rfl)) de
   (by rw[aR (QB cY),de];rfl) ⟨rfl,⟨_,rfl,rfl⟩,vs,_,t,hd,hv⟩ (fun b o e=>?_) ((tb.grow (u:=.ext fun h=>h.get? c'=some oc) hP nc (fun _ z=>nomatch z) hd hv).upd rfl (.inl ?_))
  ·by_cases hb:b=P
   ·subst hb
    rw[hP]at e;cases e
    exact⟨_,by rw[aR (eQ hP nf),aR (eQ hP nc),de]⟩
   ·exact sm (by rw[aR (eQ e nf),aR (eQ e nc),aR hb];exact e)
  ·rw[aR (Y3 cY),aR (eQ hP nf).symm];exact nf
 | some cv=>
  obtain⟨c',oc,u',vs,q,t,rfl,k7,hd,hv,_⟩:=tb.cd P ps hP pos cv hf
  refine kla_makeFunctionHit (mg:=X.mg) oV I.ok.glob hg kQ C oP (tb.tr P ps hP) hf hB fun iW h' tk hk hsz=>?_
  have nf:H h'.objs.size=none:=I.aA.fresh hsz
  refine h h'.objs.size c' _ iW oc _ tk _ _ _ (I.laid (o:=kn _ _) (fun b o e=>Qc _ (hk b o e)) hsz (Bw (Qm _ rfl))) de (by rw[aR (eQ k7 nf)];exact k7) ⟨rfl,⟨_,rfl,rfl⟩,vs,_,t,hd,hv⟩ (fun b o e=>sm (by rw[aR (eQ e nf)];exact e)) (tb.upd rfl (.inl nf))
end
def m7 (base h:Heap)(ex:List Addr):Heap:=hideAll h ((List.range h.objs.size).filter fun b=>(base.get? b).isNone && !ex.contains b)
theorem FZ{b:Addr}(e:(m7 base h ex).get? b=some o):h.get? b=some o/\((base.get? b).isSome=true\/b∈ex):=by
 have e1:=of_hideAll _ e
 refine⟨e1,?_⟩
 by_cases hb:b∈((List.range h.objs.size).filter fun b=>(base.get? b).isNone && !ex.contains b)
 ·have:=hideAll_none (h:=h) _ hb
  unfold m7 at e
  rw[this]at e;cases e
 ·rw[Ju]at hb
  have:¬ (((base.get? b).isNone && !ex.contains b)=true):=fun z=>hb ⟨QV.mpr (Qj e1),z⟩
  cases h1:base.get? b with
  | some o'=>exact .inl rfl
  | none=>
   rw[h1]at this
   simp at this
   exact .inr this
theorem By{b:Addr}(e:h.get? b=some o)(hb:(base.get? b).isSome=true\/b∈ex):(m7 base h ex).get? b=some o:=
 hideAll_get _ e fun z=>by
  have:=(Ju.mp z).2
  rw[QH]at this
  rcases hb with hb|hb
  ·have t1:=this.1
   cases q:base.get? b with
   | none=>rw[q]at hb;cases hb
   | some o=>rw[q]at t1;cases t1
  ·have t2:=this.2
   simp at t2
   exact t2 hb
def eW:List Str->List (Str×Addr)->List (Str×Addr)
 | [],_=>[]
 | x::xs,cells=>match cells.lookup x with
  | some c=>(x,c)::eW xs cells
  | none=>eW xs cells
theorem vw:∀ {xs:List Str},(eW xs cells).lookup x=some c->cells.lookup x=some c
 | [],h=>by cases h
 | y::xs,h=>by
  unfold eW at h
  split at h
  next c' e=>
   rw[QO]at h
   split at h
   next hb=>
    cases h
    rw[eq_of_beq hb];exact e
   ·exact vw h
  ·exact vw h
theorem Bz(e:cells.lookup x=some c):∀ {xs:List Str},x∈xs->(eW xs cells).lookup x=some c
 | [],h=>by cases h
 | y::xs,h=>by
  unfold eW
  by_cases hy:x=y
  ·subst hy
   rw[e]
   simp
  ·have hm:x∈xs:=by rcases Qn.mp h with z|z;exact absurd z hy;exact z
   split
   ·rw[QO,Zm.mpr hy]
    exact Bz e hm
   ·exact Bz e hm
def tP:List Nat->aU->Option (List D)
 | [],_=>some []
 | i::is,ρ=>match ρ[i]? with
  | some (some (d,_))=>if d.cw=false then match tP is ρ with
   | some ds=>some (d::ds)
   | none=>none
   else none
  | _=>none
theorem F4{ρ:aU}{σ:St}{w:Wn}{t:Nat}(g:Good K ρ σ H w t):∀ {is:List Nat} {ds:List D},tP is ρ=some ds->∃ vs,af K H w .f 0 ds vs []/\vs.length=is.length/\∀ (j i:Nat),is[j]? = some i->∃ v,vs[j]? = some v/\σ[i]? = some (some v)
 | [],ds,e=>by
  cases e
  exact⟨[],.nil,rfl,fun j i h=>by simp at h⟩
 | i::is,ds,e=>by
  unfold tP at e
  split at e
  next d q h1=>
   split at e
   next hl=>
    split at e
    next ba h2=>
     cases e
     obtain⟨vs,r,l,k⟩:=F4 g h2
     obtain⟨v,F,s1,s2⟩:=g.slot i d q h1
     obtain⟨hF,hr⟩:=s2.bV hl
     refine⟨v::vs,.cons (F:=[]) (G:=[]) ((hr 0).any g.wl) r nM,by simp[l],fun j i' hj=>?_⟩
     cases j with
     | zero=>simp at hj;subst hj;exact⟨v,rfl,s1⟩
     | succ j=>exact k j i' (by simpa using hj)
    ·cases e
   ·cases e
  ·cases e
def qu (cds:List D):D:=.ob 0 ⟨.none,none,.plain,#[]⟩ [] cds
open Classical in
def pf (F:D->(List D->OD)->List D->OD)(fb:aw)(is:List Nat)(fN:aw):aw:=fun ρ=>match fN ρ with
 | some (.int m,_,ρ1)=>match tP is ρ1 with
  | some cds=>if ∀ f fo vs,F (.ob f fo vs cds) (lC fb cds) [.int m,.ob f fo vs cds]=F (qu cds) (lC fb cds) [.int m,qu cds]then match F (qu cds) (lC fb cds) [.int m,qu cds]with
   | some (r,q)=>some (r,q,ρ1)
   | none=>none
   else none
  | none=>none
 | _=>none
theorem R_{X:Cx}{y:Str}{fn:Addr}{j k kb:Nat}{caps:List Str}{is:List Nat}{eN:Expr}{fN:aw}{F:D->(List D->OD)->List D->OD}{p lp pos:Pos}
  (ur:X.fn=fun _=>true) (L:Lm X.K X.mg X.base) (hx:x∈nP) (ht:tabIn X.K x=some (c,P)) (kQ:X.env.code=.ref c) (S:bS ps caps scope)
  (hm:X.mg y=some (.ref fn)) (u9:keepIn X.K (.ref fn)=true) (hr:aF j X.A) (hk:k<=j)
  (hF:∀ dw ob G,r_ X.prog X.w X.K X.mg dw (kb+1) ob ps.length G->ah X.prog X.w X.K X.mg dw k y 2 (F ob G))
  (dk:∀ (dw:Heap) (f c':Addr) (cl:List (Str×Addr)) (q:Str) (A:Around) (outer:List Env) (s:Shared) (H:Hp),aF kb (A.deeper (envX q scope s.heap.objs.size f (.ref c') cl))->PD (vq X.prog X.w X.K X.mg dw (ps++caps) q scope f (.ref c') cl A outer s H) body fb)
  (jz:∀ (cl:List (Str×Addr)) (pm a_ iW:Value) (us:List Value),us.length=ps.length->bindArgs (kla_fn "<lambda>" (X.env.qual ++ "<lambda>") params body scope cl pm a_ iW) ⟨us,[]⟩=pure (ps.zip us))
  (hN:∀ (j:Nat) (z:Str),caps[j]? = some z->∃ i,is[j]? = some i/\X.N[i]? = some z/\X.env.scope.names.lookup z=some .cell) (hl:is.length=caps.length) (ha:PD X eN fN)
  (oV:closureFor scope X.env=pure (eW caps X.env.cells):=by rfl) (mJ:defaultsOf params X.env=([],[]):=by rfl) (hg:Gl X y:=by rfl) (iP:(y==("__debug__":Str))=false:=by decide)
  (he:starEach [eN,.Lambda params body scope lp] X.env=(false,eval eN X.env)::starEach [.Lambda params body scope lp] X.env:=by rfl) (bT:(backTo pos (starEach [.Lambda params body scope lp] X.env)).any (·.1)=false:=by rfl) :
  PD X (.Call (.Name y p) [eN,.Lambda params body scope lp] [] pos) (pf F fb is fN):=by
 intro pins s σ H Q I ak
 obtain⟨ρ,w,t,r',q,ρ',gd,ee,k'⟩:=ak
 unfold pf at ee
 split at ee
 next m q1 ρ1 h1=>
  split at ee
  next cds hc=>
   split at ee
   next mH=>
    split at ee
    next r0 q0 BA=>
     cases ee
     refine ZI (xg I hg hm ?_ iP)
     refine JA (h₀:=X.base) I.ok.mod.sX u9 ?_ he bT
     rw[he]
     show wpAny _ _ (spliced ((false,eval eN X.env)::backTo pos (starEach [.Lambda params body scope lp] X.env))) _ _ s
     refine Za (aN (ha pins s σ H (fun v H1=>∃ w1 F1,Good X.K ρ' σ H1 w1 (t+1)/\Go H w H1 w1/\Rep X.K H1 w1 (.t t) q1 (.int m) v F1) I ⟨ρ,w,t,_,_,_,gd,h1,fun v H1 w1 F1 g1 aK r1=>⟨w1,F1,g1,aK,r1⟩⟩) fun u s1 rP=>?_)
     obtain⟨v,H1,I1,rv,w1,F1,g1,aK,r1⟩:=rP
     cases r1
     rw[FD]
     show wpAny _ _ (spliced ((false,eval (.Lambda params body scope lp) X.env)::backTo pos (starEach [] X.env))) _ _ s1
     refine Za (R6 I1 L g1.wl.tb hx ht kQ oV mJ fun f c' pm iW oc h' tk H2 u1 u2 I2 hf k7 Sa Sb F5=>ZQ ⟨I2.dW,?_⟩)
     obtain⟨g2,br⟩:=g1.drop.grow Sb F5
     have BB:=(aK.drop gd.wt).trans br
     obtain⟨gJ,rc,lc,kc⟩:=F4 g2 hc
     have vx:∀ z c,(eW caps X.env.cells).lookup z=some c->∃ v,h'.IsCell c v:=fun z c e=>I2.cell z c (vw e)
     have F7:∀ z c,(eW caps X.env.cells).lookup z=some c->c∈(eW caps X.env.cells).map (·.2):=fun z c e=>QT.mpr ⟨(z,c),Qw e,rfl⟩
     have exc:∀ b∈(eW caps X.env.cells).map (·.2),∃ z,X.env.cells.lookup z=some b:=fun b hb=>by
      have gen:∀ (l:List Str) b,b∈(eW l X.env.cells).map (·.2)->∃ z,X.env.cells.lookup z=some b:=by
       intro l
       induction l with
       | nil=>intro b hb;cases hb
       | cons z l ih=>
        intro b hb
        unfold eW at hb
        split at hb
        next c0 e0=>
         rcases Qn.mp hb with z1|z1
         ·exact⟨z,by rw[z1];exact e0⟩
         ·exact ih b z1
        ·exact ih b hb
      exact gen caps b hb
     have C:CellsOk (m7 X.base h' ((eW caps X.env.cells).map (·.2))) (eW caps X.env.cells) caps gJ:=by
      refine⟨lc.trans hl,fun i z v h1 h2=>?_,fun a b c h1 h2=>I2.ok.inj a b c (vw h1) (vw h2),fun z c e=>?_⟩
      ·obtain⟨ix,e1,e2,e3⟩:=hN i z h1
       obtain⟨v',e4,e5⟩:=kc i ix e1
       rw[h2]at e4;cases e4
       obtain⟨mm,_,lk⟩:=I2.loc
       obtain⟨u,ru,lk⟩:=lk ix z v e2 e5 (.inr (.inl e3))
       rcases lk with⟨z1,_⟩|⟨_,c,e6,o,e7,e8⟩
       ·have z2:X.env.scope.names.lookup z=some .local:=z1
        rw[e3]at z2;cases z2
       ·have e9:=Bz e6 (Zx h1)
        exact⟨c,u,e9,ru,o,By e7 (.inr (F7 z c e9)),e8⟩
      ·obtain⟨v,o,e1,e2⟩:=vx z c e
       exact⟨v,o,By e1 (.inr (F7 z c e)),e2⟩
     have yo:∀ b o,X.base.get? b=some o->(m7 X.base h' ((eW caps X.env.cells).map (·.2))).get? b=some o:=fun b o e=>By (I2.bk b o e) (.inl (by rw[e];rfl))
     have hM:Mod X.K X.mg (m7 X.base h' ((eW caps X.env.cells).map (·.2))):=by
      obtain⟨m1,m2,⟨mb,m3,m4⟩,m5⟩:=I.mod
      exact⟨m1.keeps yo,m2.keeps yo,⟨mb,m3.keeps yo,m4⟩,m5.keeps yo⟩
     have BC:∀ L o,X.base.get? L=none->h'.get? L=some o->(L∈X.fs\/L=X.env.locals)->(m7 X.base h' ((eW caps X.env.cells).map (·.2))).get? L=none:=fun L o n e hL=>by
      cases q:(m7 X.base h' ((eW caps X.env.cells).map (·.2))).get? L with
      | none=>rfl
      | some o'=>
       rcases(FZ q).2 with z|z
       ·rw[n]at z;cases z
       ·obtain⟨y,ey⟩:=exc L z
        rcases hL with hL|hL
        ·obtain⟨_,o2,e2,_⟩:=I2.ok.eo.mem hL
         have:=I2.ok.sZ y L (by rw[ur]) ey
         exact absurd (Qj e2) (YL.mpr this)
        ·exact absurd hL (I2.pO y L ey)
     have e0:iO X.prog X.w X.K X.mg (m7 X.base h' ((eW caps X.env.cells).map (·.2))) X.A X.stack { s1 with heap:=h',toks:=tk } H2:=by
      refine⟨I2.ok.frames,hM,fun b o e=>?_,Y4 (hideAll_size _ _),?_,I2.iL,I2.aA,I2.bare⟩
      ·obtain⟨e1,e2⟩:=FZ e
       refine⟨e1,?_⟩
       rcases e2 with z|z
       ·obtain⟨o',z'⟩:=Zv.mp z
        exact(I2.bs b o' z').2
       ·obtain⟨y,ey⟩:=exc b z
        exact I2.cQ y b ey
      ·have all:∀ l:List Env,(∀ b∈iK l,b∈X.env.locals::X.fs)->h'.FunFrames X.base l->h'.FunFrames (m7 X.base h' ((eW caps X.env.cells).map (·.2))) l:=by
        intro l
        induction l with
        | nil=>intro _ _;trivial
        | cons env r ih=>
         intro hs hl
         obtain⟨hk,⟨L,o,hf,hn,ho,hd⟩,hr⟩:=hl
         have hL:L∈X.env.locals::X.fs:=hs L (by unfold iK;rw[Z0,hf];exact Qi)
         refine⟨hk,⟨L,o,hf,BC L o hn ho ?_,ho,hd⟩,ih (fun b hb=>hs b (by unfold iK;rw[Z0,hf];exact Qg _ hb)) hr⟩
         rcases Qn.mp hL with z|z
         ·exact .inr z
         ·exact .inl z
       exact all X.stack I2.gz I2.stack
     have BD:=hF (m7 X.base h' ((eW caps X.env.cells).map (·.2))) (.ob f (kla_obj "<lambda>" (X.env.qual ++ "<lambda>") params body scope (eW caps X.env.cells) pm c' iW) gJ cds) (lC fb cds)
      ⟨f,_,gJ,cds,kla_fn "<lambda>" (X.env.qual ++ "<lambda>") params body scope (eW caps X.env.cells) pm (.ref c') iW,ps,rfl,rfl,R4 S C (fun q A outer s H hr=>dk _ f c' _ q A outer s H hr),jz _ _ _ _⟩
     obtain⟨Sd,fd,ps',G,nV,Se,hb⟩:=BD
     obtain rfl:fn=Sd:=by rw[hm]at nV;cases nV;rfl
     have yl:Rep X.K H2 (bG t w1) .f 0 (.ob f (kla_obj "<lambda>" (X.env.qual ++ "<lambda>") params body scope (eW caps X.env.cells) pm c' iW) gJ cds) (.ref f) []:=.ob hf k7 Sa rc
     have gY:kJ X.K 2 (F (.ob f (kla_obj "<lambda>" (X.env.qual ++ "<lambda>") params body scope (eW caps X.env.cells) pm c' iW) gJ cds) (lC fb cds)) [.int m,.ref f] H2 Q E0:=by
      refine⟨rfl,[.int m,.ob f (kla_obj "<lambda>" (X.env.qual ++ "<lambda>") params body scope (eW caps X.env.cells) pm c' iW) gJ cds],fun a=>((bG t w1) a).map fun _=>Ow.f,r',q,fun a o e=>?_,⟨fun a o e=>?_,F5⟩,?_,(mH _ _ _).trans BA,fun v H3 w3 Fo eV vy rr=>?_⟩
      ·try dsimp only at e
       cases ew:(bG t w1) a with
       | none=>rw[ew]at e;cases e
       | some o'=>rw[ew]at e;cases e;rfl
      ·try dsimp only at e
       cases ew:(bG t w1) a with
       | none=>rw[ew]at e;cases e
       | some o'=>exact g2.wl a o' ew
      ·exact .cons (F:=[]) (G:=[]) (.int m) (.cons (F:=[]) (G:=[]) (Rep.freeze (fun a n=>by show((bG t w1) a).map _=_;rw[n];rfl) yl nM) .nil nM) nM
      ·obtain⟨b1,b2,b3⟩:=nR g2 eV vy rr
       exact k' _ _ _ _ b1 (BB.trans b2) b3
     have vals:bf [.int m,.ref f] [u,.ref f]:=.cons rv (.cons rfl .nil)
     have tO:([u,Value.ref f]++[]).length=ps'.length:=by
      rw[Zj,<- vals.length]
      exact G.len _ _ _ _ gY
     refine Yf (Jj (G.run X.A X.stack _ H2 ⟨[u,.ref f],[]⟩ [u,.ref f] [.int m,.ref f] Q E0 (hr.mono hk) e0 ?_ vals gY) fun r s' hq=>?_)
     ·have:=hb { s1 with heap:=h',toks:=tk } [u,.ref f] I2.dW tO
      rw[Zj]at this
      exact this
     ·cases r with
      | error e=>exact False.elim hq
      | ok fl=>
       cases fl with
       | ret u=>exact I2.after hq
       | next=>exact False.elim hq
       | brk=>exact False.elim hq
       | cont=>exact False.elim hq
    ·cases ee
   ·cases ee
  ·cases ee
 ·cases ee
end L3
namespace L3
open PySem PySem.Spec PyProof.Rows L2
end L3
namespace L3
open PySem PySem.Spec PyProof.Rows PySem.W L2
section
variable {X:Cx}{a b:Expr}{g:bQ}{pos p:Pos}
def yp (i j:Nat)(g:bQ):av:=fun ρ=>match g ρ with
 | some ([d,e],ρ1)=>some (.nx ((ρ1.set i (some (d,cj d))).set j (some (e,cj e))))
 | _=>none
theorem Sf{i j:Nat}{x y:Str}{px py pt:Pos}{kt k2 qU}(hc:X.calm=true)(hN:X.N.Nodup)(hi:X.N[i]? = some x)(hj:X.N[j]? = some y)(uv:i≠j)(ha:fU X [a,b] g)(hx:X.env.scope.names.lookup x=some .local:=by rfl)(hy:X.env.scope.names.lookup y=some .local:=by rfl)(hw:swappedStores [.Tuple [.Name x px,.Name y py] kt pt] (.Tuple [a,b] k2 qU) X.env=pure (some [x,y]):=by rfl)(hs:swapsWithSole [.Tuple [.Name x px,.Name y py] kt pt] (.Tuple [a,b] k2 qU) pos.line X.env=pure false:=by rfl):km X (.Assign [.Tuple [.Name x px,.Name y py] kt pt] (.Tuple [a,b] k2 qU) pos) (yp i j g):=⟨have ha:=ha.o;by
 intro pins s σ H D I ak
 refine LA hc hN hi hj uv hx hy ha hw hs pins s σ H D I ?_
 have Sg:i<σ.length:=by rw[I.len];exact(Qr.mp hi).1
 have Si:j<σ.length:=by rw[I.len];exact(Qr.mp hj).1
 obtain⟨ρ,w,o,gd,ee,k⟩:=ak
 unfold yp at ee
 split at ee
 next d e ρ1 h1=>
  cases ee
  refine⟨ρ,w,0,_,ρ1,gd,h1,fun vs H1 w1 g1 aK r1=>?_⟩
  obtain⟨v,v',rfl,ra,rb⟩:=two r1
  obtain⟨g2,br⟩:=g1.rM (i:=i) Sg ra
  obtain⟨g3,eV⟩:=g2.rM (i:=j) (by rw[QL];exact Si) (rb.lZ g1.wl br.bB)
  exact⟨v,v',rfl,k _ _ _ (by rw[QL,QL]) g3 ((aK.trans br).trans eV)⟩
 ·cases ee⟩
end
abbrev met (ks:List Int):List Int:=firstMet (fun i=>ks.getD i 0) ks.length
def bl (m:Nat):List Nat:=(List.range 5).filter fun i=>m.testBit i
def bt (m:Nat)(led:Bool):SetTable:={ mask:=if(bl m).length<5 then 7 else 31,place:=(bl m).toArray,dummies:=#[],finger:=0,led:=led,moves:=if(bl m).length<5 then 0 else 1,plain:=true }
def Sj (m:Nat)(z:Nat->Tok):Array (Int×Value):=((bl m).map fun v:Nat=>(Int.ofNat v,Value.int (Int.ofNat v) (z v))).toArray
def so (m:Nat)(z:Nat->Tok)(ep:Nat)(led:Bool):Obj:={ cls:=.type "set",dict:=none,data:=.set (Sj m z) ep (bt m led) }
def bor (m v:Nat):Nat:=m ||| 1 <<< v
def rl (m v:Nat)(led:Bool):=((bt m led).put v).1.relaid ((bl (bor m v)).map Int.ofNat).toArray (SetTable.grown (bl (bor m v)).length)
def mb (val:Nat->Nat):Nat->Nat
 | 0=>0
 | i+1=>bor (mb val i) (val i)
theorem xr:∀ {ks:List Int} {us:List Value},IntsAre us ks->bf (ks.map V.int) us
 | _,_,.nil=>.nil
 | _,_,.cons k t r=>.cons ⟨t,rfl⟩ (xr r)
end L3
namespace L3
open PySem PySem.Spec PyProof.Rows L2
end L3
namespace L3
open PySem PySem.Spec PyProof.Rows PySem.W L2
end L3
namespace L3
open PySem PySem.Spec PyProof.Rows L2
end L3
namespace L3
open PySem PySem.Spec PyProof.Rows PySem.W L2
end L3
namespace L3
open PySem PySem.Spec PyProof.Rows L2
@[simp] def yq:List D->Option D
 | [.int i,.int j]=>some (.int (if j<i then j else i))
 | _=>none
section
variable {X:Cx}{a:Expr}{es:List Expr}{g:bQ}{p pos:Pos}
theorem Sk(hc:X.calm=true)(hm:X.mg "min" = none)(ha:fU X (a::es) g)(hb:bootBuiltins "min" = some (.builtin "min"):=by kernel_rfl)(hg:Gl X "min":=by rfl)(he:starEach (a::es) X.env=(false,eval a X.env)::starEach es X.env:=by rfl)(bT:(backTo pos (starEach es X.env)).any (·.1)=false:=by rfl):QD X (.Call (.Name "min" p) (a::es) [] pos) (eB yq g):=⟨have ha:=ha.o;PE.imp (q9 (L_ hc) hg hm hb ha (by decide) (by decide) he bT) (ya fun ds d h=>by
  unfold yq at h
  split at h
  next i j=>
   cases h
   refine⟨_,rfl,fun H w vs wl r Q hq=>?_⟩
   obtain⟨v,v',rfl,r1,r2⟩:=two r
   exact⟨i,j,by rw[dN r1,dN r2],hq⟩
  ·cases h)⟩
end
end L3
namespace L3
open PySem PySem.Spec PyProof.Rows PySem.W L2
end L3
namespace L3
open PySem PySem.SetTable
variable {xs:Array Nat}
def Rs (xs:Array Nat):Prop:=∀ a b,a<b->b<xs.size->xs.getD a 0<xs.getD b 0
theorem F8{i:Nat}(h:i<xs.size)(a b:Nat):xs.getD i a=xs.getD i b:=by
 unfold Array.getD
 rw[dif_pos h,dif_pos h]
theorem BE(r:Rs xs)(j:Nat):∀ (fuel lo hi:Nat),hi-lo<=fuel->lo<=hi->hi<=xs.size->(∀ i,i<lo->xs.getD i 0<j)->(∀ i,hi<=i->i<xs.size->j<=xs.getD i 0)->
  below.go xs j fuel lo hi<=xs.size/\(∀ i,i<below.go xs j fuel lo hi->xs.getD i 0<j)/\(∀ i,below.go xs j fuel lo hi<=i->i<xs.size->j<=xs.getD i 0)
 | 0,lo,hi,hf,hl,hs,h1,h2=>by
  unfold below.go
  exact⟨by omega,h1,fun i a b=>h2 i (by omega) b⟩
 | fuel+1,lo,hi,hf,hl,hs,h1,h2=>by
  unfold below.go
  by_cases c:lo<hi
  ·rw[Qe c]
   have hm:(lo+hi) / 2<xs.size:=by omega
   by_cases d:xs.getD ((lo+hi) / 2) j<j
   ·rw[Qe d]
    rw[F8 hm j 0]at d
    refine BE r j fuel _ hi (by omega) (by omega) hs (fun i eS=>?_) h2
    by_cases e:i=(lo+hi) / 2
    ·rw[e];exact d
    ·exact JI (r i _ (by omega) hm) d
   ·rw[Qf d]
    rw[F8 hm j 0]at d
    refine BE r j fuel lo _ (by omega) (by omega) (by omega) h1 (fun i a b=>?_)
    by_cases e:i=(lo+hi) / 2
    ·rw[e];omega
    ·have:=r ((lo+hi) / 2) i (by omega) b
     omega
  ·rw[Qf c]
   exact⟨by omega,h1,fun i a b=>h2 i (by omega) b⟩
theorem BF(r:Rs xs)(j:Nat):below xs j<=xs.size/\(∀ i,i<below xs j->xs.getD i 0<j)/\(∀ i,below xs j<=i->i<xs.size->j<=xs.getD i 0):=
 BE r j xs.size 0 xs.size (by omega) (by omega) (Qd _) (fun _ h=>absurd h (YS _)) (fun i a b=>by omega)
def Sl (mask:Nat)(p:Probe):Probe:=if p.more > 0 then { p with j:=p.j+1,more:=p.more-1 }else { p with j:=(leap mask p.i p.perturb).1,more:=runEnd mask (leap mask p.i p.perturb).1-(leap mask p.i p.perturb).1,i:=(leap mask p.i p.perturb).1,perturb:=(leap mask p.i p.perturb).2 }
def F9 (mask:Nat)(h:Int):Probe:={ j:=bits h % (mask+1),more:=runEnd mask (bits h % (mask+1))-bits h % (mask+1),i:=bits h % (mask+1),perturb:=bits h,dummy:=none }
def BG (mask:Nat)(p:Probe):Nat->Probe
 | 0=>p
 | m+1=>BG mask (Sl mask p) m
def lp (mask a pb:Nat):Probe:={ j:=a,more:=runEnd mask a-a,i:=a,perturb:=pb,dummy:=none }
def lst (mask:Nat):Nat->Nat×Nat->Nat×Nat
 | 0,x=>x
 | s+1,x=>lst mask s (leap mask x.1 x.2)
def BH (mask:Nat):Nat->Nat->Nat
 | 0,a=>a
 | s+1,a=>BH mask s ((a*5+1) % (mask+1))
structure Mk (mask:Nat):Prop where
 all:∀ e,e<=mask->∃ s,s<mask+1/\BH mask s 0=e
 nR:BH mask (mask+1) 0=0
 odd:mask % 2=1
 jv:mask<=511
structure So (t:SetTable) (hs:List Int):Prop where
 sz:t.place.size=hs.length
 rs:Rs t.place
 nd:t.dummies = #[]
 rd:Mk t.mask
 le:∀ (i j:Nat),t.place[i]? = some j->j<=t.mask
 room:hs.length<=t.mask
 rch:∀ (i j:Nat) (h:Int),t.place[i]? = some j->hs[i]? = some h->∃ m,m<10*turns t.mask/\(BG t.mask (F9 t.mask h) m).j=j/\∀ m',m'<m->∃ i',t.slot (BG t.mask (F9 t.mask h) m').j=.live i'
theorem uz{α:Type}(xs:Array α)(p:Nat)(x:α)(hp:p<=xs.size)(i:Nat):(insertAt xs p x)[i]? = if i<p then xs[i]? else if i=p then some x else xs[i-1]?:=by
 have e:(insertAt xs p x).toList=xs.toList.take p++x::xs.toList.drop p:=by
  unfold insertAt
  simp
  exact YN (by rw[Z1,Q5];exact Qd _)
 rw[<- ZM,e]
 by_cases h1:i<p
 ·rw[Qe h1,Qs (by rw[Zc,Q5];omega),ZZ h1,ZM]
 ·rw[Qf h1,QN (by rw[Zc,Q5];omega),Zc,Q5,Nat.min_eq_left hp]
  by_cases h2:i=p
  ·rw[Qe h2,h2,Nat.sub_self];rfl
  ·rw[Qf h2]
   obtain⟨k,rfl⟩:∃ k,i=p+k+1:=⟨i-p-1,by omega⟩
   rw[show p+k+1-p=k+1 by omega,JD,List.getElem?_drop,ZM]
   rfl
end L3
namespace L3
open PySem PySem.Spec PyProof.Rows PySem.W L2
end L3
namespace L3
open PySem PySem.W PyProof.Rows
def ph {α:Type}(lt:Nat->Nat->Bool):KasT α->α
 | .ret a=>a
 | .ask i j k=>ph lt (k (lt i j))
variable {r:Nat->Int}
abbrev qw (r:Nat->Int)(i j:Nat):Bool:=decide (r i<r j)
abbrev xv (r:Nat->Int)(p:Array Nat)(i:Nat):Int:=r (p.getD i 0)
theorem F_{x:Nat->Int}{n:Nat}(h:∀ k,1<=k->k<n->x (k-1)<=x k):∀ (i j:Nat),i<=j->j<n->x i<=x j:=by
 intro i j
 induction j with
 | zero=>
  intro a _
  have:i=0:=by omega
  subst this
  exact Int.le_refl _
 | succ j ih=>
  intro a b
  by_cases z:i=j+1
  ·subst z;exact Int.le_refl _
  ·exact Int.le_trans (ih (by omega) (by omega)) (h (j+1) (by omega) b)
structure Dn (r:Nat->Int) (p0 p:Array Nat) (n q:Nat):Prop where
 pm:p.Perm p0
 le:n<=p0.size
 q1:q<n
 dn:∀ k,1<=k->k<n->xv r p k<=xv r p (k-1)
 eq:∀ k,n-(q+1)<=k->k<n->xv r p k=xv r p (n-1)
variable {r:Nat->Int}
theorem yr{p:Array Nat}{k:Nat}(up:∀ j,1<=j->j<k->xv r p (j-1)<=xv r p j):∀ (f l u:Nat),u-l<=f->l<=u->u<=k->(∀ i,i<l->xv r p i<=xv r p k)->(∀ i,u<=i->i<k->xv r p k<xv r p i)->
  ph (qw r) (kas_place p k f l u)<=k/\(∀ i,i<ph (qw r) (kas_place p k f l u)->xv r p i<=xv r p k)/\(∀ i,ph (qw r) (kas_place p k f l u)<=i->i<k->xv r p k<xv r p i)
 | 0,l,u,hf,hl,hu,h1,h2=>⟨by show l<=k;omega,h1,fun i a b=>h2 i (by have:l<=i:=a;omega) b⟩
 | f+1,l,u,hf,hl,hu,h1,h2=>by
  have e:ph (qw r) (kas_place p k (f+1) l u)=if l ≥ u then l else if xv r p k<xv r p ((l+u) / 2)then ph (qw r) (kas_place p k f l ((l+u) / 2))else ph (qw r) (kas_place p k f ((l+u) / 2+1) u):=by
   show ph (qw r) (if l ≥ u then KasT.ret l else KasT.ask (p.getD k 0) (p.getD ((l+u) / 2) 0) fun c=>if c=true then kas_place p k f l ((l+u) / 2)else kas_place p k f ((l+u) / 2+1) u)=_
   by_cases c:l ≥ u
   ·rw[Qe c,Qe c];rfl
   ·rw[Qf c,Qf c]
    show ph (qw r) (if decide (r (p.getD k 0)<r (p.getD ((l+u) / 2) 0))=true then kas_place p k f l ((l+u) / 2)else kas_place p k f ((l+u) / 2+1) u)=_
    by_cases d:xv r p k<xv r p ((l+u) / 2)
    ·rw[Qe d,Qe (Zh d)]
    ·rw[Qf d,Qf (by rw[Zz];exact d)]
  rw[e]
  by_cases c:l ≥ u
  ·rw[Qe c]
   exact⟨by omega,h1,fun i a b=>h2 i (by omega) b⟩
  ·rw[Qf c]
   by_cases d:xv r p k<xv r p ((l+u) / 2)
   ·rw[Qe d]
    refine yr up f l _ (by omega) (by omega) (by omega) h1 fun i a b=>?_
    exact Int.lt_of_lt_of_le d (F_ up _ i a b)
   ·rw[Qf d]
    refine yr up f _ u (by omega) (by omega) hu (fun i a=>?_) h2
    have:=F_ up i ((l+u) / 2) (by omega) (by omega)
    omega
variable {lt:Nat->Nat->Bool}{n:Nat}
abbrev rk (x:Nat×Nat):Int:=Int.ofNat (x.1*1000+x.2)
end L3
namespace L3
open PySem PySem.Spec PyProof.Rows PySem.W L2
variable {C a b l:Addr}{F:List Addr}{H H1:Hp}{K:PySem.W.Frag}{N:List Str}{Q:Value->Shared->Prop}{body:av}{d x:D}{ds ba fW:List D}{f:Str}{i q:Nat}{ai:List (List Key×V)}{o o':Ow}{pl:Sem Bool}{u v y:V}{vs:List V}{w w' w1:Wn}{z:HO}{ρ:aU}{σ:St}
theorem Ga:∀ (yt:List Addr),bf (yt.map V.ref) (yt.map Value.ref)
 | []=>.nil
 | a::yt=>.cons rfl (Ga yt)
abbrev fX (x:Nat×Nat):D:=.tup [.int (Int.ofNat x.1),.int (Int.ofNat x.2)]
section
variable {X:Cx}{a:Expr}{fa:aw}{p pos:Pos}
def Sr (ks:List (Nat×Nat)):List (Nat×Nat):=ks.mergeSort fun a b=>decide (rk a<=rk b)
end
section
variable {prog:Program}{w:World}{A:Around}{E:Value->Shared->Prop}{s:Shared}{it d:Addr}{od:Obj}{es:Array DictEntry}{i ep:Nat}
theorem Ss(lo:(d==sysModules)=false)(hT:s.TypeIs (.ref d) "dict")(ho:s.heap.get? d=some od)(hd:od.data=.dict es ep)
  (q:Q (.ref s.heap.objs.size) { s with heap:=s.heap.push { cls:=.type "dict_keyiterator",data:=.fields #[.ref d,.int 0 0,.int es.size 0,.int ep 0] } }):wpAny (model prog w) A (pyIter (.ref d)) Q E s:=by
 refine wpAny_pyIter_slot hT JN (Zq JN hT PySem.F.entry_dict_iter ?_ (PySem.F.args_dict_iter_1 _))
 unfold Builtin.«dict.__iter__» Builtin.Dict.dictSlotNone
 refine Qa (Qa (JS hT (show wpAny _ _ (pure (Value.ref d)) _ _ s from Qb (show wpAny _ _ (Builtin.Dict.showsAll d >>= _) _ _ s from ?_))))
 unfold Builtin.Dict.showsAll
 rw[Qf (by rw[lo];exact QW)]
 refine Qa (Qb (Qa (Zl ho hd (Qa (Jy ho hd (Qa (QF (Qb ⟨_,rfl,"dict_keyiterator",_,⟨_,Qm _ rfl,rfl⟩,Q3.lookup,?_⟩))))))))
 simpa [rawInt]using q
theorem Su{Q:Option Value->Shared->Prop}(hit:s.heap.IsKeyIter it d i es.size ep)(vz:s.heap.get? d=some od)(vA:od.data=.dict es ep)(hi:i<es.size)
  (q:∀ h',h'.IsKeyIter it d (i+1) es.size ep->Heap.SameBut it s.heap h'->Q (some es[i].key) { s with heap:=h' }):wpAny (model prog w) A (pyNext (.ref it)) Q E s:=by
 obtain⟨o,ho,hc,hd⟩:=id hit
 unfold pyNext
 refine Qa (Yx (Q8 (name:=Str.ofString "__next__") hit.typeIs Q3 (Zq Q3 hit.typeIs Jt ?body (Jq _))))
 case body=>
 refine Qa (Qb (Qa (Qa (Qa (Zy hit.typeIs (Qb (Qa (wpAny_fieldsOf ho hd ?b1))))))))
 case b1=>
 simp only[show Builtin.Dict_items.ownsTuple "dict_keyiterator" = false from by decide,ZJ,Js]
 refine(show wpAny _ _ (if(Value.ref d==Value.none)=true then _ else _) _ _ s from ?b2)
 case b2=>
 rw[Qf (show ¬ ((Value.ref d==Value.none)=true)from QW)]
 refine Qa (Qb (Qa (Zl vz vA ?b3)))
 case b3=>
 rw[Qf (by simp)]
 refine Qa (Qb (Qa (Jy vz vA ?b4)))
 case b4=>
 rw[Qf (by simp)]
 refine Qb ?b5
 case b5=>
 simp only[show ¬ ((i:Int)<0)from by omega,Js,JM,Jo hi]
 refine Qa (Qa (Zy hit.typeIs (Qb (Qa (wpAny_isOneOf_keyiter hit.typeIs ?b6)))))
 case b6=>
 refine(show wpAny _ _ (setField (.ref it) 1 (rawInt ((i:Int)+1)) >>= _) _ _ s from Qa (Yk ho hd (by simp) ?b7))
 case b7=>
 have pd:(s.heap.update it (Obj.mapFields (·.setIfInBounds 1 (rawInt ((i:Int)+1))))).IsKeyIter it d (i+1) es.size ep:=⟨_,ZL _ ho (Obj.isFreed_of_fields (JB hd _)),(Obj.cls_mapFields ..).trans hc,by rw[JB hd];simp[rawInt]⟩
 refine Qa (Zw (Qa (wpAny_isOneOf_keyiter (s:={ s with heap:=s.heap.update it (Obj.mapFields (·.setIfInBounds 1 (rawInt ((i:Int)+1)))) }) pd.typeIs ?b8)))
 case b8=>exact(show wpAny _ _ (pure es[i].key) _ _ _ from Qb (Qb ⟨_,rfl,Qb (q _ pd (QS ..))⟩))
theorem Sv{Q:Option Value->Shared->Prop}(hh:A.handled=none)(hit:s.heap.IsKeyIter it d es.size es.size ep)(vz:s.heap.get? d=some od)(vA:od.data=.dict es ep)
  (q:∀ h',Heap.ExtBut it s.heap h'->Q none { s with heap:=h' }):wpAny (model prog w) A (pyNext (.ref it)) Q E s:=by
 obtain⟨o,ho,hc,hd⟩:=id hit
 unfold pyNext
 refine Qa (Yx (Q8 (name:=Str.ofString "__next__") hit.typeIs Q3 (Zq Q3 hit.typeIs Jt ?body (Jq _))))
 case body=>
 refine Qa (Qb (Qa (Qa (Qa (Zy hit.typeIs (Qb (Qa (wpAny_fieldsOf ho hd ?b1))))))))
 case b1=>
 simp only[show Builtin.Dict_items.ownsTuple "dict_keyiterator" = false from by decide,ZJ,Js]
 refine(show wpAny _ _ (if(Value.ref d==Value.none)=true then _ else _) _ _ s from ?b2)
 case b2=>
 rw[Qf (show ¬ ((Value.ref d==Value.none)=true)from QW)]
 refine Qa (Qb (Qa (Zl vz vA ?b3)))
 case b3=>
 rw[Qf (by simp)]
 refine Qa (Qb (Qa (Jy vz vA ?b4)))
 case b4=>
 rw[Qf (by simp)]
 refine Qb ?b5
 case b5=>
 simp only[show ¬ ((es.size:Int)<0)from by omega,Js,JM,YO (Qd es.size)]
 refine Qa (Qa (Zy hit.typeIs (Qb ?b6)))
 case b6=>
 refine(show wpAny _ _ (setField (.ref it) 0 .none >>= _) _ _ s from Qa (Yk ho hd (by simp) (show wpAny _ _ (newExc (.type "StopIteration") [] >>= _) _ _ _ from Qa ?b7)))
 case b7=>
 simp only[newExc,newTuple]
 refine Qa (QF (Qa (m:=firstArgMember _ _) (wpAny_of_eq (a:=Value.none) (by first|rfl|(simp only[firstArgMember];rfl)) (QF ?b8 (by size_fits)))) (by size_fits))
 case b8=>
 simp only[raiseNew]
 refine Qa (wpAny_handled ?b9)
 case b9=>
 rw[show A.in1.handled=none from hh]
 refine Qa (Qb (wpAny_throw ?bx))
 case bx=>
 refine Qa (wpAny_isInstance (b:=true) (T:="StopIteration") ⟨_,Qm _ rfl,rfl⟩ isSubtype_stop (Qb (q _ (((QS ..).extBut.push _).push _))))
theorem Sw(lo:(d==sysModules)=false)(hc:od.cls=.type "dict")(hd:od.data=.dict es ep):KdlSrc prog w "dict" d d es.size (fun i v=>∃ e,es[i]? = some e/\v=e.key) (fun h=>h.get? d=some od) where
 type:=fun _ h=>⟨_,h,hc⟩
 there:=fun _ h=>⟨Qj h,Qj h⟩
 keep:=fun _ _ h k=>k d (.inl rfl) _ h
 notList:=by decide
 notTuple:=by decide
 hint:=fun _ _ _ _ h q=>kdl_hint_dict ⟨_,h,hc⟩ q
 iter:=fun A s hh h=>⟨_,fun i h'=>h'.IsKeyIter s.heap.objs.size d i es.size ep/\h'.get? d=some od,(fun _ _ q=>Ss lo ⟨_,h,hc⟩ h hd q),{
  sub:=fun b hb=>by simp at hb;simp[hb]
  frame:=fun _ _ _ st k=>⟨st.1.at fun o e=>k _ (by simp) o e,k d (by simp) _ st.2⟩
  item:=fun i s' Q E hi st q=>Su st.1 st.2 hd hi fun h' eS sb=>q _ h' s'.toks ⟨_,Jo hi,rfl⟩ ⟨eS,by rw[sb.2 d (QB (Qj h))];exact st.2⟩ fun b o hb e=>sb.extBut b o (fun z=>hb (by simp[z])) e
  done:=fun s' Q E st q=>Sv hh st.1 st.2 hd fun h' he=>q h' s'.toks fun b o hb e=>he b o (fun z=>hb (by simp[z])) e
  self:=fun _ _ _ _ st q=>wpAny_pyIter_keyiter st.1 q },⟨_,Qm _ rfl,rfl,rfl⟩,Qc _ h⟩
end
section
variable {α β:Type}[DecidableEq α]
def vL:List α->List β->α->Option β
 | x::ks,d::ds,k=>if x=k then some d else vL ks ds k
 | _,_,_=>none
def m8 (ks:List α)(k:α):Bool:=ks.any fun x=>decide (x=k)
def iX:List α->List β->α->β->List β
 | x::ks,d::ds,k,e=>(if x=k then e else d)::iX ks ds k e
 | _,_,_,_=>[]
end
theorem vB{α β:Type}[DecidableEq α](k:α)(e:β):∀ {ks:List α} {ds:List β},ks.length=ds.length->(iX ks ds k e).length=ds.length
 | [],[],_=>rfl
 | x::ks,d::ds,h=>by
  show(iX ks ds k e).length+1=ds.length+1
  rw[vB k e (Z7 h)]
theorem vC{α:Type}[DecidableEq α](k:α):∀ (ks:List α) (vs:List V),fw (ks.zip vs) k=vL ks vs k
 | [],_=>rfl
 | _::_,[]=>rfl
 | x::ks,v::vs=>by
  show fw ((x,v)::ks.zip vs) k=_
  unfold vL
  by_cases h:x=k
  ·rw[uJ h,Qe h]
  ·rw[uK h,Qf h,vC k ks vs]
theorem Gb{α:Type}[DecidableEq α](k:α):∀ (ks:List α) (vs:List V),ks.length=vs.length->((ks.zip vs).any fun kv=>decide (kv.1=k))=m8 ks k
 | [],[],_=>rfl
 | x::ks,v::vs,h=>by
  rw[Ym,Yw,Gb k ks vs (Z7 h)]
  rfl
theorem BI{α:Type}[DecidableEq α](k:α)(u:V)(ks:List α)(vs:List V)(h:ks.length=vs.length) :
  eY (ks.zip vs) k u=if m8 ks k=true then ks.zip (iX ks vs k u)else(ks++[k]).zip (vs++[u]):=by
 unfold eY
 rw[Gb k ks vs h]
 by_cases hk:m8 ks k=true
 ·rw[Qe hk,Qe hk]
  clear hk
  induction ks generalizing vs with
  | nil=>rfl
  | cons x ks ih=>
   cases vs with
   | nil=>cases h
   | cons v vs=>
    show(if x=k then(x,u)else(x,v))::_=(x,if x=k then u else v)::_
    have:=ih vs (Z7 h)
    unfold List.zip at this
    rw[this]
    by_cases hx:x=k
    ·rw[Qe hx,Qe hx]
    ·rw[Qf hx,Qf hx]
 ·rw[Qf hk,Qf hk,List.zip_append h]
  rfl
section
variable {K:PySem.W.Frag}{H:Hp}{w:Wn}{o:Ow}
theorem af.split(r:af K H w o 0 (d::ds) vs []):∃ v us,vs=v::us/\Rep K H w o 0 d v []/\af K H w o 0 ds us []:=by
 generalize hF:([]:List Addr)=F at r
 cases r with
 | @cons _ d' v' ba d9 F' G' r s _=>
  have h1:F'=[]:=r.zero
  have h2:G'=[]:=s.zero
  subst h1 h2
  exact⟨v',d9,rfl,r,s⟩
theorem af.qx(r:Rep K H w o 0 d v [])(s:af K H w o 0 ds vs []):af K H w o 0 (d::ds) (v::vs) []:=.cons (F:=[]) (G:=[]) r s nM
theorem af.pj(r:af K H w o 0 [] vs []):vs=[]:=by
 have:=r.length
 cases vs with
 | nil=>rfl
 | cons _ _=>cases this
theorem vD{α:Type}[DecidableEq α](k:α):∀ {ks:List α} {ds:List D} {vs:List V},af K H w o 0 ds vs []->
  (∀ d,vL ks ds k=some d->∃ v,vL ks vs k=some v/\Rep K H w o 0 d v [])/\(vL ks ds k=none->vL ks vs k=none)
 | [],ds,vs,r=>⟨fun d h=>by simp[vL]at h,fun _=>by simp[vL]⟩
 | x::ks,[],vs,r=>by
  rw[r.pj]
  exact⟨fun d h=>by simp[vL]at h,fun _=>by simp[vL]⟩
 | x::ks,d::ds,vs,r=>by
  obtain⟨v,us,rfl,r1,s⟩:=r.split
  have ih:=vD k (ks:=ks) s
  by_cases hx:x=k
  ·simp only[vL,Qe hx]
   exact⟨fun d' h=>by cases h;exact⟨v,rfl,r1⟩,fun h=>by cases h⟩
  ·simp only[vL,Qf hx]
   exact ih
theorem vE{α:Type}[DecidableEq α](k:α){e:D}(re:Rep K H w o 0 e u []):∀ {ks:List α} {ds:List D} {vs:List V},af K H w o 0 ds vs []->af K H w o 0 (iX ks ds k e) (iX ks vs k u) []
 | [],ds,vs,r=>by simp only[iX];exact .nil
 | x::ks,[],vs,r=>by
  rw[r.pj]
  simp only[iX];exact .nil
 | x::ks,d::ds,vs,r=>by
  obtain⟨v,us,rfl,r1,s⟩:=r.split
  simp only[iX]
  refine .qx ?_ (vE k re s)
  by_cases hx:x=k
  ·rw[Qe hx,Qe hx];exact re
  ·rw[Qf hx,Qf hx];exact r1
end
def yu:D->Option Key
 | .int i=>some (.inl i)
 | .str x=>some (.inr x)
 | _=>none
def yv:List D->Option (List Key)
 | []=>some []
 | d::ds=>match yu d with
  | some k=>(yv ds).map (k :: ·)
  | none=>none
def yw:D->Option (List Key)
 | .tup ds=>yv ds
 | _=>none
def yx:MK->List D->D->Option (Option D)
 | .t ks,ds,x=>(yw x).map fun y=>vL ks ds y
 | .k ks,ds,x=>(yu x).map fun y=>vL ks ds y
 | .i _ _ _,_,_=>none
def Gc:MK->List D->D->D->Option (MK×List D)
 | .t ks,ds,x,d=>(yw x).map fun y=>if m8 ks y=true then(.t ks,iX ks ds y d)else(.t (ks++[y]),ds++[d])
 | .k ks,ds,x,d=>(yu x).map fun y=>if m8 ks y=true then(.k ks,iX ks ds y d)else(.k (ks++[y]),ds++[d])
 | .i _ _ _,_,_,_=>none
section
variable {K:PySem.W.Frag}{H:Hp}{w:Wn}{o:Ow}
theorem BJ{k:Key}(h:yu x=some k)(r:Rep K H w o q x v F):v=kV k:=by
 cases x<;>cases h<;>cases r<;>rfl
theorem Gd:∀ {ds:List D} {ks:List Key} {vs:List V},yv ds=some ks->af K H w o 0 ds vs []->vs=ks.map kV
 | [],ks,vs,h,r=>by
  cases h
  exact r.pj
 | d::ds,ks,vs,h,r=>by
  unfold yv at h
  split at h
  next k hk=>
   obtain⟨iY,e,rfl⟩:=Zd.mp h
   obtain⟨v,us,rfl,r1,s⟩:=r.split
   rw[BJ hk r1,Gd e s]
   rfl
  ·cases h
theorem BK{k:List Key}(h:yw x=some k)(r:Rep K H w o q x v F):∃ b,v=.ref b/\H b=some (.tup (k.map kV)):=by
 cases x with
 | tup ds=>
  obtain⟨a,vs,rfl,e,rs⟩:=r.qc
  rw[Gd h rs]at e
  exact⟨a,rfl,e⟩
 | _=>cases h
theorem BL{k:MK}{r:Option D}(hH:H a=some z)(i:k.Is K a vs z)(rs:af K H w o 0 ds vs [])(rx:Rep K H w' o' q x y F)(h:yx k ds x=some r) :
  ∃ rv,js H a y rv/\(∀ d,r=some d->∃ v,rv=some v/\Rep K H w o 0 d v [])/\(r=none->rv=none):=by
 cases k with
 | t ks=>
  obtain⟨kk,e,rfl⟩:=Zd.mp h
  cases i
  obtain⟨b,rfl,hb⟩:=BK e rx
  refine⟨_,js.t hH hb,?_⟩
  rw[vC]
  exact vD kk rs
 | k ks=>
  obtain⟨kk,e,rfl⟩:=Zd.mp h
  cases i
  rw[BJ e rx]
  refine⟨_,js.k hH,?_⟩
  rw[vC]
  exact vD kk rs
 | i C fs p=>cases h
theorem Sx{k k':MK}(hH:H a=some z)(i:k.Is K a vs z)(hl:k.len=ds.length)(jv:ds.length<1000)(rs:af K H w o 0 ds vs [])(rx:Rep K H w' o' q x y F)(rd:Rep K H w o 0 d u [])(h:Gc k ds x d=some (k',ba)) :
  ∃ z' d9,oB H a y u (upd H a z')/\k'.Is K a d9 z'/\k'.len=ba.length/\af K H w o 0 ba d9 []:=by
 have lv:=rs.length
 cases k with
 | t ks=>
  obtain⟨kk,e,hh⟩:=Zd.mp h
  cases i
  obtain⟨b,rfl,hb⟩:=BK e rx
  have hl:ks.length=ds.length:=hl
  have dp:=oB.t (v:=u) hH hb (by rw[ZC,<- lv,hl,Jl];exact lU (Zi jv))
  rw[BI kk u ks vs (by omega)]at dp
  by_cases hk:m8 ks kk=true
  ·rw[Qe hk]at hh dp
   cases hh
   exact⟨_,_,dp,rfl,(hl.trans (vB kk d hl).symm),vE kk rd rs⟩
  ·rw[Qf hk]at hh dp
   cases hh
   refine⟨_,_,dp,rfl,?_,af.snoc (F:=[]) (G:=[]) rd rs nM⟩
   show(ks++[kk]).length=_
   rw[Qh,Qh,hl]
   rfl
 | k ks=>
  obtain⟨kk,e,hh⟩:=Zd.mp h
  cases i
  rw[BJ e rx]
  have hl:ks.length=ds.length:=hl
  have dp:=oB.k (k:=kk) (v:=u) hH (by rw[ZC,<- lv,hl,Jl];exact lU (Zi jv))
  rw[BI kk u ks vs (by omega)]at dp
  by_cases hk:m8 ks kk=true
  ·rw[Qe hk]at hh dp
   cases hh
   exact⟨_,_,dp,rfl,(hl.trans (vB kk d hl).symm),vE kk rd rs⟩
  ·rw[Qf hk]at hh dp
   cases hh
   refine⟨_,_,dp,rfl,?_,af.snoc (F:=[]) (G:=[]) rd rs nM⟩
   show(ks++[kk]).length=_
   rw[Qh,Qh,hl]
   rfl
 | i C fs p=>cases h
end
theorem Sy(v:OX):oF v.ho=false:=by cases v<;>rfl
theorem MK.yy{k:MK}{x:HO}(h:k.Is K a vs x):oF x=false:=by
 obtain⟨v,rfl⟩:=MK.ox h
 exact Sy v
section
variable {K:PySem.W.Frag}{σ:St}{ρ:aU}{t:Nat}
theorem Sz{p:Addr}{k:MK}(g:Good K ρ σ H1 w1 t)(hp:H1 p=none)(i:k.Is K p vs z)(hl:k.len=ds.length)(r:af K H1 w1 .f 0 ds vs []) :
  Good K ρ σ (upd H1 p z) (iR p (.t t) w1) (t+1)/\Go H1 w1 (upd H1 p z) (iR p (.t t) w1)/\Rep K (upd H1 p z) (iR p (.t t) w1) (.t t) 1 (.mp k ds) (.ref p) [p]:=by
 have ne:∀ a x,H1 a=some x->a≠p:=fun a x e=>eQ e hp
 have nw:∀ a o,w1 a=some o->a≠p:=fun a o e=>by obtain⟨vs,q⟩:=g.wl a o e;exact ne a _ q
 have st:cL H1 w1 (upd H1 p z) (iR p (.t t) w1):=fun a x e n=>⟨sm (by rw[aR (ne a x e)];exact e),by rw[fx (ne a x e)];exact n⟩
 refine⟨⟨⟨fun a o e=>?_,g.wl.tb.upd (MK.yy i) (.inl hp)⟩,fun a i e=>?_,fun a i e=>?_,g.len,fun i d q e=>?_⟩,⟨st,fun a o e _=>⟨aR (nw a o e),(fx (nw a o e)).trans e⟩⟩,?_⟩
 ·by_cases h:a=p
  ·subst h
   obtain⟨v,rfl⟩:=MK.ox i
   exact⟨v,de⟩
  ·rw[fx h]at e
   obtain⟨us,q⟩:=g.wl a o e
   exact⟨us,by rw[aR h];exact q⟩
 ·by_cases h:a=p
  ·subst h;rw[lV]at e;cases e
  ·rw[fx h]at e;exact g.ws a i e
 ·by_cases h:a=p
  ·subst h;rw[lV]at e;cases e;exact Q1 _
  ·rw[fx h]at e;exact Q6 (g.wt a i e)
 ·obtain⟨v,F,h1,h2⟩:=g.slot i d q e
  exact⟨v,F,h1,Rep.go g.wl st h2 fun a m=>⟨aR (nw a _ (h2.az a m)),(fx (nw a _ (h2.az a m))).trans (h2.az a m)⟩⟩
 ·exact .gD de i lV hl (af.go g.wl st r nM)
theorem Rep.pk{k:MK}(r:Rep K H w o q (.mp k ds) v F):∃ a vs z,v=.ref a/\H a=some z/\k.Is K a vs z/\k.len=ds.length/\af K H w o 0 ds vs []:=by
 cases r with
 | mO h i e l r=>exact⟨_,_,_,rfl,h,i,l,r⟩
 | gD h i e l r=>exact⟨_,_,_,rfl,h,i,l,r⟩
theorem Good.jA{k:MK}(g:Good K ρ σ H w t)(e:ρ[i]? = some (some (.mp k ds,q))) :
  ∃ l vs z,σ[i]? = some (some (.ref l))/\H l=some z/\k.Is K l vs z/\k.len=ds.length/\af K H w .f 0 ds vs []:=by
 obtain⟨v,F,h1,h2⟩:=g.slot i _ _ e
 obtain⟨a,vs,z,rfl,x1,x2,x3,x4⟩:=h2.pk
 exact⟨a,vs,z,h1,x1,x2,x3,x4.any g.wl⟩
theorem Good.pq{k:MK}(g:Good K ρ σ H w t)(e:ρ[i]? = some (some (.mp k ds,1))) :
  ∃ l vs z,σ[i]? = some (some (.ref l))/\H l=some z/\k.Is K l vs z/\k.len=ds.length/\af K H w .f 0 ds vs []/\∀ k' ba d9 z',k'.Is K l d9 z'->k'.len=ba.length->af K H w .f 0 ba d9 []->
   Good K (ρ.set i (some (.mp k' ba,1))) σ (upd H l z') w t/\Go H w (upd H l z') w:=by
 obtain⟨v,F,h1,h2⟩:=g.slot i _ _ e
 cases h2 with
 | @gD _ l vs _ _ z hl dm hw hlen rs=>
  refine⟨l,vs,z,h1,hl,dm,hlen,rs.any g.wl,fun k' ba d9 z' i' l' r'=>?_⟩
  have nl:∀ a o,w a=some o->o ≠ .s i->a≠l:=fun a o e n z=>by subst z;rw[hw]at e;exact n (Qy e).symm
  have nn:∀ a,w a=none->a≠l:=fun a e z=>by subst z;rw[hw]at e;cases e
  have st:cL H w (upd H l z') w:=fun a x h n=>⟨sm (by rw[aR (nn a n)];exact h),n⟩
  refine⟨⟨⟨fun a o h=>?_,g.wl.tb.upd (MK.yy i') (.inr (g.wl l _ hw))⟩,g.ws,g.wt,by rw[QL];exact g.len,fun j d' q' e'=>?_⟩,⟨st,fun a o h n=>⟨aR (nl a o h (n i)),h⟩⟩⟩
  ·by_cases z:a=l
   ·subst z
    obtain⟨v,rfl⟩:=MK.ox i'
    exact⟨v,de⟩
   ·obtain⟨us,q⟩:=g.wl a o h
    exact⟨us,by rw[aR z];exact q⟩
  ·by_cases hj:i=j
   ·subst hj
    rw[QI (Qr.mp e).1]at e'
    cases e'
    exact⟨_,_,h1,.gD de i' hw l' (af.go g.wl st r' nM)⟩
   ·rw[QJ hj]at e'
    obtain⟨v',F',rQ,gq⟩:=g.slot j d' q' e'
    exact⟨v',F',rQ,Rep.go g.wl st gq fun a m=>⟨aR (nl a _ (gq.az a m) (fun z=>hj (by cases z;rfl))),gq.az a m⟩⟩
end
@[simp] def fY:Option (OD)->Bool
 | some (some (.mp (.t _) _,_))=>true
 | some (some (.mp (.k _) _,_))=>true
 | _=>false
theorem SA{o:Option (OD)}(h:fY o=true):∃ k ds q,o=some (some (.mp k ds,q))/\(∀ C fs p,k ≠ .i C fs p):=by
 unfold fY at h
 split at h
 ·exact⟨_,_,_,rfl,fun _ _ _ z=>nomatch z⟩
 ·exact⟨_,_,_,rfl,fun _ _ _ z=>nomatch z⟩
 ·cases h
theorem MK.gH{k:MK}(i:k.Is K a vs z)(n:∀ C fs p,k ≠ .i C fs p)(e:H a=some z):L2.rA H a:=by
 cases k with
 | t ks=>cases i;exact .inr ⟨_,.inl e⟩
 | k ks=>cases i;exact .inl ⟨_,.inl e⟩
 | i C fs p=>exact absurd rfl (n C fs p)
theorem Good.fY{t:Nat}(g:Good K ρ σ H w t)(h:fY ρ[i]? = true):∃ l,σ[i]? = some (some (.ref l))/\L2.rA H l:=by
 obtain⟨k,ds,q,e,n⟩:=SA h
 obtain⟨l,vs,z,h1,h2,h3,_,_⟩:=g.jA e
 exact⟨l,h1,MK.gH h3 n h2⟩
@[simp] def BM:aw:=fun ρ=>some (.mp (.t []) [],1,ρ)
def BN (i:Nat)(fk:aw):aw:=fun ρ=>if fY ρ[i]? = true then match fk ρ with
 | some (x,_,ρ1)=>match ρ1[i]? with
  | some (some (.mp k ds,_))=>match yx k ds x with
   | some (some d)=>some (d,cj d,ρ1)
   | _=>none
  | _=>none
 | none=>none
 else none
def BO (i:Nat)(fk fv:aw):av:=fun ρ=>match fv ρ with
 | some (d,_,ρ1)=>if fY ρ1[i]? = true then match fk ρ1 with
  | some (x,_,ρ2)=>match ρ2[i]? with
   | some (some (.mp k ds,1))=>if ds.length<1000 then match Gc k ds x d with
    | some (k',ba)=>some (.nx (ρ2.set i (some (.mp k' ba,1))))
    | none=>none
    else none
   | _=>none
  | none=>none
  else none
 | none=>none
def Ge:List (List Key)->Option (List (Nat×Nat))
 | []=>some []
 | [.inl i,.inl j]::ks=>if 0<=i/\0<=j/\j<1000 then(Ge ks).map ((i.toNat,j.toNat) :: ·)else none
 | _=>none
section
variable {X:Cx}{a b c e:Expr}{fa fb fc f:aw}{p p1 pos pos' ay apos:Pos}{x:Str}{i:Nat}
theorem Gf:QD X (.Dict [] [] pos) BM:=⟨PE.imp NF fun σ H Q ak=>by
 obtain⟨ρ,w,t,r',q,ρ',gd,ee,k⟩:=ak
 cases ee
 intro p hp
 obtain⟨a1,a2,a3⟩:=Sz (k:=.t []) (vs:=[]) (ds:=[]) gd hp rfl rfl .nil
 exact k _ _ _ _ a1 a2 a3⟩
theorem SD{k:Nat}(hr:aF k X.A)(h:QE X (.Name x p1) (fP i))(hk:QD X b fb)(hs:Ad b:=by exact fun _ _=>rfl):QD X (.Subscript (.Name x p1) b pos) (BN i fb):=⟨have h:=h.o;have hk:=hk.o;PE.imp (Ny (rg hr) h hk hs) fun σ H Q ak=>by
 obtain⟨ρ,w,t,r',q,ρ',gd,ee,kk⟩:=ak
 unfold BN at ee
 split at ee
 next hd=>
  obtain⟨l,cZ,_⟩:=gd.fY hd
  split at ee
  next x0 q1 ρ1 h1=>
   split at ee
   next k0 ds q2 e1=>
    split at ee
    next d hg=>
     cases ee
     refine⟨_,cZ,ρ,w,t,_,_,_,gd,h1,fun y H1 w1 F1 g1 aK r1=>?_⟩
     obtain⟨l',vs,z,eI,hH,dm,_,rs⟩:=(g1.drop (t':=t)).jA e1
     rw[cZ]at eI
     cases eI
     obtain⟨rv,dg,v1,_⟩:=BL hH dm rs r1 hg
     obtain⟨v,rfl,rd⟩:=v1 _ rfl
     exact⟨l,v,rfl,dg,k_ kk gd g1 aK (rd.any (g1.drop (t':=t)).wl).jj⟩
    ·cases ee
   ·cases ee
  ·cases ee
 ·cases ee⟩
theorem SE{k:Nat}(hr:aF k X.A)(h:QE X (.Name x p1) (fP i))(hk:QD X b fb)(hv:QD X e f)(hs:swapsWith e (some (.Subscript (.Name x p1) b pos')) pos.line X.env=pure false:=by rfl):km X (.Assign [.Subscript (.Name x p1) b pos'] e pos) (BO i fb f):=⟨have h:=h.o;have hk:=hk.o;have hv:=hv.o;PS.imp (NA (rg hr) h hk hv hs) fun Dn σ H ak=>by
 obtain⟨ρ,w,o,gd,ee,kk⟩:=ak
 unfold BO at ee
 split at ee
 next d q0 ρ1 h0=>
  split at ee
  next hd=>
   split at ee
   next x0 q1 ρ2 h1=>
    split at ee
    next k0 ds e1=>
     split at ee
     next jv=>
      split at ee
      next k' ba hp=>
       cases ee
       refine⟨ρ,w,0,_,_,_,gd,h0,fun u H1 w1 F1 g1 aK r1=>?_⟩
       obtain⟨l,cZ,_⟩:=g1.fY hd
       refine⟨_,cZ,ρ1,w1,1,_,_,_,g1,h1,fun y H2 w2 F2 g2 br r2=>?_⟩
       have gg:=g2.drop (t':=0)
       obtain⟨l',vs,z,eI,hH,dm,hl,rs,mk⟩:=gg.pq e1
       rw[cZ]at eI
       cases eI
       have rv:=((r1.gone g1.wl br).drop (o:=.f) (t':=0) (Qd 0))
       obtain⟨z',d9,dp,i',l',jY⟩:=Sx hH dm hl jv rs r2 rv hp
       obtain⟨m1,m2⟩:=mk k' ba d9 z' i' l' jY
       exact⟨l,_,rfl,dp,kk σ _ _ rfl m1 (((aK.trans br).drop gd.wt).trans m2)⟩
      ·cases ee
     ·cases ee
    ·cases ee
   ·cases ee
  ·cases ee
 ·cases ee⟩
end
section
variable {P:Program}{w:World}{κ:Type}[DecidableEq κ]{N:HeapKind P w κ}{A:Around}{E:Value->Shared->Prop}{s:Shared}{d:Addr}
theorem SF{ys:List (κ×Addr×Value)}{k:κ}{v:Value}(room:N.room A)(qy:N.is s.heap k a)(D:s.heap.DictOfH N d ys)(small:ys.length<=sizeLine)
  (q1:∀ p,atKey ys k=some p->Q p.2 { s with toks:=s.toks+N.draws k }) (q2:atKey ys k=none->∀ g,g.DictOfH N d (ys++[(k,a,v)])->Heap.SameBut d s.heap g->Q v { s with heap:=g,toks:=s.toks+N.draws k }) :
  wpAny (model P w) A (dictSetDefault d (.ref a) v) Q E s:=by
 obtain⟨o,es,ep,e1,e2,e3,e4,e5,e6⟩:=D
 unfold dictSetDefault
 refine Zw (Qa (N.pyHash room qy (Qa (wpAny_dictFind_heap (s:={ s with toks:=s.toks+N.draws k }) room qy e1 e3 e4 e5 e6 (fun no=>?n) fun j p hj=>?y))))
 case y=>
  refine Qa (Zl (s:={ s with toks:=s.toks+N.draws k }) e1 e3 ?_)
  rw[entry_at e4 j,hj]
  exact Qa (Jz (Qb (q1 p (atKey_of_get e6 hj))))
 case n=>
  have nm:=not_mem_keys_of_get no
  refine Qa (Jz (Qa (wpAny_updateDictKeys (hz:=by rw[J4 e4];exact small) (s:={ s with toks:=s.toks+N.draws k }) e1 e3 (Qb (q2 (atKey_none_of_get no) _ ⟨_,_,ep+1,ZL _ e1 (Yb (Ji e3 _)),e2.mapDictKeys _,Ji e3 _,?a,fun y hy=>?b,?c⟩ (QS ..))))))
  case a=>simp[e4,entryOfKey]
  case b=>
   rcases QR.mp hy with z|z
   ·exact N.keeps (e5 y z) e1 e3 (QS ..)
   ·rw[Qt.mp z];exact N.keeps qy e1 e3 (QS ..)
  case c=>
   rw[ZD,Yt]
   refine⟨e6,by simp,fun y hy z hz=>?_⟩
   rw[show z=k by simpa using hz]
   exact fun q=>nm (q ▸ hy)
theorem SG{ys:List (κ×Addr×Value)}{k:κ}{v:Value}{Q:Unit->Shared->Prop}(room:N.room A)(qy:N.is s.heap k a)(D:s.heap.DictOfH N d ys)(small:ys.length<=sizeLine)
  (q:∀ g,g.DictOfH N d (storedH ys k a v)->Heap.SameBut d s.heap g->Q () { s with heap:=g }):wpAny (model P w) A (dictSetHashed d (.ref a) (N.hash k) v) Q E s:=by
 obtain⟨o,es,ep,e1,e2,e3,e4,e5,e6⟩:=D
 unfold dictSetHashed
 refine Zw (Qa (wpAny_dictFind_heap room qy e1 e3 e4 e5 e6 (fun no=>?n) fun j p hj=>?y))
 case n=>
  have nm:=not_mem_keys_of_get no
  refine Qa (Jz (wpAny_updateDictKeys (hz:=by rw[J4 e4];exact small) e1 e3 (q _ ⟨_,_,ep+1,ZL _ e1 (Yb (Ji e3 _)),e2.mapDictKeys _,Ji e3 _,?a,?b,?c⟩ (QS ..))))
  all_goals rw[storedH_new (atKey_none_of_get no)]
  case a=>simp[e4,entryOfKey]
  case b=>
   intro y hy
   rcases QR.mp hy with z|z
   ·exact N.keeps (e5 y z) e1 e3 (QS ..)
   ·rw[Qt.mp z];exact N.keeps qy e1 e3 (QS ..)
  case c=>
   rw[ZD,Yt]
   refine⟨e6,by simp,fun y hy z hz=>?_⟩
   rw[show z=k by simpa using hz]
   exact fun q=>nm (q ▸ hy)
 case y=>
  refine Qa (Jz (Qa (wpAny_updateDict e1 e3 (wpAny_point (q _ ⟨_,_,ep,ZL _ e1 (Yb (Obj.data_mapDict e3 _)),e2.mapDict _,Obj.data_mapDict e3 _,?a,?b,?c⟩ (QS ..))))))
  all_goals rw[storedH_old (atKey_of_get e6 hj)]
  case a=>
   have mm:=modify_map_putAt (entryOfKey N) (fun e:DictEntry=>{ e with val:=v }) k v (fun _ _=>rfl) e6 hj
   rw[<- e4]at mm
   obtain⟨l⟩:=es
   simpa using mm
  case b=>
   intro y hy
   obtain⟨x,hx,rfl⟩:=QT.mp hy
   unfold putAt
   split<;>exact N.keeps (e5 x hx) e1 e3 (QS ..)
  case c=>rw[keys_map_putAt];exact e6
def m9 (ys zs:List (κ×Addr×Value)):List (κ×Addr×Value):=zs.foldl (fun acc x=>storedH acc x.1 x.2.1 x.2.2) ys
theorem SH(ys:List (κ×Addr×Value))(k:κ)(a:Addr)(v:Value):(storedH ys k a v).length<=ys.length+1:=by
 unfold storedH
 split
 ·rw[QA];exact Je _
 ·rw[Qh];exact Qd _
theorem Gg:∀ (zs ys:List (κ×Addr×Value)),(m9 ys zs).length<=ys.length+zs.length
 | [],ys=>Qd _
 | x::zs,ys=>by
  have h1:=Gg zs (storedH ys x.1 x.2.1 x.2.2)
  have h2:=SH ys x.1 x.2.1 x.2.2
  show(m9 (storedH ys x.1 x.2.1 x.2.2) zs).length<=_
  rw[Qz];omega
theorem SI(ys zs:List (κ×Addr×Value))(x:κ×Addr×Value):m9 ys (zs++[x])=storedH (m9 ys zs) x.1 x.2.1 x.2.2:=by
 unfold m9
 rw[Yu]
 rfl
theorem SJ{nm:String}{o:Addr}{ys zs:List (κ×Addr×Value)}{Q:Unit->Shared->Prop}(room:N.room A)(ne:d≠o)(so:(o==sysModules)=false)(D:s.heap.DictOfH N d ys)(O:s.heap.DictOfH N o zs)(cR:ys ≠ [])(small:ys.length+zs.length<=sizeLine)
  (q:∀ g,g.DictOfH N d (m9 ys zs)->Heap.SameBut d s.heap g->Q () { s with heap:=g }):wpAny (model P w) A (Builtin.Dict.mergeDict nm d o) Q E s:=by
 obtain⟨od,SK,epd,d1,d2,d3,d4,d5,d6⟩:=id D
 obtain⟨oo,m_,epo,o1,o2,o3,o4,o5,o6⟩:=id O
 have len:m_.size=zs.length:=J4 o4
 unfold Builtin.Dict.mergeDict
 rw[Qf (by simpa using ne)]
 unfold Builtin.Dict.showsAll
 rw[Qf (by rw[so];exact QW)]
 refine Qa (Qb (Qa (Zl o1 o3 ?_)))
 have loop:wpAny (model P w) A (do
   let e0 <- dictEpoch o
   let SM <- dictEntries o
   forIn [:SM.size] PUnit.unit fun j (_:PUnit)=>(do
     let SN <- dictEntries o
     match SN[j]? with
      | some en=>do
       holding [en.key,en.val] (dictSetHashed d en.key en.hash en.val);let e1 <- dictEpoch o
       if(e1 != e0)=true then do
         (unsupported (toString nm++toString ":source-changed-during-callback"):Sem PUnit);pure (ForInStep.yield PUnit.unit)else pure (ForInStep.yield PUnit.unit)
      | _=>do
       (unsupported "internal:dict-merge":Sem PUnit);pure (ForInStep.yield PUnit.unit):Sem (ForInStep PUnit))
   pure ()) Q E s:=by
  refine Qa (Jy o1 o3 (Qa (Zl o1 o3 (Qa ?_))))
  rw[Jh]
  simp only[Std.Legacy.Range.size,YM,Nat.add_sub_cancel,Nat.div_one]
  refine wpAny_forIn_list _ (fun bE _ s'=>∃ g i,s'={ s with heap:=g }/\bE=List.range' i (m_.size-i)/\i<=m_.size/\g.DictOfH N d (m9 ys (zs.take i))/\Heap.SameBut d s.heap g) _ ?_ ?_ _ _ ⟨s.heap,0,rfl,by simp,ZP _,by simpa [m9]using D,Heap.SameBut.refl _ _⟩
  ·rintro x bE b s' ⟨g,i,rfl,hr,hi,hd,hs⟩
   have cY:i<m_.size:=by
    rcases Nat.lt_or_ge i m_.size with h|h
    ·exact h
    ·rw[Nat.sub_eq_zero_of_le h]at hr;simp at hr
   have SO:m_.size-i=(m_.size-(i+1))+1:=by omega
   rw[SO,JV]at hr
   injection hr with h1 h2
   subst h1
   have Gh:g.get? o=some oo:=(hs.2 o (Jb ne)).trans o1
   refine Qa (Zl (s:={ s with heap:=g }) Gh o3 ?_)
   have hz:zs[x]? = some (zs[x]'(by rw[<- len];exact cY)):=Qv _
   have take1:zs.take (x+1)=zs.take x++[zs[x]'(by rw[<- len];exact cY)]:=by rw[List.take_add_one,hz];rfl
   rw[entry_at o4 x,hz]
   have ik:=o5 _ (Zx hz)
   generalize zs[x]'(by rw[<- len];exact cY)=y at *
   obtain⟨k,c,v⟩:=y
   have ml:=Gg (zs.take x) ys
   have tl:(zs.take x).length<=zs.length:=by rw[Zc];omega
   refine Qa (Zw (SG (s:={ s with heap:=g }) room (N.keeps ik d1 d3 hs) hd (by omega) fun g2 hd2 uy=>?_))
   refine Qa (Jy (s:={ s with heap:=g2 }) ((uy.2 o (Jb ne)).trans Gh) o3 ?_)
   rw[Qf (by simp)]
   exact Qb ⟨g2,x+1,rfl,h2,cY,by rw[take1,SI];exact hd2,hs.trans uy⟩
  ·rintro b s' ⟨g,i,rfl,hr,hi,hd,hs⟩
   have SQ:i=m_.size:=by
    rcases Nat.lt_or_ge i m_.size with h|h
    ·rw[show m_.size-i=(m_.size-(i+1))+1 by omega,JV]at hr;exact nomatch hr
    ·exact YT hi h
   refine Qb (q g ?_ hs)
   rw[SQ,len,JW]at hd;exact hd
 dsimp only
 split
 ·refine Qa (Zl d1 d3 ?_)
  split
  next he=>
   have h0:SK = #[]:=Array.isEmpty_iff.mp he
   have:=J4 d4
   rw[h0]at this
   exact absurd (Q2.mp this.symm) cR
  ·exact loop
 ·exact loop
end
section
variable {P:Program}{w:World}{κ:Type}[DecidableEq κ](N:HeapKind P w κ)(d a:Addr)
theorem SR(hd:(d==sysModules)=false)(v:Value) :
  MeetsIn P w (Builtin.«dict.setdefault» ⟨[.ref d,.ref a,v],[]⟩) (fun A R s=>N.room A.in1/\∃ k ys,N.is s.heap k a/\s.heap.DictOfH N d ys/\ys.length<=sizeLine/\(∀ p,atKey ys k=some p->R (.ok (.ret p.2)) { s with toks:=s.toks+N.draws k }) /\
   (atKey ys k=none->∀ g,g.DictOfH N d (ys++[(k,a,v)])->Heap.SameBut d s.heap g->R (.ok (.ret v)) { s with heap:=g,toks:=s.toks+N.draws k })):=
 .of_wp fun A R s ⟨room,k,ys,qy,D,small,r1,r2⟩=>by
  unfold Builtin.«dict.setdefault»
  refine Qa ?_
  unfold Builtin.Dict.keyAndDefault
  refine Qa (JS D.typeIs ?_)
  show wpAny _ _ (pure (d,Value.ref a,some v)) _ _ s
  refine Qb ?_
  show wpAny _ _ (if(d==sysModules)=true then _ else(dictSetDefault d (.ref a) v >>= _)) _ _ s
  rw[Qf (by rw[hd];exact QW)]
  exact Qa (SF room qy D small (fun p hp=>Qb ⟨p.2,rfl,r1 p hp⟩) fun no g D' hs=>Qb ⟨v,rfl,r2 no g D' hs⟩)
theorem SS(o:Addr)(cR:d≠o)(ho:(o==sysModules)=false) :
  MeetsIn P w (Builtin.«dict.update» ⟨[.ref d,.ref o],[]⟩) (fun A R s=>N.room A.in1/\∃ ys zs,s.heap.DictOfH N d ys/\s.heap.DictOfH N o zs/\ys ≠ []/\ys.length+zs.length<=sizeLine/\∀ g,g.DictOfH N d (m9 ys zs)->Heap.SameBut d s.heap g->R (.ok (.ret .none)) { s with heap:=g }):=
 .of_wp fun A R s ⟨room,ys,zs,D,O,ne,small,r⟩=>by
  unfold Builtin.«dict.update»
  refine Qa ?_
  unfold Builtin.Dict.selfAndRest
  refine Qa (JS D.typeIs ?_)
  show wpAny _ _ (pure (d,[Value.ref o])) _ _ s
  refine Qb ?_
  show wpAny _ _ (Builtin.Dict.updateFrom "dict.update" d (.ref o) [] .none) _ _ s
  unfold Builtin.Dict.updateFrom
  refine Qa (JG O.typeIs ?_)
  rw[Qf (by decide)]
  refine Qa ?_
  unfold Builtin.Dict.merge
  refine Qa ?_
  ·unfold Builtin.Dict.readDirectly
   refine Qa (wpAny_isInstance O.typeIs isSubtype_dict_dict ?_)
   simp only[Y1,ZJ,Js]
   refine Qa (wpAny_specialOf O.typeIs JN.lookup (Qb ?_))
   simp only[Zs,JF]
   refine Qa (Qb (SJ room cR ho D O ne small fun g D' hs=>?_))
   show wpAny _ _ (Builtin.Dict.addKeywords d [] >>= _) _ _ _
   exact Qa (Qb (Qb ⟨.none,rfl,r g D' hs⟩))
end
def qz (ai more:List (List Key×V)):List (List Key×V):=more.foldl (fun acc kv=>eY acc kv.1 kv.2) ai
theorem Gi:∀ (more ai:List (List Key×V)),(qz ai more).length<=ai.length+more.length
 | [],ai=>Qd _
 | p::r,ai=>by
  have h1:=Gi r (eY ai p.1 p.2)
  have h2:=xt ai p.1 p.2
  show(qz (eY ai p.1 p.2) r).length<=_
  rw[Qz];omega
theorem KT.SU:∀ {more:List (List Key×V)} {zs:List (List Key×Addr×Value)} {ai:List (List Key×V)} {ys:List (List Key×Addr×Value)},KT H more zs->KT H ai ys->KT H (qz ai more) (m9 ys zs):=by
 intro more zs ai ys r
 induction r generalizing ai ys with
 | nil=>intro q;exact q
 | @cons p q ps qs h t ih=>
  intro r0
  obtain⟨h1,h2,h3⟩:=h
  have:=KT.put r0 p.1 h2 h3
  rw[h1]at this
  show KT H (qz (eY ai p.1 p.2) ps) (m9 (storedH ys q.1 q.2.1 q.2.2) qs)
  rw[h1]
  exact ih this
section
variable {X:Cx}{pins:List (Addr×Obj)}{σ:St}{H:Hp}{s:Shared}{a:Addr}{A:Around}{E:Value->Shared->Prop}
theorem SV{k:List Key}{z:V}{r:Value}(hu:A.units+1<cLine)(I:Inv X pins σ H s)(e:H a=some (.dT ai))(eb:H b=some (.tup (k.map kV)))(hl:ai.length<sizeLine)(rz:bq z r)
  (h1:∀ v u s',fw ai k=some v->Inv X pins σ H s'->bq v u->Q u s') (h2:fw ai k=none->∀ s',Inv X pins σ (upd H a (.dT (ai++[(k,z)]))) s'->Q r s'):wpAny (model X.prog X.w) A (call (.builtin "dict.setdefault") [.ref a,.ref b,r]) Q E s:=by
 obtain⟨zl,hd,xs,rel,dd⟩:=uM I.aA e
 have hz:xs.length<=sizeLine:=by rw[<- ZX rel];exact zl
 have rv:=KT.val rel k
 refine JJ J5 dd.typeIs PySem.F.entry_dict_setdefault (PySem.F.args_dict_setdefault_3 _ _ _) (SR (tupleKind (gW X.prog X.w)) a b hd r) ⟨Zr hu,k,xs,rn I.aA eb,dd,hz,fun p hp=>?_,fun no g mK hs=>?_⟩
 ·rw[hp]at rv
  cases q:fw ai k with
  | none=>rw[q]at rv;exact False.elim rv
  | some v=>
   rw[q]at rv
   exact h1 v _ _ q (I.tok _) rv
 ·rw[no]at rv
  have q:fw ai k=none:=by
   cases q:fw ai k with
   | none=>rfl
   | some v=>rw[q]at rv;exact False.elim rv
  refine h2 q _ ?_
  obtain⟨o',es,ep,g1,g2,g3,g4,_,g6⟩:=mK
  have put:=KT.put rel k eb rz
  rw[Nm _ q,storedH_new no]at put
  refine uN I (by rw[e];exact True.intro) hs ⟨o',g1⟩ ⟨by rw[Qh];exact hl,hd,_,put.keeps fun c ys ec=>?_,o',es,ep,g1,g2,g3,g4,g6⟩
  rw[aR (zf ec e (fun z=>nomatch z))]
  exact ec
theorem SW{more:List (List Key×V)}(hu:A.units+1<cLine)(I:Inv X pins σ H s)(e:H a=some (.dT ai))(eb:H b=some (.dT more))(BP:a≠b)(cR:ai ≠ [])(hl:ai.length+more.length<=sizeLine)
  (h:∀ s',Inv X pins σ (upd H a (.dT (qz ai more))) s'->Q .none s'):wpAny (model X.prog X.w) A (call (.builtin "dict.update") [.ref a,.ref b]) Q E s:=by
 obtain⟨zl,hd,xs,rel,dd⟩:=uM I.aA e
 obtain⟨_,hd2,zs,vF,tj⟩:=uM I.aA eb
 have lx:ai.length=xs.length:=ZX rel
 have lz:more.length=zs.length:=ZX vF
 refine JJ Yz dd.typeIs PySem.F.entry_dict_update (PySem.F.args_dict_update_2 _ _) (SS (tupleKind (gW X.prog X.w)) a b BP hd2) ⟨Zr hu,xs,zs,dd,tj,fun q=>cR (Q2.mp (by rw[lx,q];rfl)),by omega,fun g mK hs=>?_⟩
 refine h _ ?_
 obtain⟨o',es,ep,g1,g2,g3,g4,_,g6⟩:=mK
 refine uN I (by rw[e];exact True.intro) hs ⟨o',g1⟩ ⟨QC (Gi more ai) hl,hd,_,(KT.SU vF rel).keeps fun c ys ec=>?_,o',es,ep,g1,g2,g3,g4,g6⟩
 rw[aR (zf ec e (fun z=>nomatch z))]
 exact ec
end
def SX (td ty tx:TE):TE:=fun σ H Q=>td σ H fun x H1=>∃ a,x=.ref a/\rA H1 a/\ty σ H1 fun y H2=>tx σ H2 fun z H3=>∃ ai k b,H3 a=some (.dT ai)/\y=.ref b/\H3 b=some (.tup (k.map kV))/\ai.length<sizeLine/\(∀ v,fw ai k=some v->Q v H3)/\(fw ai k=none->Q z (upd H3 a (.dT (ai++[(k,z)]))))
def SY (td te:TE):TE:=fun σ H Q=>td σ H fun x H1=>∃ a,x=.ref a/\rA H1 a/\te σ H1 fun y H2=>∃ ai more b,y=.ref b/\H2 a=some (.dT ai)/\H2 b=some (.dT more)/\a≠b/\ai ≠ []/\ai.length+more.length<=sizeLine/\Q .aX (upd H2 a (.dT (qz ai more)))
section
variable {X:Cx}{o e f:Expr}{apos ay:Pos}{td ty tx:TE}
theorem S0(hu:X.A.units+1<cLine)(ho:PE X o td)(he:PE X e ty)(hf:PE X f tx)(m:M2 X o "setdefault" apos e f ay):PE X (.Call (.Attribute o "setdefault" apos) [e,f] [] ay) (SX td ty tx):=by
 intro pins s σ H Q I h
 refine JK m.base m.jv m.line Z3 J5 PySem.F.type_dict_setdefault (aN (ho pins s σ H _ I h) fun u s1 ak=>?_)
 obtain⟨x,H1,I1,rx,a,ex,d,q1⟩:=ak
 subst ex
 obtain rfl:u=Value.ref a:=rx
 obtain⟨t1,t2,_⟩:=xw I1 d
 refine⟨t1,t2,?_⟩
 rw[m.trees]
 refine ZG rfl (ZR (Za (aN (he pins s1 σ H1 _ I1 q1) fun iv s2 ⟨y,H2,I2,ry,q2⟩=>
  Za (aN (hf pins s2 σ H2 _ I2 q2) fun fv s3 S1=>ZQ ?_))))
 obtain⟨z,H3,I3,rz,ai,k,b,e1,ey,e2,hl,k1,k2⟩:=S1
 subst ey
 obtain rfl:iv=Value.ref b:=ry
 exact SV hu I3 e1 e2 hl rz (fun v u s' q I' ru=>⟨v,H3,I',ru,k1 v q⟩) fun q s' I'=>⟨z,_,I',rz,k2 q⟩
theorem S2(hu:X.A.units+1<cLine)(ho:PE X o td)(he:PE X e ty)(m:M1 X o "update" apos e ay):PE X (.Call (.Attribute o "update" apos) [e] [] ay) (SY td ty):=by
 intro pins s σ H Q I h
 refine JK m.base m.jv m.line Z3 Yz PySem.F.type_dict_update (aN (ho pins s σ H _ I h) fun u s1 ak=>?_)
 obtain⟨x,H1,I1,rx,a,ex,d,q1⟩:=ak
 subst ex
 obtain rfl:u=Value.ref a:=rx
 obtain⟨t1,t2,_⟩:=xw I1 d
 refine⟨t1,t2,?_⟩
 rw[m.trees]
 refine ZG rfl (ZR (Za (aN (he pins s1 σ H1 _ I1 q1) fun iv s2 Bs=>ZQ ?_)))
 obtain⟨y,H2,I2,ry,ai,more,b,ey,e1,e2,BP,cR,hl,q2⟩:=Bs
 subst ey
 obtain rfl:iv=Value.ref b:=ry
 exact SW hu I2 e1 e2 BP cR hl fun s' I'=>⟨.aX,_,I',rfl,q2⟩
end
section
variable {X:Cx}
theorem S3(hc:X.calm=true):mz X (.type "list") (fun xs H Q=>∃ t ai,xs=[.ref t]/\H t=some (.dT ai)/\ai.length<=1000 /\
  ∀ (p:Addr) (bs:List Addr),H p=none->bs.length=ai.length->(∀ (i:Nat) (b:Addr),bs[i]? = some b->∃ k v,ai[i]? = some (k,v)/\H b=some (.tup (k.map kV)))->Q (.ref p) (upd H p (.lst (bs.map V.ref)))):=by
 intro pins s σ H xs us Q I r hh
 obtain⟨t,ai,rfl,hq,jv,q⟩:=hh
 obtain⟨u,rfl,ru⟩:=qX r
 cases ru
 obtain⟨_,lo,zs,kt,o,es,ep,ho,hx,hd,he,_,_⟩:=uM I.aA hq
 have lz:ai.length=zs.length:=ZX kt
 have len:es.size=zs.length:=by rw[<- Q5,he,QA]
 refine kdl_call (Sw lo hx.1 hd) (I.ok.hd hc) ho (kdl_size (by rw[len,<- lz];omega)) fun h' tk acc c hk hg hit=>?_
 obtain⟨hn,cW⟩:=hit
 have ea:acc.toList=(zs.map (·.2.1)).map Value.ref:=by
  apply Q7
  intro i
  rw[Qu,Qu,ZM]
  by_cases hi:i<zs.length
  ·have h1:acc[i]? = some (acc[i]'(by rw[hn,len];exact hi)):=Jo _
   obtain⟨e',q1,q2⟩:=cW i _ h1
   rw[<- ZM,he,Qu,Qv hi]at q1
   cases q1
   rw[h1,q2,Qv hi]
   rfl
  ·rw[Qx (YL.mp hi),YO (by rw[hn,len];exact YL.mp hi)]
   rfl
 refine⟨.ref s.heap.objs.size,_,I.laid (a:=s.heap.objs.size) (o:=.lst ((zs.map (·.2.1)).map V.ref)) (t':=tk) hk (Qd _) ⟨kdl_size (by rw[QA,QA];omega),(zs.map (·.2.1)).map Value.ref,c,Ga _,?_⟩,rfl,q _ (zs.map (·.2.1)) (I.aA.fresh (Qd _)) (by rw[QA];exact lz.symm) fun i b hb=>?_⟩
 ·rw[<- ea]
  exact hg
 ·rw[Qu,Zd]at hb
  obtain⟨y,hy,rfl⟩:=hb
  have key:∀ {ai:List (List Key×V)} {zs:List (List Key×Addr×Value)},KT H ai zs->∀ (i:Nat) y,zs[i]? = some y->∃ k v,ai[i]? = some (k,v)/\H y.2.1=some (.tup (k.map kV)):=by
   intro ai zs r
   induction r with
   | nil=>intro i y h;simp at h
   | @cons p q ps qs h t ih=>
    intro i y hy
    cases i with
    | zero=>cases hy;exact⟨p.1,p.2,rfl,h.2.1⟩
    | succ i=>exact ih i y hy
  exact key kt i y hy
end
def kD:Key->D
 | .inl i=>.int i
 | .inr x=>.str x
def Gj (k:List Key):D:=.tup (k.map kD)
section
variable {K:PySem.W.Frag}{H:Hp}{w:Wn}{o:Ow}
theorem S4(k:Key):Rep K H w o 0 (kD k) (kV k) []:=by
 cases k with
 | inl i=>exact .int i
 | inr x=>exact .str x
theorem Gk:∀ k:List Key,af K H w o 0 (k.map kD) (k.map kV) []
 | []=>.nil
 | k::ks=>.qx (S4 k) (Gk ks)
theorem Gm:∀ {ks:List (List Key)} {bs:List Addr},bs.length=ks.length->(∀ (i:Nat) (b:Addr) (k:List Key),bs[i]? = some b->ks[i]? = some k->H b=some (.tup (k.map kV)))->af K H w o 0 (ks.map Gj) (bs.map V.ref) []
 | [],[],_,_=>.nil
 | k::ks,b::bs,h,e=>.qx (.tup (e 0 b k rfl rfl) (Gk k)) (Gm (Z7 h) fun i c l h1 h2=>e (i+1) c l h1 h2)
end
def sg (acc:List (List Key)×List D)(x:List Key×D):List (List Key)×List D:=if m8 acc.1 x.1=true then(acc.1,iX acc.1 acc.2 x.1 x.2)else(acc.1++[x.1],acc.2++[x.2])
def sh (ks:List (List Key))(ds:List D)(iY:List (List Key))(ba:List D):List (List Key)×List D:=(iY.zip ba).foldl sg (ks,ds)
theorem S5{acc:List (List Key)×List D}{x:List Key×D}(h:acc.1.length=acc.2.length):(sg acc x).1.length=(sg acc x).2.length:=by
 unfold sg
 split
 ·exact h.trans (vB x.1 x.2 h).symm
 ·show(acc.1++[x.1]).length=(acc.2++[x.2]).length
  rw[Qh,Qh,h];rfl
theorem S6:∀ {iY:List (List Key)} {ba:List D} {d9:List V} {ks:List (List Key)} {ds:List D} {vs:List V},iY.length=ba.length->af K H w o 0 ba d9 []->ks.length=ds.length->af K H w o 0 ds vs []->
  ∃ us,qz (ks.zip vs) (iY.zip d9)=(sh ks ds iY ba).1.zip us/\(sh ks ds iY ba).1.length=(sh ks ds iY ba).2.length/\af K H w o 0 (sh ks ds iY ba).2 us []:=by
 intro iY
 induction iY with
 | nil=>intro ba d9 ks ds vs _ _ hl r;exact⟨vs,rfl,hl,r⟩
 | cons k iY ih=>
  intro ba d9 ks ds vs gh r' hl r
  cases ba with
  | nil=>cases gh
  | cons d ba=>
   obtain⟨v,S7,rfl,r1,s1⟩:=r'.split
   have lv:=r.length
   have e:eY (ks.zip vs) k v=(sg (ks,ds) (k,d)).1.zip (if m8 ks k=true then iX ks vs k v else vs++[v])/\af K H w o 0 (sg (ks,ds) (k,d)).2 (if m8 ks k=true then iX ks vs k v else vs++[v]) []:=by
    rw[BI k v ks vs (by omega)]
    unfold sg
    by_cases hk:m8 ks k=true
    ·rw[Qe hk,Qe hk,Qe hk]
     exact⟨rfl,vE k r1 r⟩
    ·rw[Qf hk,Qf hk,Qf hk]
     exact⟨rfl,af.snoc (F:=[]) (G:=[]) r1 r nM⟩
   obtain⟨us,u1,u2,u3⟩:=ih (Z7 gh) s1 (S5 (acc:=(ks,ds)) (x:=(k,d)) hl) e.2
   refine⟨us,?_,u2,u3⟩
   show qz (eY (ks.zip vs) k v) (iY.zip S7)=_
   rw[e.1]
   exact u1
def BQ (i:Nat)(fk fz:aw):aw:=fun ρ=>if fY ρ[i]? = true then match fk ρ with
 | some (x,_,ρ1)=>match fz ρ1 with
  | some (z,_,ρ2)=>match ρ2[i]? with
   | some (some (.mp (.t ks) ds,1))=>if ds.length<1000 then match yw x with
    | some y=>match vL ks ds y with
     | some d=>some (d,cj d,ρ2)
     | none=>some (z,cj z,ρ2.set i (some (.mp (.t (ks++[y])) (ds++[z]),1)))
    | none=>none
    else none
   | _=>none
  | none=>none
 | none=>none
 else none
def BR (i j:Nat):aw:=fun ρ=>match ρ[i]? with
 | some (some (.mp (.t ks) ds,1))=>match ρ[j]? with
  | some (some (.mp (.t iY) ba,_))=>if i≠j/\ds ≠ []/\ds.length<=400/\ba.length<=400 then some (.aX,9,ρ.set i (some (.mp (.t (sh ks ds iY ba).1) (sh ks ds iY ba).2,1)))else none
  | _=>none
 | _=>none
def yz (i:Nat):aw:=fun ρ=>match ρ[i]? with
 | some (some (.mp (.t ks) ds,_))=>if ks.length<=1000 then some (.lst (ks.map Gj),1,ρ)else none
 | _=>none
def BS (fa:aw)(i:Nat):aw:=fun ρ=>match fa ρ with
 | some (x,_,ρ1)=>match ρ1[i]? with
  | some (some (.mp k ds,_))=>match yx k ds x with
   | some r=>some (.bl (!r.isSome),9,ρ1)
   | none=>none
  | _=>none
 | none=>none
def yA (i:Nat):av:=fun ρ=>match ρ[i]? with
 | some (some (d,q))=>some (.rt d q)
 | _=>none
def j8z (fa:aw):aw:=fun ρ=>match fa ρ with
 | some (.mp (.t ks) ds,_,ρ1)=>match Ge ks with
  | some kp=>if kp.length<64 then some (.lst ((Sr kp).map fX),1,ρ1)else none
  | none=>none
 | _=>none
def BU (fo fk:aw):aw:=fun ρ=>match fo ρ with
 | some (.mp (.t ks) ds,_,ρ1)=>match fk ρ1 with
  | some (x,_,ρ2)=>match yx (.t ks) ds x with
   | some r=>some (r.getD .aX,cj (r.getD .aX),ρ2)
   | none=>none
  | none=>none
 | _=>none
section
variable {X:Cx}{a b c e:Expr}{fa fb fc f:aw}{p p1 p2 pos pos' ay apos:Pos}{x y:Str}{i j:Nat}
theorem S8{k:Nat}(hr:aF k X.A)(h:QE X (.Name x p1) (fP i))(hk:QD X b fb)(hz:QD X c fc)(cF:attributeBase (.Name x p1) "setdefault" X.env (eval (.Name x p1) X.env)=eval (.Name x p1) X.env:=by rfl)(eX:((backTo ay (starEach [b,c] X.env)).all (fun x=>!x.1)&&(backToKw ay (keywordEach [] X.env)).all (fun x=>x.1.isSome)
   && decide (([b,c]:List Expr).length+([]:List Keyword).length+(if([]:List Keyword).isEmpty then 0 else 1)<30))=true:=by rfl) (cG:(apos.endLine==ay.line)=true:=by rfl) (rZ:backTo ay (starEach [b,c] X.env)=[(false,eval b X.env),(false,eval c X.env)]:=by rfl):QD X (.Call (.Attribute (.Name x p1) "setdefault" apos) [b,c] [] ay) (BQ i fb fc):=⟨have h:=h.o;have hk:=hk.o;have hz:=hz.o;PE.imp (S0 (rg hr) h hk hz ⟨cF,eX,cG,rZ⟩) fun σ H Q ak=>by
 obtain⟨ρ,w,t,r',q,ρ',gd,ee,kk⟩:=ak
 unfold BQ at ee
 split at ee
 next hd=>
  obtain⟨l,cZ,S9⟩:=gd.fY hd
  split at ee
  next x0 q1 ρ1 h1=>
   split at ee
   next z0 q3 ρ2 h2=>
    split at ee
    next ks ds e1=>
     split at ee
     next jv=>
      split at ee
      next y0 hy=>
       refine⟨_,cZ,l,rfl,S9,ρ,w,t,_,_,_,gd,h1,fun y H1 w1 F1 g1 aK r1=>⟨ρ1,w1,t+1,_,_,_,g1,h2,fun zv H2 w2 F2 g2 br r2=>?_⟩⟩
       have gg:=g2.drop (t':=t)
       obtain⟨l',vs,z,eI,hH,dm,hlen,rs,mk⟩:=gg.pq e1
       rw[cZ]at eI
       cases eI
       cases dm
       have hlen:ks.length=ds.length:=hlen
       have lv:=rs.length
       obtain⟨b0,rfl,S_⟩:=BK hy (r1.gone g1.wl br)
       have rz:=r2.drop (o:=.f) (t':=t) (by omega)
       obtain⟨v1,v2⟩:=vD y0 (ks:=ks) rs
       refine⟨_,y0,b0,hH,rfl,S_,by rw[ZC,<- lv,hlen,Jl];exact lU (Zi jv),fun v hv=>?_,fun hv=>?_⟩
       ·rw[vC]at hv
        split at ee
        next d jR=>
         cases ee
         obtain⟨v',e',rd⟩:=v1 _ jR
         rw[e']at hv
         cases hv
         exact k_ kk gd g2 (aK.trans br) (rd.any gg.wl).jj
        next hn=>
         rw[v2 hn]at hv
         cases hv
       ·rw[vC]at hv
        split at ee
        next d jR=>
         obtain⟨v',e',rd⟩:=v1 _ jR
         rw[e']at hv
         cases hv
        ·cases ee
         obtain⟨m1,m2⟩:=mk (.t (ks++[y0])) (ds++[r']) (vs++[zv]) (.dT ((ks++[y0]).zip (vs++[zv]))) rfl (by show(ks++[y0]).length=_;rw[Qh,Qh,hlen];rfl) (af.snoc (F:=[]) (G:=[]) rz rs nM)
         rw[List.zip_append (by omega)]at m1 m2
         have Ta:Rep X.K _ _ (.t t) 0 r' zv []:=Rep.go gg.wl m2.bB rz nM
         exact kk zv _ _ [] m1.up (((aK.trans br).drop gd.wt).trans m2) Ta.jj
      ·cases ee
     ·cases ee
    ·cases ee
   ·cases ee
  ·cases ee
 ·cases ee⟩
theorem Tb{k:Nat}(hr:aF k X.A)(h:QE X (.Name x p1) (fP i))(h':QE X (.Name y p2) (fP j))(cF:attributeBase (.Name x p1) "update" X.env (eval (.Name x p1) X.env)=eval (.Name x p1) X.env:=by rfl)(eX:((backTo ay (starEach [.Name y p2] X.env)).all (fun x=>!x.1)&&(backToKw ay (keywordEach [] X.env)).all (fun x=>x.1.isSome)
   && decide (([.Name y p2]:List Expr).length+([]:List Keyword).length+(if([]:List Keyword).isEmpty then 0 else 1)<30))=true:=by rfl) (cG:(apos.endLine==ay.line)=true:=by rfl) (rZ:backTo ay (starEach [.Name y p2] X.env)=[(false,eval (.Name y p2) X.env)]:=by rfl):QD X (.Call (.Attribute (.Name x p1) "update" apos) [.Name y p2] [] ay) (BR i j):=⟨have h:=h.o;have h':=h'.o;PE.imp (S2 (rg hr) h h' ⟨cF,eX,cG,rZ⟩) fun σ H Q ak=>by
 obtain⟨ρ,w,t,r',q,ρ',gd,ee,kk⟩:=ak
 unfold BR at ee
 split at ee
 next ks ds e1=>
  split at ee
  next iY ba q2 e2=>
   split at ee
   next hc=>
    cases ee
    obtain⟨l,vs,z,cZ,hH,dm,hlen,rs,mk⟩:=gd.pq e1
    cases dm
    have hlen:ks.length=ds.length:=hlen
    have lv:=rs.length
    obtain⟨v',F',s1,s2⟩:=gd.slot j _ _ e2
    obtain⟨l',d9,z',rfl,BV,kr,fD,jY⟩:=s2.pk
    cases kr
    have fD:iY.length=ba.length:=fD
    have Tc:=jY.length
    have cR:l≠l':=fun q=>by
     subst q
     obtain⟨v1,F1,t1,t2⟩:=gd.slot i _ _ e1
     rw[cZ]at t1
     cases t1
     have w1:w l=some (.s i):=t2.az l (by cases t2;exact Qt.mpr rfl)
     cases s2 with
     | mO _ _ hn _ _=>rw[hn]at w1;cases w1
     | gD _ _ hw _ _=>rw[hw]at w1;cases w1;exact hc.1 rfl
    refine⟨_,cZ,l,rfl,.inr ⟨_,.inl hH⟩,_,s1,_,_,l',rfl,hH,BV,cR,fun q=>?_,?_,?_⟩
    ·have:(ks.zip vs).length=0:=by rw[q];rfl
     rw[ZC,<- lv,hlen,Jl]at this
     exact hc.2.1 (Q2.mp this)
    ·rw[ZC,ZC,<- lv,<- Tc,hlen,fD,Jl,Jl]
     exact Zi (lU (by omega))
    ·obtain⟨us,u1,u2,u3⟩:=S6 fD (jY.any gd.wl) hlen rs
     rw[u1]
     obtain⟨m1,m2⟩:=mk (.t (sh ks ds iY ba).1) _ us _ rfl u2 u3
     exact kk .aX _ w [] m1.up m2 .aX
   ·cases ee
  ·cases ee
 ·cases ee⟩
theorem Gn(hc:X.calm=true)(hm:X.mg "list" = none)(hb:bootBuiltins "list" = some (.type "list"))(h:QE X (.Name x p1) (fP i))(hg:Gl X "list":=by rfl)(he:starEach [.Name x p1] X.env=(false,eval (.Name x p1) X.env)::starEach [] X.env:=by rfl)(bT:(backTo pos (starEach [] X.env)).any (·.1)=false:=by rfl):QD X (.Call (.Name "list" p) [.Name x p1] [] pos) (yz i):=⟨have h:=h.o;PE.imp (xn (S3 hc) hg hm hb (mB h pV he) (by decide) (by decide) he bT) fun σ H Q ak=>by
 obtain⟨ρ,w,t,r',q,ρ',gd,ee,k⟩:=ak
 unfold yz at ee
 split at ee
 next ks ds q0 e0=>
  split at ee
  next hl=>
   cases ee
   obtain⟨l,vs,z,cZ,hH,dm,hlen,rs⟩:=gd.jA e0
   cases dm
   have hlen:ks.length=ds.length:=hlen
   have lv:=rs.length
   have lz:(ks.zip vs).length=ks.length:=by rw[ZC,<- lv,hlen,Jl]
   refine⟨_,cZ,l,_,rfl,hH,by rw[lz];exact hl,fun p bs hp lb Td=>?_⟩
   obtain⟨a1,a2,a3⟩:=tF gd hp (Gm (by rw[lb,lz]) fun n b k h1 h2=>by
    obtain⟨k',v',e1,e2⟩:=Td n b h1
    have:((ks.zip vs).map (·.1))[n]? = some k':=by rw[Qu,e1];rfl
    rw[List.map_fst_zip (by omega),h2]at this
    cases this
    exact e2)
   exact k _ _ _ _ a1 a2 a3
  ·cases ee
 ·cases ee⟩
theorem Te{k:Nat}(hr:aF k X.A)(ha:QD X a fa)(hb:QE X (.Name x p1) (fP i))(hm:behindInMarks .NotIn (.Name x p1)=false:=by with_unfolding_all rfl):hZ X (.Compare a [.NotIn] [.Name x p1] pos) (bJ (BS fa i)):=⟨have ha:=ha.o;have hb:=hb.o;PT.imp (KU (Nz (rg hr) ha hb) hm) fun σ H Q ak=>by
 obtain⟨ρ,w,t,b',ρ',gd,ee,k⟩:=ak
 unfold bJ BS at ee
 split at ee
 next b2 q2 ρ2 e0=>
  cases ee
  split at e0
  next x0 q0 ρ1 h1=>
   split at e0
   next k0 ds q1 e1=>
    split at e0
    next r hg=>
     cases e0
     refine⟨ρ,w,t,_,_,_,gd,h1,fun v H1 w1 F g1 aK r1=>?_⟩
     have gg:=g1.drop (t':=t)
     obtain⟨l,vs,z,cZ,hH,dm,_,rs⟩:=gg.jA e1
     obtain⟨rv,dg,v1,v2⟩:=BL hH dm rs r1 hg
     refine⟨_,cZ,l,rv,rfl,dg,_,rfl,?_⟩
     have:rv.isSome=r.isSome:=by
      cases r with
      | none=>rw[v2 rfl];rfl
      | some d=>obtain⟨v',rfl,_⟩:=v1 d rfl;rfl
     rw[this]
     exact k H1 _ gg (aK.drop gd.wt)
    ·cases e0
   ·cases e0
  ·cases e0
 ·cases ee⟩
theorem Gp(h:QE X (.Name x p1) (fP i)):km X (.Return (some (.Name x p1)) pos) (yA i):=⟨have h:=h.o;PS.imp (D4 h) fun Dn σ H ak=>by
 obtain⟨ρ,w,o,gd,ee,k⟩:=ak
 unfold yA at ee
 split at ee
 next d q e=>
  cases ee
  obtain⟨v,F,h1,h2⟩:=gd.slot i _ _ e
  refine⟨v,h1,?_⟩
  have ow:=h2.az
  have st:cL H w H (fun a=>if a∈F then some (.t 0)else w a):=fun a x e n=>⟨sm e,by
   show(if a∈F then _ else _)=_
   rw[Qf fun m=>by rw[ow a m]at n;cases n]
   exact n⟩
  refine k v H (fun a=>if a∈F then some (.t 0)else w a) F ⟨fun a o e=>?_,gd.wl.tb⟩ ⟨st,fun a o e cR=>⟨rfl,?_⟩⟩ (Rep.go gd.wl st h2 fun a m=>⟨rfl,Qe m⟩)
  ·have e:(if a∈F then some (Ow.t 0)else w a)=some o:=e
   split at e
   ·rename_i m;exact gd.wl a _ (ow a m)
   ·exact gd.wl a _ e
  ·show(if a∈F then _ else _)=_
   rw[Qf fun m=>by rw[ow a m]at e;cases e;exact cR i rfl]
   exact e
 ·cases ee⟩
theorem Tf{k:Nat}(hr:aF k X.A)(ho:QD X a fa)(hk:QD X b fb)(cF:attributeBase a "get" X.env (eval a X.env)=eval a X.env:=by rfl)(eX:((backTo ay (starEach [b] X.env)).all (fun x=>!x.1)&&(backToKw ay (keywordEach [] X.env)).all (fun x=>x.1.isSome)
   && decide (([b]:List Expr).length+([]:List Keyword).length+(if([]:List Keyword).isEmpty then 0 else 1)<30))=true:=by rfl) (cG:(apos.endLine==ay.line)=true:=by rfl) (rZ:backTo ay (starEach [b] X.env)=[(false,eval b X.env)]:=by rfl):QD X (.Call (.Attribute a "get" apos) [b] [] ay) (BU fa fb):=⟨have ho:=ho.o;have hk:=hk.o;PE.imp (NP (rg hr) ho hk ⟨cF,eX,cG,rZ⟩) fun σ H Q ak=>by
 obtain⟨ρ,w,t,r',q,ρ',gd,ee,kk⟩:=ak
 unfold BU at ee
 split at ee
 next ks ds q1 ρ1 h1=>
  split at ee
  next x0 q2 ρ2 h2=>
   split at ee
   next r hg=>
    cases ee
    refine⟨ρ,w,t,_,_,_,gd,h1,fun v H1 w1 F1 g1 aK r1=>?_⟩
    obtain⟨l,vs,z,rfl,hH,dm,hl,rs⟩:=r1.pk
    have BW:=dm
    cases BW
    refine⟨l,rfl,.inr ⟨_,.inl hH⟩,ρ1,w1,t+1,_,_,_,g1,h2,fun y H2 w2 F2 g2 br r2=>?_⟩
    have Bp:=(r1.gone g1.wl br).drop (o:=.t t) (t':=t) (Qd t)
    obtain⟨l',d9,z',el,BV,kr,gh,jY⟩:=Bp.pk
    cases el
    obtain⟨rv,dg,v1,v2⟩:=BL BV kr jY r2 hg
    refine⟨rv,dg,?_⟩
    cases r with
    | none=>
     rw[v2 rfl]
     exact k_ kk gd g2 (aK.trans br) .aX
    | some d=>
     obtain⟨v,rfl,rd⟩:=v1 d rfl
     exact k_ kk gd g2 (aK.trans br) rd.jj
   ·cases ee
  ·cases ee
 ·cases ee⟩
end
theorem Rep.BX(hl:H l=some z)(hz:(∀ xs,z ≠ .lst xs)/\∀ ob u,z ≠ .cu ob u)(n:∀ a,a≠l->w a=none->w' a=none):∀ {q:Nat} {d:D} {v:V} {F:List Addr},Rep K H w o q d v F->gZ d=true->(∀ a∈F,w' a=some o')->Rep K H w' o' q d v F:=by
 intro q d v F r
 refine Rep.rec (motive_1:=fun q d v F _=>gZ d=true->(∀ a∈F,w' a=some o')->Rep K H w' o' q d v F) (motive_2:=fun q ds vs F _=>lj ds=true->(∀ a∈F,w' a=some o')->af K H w' o' q ds vs F) ?_ ?_ ?_ ?_ ?_ ?_ ?_ ?_ ?_ ?_ ?_ ?_ ?_ ?_ ?_ r
 ·intro q _ _;exact .aX
 ·intro q b _ _;exact .bl b
 ·intro q i _ _;exact .int i
 ·intro q x _ _;exact .str x
 ·intro q a vs ds h r ih hn _;exact .tup h (ih (by unfold gZ at hn;exact hn) nM)
 ·intro q a ks vs ds h e r ih hn _;cases hn
 ·intro q a nm ob u h x n hn _;cases hn
 ·intro q f c fo oc u u' vs ds h1 h2 x r ih hn _;cases hn
 ·intro a vs ds h r ih hn _;exact .kl h (ih (by unfold gZ at hn;exact hn) nM)
 ·intro a vs ds h e r ih hn _
  refine .shr h (n a (fun q=>?_) e) (ih (by unfold gZ at hn;exact hn) nM)
  subst q
  rcases h with h|⟨ob,h⟩
  ·rw[hl]at h;exact hz.1 _ (Qy h)
  ·rw[hl]at h;exact hz.2 _ _ (Qy h)
 ·intro q a vs ds F h e r ne ih hn k;exact .own h (k _ Qi) (ih (by unfold gZ at hn;exact hn) fun a m=>k a (Qg _ m)) ne
 ·intro a vs ds k x h i e l r ih hn _;cases hn
 ·intro q a vs ds k x h i e l r ih hn _;cases hn
 ·intro q _ _;exact .nil
 ·intro q d v ds vs F G r s ne oG oH hn k
  unfold lj at hn
  exact .cons (oG (QH.mp hn).1 fun a m=>k a (QM _ m)) (oH (QH.mp hn).2 fun a m=>k a (Qk _ m)) ne
def si:Nat->D->Bool
 | 0,d=>gZ d
 | _+1,.mp _ ds=>lj ds
 | _+1,d=>gZ d
theorem Rep.BY(hl:H l=some z)(hz:(∀ xs,z ≠ .lst xs)/\∀ ob u,z ≠ .cu ob u)(n:∀ a,a≠l->w a=none->w' a=none)(r:Rep K H w o q d v F)(hd:si q d=true)(k:∀ a∈F,w' a=some o'):Rep K H w' o' q d v F:=by
 cases q with
 | zero=>exact Rep.BX hl hz n r hd k
 | succ q=>
  cases d with
  | mp mk ds=>
   cases r with
   | gD h i e le rs=>
    refine .gD h i (k _ (Qt.mpr rfl)) le ?_
    have hd:lj ds=true:=hd
    have key:∀ {ds:List D} {vs:List V},lj ds=true->af K H w o 0 ds vs []->af K H w' o' 0 ds vs []:=by
     intro ds
     induction ds with
     | nil=>intro vs _ r;rw[r.pj];exact .nil
     | cons d ds ih=>
      intro vs hn r
      obtain⟨v,us,rfl,r1,s⟩:=r.split
      unfold lj at hn
      exact .qx (Rep.BX hl hz n r1 (QH.mp hn).1 nM) (ih (QH.mp hn).2 s)
    exact key hd rs
  | _=>exact Rep.BX hl hz n r hd k
theorem Gq{H':Hp}{t:Nat}{Fo:List Addr}(g:Good K ρ σ H w t)(hl:H l=some z)(hw:w l=some (.s i))(hz:(∀ xs,z ≠ .lst xs)/\(∀ ob u,z ≠ .cu ob u))(Tg:oF z=false)
  (go:Go H (fun a=>if a=l then none else(w a).map fun _=>Ow.f) H' w') (lX:WL K w' H') (r:Rep K H' w' (.t 0) q d v Fo) (hd:si q d=true) :
  Good K ρ σ H' (fun a=>if a∈Fo then some (.t t)else w a) (t+1)/\Go H w H' (fun a=>if a∈Fo then some (.t t)else w a)/\Rep K H' (fun a=>if a∈Fo then some (.t t)else w a) (.t t) q d v Fo:=by
 obtain⟨s1,s2⟩:=go.bB l z hl (Qe rfl)
 have gh:H' l=some z:=s1.eq Tg
 have kf:∀ a o,w a=some o->H' a=H a:=fun a o e=>by
  by_cases ha:a=l
  ·rw[ha,gh,hl]
  ·exact(go.keep a .f (by show(if a=l then none else(w a).map _)=_;rw[Qf ha,e];rfl) (fun _ z=>nomatch z)).1
 have kw:∀ a o,w a=some o->a≠l->w' a=some .f:=fun a o e ha=>(go.keep a .f (by show(if a=l then none else(w a).map _)=_;rw[Qf ha,e];rfl) (fun _ z=>nomatch z)).2
 have nf:∀ a x,H a=some x->a ∉ Fo:=fun a x e m=>by
  have h1:=r.az a m
  by_cases ha:a=l
  ·rw[ha,s2]at h1;cases h1
  ·cases ew:w a with
   | none=>
    have:=(go.bB a x e (by show(if a=l then none else(w a).map _)=_;rw[Qf ha,ew];rfl)).2
    rw[h1]at this;cases this
   | some o=>rw[kw a o ew ha]at h1;cases h1
 have nw:∀ a o,w a=some o->a ∉ Fo:=fun a o e=>by obtain⟨vs,q⟩:=g.wl a o e;exact nf a _ q
 have st:cL H w H' (fun a=>if a∈Fo then some (.t t)else w a):=fun a x e n=>by
  have ha:a≠l:=fun q=>by rw[q,hw]at n;cases n
  refine⟨(go.bB a x e (by show(if a=l then none else(w a).map _)=_;rw[Qf ha,n];rfl)).1,?_⟩
  show(if a∈Fo then _ else _)=_
  rw[Qf (nf a x e)];exact n
 have wv:∀ a o,(if a∈Fo then some (Ow.t t)else w a)=some o->(a∈Fo/\o=.t t)\/w a=some o:=fun a o e=>by
  split at e
  ·cases e;exact .inl ⟨by assumption,rfl⟩
  ·exact .inr e
 refine⟨⟨⟨fun a o e=>?_,lX.tb⟩,fun a i e=>?_,fun a i e=>?_,g.len,fun i d q e=>?_⟩,⟨st,fun a o e _=>⟨kf a o e,by show(if a∈Fo then _ else _)=_;rw[Qf (nw a o e)];exact e⟩⟩,?_⟩
 ·rcases wv a o e with⟨m,_⟩|z
  ·exact lX a _ (r.az a m)
  ·obtain⟨vs,h⟩:=g.wl a o z
   exact⟨vs,(kf a o z).trans h⟩
 ·rcases wv a _ e with⟨_,z⟩|z
  ·cases z
  ·exact g.ws a i z
 ·rcases wv a _ e with⟨_,z⟩|z
  ·cases z;exact Q1 _
  ·exact Q6 (g.wt a i z)
 ·obtain⟨v,F,h1,h2⟩:=g.slot i d q e
  refine⟨v,F,h1,Rep.go g.wl st h2 fun a m=>⟨kf a _ (h2.az a m),?_⟩⟩
  show(if a∈Fo then _ else _)=_
  rw[Qf (nw a _ (h2.az a m))]
  exact h2.az a m
 ·refine Rep.BY gh hz (fun a ha n=>?_) r hd fun a m=>Qe m
  show(if a∈Fo then _ else _)=_
  rw[Qf (fun m=>by have:=r.az a m;rw[n]at this;cases this)]
  cases ew:w a with
  | none=>rfl
  | some o=>have:=kw a o ew ha;rw[n]at this;cases this
def BZ (F:List D->OD)(i:Nat)(f0 f2:aw):aw:=fun ρ=>match f0 ρ with
 | some (d0,_,yB)=>if fY yB[i]? = true then match f2 yB with
  | some (d2,_,ρ2)=>match ρ2[i]? with
   | some (some (.mp k ds,1))=>match F [d0,.mp k ds,d2]with
    | some (r,q)=>if si q r=true then some (r,q,ρ2)else none
    | none=>none
   | _=>none
  | none=>none
  else none
 | none=>none
section
variable {X:Cx}{a b c e:Expr}{fa fb fc f:aw}{p p1 p2 pos pos' ay apos:Pos}{x y:Str}{i j:Nat}
theorem MK.Gr{a:Addr}{k:MK}(h:k.Is K a vs z):(∀ xs,z ≠ .lst xs)/\∀ ob u,z ≠ .cu ob u:=by
 cases k with
 | t ks=>cases h;exact⟨(fun _ z=>nomatch z),(fun _ _ z=>nomatch z)⟩
 | k ks=>cases h;exact⟨(fun _ z=>nomatch z),(fun _ _ z=>nomatch z)⟩
 | i C fs p=>obtain⟨_,dx,_,rfl,_⟩:=h;exact⟨(fun _ z=>nomatch z),(fun _ _ z=>nomatch z)⟩
theorem Th{j k:Nat}{F:List D->OD}(C:ah X.prog X.w X.K X.mg X.base k x 3 F)(hr:aF j X.A)(hk:k<=j)(ha:QD X a fa)(hv:QE X (.Name y p1) (fP i))(hc:QD X c fc)(hg:Gl X x:=by rfl)(iP:(x==("__debug__":Str))=false:=by decide)(s0:starEach [a,.Name y p1,c] X.env=(false,eval a X.env)::starEach [.Name y p1,c] X.env:=by rfl)(s1:starEach [.Name y p1,c] X.env=(false,eval (.Name y p1) X.env)::starEach [c] X.env:=by rfl)(s2:starEach [c] X.env=(false,eval c X.env)::starEach [] X.env:=by rfl)(bT:(backTo pos (starEach [.Name y p1,c] X.env)).any (·.1)=false:=by rfl):QD X (.Call (.Name x p) [a,.Name y p1,c] [] pos) (BZ F i fa fc):=⟨have ha:=ha.o;have hv:=hv.o;have hc:=hc.o;by
 obtain⟨fn,fd,ps,G,hm,u9,hb⟩:=C
 refine PE.imp (Ej G (hr.mono hk) hg hm u9 hb .nil tu (mB ha (mB hv (mB hc pV s2) s1) s0) iP s0 bT) fun σ H Q ak=>?_
 obtain⟨ρ,w,t,r',q,ρ',gd,ee,kk⟩:=ak
 unfold BZ at ee
 split at ee
 next d0 q0 yB h0=>
  split at ee
  next hd=>
   split at ee
   next d2 q2 ρ2 h2=>
    split at ee
    next k0 ds e1=>
     split at ee
     next r q1 hF=>
      split at ee
      next aA=>
       cases ee
       refine⟨ρ,w,t,_,_,_,gd,h0,fun v0 H1 w1 F1 g1 aK r1=>?_⟩
       have nX:=g1.drop (t':=t)
       obtain⟨l,cZ,_⟩:=nX.fY hd
       refine⟨_,cZ,yB,bG t w1,t,_,_,_,nX,h2,fun v2 H2 w2 F2 g2 br r2=>?_⟩
       have gg:=g2.drop (t':=t)
       have vG:=br.drop nX.wt
       have r0:Rep X.K H2 (bG t w2) .f 0 d0 v0 []:=Rep.go nX.wl vG.bB (r1.drop (o:=.f) (Qd t)) nM
       have Ti:=r2.drop (o:=.f) (t':=t) (Qd t)
       obtain⟨v,Fs,t1,t2⟩:=gg.slot i _ _ e1
       cases t2 with
       | @gD _ l' vs _ _ z hH dm hw hlen rs=>
        rw[cZ]at t1
        cases t1
        have fr:∀ a,bG t w2 a=none->(fun a=>if a=l then none else(bG t w2 a).map fun _=>Ow.f) a=none:=fun a n=>by
         show(if a=l then none else(bG t w2 a).map _)=_
         split
         ·rfl
         ·rw[n];rfl
        refine⟨rfl,[d0,.mp k0 ds,d2],fun a=>if a=l then none else(bG t w2 a).map fun _=>Ow.f,r',q,fun a o e=>?_,⟨fun a o e=>?_,gg.wl.tb⟩,?_,hF,fun v H3 w3 Fo eV vy rr=>?_⟩
        ·have e:(if a=l then none else(bG t w2 a).map fun _=>Ow.f)=some o:=e
         split at e
         ·cases e
         ·cases ew:bG t w2 a with
          | none=>rw[ew]at e;cases e
          | some o'=>rw[ew]at e;cases e;rfl
        ·have e:(if a=l then none else(bG t w2 a).map fun _=>Ow.f)=some o:=e
         split at e
         ·cases e
         ·cases ew:bG t w2 a with
          | none=>rw[ew]at e;cases e
          | some o'=>exact gg.wl a o' ew
        ·refine .qx (Rep.freeze fr r0 nM) (.qx (.mO hH dm (Qe rfl) hlen (af.freeze fr rs nM)) (.qx (Rep.freeze fr Ti nM) .nil))
        ·obtain⟨b1,b2,b3⟩:=Gq gg hH hw (MK.Gr dm) (MK.yy dm) eV vy rr aA
         exact kk _ _ _ _ b1 (((aK.drop gd.wt).trans vG).trans b2) b3
      ·cases ee
     ·cases ee
    ·cases ee
   ·cases ee
  ·cases ee
 ·cases ee⟩
end
def ng (fs:List Str)(f:Str):List Str:=if f∈fs then fs else fs++[f]
def kR {β:Type}(fs:List Str)(ds:List β)(f:Str)(d:β):List β:=if f∈fs then iX fs ds f d else ds++[d]
theorem B0:∀ {fs:List Str} {vs:List V} {f:Str},(fs.zip vs).lookup f=vL fs vs f
 | [],vs,f=>by simp[vL]
 | g::fs,[],f=>by simp[vL]
 | g::fs,v::vs,f=>by
  show List.lookup f ((g,v)::fs.zip vs)=(if g=f then some v else vL fs vs f)
  rw[QO]
  by_cases h:g=f
  ·subst h;rw[Qe rfl,Zs]
  ·rw[Qf h,beq_false_of_ne (fun z=>h z.symm)]
   exact B0
theorem B1{β:Type}:∀ {fs:List Str} {ds:List β} {f:Str} {d:β},vL fs ds f=some d->f∈fs
 | [],ds,f,d,h=>by simp[vL]at h
 | g::fs,[],f,d,h=>by simp[vL]at h
 | g::fs,x::ds,f,d,h=>by
  have h:(if g=f then some x else vL fs ds f)=some d:=h
  by_cases e:g=f
  ·rw[e];exact Qi
  ·rw[Qf e]at h;exact Qg _ (B1 h)
theorem Gs{β:Type}{u:β}:∀ {fs:List Str} {vs:List β},fs.length=vs.length->f ∉ fs->iX fs vs f u=vs
 | [],[],_,_=>rfl
 | g::fs,v::vs,hl,h=>by
  show(if g=f then u else v)::iX fs vs f u=v::vs
  rw[Qf (fun z:g=f=>h (by rw[z];exact Qi)),Gs (by simpa using hl) (fun z=>h (Qg _ z))]
theorem Gu:∀ {fs:List Str} {vs:List V},fs.Nodup->fs.length=vs.length->iN f u (fs.zip vs)=(ng fs f).zip (kR fs vs f u)
 | [],[],_,_=>by simp[iN,ng,kR]
 | g::fs,v::vs,nd,hl=>by
  have Gv:=Zo.mp nd
  have gh:fs.length=vs.length:=by simpa using hl
  show(if g=f then(g,u)::fs.zip vs else(g,v)::iN f u (fs.zip vs))=_
  by_cases h:g=f
  ·subst h
   rw[Qe rfl]
   unfold ng kR
   rw[Qe Qi,Qe Qi]
   show _=(g::fs).zip ((if g=g then u else v)::iX fs vs g u)
   rw[Qe rfl,Gs gh Gv.1]
   rfl
  ·rw[Qf h,Gu Gv.2 gh]
   unfold ng kR
   by_cases hm:f∈fs
   ·rw[Qe hm,Qe hm,Qe (Qg _ hm),Qe (Qg _ hm)]
    show _=(g::fs).zip ((if g=f then u else v)::iX fs vs f u)
    rw[Qf h]
    rfl
   ·have nV:f ∉ g::fs:=fun z=>(Qn.mp z).elim (fun e=>h e.symm) hm
    rw[Qf hm,Qf hm,Qf nV,Qf nV]
    rfl
theorem Tj{β γ:Type}{fs:List Str}{ds:List β}{d:β}(hl:fs.length=ds.length):(ng fs f).length=(kR fs ds f d).length:=by
 unfold ng kR
 by_cases h:f∈fs
 ·rw[Qe h,Qe h,vB _ _ hl,hl]
 ·rw[Qf h,Qf h,Qh,Qh,hl]
  rfl
def iZ (i:Nat)(f:Str):aw:=fun ρ=>match ρ[i]? with
 | some (some (.mp (.i _ fs _) ds,_))=>match vL fs ds f with
  | some d=>some (d,cj d,ρ)
  | none=>none
 | _=>none
def kS (nm:Str)(i:Nat)(f:Str)(fe:aw):av:=fun ρ=>match fe ρ with
 | some (d,_,ρ1)=>match ρ1[i]? with
  | some (some (.mp (.i j4 fs p) ds,1))=>if j4=nm/\fs.Nodup/\ds.length<999 then some (.nx (ρ1.set i (some (.mp (.i nm (ng fs f) p) (kR fs ds f d),1))))else none
  | _=>none
 | none=>none
def ku (K:PySem.W.Frag)(nm f:Str):Prop:=∀ C,nsIn K mainGlobals nm=some (some (.ref C))->pU K C f
section
variable {X:Cx}{a b c e:Expr}{fa fb fc f:aw}{p p1 p2 pos pos' ay apos:Pos}{x g nm:Str}{i j:Nat}
theorem lD(h:QE X (.Name x p1) (fP i))(hb:attributeBase (.Name x p1) g X.env (eval (.Name x p1) X.env)=eval (.Name x p1) X.env:=by rfl):QD X (.Attribute (.Name x p1) g pos) (iZ i g):=⟨have h:=h.o;PE.imp (Mq h hb) fun σ H Q ak=>by
 obtain⟨ρ,w,t,r',q,ρ',gd,ee,kk⟩:=ak
 unfold iZ at ee
 split at ee
 next nm fs pn ds q1 e1=>
  split at ee
  next d hg=>
   cases ee
   obtain⟨l,vs,z,cZ,hH,dm,_,rs⟩:=gd.jA e1
   obtain⟨C,dx,_,rfl,ic,na,_⟩:=dm
   obtain⟨v,hv,rd⟩:=(vD g rs).1 _ hg
   exact⟨_,cZ,l,C,dx,_,v,rfl,hH,ic.cl,na g (B1 hg),by rw[B0];exact hv,kk _ H w [] gd.up Go.refl (rd.any gd.wl).jj⟩
  ·cases ee
 ·cases ee⟩
theorem nY(hn:ku X.K nm g)(h:QE X (.Name x p1) (fP i))(hv:QD X e f)(hs:swapsWith e (some (.Attribute (.Name x p1) g pos')) pos.line X.env=pure false:=by rfl):km X (.Assign [.Attribute (.Name x p1) g pos'] e pos) (kS nm i g f):=⟨have h:=h.o;have hv:=hv.o;PS.imp (Mr h hv hs) fun Dn σ H ak=>by
 obtain⟨ρ,w,o,gd,ee,kk⟩:=ak
 unfold kS at ee
 split at ee
 next d q0 ρ1 h0=>
  split at ee
  next j4 fs pn ds e1=>
   split at ee
   next hh=>
    obtain⟨rfl,nd,jv⟩:=hh
    cases ee
    refine⟨ρ,w,0,_,_,_,gd,h0,fun u H1 w1 F1 g1 aK r1=>?_⟩
    have gg:=g1.drop (t':=0)
    obtain⟨l,vs,z,cZ,hH,dm,hl,rs,mk⟩:=gg.pq e1
    have rv:=r1.drop (o:=.f) (t':=0) (Qd 0)
    obtain⟨C,dx,jm,rfl,ic,na,Gw⟩:=dm
    have hl:fs.length=ds.length:=hl
    have lv:=rs.length
    have Tn:fs.length=vs.length:=by omega
    have jY:af X.K H1 (bG 0 w1) .f 0 (kR fs ds g d) (kR fs vs g u) []:=by
     unfold kR
     split
     ·exact vE g rv rs
     ·exact af.snoc (F:=[]) (G:=[]) rv rs nM
    obtain⟨m1,m2⟩:=mk (.i j4 (ng fs g) pn) (kR fs ds g d) (kR fs vs g u) (.ins C dx ((ng fs g).zip (kR fs vs g u))) ⟨C,dx,jm,rfl,ic,fun y hy=>by
     unfold ng at hy
     split at hy
     ·exact na y hy
     ·rcases QR.mp hy with z|z
      ·exact na y z
      ·rw[Qt.mp z];exact hn C jm,Gw⟩ (Tj (γ:=Unit) hl) jY
    refine⟨_,cZ,l,C,dx,fs.zip vs,rfl,hH,ic.cl,hn C jm,by rw[ZC];omega,?_⟩
    rw[Gu nd Tn]
    exact kk σ _ _ rfl m1 ((aK.drop gd.wt).trans m2)
   ·cases ee
  ·cases ee
 ·cases ee⟩
end
def gK (l:Addr)(w:Wn):Wn:=fun a=>if a=l then some (.s 0)else(w a).map fun _=>Ow.f
theorem Gx:gK l w l=some (.s 0):=Qe rfl
theorem Gy(h:w a=some o)(n:a≠l):gK l w a=some .f:=by unfold gK;rw[Qf n,h];rfl
theorem yC(h:w a=none)(n:a≠l):gK l w a=none:=by unfold gK;rw[Qf n,h];rfl
theorem B2(h:gK l w a=some o):(a=l/\o=.s 0)\/(a≠l/\o=.f/\∃ o',w a=some o'):=by
 unfold gK at h
 split at h
 ·rename_i e;cases h;exact .inl ⟨e,rfl⟩
 next e=>
  cases ew:w a with
  | none=>rw[ew]at h;cases h
  | some o'=>rw[ew]at h;cases h;exact .inr ⟨e,rfl,o',rfl⟩
def yD (K:PySem.W.Frag)(n:Nat)(F:D->List D->Option D):Sp:=fun vs H Q _=>vs.length=n/\∃ l us nm fs fW ds w dh ba,vs=.ref l::us /\
 (∀ a o,w a=some o->(a=l/\o=.s 0)\/(a≠l/\o=.f))/\WL K w H/\Rep K H w (.s 0) 1 (.mp (.i nm fs (some l)) fW) (.ref l) [l]/\af K H w .f 0 ds us [] /\
 F (.mp (.i nm fs (some l)) fW) ds=some (.mp (.i nm dh (some l)) ba) /\
 ∀ H' w',Go H w H' w'->WL K w' H'->Rep K H' w' (.s 0) 1 (.mp (.i nm dh (some l)) ba) (.ref l) [l]->Q .aX H'
@[simp] def vH (n:Nat)(d:D)(ds:List D):aU:=some (d,1)::(ds.map (fun d=>some (d,cj d))++List.replicate (n-(ds.length+1)) none)
def lE (n:Nat)(body:av):D->List D->Option D:=fun d ds=>match body (vH n d ds)with
 | some (.nx ρ)=>match (ρ[0]?:Option (OD))with
  | some (some (.mp k ds,1))=>some (.mp k ds)
  | _=>none
 | _=>none
theorem To{us:List V}(hw:∀ a o,w a=some o->(a=l/\o=.s 0)\/(a≠l/\o=.f))(wl:WL K w H)(r0:Rep K H w (.s 0) 1 d (.ref l) [l])(r:af K H w .f 0 ds us []):Good K (vH N.length d ds) (L2.gX N (.ref l::us)) H w 0:=by
 refine⟨wl,(fun a i e=>by
  rcases hw a _ e with⟨_,z⟩|⟨_,z⟩
  ·cases z;unfold L2.gX;simp
  ·cases z),(fun a i e=>by
  rcases hw a _ e with⟨_,z⟩|⟨_,z⟩<;>cases z),?_,fun i d' q e=>?_⟩
 ·unfold vH L2.gX
  simp[r.length]
 ·unfold vH at e
  cases i with
  | zero=>
   cases e
   exact⟨_,_,by unfold L2.gX;rfl,r0⟩
  | succ i=>
   rw[JD]at e
   by_cases hi:i<ds.length
   ·rw[Qs (by simpa using hi),Qu]at e
    cases h:ds[i]? with
    | none=>rw[h]at e;cases e
    | some d1=>
     rw[h]at e
     cases e
     obtain⟨v,hv,rv⟩:=r.get h
     refine⟨v,[],?_,(rv.any wl:Rep K H w (.s (i+1)) 0 _ v []).jj⟩
     unfold L2.gX
     rw[QZ,List.cons_append,JD,Qs (by rw[QA,<- r.length];exact hi),Qu,hv]
     rfl
   ·rw[QN (by simpa using hi),Zk]at e
    split at e<;>cases e
theorem Tp{n:Nat}{Q:VK}{E:XK}(h:yD K n (lE N.length body) vs H Q E):uY K body { nx:=fun _ H'=>Q .aX H',rt:=Q } (L2.gX N vs) H:=by
 obtain⟨hn,l,us,nm,fs,fW,ds,w,dh,ba,rfl,hw,wl,r0,rs,e,k⟩:=h
 unfold lE at e
 split at e
 next ρ' h1=>
  split at e
  next k0 d0 e0=>
   cases e
   refine⟨_,w,_,To hw wl r0 rs,h1,fun aM H' w' _ g' fR=>k H' w' fR g'.wl ?_⟩
   obtain⟨v,F,_,r⟩:=g'.slot 0 _ _ e0
   cases r with
   | @gD _ a vs _ _ z hH dm ho hl jY=>
    have ha:a=l:=by
     obtain⟨_,_,_,_,_,_,hp⟩:=dm
     exact hp l rfl
    subst ha
    exact .gD hH dm ho hl jY
  ·cases e
 ·cases e
structure lF (K:PySem.W.Frag) (nm m qual:Str) (st:Stmt) (ps:List Str):Prop where
 ex:∃ C f fd,nsIn K mainGlobals nm=some (some (.ref C))/\jr K C m f/\kH K m qual st f fd/\jT K fd ps []
def jB (P:Program)(w:World)(K:PySem.W.Frag)(mg:Str->Option Value)(base:Heap)(k:Nat)(nm m:Str)(n:Nat)(F:D->List D->Option D):Prop:=
 ∃ C f fd ps,nsIn K mainGlobals nm=some (some (.ref C))/\jr K C m f/\bY P w K mg base cV k f fd ps (yD K n F)/\jT K fd ps []
def lG (P:Program)(w:World)(K:PySem.W.Frag)(mg:Str->Option Value)(base:Heap)(k:Nat)(nm m:Str)(n:Nat)(F:List D->OD):Prop:=
 ∃ C f fd ps,nsIn K mainGlobals nm=some (some (.ref C))/\jr K C m f/\bY P w K mg base cV k f fd ps (kJ K n F)/\jT K fd ps []
def pw (P:Program)(w:World)(K:PySem.W.Frag)(mg:Str->Option Value)(base:Heap)(k:Nat)(nm:Str)(n:Nat)(F:D->List D->Option D):Prop:=
 ∃ C f fd ps,nsIn K mainGlobals nm=some (some (.ref C))/\mg nm=some (.ref C)/\L2.Mk K C f/\hX K C/\bY P w K mg base cV k f fd ps (yD K n F)/\jT K fd ps []
theorem Gz{P:Program}{wd:World}{mg:Str->Option Value}{base:Heap}{x qual:Str}{st:Stmt}{f:Addr}{fd:FuncData}{ps:List Str}{k:Nat}(F:kH K x qual st f fd)(S:ae N ps (aJ st))
  (h:∀ (a_:Value) (A:Around) (outer:List Env) (s:Shared) (H:Hp) (E:XK),aF k (A.deeper (envOfC qual (aJ st) s.heap.objs.size f a_))->qf (fu cV P wd K mg base N qual (aJ st) f a_ A outer s H E).ft (gj st) body) :
  bY P wd K mg base cV (k+1) f fd ps (yD K ps.length (lE N.length body)):=
 F.ok S (fun vs H Q E h=>h.1) fun a_ A outer s H vs Q E hr gY=>⟨_,h a_ A outer s H E hr,Tp gY⟩
section
variable {P:Program}{w:World}{K:PySem.W.Frag}{mg:Str->Option Value}{base:Heap}{k:Nat}{x nm m qual:Str}{st:Stmt}{N ps:List Str}{body:av}
theorem jB.mk(a:lF K nm m qual st ps)(S:ae N ps (aJ st))
  (h:∀ (f:Addr) (a_:Value) (A:Around) (outer:List Env) (s:Shared) (H:Hp) (E:XK),aF k (A.deeper (envOfC qual (aJ st) s.heap.objs.size f a_))->qf (fu cV P w K mg base N qual (aJ st) f a_ A outer s H E).ft (gj st) body) :
  jB P w K mg base (k+1) nm m ps.length (lE N.length body):=by
 obtain⟨C,f,fd,hC,hm,F,b⟩:=a.ex
 exact⟨C,f,fd,ps,hC,hm,Gz F S (h f),b⟩
theorem lG.mk(a:lF K nm m qual st ps)(S:ae N ps (aJ st))
  (h:∀ (f:Addr) (a_:Value) (A:Around) (outer:List Env) (s:Shared) (H:Hp) (E:XK),aF k (A.deeper (envOfC qual (aJ st) s.heap.objs.size f a_))->qf (fu cV P w K mg base N qual (aJ st) f a_ A outer s H E).ft (gj st) body) :
  lG P w K mg base (k+1) nm m ps.length (bb N.length body):=by
 obtain⟨C,f,fd,hC,hm,F,b⟩:=a.ex
 exact⟨C,f,fd,ps,hC,hm,AO F S (h f),b⟩
theorem pw.mk(a:lF K nm "__init__" qual st ps)(hc:∀ C,nsIn K mainGlobals nm=some (some (.ref C))->mg nm=some (.ref C)/\makesIn K C=true/\keepIn K (.ref C)=true/\hX K C)(S:ae N ps (aJ st))
  (h:∀ (f:Addr) (a_:Value) (A:Around) (outer:List Env) (s:Shared) (H:Hp) (E:XK),aF k (A.deeper (envOfC qual (aJ st) s.heap.objs.size f a_))->qf (fu cV P w K mg base N qual (aJ st) f a_ A outer s H E).ft (gj st) body) :
  pw P w K mg base (k+1) nm ps.length (lE N.length body):=by
 obtain⟨C,f,fd,hC,hm,F,b⟩:=a.ex
 obtain⟨h1,h2,h3,h4⟩:=hc C hC
 exact⟨C,f,fd,ps,hC,h1,⟨h2,hm.at_,hm.fn,h3⟩,h4,Gz F S (h f),b⟩
end
def sj (F:D->List D->Option D)(nm:Str)(fs:List Str)(fW ds:List D):Option (List Str×List D):=
 open Classical in if h:∃ r:List Str×List D,∀ p,F (.mp (.i nm fs (some p)) fW) ds=some (.mp (.i nm r.1 (some p)) r.2)then some h.choose else none
theorem B3{F:D->List D->Option D}{nm:Str}{fs:List Str}{r:List Str×List D}(h:sj F nm fs fW ds=some r)(p:Addr):F (.mp (.i nm fs (some p)) fW) ds=some (.mp (.i nm r.1 (some p)) r.2):=by
 unfold sj at h
 split at h
 next e=>
  cases h
  exact e.choose_spec p
 ·cases h
theorem GA{F:D->List D->Option D}{nm:Str}{fs dh:List Str}(h:∀ p,F (.mp (.i nm fs (some p)) fW) ds=some (.mp (.i nm dh (some p)) ba)):sj F nm fs fW ds=some (dh,ba):=by
 have e:∃ r:List Str×List D,∀ p,F (.mp (.i nm fs (some p)) fW) ds=some (.mp (.i nm r.1 (some p)) r.2):=⟨(dh,ba),h⟩
 have hm:sj F nm fs fW ds=some e.choose:=by
  unfold sj
  rw[dif_pos e]
 have h2:=e.choose_spec 0
 rw[h 0]at h2
 rw[hm]
 generalize e.choose=r at h2 ⊢
 obtain⟨r1,r2⟩:=r
 injection h2 with h2
 injection h2 with h3 h4
 injection h3 with h5 h6
 subst h4
 subst h6
 rfl
theorem B4{t:Nat}{nm:Str}{fs:List Str}{p0:Option Addr}(g:Good K ρ σ H w t)(e:ρ[i]? = some (some (.mp (.i nm fs p0) fW,1))) :
  ∃ l C dx vs,σ[i]? = some (some (.ref l))/\H l=some (.ins C dx (fs.zip vs))/\nsIn K mainGlobals nm=some (some (.ref C))/\hX K C/\WL K (gK l w) H/\Rep K H (gK l w) (.s 0) 1 (.mp (.i nm fs (some l)) fW) (.ref l) [l] /\
  (∀ d v,Rep K H w .f 0 d v []->Rep K H (gK l w) .f 0 d v [])/\(∀ ds us,af K H w .f 0 ds us []->af K H (gK l w) .f 0 ds us []) /\
  ∀ dh ba H' w',Go H (gK l w) H' w'->WL K w' H'->Rep K H' w' (.s 0) 1 (.mp (.i nm dh (some l)) ba) (.ref l) [l]->
   Good K (ρ.set i (some (.mp (.i nm dh p0) ba,1))) σ H' w t/\Go H w H' w:=by
 obtain⟨v,F,h1,h2⟩:=g.slot i _ _ e
 cases h2 with
 | @gD _ l vs _ _ z hl dm hw hlen rs=>
  obtain⟨C,dx,jm,rfl,ic,na,hp⟩:=dm
  have vI:cL H w H (gK l w):=fun a x h n=>⟨sm h,yC n (fun z=>by rw[z,hw]at n;cases n)⟩
  refine⟨l,C,dx,vs,h1,hl,jm,ic,⟨fun a o ee=>?_,g.wl.tb⟩,.gD hl ⟨C,dx,jm,rfl,ic,na,fun d z=>Qy z⟩ Gx hlen (af.go g.wl vI rs nM),fun d v r=>Rep.go g.wl vI r nM,fun ds us r=>af.go g.wl vI r nM,fun dh ba H' w' go lX r'=>?_⟩
  ·rcases B2 ee with⟨rfl,_⟩|⟨_,_,o',ew⟩
   ·exact g.wl _ _ hw
   ·exact g.wl _ _ ew
  ·have kf:∀ a o,w a=some o->a≠l->H' a=H a/\w' a=some .f:=fun a o ea n=>go.keep a .f (Gy ea n) (fun _ z=>nomatch z)
   have nl:∀ a o,w a=some o->o ≠ .s i->a≠l:=fun a o ea n z=>by subst z;rw[hw]at ea;exact n (Qy ea).symm
   have st:cL H w H' w:=fun a x ea n=>⟨(go.bB a x ea (yC n (fun z=>by rw[z,hw]at n;cases n))).1,n⟩
   have lR:cL H' w' H' w:=fun a x ea n=>⟨sm ea,by
    cases ew:w a with
    | none=>rfl
    | some o=>
     by_cases vJ:a=l
     ·subst vJ
      have:=r'.az a (Qt.mpr rfl)
      rw[n]at this;cases this
     ·have:=(kf a o ew vJ).2
      rw[n]at this;cases this⟩
   have r'':=r'
   cases r' with
   | @gD _ _ d9 _ _ z' gh kr l_ fD jY=>
    refine⟨⟨⟨fun a o ea=>?_,lX.tb⟩,g.ws,g.wt,by rw[QL];exact g.len,fun j d' q' e'=>?_⟩,⟨st,fun a o ea n=>⟨(kf a o ea (nl a o ea (n i))).1,ea⟩⟩⟩
    ·by_cases vJ:a=l
     ·subst vJ;exact lX _ _ l_
     ·obtain⟨us,q⟩:=g.wl a o ea
      exact⟨us,(kf a o ea vJ).1.trans q⟩
    ·by_cases hj:i=j
     ·subst hj
      rw[QI (Qr.mp e).1]at e'
      cases e'
      obtain⟨C',B5,sk,rfl,B6,B7,_⟩:=kr
      exact⟨_,_,h1,.gD gh ⟨C',B5,sk,rfl,B6,B7,hp⟩ hw fD (af.go lX lR jY nM)⟩
     ·rw[QJ hj]at e'
      obtain⟨v',F',rQ,gq⟩:=g.slot j d' q' e'
      exact⟨v',F',rQ,Rep.go g.wl st gq fun a m=>⟨(kf a _ (gq.az a m) (nl a _ (gq.az a m) (fun z=>hj (by cases z;rfl)))).1,gq.az a m⟩⟩
theorem B8:∀ a o,gK l w a=some o->(a=l/\o=.s 0)\/(a≠l/\o=.f):=fun a o e=>by
 rcases B2 e with z|⟨z1,z2,_⟩
 ·exact .inl z
 ·exact .inr ⟨z1,z2⟩
@[simp] def yE (nm m:Str):Option (OD)->Bool
 | some (some (.mp (.i j4 fs _) _,1))=>decide (j4=nm) && !fs.contains m
 | _=>false
def nh (nm m:Str)(F:D->List D->Option D)(n i:Nat)(g:bQ):aw:=fun ρ=>if yE nm m ρ[i]? = true then match g ρ with
 | some (ds,ρ1)=>match ρ1[i]? with
  | some (some (.mp (.i j4 fs p0) fW,1))=>if j4=nm/\ds.length+1=n then match sj F nm fs fW ds with
   | some (dh,ba)=>some (.aX,9,ρ1.set i (some (.mp (.i nm dh p0) ba,1)))
   | none=>none
   else none
  | _=>none
 | none=>none
 else none
def tR (nm:Str)(F:D->List D->Option D)(n:Nat)(g:bQ):aw:=fun ρ=>match g ρ with
 | some (ds,ρ1)=>if ds.length+1=n then match sj F nm [] [] ds with
  | some (dh,ba)=>some (.mp (.i nm dh none) ba,1,ρ1)
  | none=>none
  else none
 | none=>none
def sr (nm m:Str)(F:List D->OD)(i:Nat):aw:=fun ρ=>match ρ[i]? with
 | some (some (.mp (.i j4 fs p) ds,1))=>if j4=nm/\fs.contains m=false then match F [.mp (.i nm fs p) ds]with
  | some (r,q)=>if si q r=true then some (r,q,ρ)else none
  | none=>none
  else none
 | _=>none
theorem B9{fs:List Str}{m:Str}(h:fs.contains m=false):(fs.zip vs).lookup m=none:=by
 rw[B0]
 cases e:vL fs vs m with
 | none=>rfl
 | some d=>
  have:=B1 e
  rw[List.contains_iff_mem.mpr this]at h
  cases h
section
variable {X:Cx}{a b c e:Expr}{es:List Expr}{fa fb fc f:aw}{g:bQ}{p p1 p2 pos pos' ay apos:Pos}{x y nm m:Str}{i j k n:Nat}
theorem GB{o:Option (OD)}(h:yE nm m o=true):∃ fs p ds,o=some (some (.mp (.i nm fs p) ds,1))/\fs.contains m=false:=by
 unfold yE at h
 split at h
 next j4 fs p ds=>
  obtain⟨h1,h2⟩:=QH.mp h
  cases JO h1
  exact⟨fs,p,ds,rfl,by simpa using h2⟩
 ·cases h
theorem GC{pl:Sem Bool}{F:D->List D->Option D}(Cm:jB X.prog X.w X.K X.mg X.base k nm m n F)(hr:aF j X.A)(hk:k<=j)(h:QE X (.Name x p1) (fP i))(ha:fU X (e::es) g)(k8:starEach (e::es) X.env=(false,eval e X.env)::starEach es X.env:=by rfl)(bT:(backTo pos (starEach es X.env)).any (·.1)=false:=by rfl)(ht:eval (.Call (.Attribute (.Name x p1) m apos) (e::es) [] pos) X.env=(do
   let ov <- eval (.Name x p1) X.env
   standAt apos.atName
   let (f,first) <- holding [ov] (getMethod ov m pl)
   callWith pos f first (backTo pos (starEach (e::es) X.env)) (backToKw pos (keywordEach [] X.env))):=by rfl):QD X (.Call (.Attribute (.Name x p1) m apos) (e::es) [] pos) (nh nm m F n i g):=⟨have h:=h.o;have ha:=ha.o;by
 obtain⟨C,f,fd,ps,hC,hm,G,hb⟩:=Cm
 intro pins s σ H Q I ak
 have hh:=ak
 obtain⟨ρ,w,t,r',q,ρ',gd,ee,kk⟩:=ak
 unfold nh at ee
 split at ee
 next B_=>
  split at ee
  next ds ρ1 h1=>
   split at ee
   next j4 fs p0 fW e1=>
    split at ee
    next hn=>
     obtain⟨rfl,hn⟩:=hn
     split at ee
     next dh ba hM=>
      cases ee
      obtain⟨Tq,Tr,Ts,e0,hc⟩:=GB B_
      obtain⟨l0,C0,Ca,Af,s0,vg,ni,Cb,_⟩:=B4 gd e0
      rw[hC]at ni
      cases ni
      refine MC (E:=E0) (dvs:=[]) (pl:=pl) h Cb.cl hm G (hr.mono hk) hb .nil tu ha k8 bT ht pins s σ H Q I ?_
      refine⟨_,s0,l0,Ca,_,rfl,vg,B9 hc,ρ,w,t,ds,ρ1,gd,h1,fun vs H1 w1 g1 aK r1=>?_⟩
      obtain⟨l,C1,dx,vs1,s1,hH1,Tt,ic1,Cc,rl,rep,pz,nR⟩:=B4 g1 e1
      rw[s0]at s1
      cases s1
      rw[Zj]
      refine⟨by rw[Qz,<- r1.length,hn],l0,vs,j4,fs,fW,ds,gK l0 w1,dh,ba,rfl,B8,Cc,rl,pz _ _ r1,B3 hM l0,fun H2 w2 br lg r2=>?_⟩
      obtain⟨g2,eV⟩:=nR dh ba H2 w2 br lg r2
      exact kk .aX H2 w1 [] g2.up (aK.trans eV) .aX
     ·cases ee
    ·cases ee
   ·cases ee
  ·cases ee
 ·cases ee⟩
theorem GD{F:D->List D->Option D}(Cm:jB X.prog X.w X.K X.mg X.base k nm m 1 F)(hr:aF j X.A)(hk:k<=j)(h:QE X (.Name x p1) (fP i))(ht:eval (.Call (.Attribute (.Name x p1) m apos) [] [] pos) X.env=(do
   let ov <- eval (.Name x p1) X.env
   standAt apos.atName
   let (f,first) <- holding [ov] (getMethod ov m pl)
   callWith pos f first (backTo pos (starEach [] X.env)) (backToKw pos (keywordEach [] X.env))):=by rfl):QD X (.Call (.Attribute (.Name x p1) m apos) [] [] pos) (nh nm m F 1 i ag):=⟨have h:=h.o;by
 obtain⟨C,f,fd,ps,hC,hm,G,hb⟩:=Cm
 intro pins s σ H Q I ak
 have hh:=ak
 obtain⟨ρ,w,t,r',q,ρ',gd,ee,kk⟩:=ak
 unfold nh at ee
 split at ee
 next B_=>
  split at ee
  next ds ρ1 h1=>
   split at ee
   next j4 fs p0 fW e1=>
    split at ee
    next hn=>
     obtain⟨rfl,hn⟩:=hn
     split at ee
     next dh ba hM=>
      cases ee
      cases h1
      obtain⟨Tq,Tr,Ts,e0,hc⟩:=GB B_
      obtain⟨l,C0,Ca,Af,s0,vg,ni,Cb,Cc,rl,rep,pz,nR⟩:=B4 gd e1
      rw[e1]at e0
      cases e0
      rw[hC]at ni
      cases ni
      refine Ek (E:=E0) (dvs:=[]) (pl:=pl) h Cb.cl hm G (hr.mono hk) hb .nil tu ht pins s σ H Q I ?_
      refine⟨_,s0,l,Ca,_,rfl,vg,B9 hc,rfl,l,[],j4,fs,fW,[],gK l w,dh,ba,rfl,B8,Cc,rl,.nil,B3 hM l,fun H2 w2 br lg r2=>?_⟩
      obtain⟨g2,eV⟩:=nR dh ba H2 w2 br lg r2
      exact kk .aX H2 w [] g2.up eV .aX
     ·cases ee
    ·cases ee
   ·cases ee
  ·cases ee
 ·cases ee⟩
end
section
variable {K:PySem.W.Frag}{σ:St}{ρ:aU}{t:Nat}
theorem Tu{x dx:Addr}{nm:Str}(g1:Good K ρ σ H1 w1 t)(jm:nsIn K mainGlobals nm=some (some (.ref C)))(ic:hX K C)(hx:H1 x=none)(yF:H1 dx=none)(ne:dx≠x) :
  WL K (gK x w1) (upd (upd H1 dx (.own x)) x (.ins C dx []))/\Rep K (upd (upd H1 dx (.own x)) x (.ins C dx [])) (gK x w1) (.s 0) 1 (.mp (.i nm [] (some x)) []) (.ref x) [x] /\
  (∀ ds us,af K H1 w1 .f 0 ds us []->af K (upd (upd H1 dx (.own x)) x (.ins C dx [])) (gK x w1) .f 0 ds us []) /\
  ∀ dh ba H2 w2,Go (upd (upd H1 dx (.own x)) x (.ins C dx [])) (gK x w1) H2 w2->WL K w2 H2->Rep K H2 w2 (.s 0) 1 (.mp (.i nm dh (some x)) ba) (.ref x) [x]->
   Good K ρ σ H2 (iR x (.t t) w1) (t+1)/\Go H1 w1 H2 (iR x (.t t) w1)/\Rep K H2 (iR x (.t t) w1) (.t t) 1 (.mp (.i nm dh none) ba) (.ref x) [x]:=by
 have nx:∀ a y,H1 a=some y->a≠x/\a≠dx:=fun a y e=>⟨eQ e hx,eQ e yF⟩
 have up:∀ a y,H1 a=some y->upd (upd H1 dx (.own x)) x (.ins C dx []) a=some y:=fun a y e=>by rw[aR (nx a y e).1,aR (nx a y e).2];exact e
 have nw:∀ a o,w1 a=some o->a≠x:=fun a o e=>by obtain⟨vs,q⟩:=g1.wl a o e;exact(nx a _ q).1
 have Cd:WL K (gK x w1) (upd (upd H1 dx (.own x)) x (.ins C dx [])):=⟨fun a o e=>by
  rcases B2 e with⟨rfl,_⟩|⟨_,_,o',ew⟩
  ·exact⟨.i C dx [],de⟩
  ·obtain⟨vs,q⟩:=g1.wl a o' ew
   exact⟨vs,up a _ q⟩,(g1.wl.tb.upd (p:=dx) (x:=.own x) rfl (.inl yF)).upd rfl (.inl (by rw[aR (Jb ne)];exact hx))⟩
 have vI:cL H1 w1 (upd (upd H1 dx (.own x)) x (.ins C dx [])) (gK x w1):=fun a y e n=>⟨sm (up a y e),yC n (nx a y e).1⟩
 refine⟨Cd,.gD de ⟨C,dx,jm,rfl,ic,(fun f z=>nomatch z),fun d z=>Qy z⟩ Gx rfl .nil,fun ds us r=>af.go g1.wl vI r nM,fun dh ba H2 w2 go lg r2=>?_⟩
 have kf:∀ a o,w1 a=some o->H2 a=H1 a/\w2 a=some .f:=fun a o e=>by
  obtain⟨h1,h2⟩:=go.keep a .f (Gy e (nw a o e)) (fun _ z=>nomatch z)
  obtain⟨vs,q⟩:=g1.wl a o e
  exact⟨by rw[h1,up a _ q,q],h2⟩
 have st:cL H1 w1 H2 (iR x (.t t) w1):=fun a y e n=>⟨(go.bB a y (up a y e) (yC n (nx a y e).1)).1,by rw[fx (nx a y e).1];exact n⟩
 have lR:cL H2 w2 H2 (iR x (.t t) w1):=fun a y e n=>⟨sm e,by
  by_cases nj:a=x
  ·subst nj
   have:=r2.az a (Qt.mpr rfl)
   rw[n]at this;cases this
  ·rw[fx nj]
   cases ew:w1 a with
   | none=>rfl
   | some o=>
    have:=(kf a o ew).2
    rw[n]at this;cases this⟩
 cases r2 with
 | @gD _ _ d9 _ _ z' gh kr l_ fD jY=>
  refine⟨⟨⟨fun a o e=>?_,lg.tb⟩,fun a i e=>?_,fun a i e=>?_,g1.len,fun i d q e=>?_⟩,⟨st,fun a o e _=>⟨(kf a o e).1,(fx (nw a o e)).trans e⟩⟩,?_⟩
  ·by_cases nj:a=x
   ·subst nj;exact lg _ _ l_
   ·rw[fx nj]at e
    obtain⟨us,q⟩:=g1.wl a o e
    exact⟨us,(kf a o e).1.trans q⟩
  ·by_cases nj:a=x
   ·subst nj;rw[lV]at e;cases e
   ·rw[fx nj]at e;exact g1.ws a i e
  ·by_cases nj:a=x
   ·subst nj;rw[lV]at e;cases e;exact Q1 _
   ·rw[fx nj]at e;exact Q6 (g1.wt a i e)
  ·obtain⟨v',F',rQ,gq⟩:=g1.slot i d q e
   exact⟨v',F',rQ,Rep.go g1.wl st gq fun a m=>⟨(kf a _ (gq.az a m)).1,(fx (nw a _ (gq.az a m))).trans (gq.az a m)⟩⟩
  ·obtain⟨C',B5,sk,rfl,B6,B7,_⟩:=kr
   exact .gD gh ⟨C',B5,sk,rfl,B6,B7,fun d z=>nomatch z⟩ lV fD (af.go lg lR jY nM)
end
section
variable {X:Cx}{a b c e:Expr}{es:List Expr}{fa fb fc f:aw}{g:bQ}{p p1 p2 pos pos' ay apos:Pos}{x y nm m:Str}{i j k n:Nat}
theorem Tv{F:D->List D->Option D}(Cm:pw X.prog X.w X.K X.mg X.base k nm n F)(hr:aF j X.A)(hk:k+1<=j)(ha:fU X (e::es) g)(hg:Gl X nm:=by rfl)(iP:(nm==("__debug__":Str))=false:=by decide)(he:starEach (e::es) X.env=(false,eval e X.env)::starEach es X.env:=by rfl)(bT:(backTo pos (starEach es X.env)).any (·.1)=false:=by rfl):QD X (.Call (.Name nm p) (e::es) [] pos) (tR nm F n g):=⟨have ha:=ha.o;by
 obtain⟨C,f,fd,ps,hC,hmg,M,ic,G,hb⟩:=Cm
 refine PE.imp (ME M G (hr.mono hk) hg hmg hb .nil tu ha iP he bT) fun σ H Q ak=>?_
 obtain⟨ρ,w,t,r',q,ρ',gd,ee,kk⟩:=ak
 unfold tR at ee
 split at ee
 next ds ρ1 h1=>
  split at ee
  next hn=>
   split at ee
   next dh ba hM=>
    cases ee
    refine⟨ρ,w,t,ds,ρ',gd,h1,fun vs H1 w1 g1 aK r1=>fun x dx hx yF ne=>?_⟩
    obtain⟨Cd,r0,pz,nR⟩:=Tu g1 hC ic hx yF ne
    rw[Zj]
    refine⟨by rw[Qz,<- r1.length,hn],x,vs,nm,[],[],ds,gK x w1,dh,ba,rfl,B8,Cd,r0,pz _ _ r1,B3 hM x,fun H2 w2 br lg r2=>⟨rfl,?_⟩⟩
    obtain⟨b1,b2,b3⟩:=nR dh ba H2 w2 br lg r2
    exact kk _ _ _ _ b1 (aK.trans b2) b3
   ·cases ee
  ·cases ee
 ·cases ee⟩
theorem Ce{F:List D->OD}(Cm:lG X.prog X.w X.K X.mg X.base k nm m 1 F)(hr:aF j X.A)(hk:k<=j)(h:QE X (.Name x p1) (fP i))(ht:eval (.Call (.Attribute (.Name x p1) m apos) [] [] pos) X.env=(do
   let ov <- eval (.Name x p1) X.env
   standAt apos.atName
   let (f,first) <- holding [ov] (getMethod ov m pl)
   callWith pos f first (backTo pos (starEach [] X.env)) (backToKw pos (keywordEach [] X.env))):=by rfl):QD X (.Call (.Attribute (.Name x p1) m apos) [] [] pos) (sr nm m F i):=⟨have h:=h.o;by
 obtain⟨C,f,fd,ps,hC,hm,G,hb⟩:=Cm
 intro pins s σ H Q I ak
 obtain⟨ρ,w,t,r',q,ρ',gd,ee,kk⟩:=ak
 unfold sr at ee
 split at ee
 next j4 fs pn ds e1=>
  split at ee
  next hn=>
   obtain⟨rfl,hc⟩:=hn
   split at ee
   next r q1 hF=>
    split at ee
    next aA=>
     cases ee
     obtain⟨v,Fs,t1,t2⟩:=gd.slot i _ _ e1
     cases t2 with
     | @gD _ l vs _ _ z hH dm hw hlen rs=>
      obtain⟨C0,dx,jm,rfl,ic,na,Gw⟩:=id dm
      rw[hC]at jm
      cases jm
      refine Ek (E:=E0) (dvs:=[]) (pl:=pl) h ic.cl hm G (hr.mono hk) hb .nil tu ht pins s σ H Q I ?_
      have fr:∀ a,w a=none->(fun a=>if a=l then none else(w a).map fun _=>Ow.f) a=none:=fun a n=>by
       show(if a=l then none else(w a).map _)=_
       split
       ·rfl
       ·rw[n];rfl
      refine⟨_,t1,l,dx,_,rfl,hH,B9 hc,rfl,[.mp (.i j4 fs pn) ds],fun a=>if a=l then none else(w a).map fun _=>Ow.f,r',q,fun a o e=>?_,⟨fun a o e=>?_,gd.wl.tb⟩,?_,hF,fun v H3 w3 Fo eV vy rr=>?_⟩
      ·have e:(if a=l then none else(w a).map fun _=>Ow.f)=some o:=e
       split at e
       ·cases e
       ·cases ew:w a with
        | none=>rw[ew]at e;cases e
        | some o'=>rw[ew]at e;cases e;rfl
      ·have e:(if a=l then none else(w a).map fun _=>Ow.f)=some o:=e
       split at e
       ·cases e
       ·cases ew:w a with
        | none=>rw[ew]at e;cases e
        | some o'=>exact gd.wl a o' ew
      ·exact .qx (.mO hH dm (Qe rfl) hlen (af.freeze fr rs nM)) .nil
      ·obtain⟨b1,b2,b3⟩:=Gq gd hH hw (MK.Gr dm) (MK.yy dm) eV vy rr aA
       exact kk _ _ _ _ b1 b2 b3
    ·cases ee
   ·cases ee
  ·cases ee
 ·cases ee⟩
end
section
variable {X:Cx}{e:Expr}{f:aw}{p1 p2 pos pos':Pos}{x y:Str}{i j:Nat}
theorem vK{T:String}(h:mroIn K C (.type T)=some false)(m:kitMeta T=true):kitOne K (.ref C) (.type T)=some false:=by
 have s:subIn K (.ref C) (.type T)=some false:=h
 unfold kitOne
 rw[Qf (by intro z;exact absurd z (by simp))]
 show(if kitMeta T=true then subIn K (.ref C) (.type T)else none)=_
 rw[Qe m,s]
theorem hX.Tw(h0:mroIn K C (.type "bool")=some false)(h1:mroIn K C (.type "int")=some false)(h2:mroIn K C (.type "tuple")=some false)(h3:mroIn K C (.type "list")=some false)(h4:mroIn K C (.type "str")=some false) :
  ∀ t∈(["bool","int","tuple","list","str"]:List String),kitOne K (.ref C) (.type t)=some false:=fun t ht=>by
 simp only[Qn,QG,or_false]at ht
 rcases ht with rfl|rfl|rfl|rfl|rfl
 ·exact vK h0 (by kernel_rfl)
 ·exact vK h1 (by kernel_rfl)
 ·exact vK h2 (by kernel_rfl)
 ·exact vK h3 (by kernel_rfl)
 ·exact vK h4 (by kernel_rfl)
theorem ku.of{nm f:Str}(n:nsIn K mainGlobals nm=some (some (.ref C)))(h:findIn K (.ref C) f=some none):ku K nm f:=fun C' e=>by
 rw[n]at e
 cases e
 exact h
end
theorem Tx(t:Tok)(l:Addr)(us:Array Value)(n:Nat)(dd:Option Addr)(sl:Array (Option Value))(h3:¬ (us.isEmpty||(0:Int)==1)=true) :
  Meets (Builtin.«tuple.__mul__» ⟨[.ref l,.int 0 t],[]⟩) (fun _ R s=>s.heap.get? l=some { cls:=.type "tuple",dict:=dd,data:=.seq us n,slots:=sl }/\R (.ok (.ret (.ref s.heap.objs.size))) { s with heap:=s.heap.push { cls:=.type "tuple",data:=.seq #[] } }):=.of_wp fun prog w A R s h=>by
 obtain⟨hp,g,d,tk,os⟩:=s
 obtain⟨hl,h⟩:=h
 have f1:=YG
 wp_walk using wpAny_loadPart' hl
 rw[Qf h3]
 wp_walk using wpAny_loadPart' hl
 exact⟨_,rfl,h⟩
section
variable {X:Cx}{a b c e:Expr}{fa fb fc f:aw}{pos:Pos}
theorem Tz:b_ X (binaryOp .Mult) (fun x y H Q=>∃ a xs,x=.ref a/\y=.int 0/\cE X.K H a xs/\xs ≠ []/\∀ p,H p=none->Q (.ref p) (upd H p (.tup []))):=by
 intro pins s σ H x y v u Q I rx ry h
 obtain⟨l,xs,rfl,rfl,hq,cR,q2⟩:=h
 cases rx
 obtain⟨t,rfl⟩:=ry
 obtain⟨au,r,pt,_⟩:=I.tuple hq
 obtain⟨⟨c1,d1,a1,s1⟩,e,l7,n1,qp⟩:=id pt
 simp only at l7 qp
 subst l7 qp
 have hl:=r.length
 have mY:0<au.length:=by rw[<- hl];exact Jp.mpr cR
 refine Jm (T:="tuple") (U:="int") (by decide) ⟨_,e,rfl⟩ (fun s'=>JT s' 0 t) FK YR Z9 FL YC.lookup
  (Jf Z9 (JT s 0 t) YD (Yr _ _) (FN 0 t l au.toArray n1 d1 s1) ⟨e,rfl,⟨_,e,rfl⟩,?_⟩)
 refine Jf Jk ⟨_,e,rfl⟩ Ys (Yl _ _) (Tx t l au.toArray n1 d1 s1 (by simp;exact Jn mY)) ⟨e,?_⟩
 refine⟨.ref s.heap.objs.size,_,I.laid (t':=s.toks) (o:=.tup []) (fun b ob q=>Qc _ q) (Qd _) ?_,rfl,q2 _ (I.aA.fresh (Qd _))⟩
 exact⟨qd (by simp),[],.nil,j7.new _ _⟩
def tS (fa fb:aw):aw:=fun ρ=>match fa ρ with
 | some (.tup ds,_,ρ1)=>match fb ρ1 with
  | some (.int n,_,ρ2)=>if ds.isEmpty=false/\0<=n/\ds.length*n.toNat<=1000 then some (.tup (List.replicate n.toNat ds).flatten,9,ρ2)else none
  | _=>none
 | _=>none
theorem TC(ha:QD X a fa)(hb:QD X b fb):QD X (.BinOp a .Mult b pos) (tS fa fb):=⟨have ha:=ha.o;have hb:=hb.o;PE.imp (nJ (b_.or FO Tz) ha hb) fun σ H Q ak=>by
 obtain⟨ρ,w,t,r',q,ρ',gd,ee,k⟩:=ak
 unfold tS at ee
 split at ee
 next ds q1 ρ1 h1=>
  split at ee
  next n q2 ρ2 h2=>
   split at ee
   next hl=>
    cases ee
    obtain⟨hd,hn,hz⟩:=hl
    refine oI gd h1 h2 fun u u' H2 w2 F1 F2 g2 go r1 r2=>?_
    have nW:=r1.drop (o:=.f) (Qd t)
    have gg:=g2.drop (t':=t)
    have l9:=go.drop gd.wt
    obtain⟨p1,vs,rfl,kO,s1⟩:=nW.eF
    have l1:=s1.length
    have GF:vs ≠ []:=fun z=>by
     subst z
     have:ds=[]:=Q2.mp l1
     subst this
     cases hd
    by_cases h0:n=0
    ·subst h0
     refine .inr ⟨p1,vs,rfl,dN r2,kO,GF,fun p hp=>?_⟩
     obtain⟨a1,a2,a3⟩:=oJ gg hp (.nil (q:=0) (K:=X.K) (H:=H2) (w:=bG t w2) (o:=.f))
     exact k _ _ _ _ a1 (l9.trans a2) a3
    ·refine .inl ⟨p1,n,vs,rfl,dN r2,kO,GF,by omega,by rw[<- l1];exact hz,fun z=>?_,fun _ p hp=>?_⟩
     ·subst z
      have e:(List.replicate (Int.toNat 1) ds).flatten=ds:=by show(List.replicate 1 ds).flatten=ds;simp
      rw[e]at k
      exact k _ H2 (bG t w2) [] gg.up l9 ((Rep.go gg.wl (fun a x e n=>⟨sm e,n⟩) nW nM:Rep X.K H2 (bG t w2) (.t t) 0 _ _ []).bV rfl |>.2 9)
     ·obtain⟨a1,a2,a3⟩:=oJ gg hp (s1.times n.toNat)
      exact k _ _ _ _ a1 (l9.trans a2) a3
   ·cases ee
  ·cases ee
 ·cases ee⟩
end
end L3
namespace L3
open PySem PySem.Spec PyProof.Rows L2
variable {K:PySem.W.Frag}{N ps:List Str}{P:Program}{X:Cx}{base:Heap}{body:av}{es:List Expr}{g:bQ}{mg:Str->Option Value}{st:Stmt}{w:World}{x:Str}
theorem qv(i:Nat){pos:Pos}(hN:X.N[i]? = some x:=by rfl)(hv:sY X.env.scope x:=by first|exact Or.inl rfl|exact Or.inr (Or.inl rfl)|exact Or.inr (Or.inr rfl))(hd:(x==("__debug__":Str))=false:=by decide)(g_:(x==("__classdict__":Str))=false:=by decide):QE X (.Name x pos) (fP i):=⟨pv i hN hv hd g_⟩
theorem ql(i:Nat){pos:Pos}(hN:X.N[i]? = some x)(hv:X.env.scope.names.lookup x=some .local)(hd:(x==("__debug__":Str))=false:=by decide)(g_:(x==("__classdict__":Str))=false:=by decide):QE X (.Name x pos) (fP i):=⟨pv i hN (.inl hv) hd g_⟩
theorem pA{e:Expr}{f:cD}(h:rH X e f):hZ X e f:=⟨PW.pt h.o⟩
theorem aI(i:Nat){pos:Pos}(hN:X.N[i]? = some x)(hv:X.env.scope.names.lookup x=some .local)(hd:(x==("__debug__":Str))=false:=by decide)(g_:(x==("__classdict__":Str))=false:=by decide):QD X (.Name x pos) (ab i):=aY (ql i hN hv hd g_)
theorem aq(i:Nat){pos:Pos}(hN:X.N[i]? = some x)(hv:X.env.scope.names.lookup x=some .local)(hr:fU X es g)(hd:(x==("__debug__":Str))=false:=by decide)(g_:(x==("__classdict__":Str))=false:=by decide):fU X (.Name x pos::es) (aa (ab i) g):=ao (aI i hN hv hd g_) hr bC
theorem bR{i:Int}{j:Nat}{pos:Pos}(hr:fU X es g):fU X (.Constant (.int i) j pos::es) (aa (eC (.int i)) g):=ao bc hr qj
theorem ah.bw{k:Nat}(a:At K mg x st ps)(S:ae N ps (aJ st))
  (h:∀ (f:Addr) (a_:Value) (A:Around) (outer:List Env) (s:Shared) (H:Hp) (E:XK),aF k (A.deeper (envOfC x (aJ st) s.heap.objs.size f a_))->eG (fu cV P w K mg base N x (aJ st) f a_ A outer s H E).ft (gj st) body) :
  ah P w K mg base (k+1) x ps.length (bb N.length body):=ah.mk a S fun f a_ A outer s H E hr=>(h f a_ A outer s H E hr).o
theorem TF{k:Nat}{f:Addr}{fd:FuncData}(F:kH K x x st f fd)(S:ae N ps (aJ st))
  (h:∀ (f:Addr) (a_:Value) (A:Around) (outer:List Env) (s:Shared) (H:Hp) (E:XK),aF k (A.deeper (envOfC x (aJ st) s.heap.objs.size f a_))->eG (fu cV P w K mg base N x (aJ st) f a_ A outer s H E).ft (gj st) body) :
  bY P w K mg base cV (k+1) f fd ps (kJ K ps.length (bb N.length body)):=PN F S fun f a_ A outer s H E hr=>(h f a_ A outer s H E hr).o
end L3
namespace L3
open PySem PySem.Spec PyProof.Rows PySem.W L2
variable {K:PySem.W.Frag}{P Pt c f:Addr}{X:Cx}{fd:FuncData}{mg:Str->Option Value}{oc:Value}{od:Option Addr}{ps:List Str}{q:Program}{sl:Array (Option Value)}{x:Str}
def tT (X:Cx):List Str->List Nat->Prop
 | [],[]=>True
 | z::zs,i::is=>X.N[i]? = some z/\X.env.scope.names.lookup z=some .cell/\tT X zs is
 | _,_=>False
theorem tT.len:∀ {zs:List Str} {is:List Nat},tT X zs is->is.length=zs.length
 | [],[],_=>rfl
 | _::_,_::_,h=>by simp[h.2.2.len]
theorem tT.at:∀ {zs:List Str} {is:List Nat},tT X zs is->∀ (j:Nat) (z:Str),zs[j]? = some z->∃ i,is[j]? = some i/\X.N[i]? = some z/\X.env.scope.names.lookup z=some .cell
 | [],[],_,_,_,e=>by simp at e
 | z::zs,i::is,h,0,_,e=>by simp at e;subst e;exact⟨i,rfl,h.1,h.2.1⟩
 | z::zs,i::is,h,j+1,y,e=>by
  obtain⟨i',a,b⟩:=h.2.2.at j y (by simpa using e)
  exact⟨i',by simpa using a,b⟩
section
variable {P:Program}{w:World}{K:PySem.W.Frag}{mg:Str->Option Value}{base:Heap}{N:List Str}{x:Str}{sc:Scope}{f c:Addr}{A:Around}{outer:List Env}{bA:Shared}{cU:Hp}{E:XK}
theorem GG{y:Str}{j k kb:Nat}{caps:List Str}{is:List Nat}{params:Arguments}{body eN:Expr}{scope:Scope}{fN fb:aw}{F:D->(List D->OD)->List D->OD}{p lp pos:Pos}
  (L:Lm K mg base) (hx:x∈nP) (ht:tabIn K x=some (c,Pt)) (S:bS ps caps scope) (hy:∃ fn,mg y=some (.ref fn)/\keepIn K (.ref fn)=true) (hr:aF j (A.deeper (envOfC x sc bA.heap.objs.size f (.ref c)))) (hk:k<=j)
  (hF:∀ dw ob G,r_ P w K mg dw (kb+1) ob ps.length G->ah P w K mg dw k y 2 (F ob G))
  (dk:∀ (dw:Heap) (f c':Addr) (cl:List (Str×Addr)) (q:Str) (A:Around) (outer:List Env) (s:Shared) (H:Hp),aF kb (A.deeper (envX q scope s.heap.objs.size f (.ref c') cl))->QD (vq P w K mg dw (ps++caps) q scope f (.ref c') cl A outer s H) body fb)
  (jz:∀ (q:Str) (cl:List (Str×Addr)) (pm a_ iW:Value) (us:List Value),us.length=ps.length->bindArgs (kla_fn "<lambda>" q params body scope cl pm a_ iW) ⟨us,[]⟩=pure (ps.zip us))
  (hN:tT (fu cV P w K mg base N x sc f (.ref c) A outer bA cU E).ft caps is) (ha:QD (fu cV P w K mg base N x sc f (.ref c) A outer bA cU E).ft eN fN)
  (TH:∀ env:Env,starEach [eN,.Lambda params body scope lp] env=(false,eval eN env)::starEach [.Lambda params body scope lp] env)
  (oV:closureFor scope (fu cV P w K mg base N x sc f (.ref c) A outer bA cU E).ft.env=pure (eW caps (fu cV P w K mg base N x sc f (.ref c) A outer bA cU E).ft.env.cells):=by rfl) (mJ:∀ env,defaultsOf params env=([],[]):=by exact fun _=>rfl) (hg:Gl (fu cV P w K mg base N x sc f (.ref c) A outer bA cU E).ft y:=by rfl) (iP:(y==("__debug__":Str))=false:=by decide) :
  QD (fu cV P w K mg base N x sc f (.ref c) A outer bA cU E).ft (.Call (.Name y p) [eN,.Lambda params body scope lp] [] pos) (pf F fb is fN):=by
 obtain⟨fn,h1,h2⟩:=hy
 exact⟨R_ (X:=(fu cV P w K mg base N x sc f (.ref c) A outer bA cU E).ft) (c:=c) (P:=Pt) rfl L hx ht rfl S h1 h2 hr hk hF (fun dw f c' cl q A outer s H hr=>(dk dw f c' cl q A outer s H hr).o) (jz _) hN.at hN.len ha.o oV (mJ _) hg iP (TH _) (by rw[FD];rfl)⟩
end
theorem TJ{h:Heap}(X:K.In h)(G:h.Ns mainGlobals mg)(ht:tabIn K x=some (c,P))(hm:mg x=some (.ref f))(lk:K.lookup f=some ⟨oc,od,.func fd,sl⟩):fd.code=.ref c:=
 law_code X G ht hm (X _ _ lk) rfl
theorem ah.GH{P:Program}{w:World}{base:Heap}{k:Nat}{st:Stmt}{N:List Str}{body:av}(KX:K.In base)(G:base.Ns mainGlobals mg)(ht:∃ c Pt,tabIn K x=some (c,Pt))(a:At K mg x st ps)(S:ae N ps (aJ st))
  (h:∀ (f c Pt:Addr) (A:Around) (outer:List Env) (s:Shared) (H:Hp) (E:XK),tabIn K x=some (c,Pt)->aF k (A.deeper (envOfC x (aJ st) s.heap.objs.size f (.ref c)))->eG (fu cV P w K mg base N x (aJ st) f (.ref c) A outer s H E).ft (gj st) body) :
  ah P w K mg base (k+1) x ps.length (bb N.length body):=by
 obtain⟨f,fd,F,m,b⟩:=a
 obtain⟨c,Pt,ht⟩:=ht
 obtain⟨oc,od,kV,doc,pm,an,a_,ct,ou,rfl,lk,g_⟩:=F.ex
 have e:a_=.ref c:=TJ KX G ht m lk
 subst e
 exact⟨f,_,ps,Es lk g_ S (fun vs H Q E h=>h.1) fun A outer s H vs Q E hr gY=>⟨_,(h f c Pt A outer s H E ht hr).o.ft,E_ gY⟩,m,F.kp,b⟩
theorem GI{α:Type}:∀ {l:List α},l.length=2->∃ a b,l=[a,b]
 | [a,b],_=>⟨a,b,rfl⟩
theorem bS.of{cs:List Str}{sc:Scope}(kind:sc.kind=.function)(co:sc.isCoroutine=false)(gen:sc.isGenerator=false)(nd:(ps++cs).Nodup)(par:∀ x∈ps,sc.names.lookup x=some .local)(Bv:∀ x∈cs,sc.names.lookup x=some .free)
  (iV:∀ y∈sc.names,y.2 ≠ .cell) (free:∀ y∈sc.names,y.2=.free->y.1∈cs):bS ps cs sc:=⟨kind,co,gen,nd,par,Bv,iV,fun x e=>free _ (Qw e) rfl⟩
theorem j95{o2:Value}{TK:Option Addr}{tm:Array (Option Value)}{vs:Array Value}(a:nsIn K mainGlobals x=some (some (.ref f)))(l:K.lookup f=some ⟨oc,od,.func fd,sl⟩)(hc:fd.code=.ref c)(m:K.lookup c=some ⟨o2,TK,.fields vs,tm⟩)(v:vs[11]? = some (.ref Pt)) :
  ∃ c Pt,tabIn K x=some (c,Pt):=⟨c,Pt,by unfold tabIn;rw[a];simp only[l,hc,m,v]⟩
theorem j6y(a:nsIn K mainGlobals x=some none):tabIn K x=none:=by unfold tabIn;rw[a]
def jC (K:PySem.W.Frag)(b:Addr):Bool:=nP.any fun x=>match tabIn K x with
 | some (_,P)=>P==b
 | none=>false
theorem TL{b:Addr}(h:jC K b=true):∃ x∈nP,∃ c,tabIn K x=some (c,b):=by
 obtain⟨x,hx,e⟩:=YH.mp h
 split at e
 next c P hP=>
  rw[eq_of_beq e]at hP
  exact⟨x,hx,c,hP⟩
 ·cases e
theorem TM(hx:x∈nP)(e:tabIn K x=some (c,P)):jC K P=true:=
 YH.mpr ⟨x,hx,by rw[e];exact Zs P⟩
theorem TN{P:Program}{w:World}{mb:Str->Option Value}{CX:mC}{k:Nat}{fa a:Addr}{fd:FuncData}{sp:Sp}{aH:Shared}{vs:List Value}{ns:List Int}
  (KX:K.In aH.heap) (jm:aH.heap.Ns mainGlobals mg) (hb:aH.heap.Ns builtinsNs mb) (TQ:∀ x:Str,x ≠ "__name__"->mb x=bootBuiltins x) (Cf:aH.heap.NoLimit) (hg:aH.gens = #[])
  (Cg:∃ bm o,mg "__builtins__" = some (.ref bm)/\bm≠builtinsNs/\aH.heap.get? bm=some o/\o.cls=.type "module" /\ o.dict=some builtinsNs/\o.data=.plain)
  (hT:∀ x∈nP,∀ c Pt,tabIn K x=some (c,Pt)->CodeHd aH.heap c Pt/\aH.heap.get? Pt=some (tabObj #[])) (Ci:noTabs K=true)
  (ha:aH.heap.get? a=some { cls:=.type "list",data:=.seq vs.toArray }) (hi:IntsAre vs ns) (hl:ns.length<=sizeLine) (hr:aF k callerA)
  (F:∀ base:Heap,K.In base->base.Ns mainGlobals mg->Lm K mg base->bY P w K mg base CX k fa fd [x] sp) (jz:∀ (s:Shared) (u:Value),BindsTo s fd ⟨[u],[]⟩ [(x,u)])
  (gY:∀ H:Hp,TB K H->cK K H a (ns.map V.int)->sp [.ref a] H (fun v _=>v=.bl true) fun _ _ _=>False)
  (Cj:∀ H e s',CX [] H aH (fun _ _ _=>False) e s'->False) :
  codeAny (model P w) callerA (.call (.ref fa) ⟨[.ref a],[]⟩) (fun r s'=>r=.ok (.ret (.bool true))/\OldK aH.heap s'.heap/\s'.os=aH.os/\AllBare s'.gens) aH:=by
 have rv:=xr hi
 have Ck:=hi.length
 have kx:∀ b,jC K b=true->(∃ c,CodeHd aH.heap c b)/\aH.heap.get? b=some (tabObj #[]):=fun b h=>by
  obtain⟨x,hx,c,e⟩:=TL h
  obtain⟨h1,h2⟩:=hT x hx c b e
  exact⟨⟨c,h1⟩,h2⟩
 have core:∀ H:Hp,(∀ b,H b=none\/(b=a/\∃ o xs,H b=some (.cu o (.lst xs)))\/(jC K b=true/\H b=some (.dJ #[])))->(∀ b,jC K b=true->H b=some (.dJ #[]))->cK K H a (ns.map V.int)->df P w H aH.heap->(∀ o xs,H a=some (.cu o (.lst xs))->K.lookup a=none)->
   codeAny (model P w) callerA (.call (.ref fa) ⟨[.ref a],[]⟩) (fun r s'=>r=.ok (.ret (.bool true))/\OldK aH.heap s'.heap/\s'.os=aH.os/\AllBare s'.gens) aH:=by
  intro H hO GJ hS aA hK
  have gw:∀ {b:Addr} {o:Obj},aH.heap.get? b=some o->H b=none->(nG aH.heap H).get? b=some o:=fun e n=>KD e n
  have nK:∀ {b:Addr} {o:Obj},aH.heap.get? b=some o->o.cls ≠ .type "list"->o.cls ≠ .none->H b=none:=fun {b o} e d1 d2=>by
   rcases hO b with z|⟨z,_⟩|⟨z,_⟩
   ·exact z
   ·subst z;rw[ha]at e;cases e;exact absurd rfl d1
   ·rw[(kx b z).2]at e;cases e;exact absurd rfl d2
  have TR:∀ {b:Addr} {o:Obj} {es:Array DictEntry} {ep:Nat},aH.heap.get? b=some o->o.data=.dict es ep->H b=none:=fun {b o es ep} e d=>by
   rcases hO b with z|⟨z,_⟩|⟨z,_⟩
   ·exact z
   ·subst z;rw[ha]at e;cases e;exact nomatch (show Data.seq vs.toArray _=Data.dict es ep from d)
   ·rw[(kx b z).2]at e;cases e;exact nomatch (show Data.fields _=Data.dict es ep from d)
  have yG:∀ {b:Addr} {m:Str->Option Value},aH.heap.Ns b m->(nG aH.heap H).Ns b m:=fun {b m} hh=>by
   obtain⟨o,es,ep,e,d,r⟩:=hh
   exact⟨o,es,ep,gw e (TR e d),d,r⟩
  have GK:K.In (nG aH.heap H):=fun b o e=>gw (KX b o e) (by
   rcases hO b with z|⟨z,o',xs,z2⟩|⟨z,_⟩
   ·exact z
   ·subst z;rw[hK _ _ z2]at e;cases e
   ·have e2:=KX b o e
    rw[(kx b z).2]at e2
    cases e2
    have h2:=Zt.mp Ci (b,tabObj #[]) (mem_of_lookupK e)
    exact absurd (show false=true from h2) QW)
  have hM:Mod K mg (nG aH.heap H):=by
   obtain⟨mc,h1,h2⟩:=Cf
   exact⟨GK,yG jm,⟨mb,yG hb,TQ⟩,⟨mc,yG h1,h2⟩⟩
  have hL:Lm K mg (nG aH.heap H):=by
   refine⟨?_,fun x hx c Pt e=>?_⟩
   ·obtain⟨bm,o,h1,h2,h3,h4,h5⟩:=Cg
    exact⟨bm,o,h1,h2,gw h3 (nK h3 (by rw[h4];decide) (by rw[h4];nofun)),h4,h5⟩
   ·obtain⟨o,v1,v2,v3,v4,v5,v6,v7,v8,e1,e2,r⟩:=(hT x hx c Pt e).1
    exact⟨o,v1,v2,v3,v4,v5,v6,v7,v8,gw e1 (nK e1 (by rw[e2];decide) (by rw[e2];nofun)),e2,r⟩
  have tb:TB K H:=by
   refine⟨fun Q ps e=>?_,fun Q ps e pos cv hc=>?_,fun x hx c Pt e=>⟨_,GJ Pt (TM hx e)⟩⟩<;>rcases hO Q with z|⟨_,o',xs,z⟩|⟨_,z⟩<;>rw[e]at z<;>cases z
   ·exact True.intro
   ·cases hc
  have e0:iO P w K mg (nG aH.heap H) callerA [] aH H:=⟨rfl,hM,fun b o e=>KG e,Y4 (KC _ _),trivial,fun b hb=>absurd (show b∈([]:List Addr)from hb) (by simp),aA,.of_eq hg⟩
  refine Jj ((F _ GK (yG jm) hL).run callerA [] aH H ⟨[.ref a],[]⟩ [.ref a] [.ref a] _ _ hr e0 (jz aH (.ref a)) (.cons rfl .nil) (gY H tb hS)) fun r s' h=>?_
  cases r with
  | error e=>exact(Cj H e s' h).elim
  | ok fl=>
   cases fl with
   | next=>exact False.elim h
   | brk=>exact False.elim h
   | cont=>exact False.elim h
   | ret u=>
    obtain⟨v,H',os,bare,un,vM,r',q⟩:=h
    have q':v=.bl true:=q
    subst q'
    obtain rfl:u=Value.bool true:=r'
    have kp:∀ b o,aH.heap.get? b=some o->jC K b=false->s'.heap.get? b=some o:=fun b o e nt=>by
     rcases hO b with z|⟨_,ob,xs,z⟩|⟨z,_⟩
     ·exact un.keep b o e z (by intro z;exact absurd (show b∈([]:List Addr)from z) (by simp)) (by simp)
     ·have z2:=un.g8 b ob _ z
      obtain⟨e1,_⟩:=aA b _ z
      obtain⟨e2,_⟩:=vM b _ z2
      rw[e]at e1;cases e1
      exact e2
     ·rw[z]at nt;cases nt
    have gr:∀ b,jC K b=true->∃ ps,s'.heap.get? b=some (tabObj ps):=fun b t=>by
     obtain⟨more,z⟩:=un.g9 b _ (GJ b t)
     exact⟨_,vM b _ z⟩
    refine⟨rfl,⟨fun b o e=>?_,fun b o e=>?_⟩,os,bare⟩
    ·cases t:jC K b with
     | false=>exact .inl (kp b o e t)
     | true=>
      obtain⟨⟨c,C⟩,e1⟩:=kx b t
      obtain⟨ps,e2⟩:=gr b t
      rw[e]at e1;cases e1
      exact .inr (.inl ⟨(C.tab e).isCodeTable,rfl,#[],ps,rfl,by rw[Array.empty_append];exact e2⟩)
    ·cases t:jC K b with
     | false=>exact⟨o,kp b o e t⟩
     | true=>obtain⟨ps,e2⟩:=gr b t;exact⟨_,e2⟩
 have aT:jC K a=false:=by
  cases t:jC K a with
  | false=>rfl
  | true=>
   have:=(kx a t).2
   rw[ha]at this;cases this
 cases hk:K.lookup a with
 | some o=>
  have e:=KX a o hk
  rw[ha]at e
  cases e
  refine core (fun b=>if jC K b=true then some (.dJ #[])else none) (fun b=>?_) (fun b h=>Qe h) (.inr ⟨_,vs.toArray,_,hk,rfl,rfl,rfl,by rw[Ql,Ck];exact hl,by simpa using rv⟩) (fun b u z=>?_) fun o xs z=>?_
  ·by_cases hb:jC K b=true
   ·exact .inr (.inr ⟨hb,Qe hb⟩)
   ·exact .inl (Qf hb)
  ·by_cases hb:jC K b=true
   ·have z':=(Qe hb).symm.trans z
    cases z'
    exact(kx b hb).2
   ·have z':=(Qf hb).symm.trans z
    cases z'
  ·have z':=(Qf (by rw[aT];decide)).symm.trans z
   cases z'
 | none=>
  refine core (fun b=>if b=a then some (.cu { cls:=.type "list",data:=.seq vs.toArray } (.lst (ns.map V.int)))else if jC K b=true then some (.dJ #[])else none) (fun b=>?_) (fun b h=>?_) (.inl (.inr ⟨{ cls:=.type "list",data:=.seq vs.toArray },Qe rfl⟩)) (fun b u z=>?_) fun _ _ _=>hk
  ·by_cases hb:b=a
   ·exact .inr (.inl ⟨hb,_,_,Qe hb⟩)
   ·by_cases ht:jC K b=true
    ·exact .inr (.inr ⟨ht,(Qf hb).trans (Qe ht)⟩)
    ·exact .inl ((Qf hb).trans (Qf ht))
  ·have hb:b≠a:=fun z=>by rw[z,aT]at h;cases h
   exact(Qf hb).trans (Qe h)
  ·by_cases hb:b=a
   ·have z':=(Qe hb).symm.trans z
    cases z'
    subst hb
    exact⟨ha,by rw[QA];exact hl,vs,_,rv,ha⟩
   ·by_cases ht:jC K b=true
    ·have z':=((Qf hb).trans (Qe ht)).symm.trans z
     cases z'
     exact(kx b ht).2
    ·have z':=((Qf hb).trans (Qf ht)).symm.trans z
     cases z'
def j6x (q:Program)(K:PySem.W.Frag):Prop:=∀ x∈nP,(∃ d,(recsOf q).find? (fun e=>e.name==x)=some d)\/tabIn K x=none
theorem j6x.of(h1:(∃ d,(recsOf q).find? (fun e=>e.name==("turned":Str))=some d)\/tabIn K "turned" = none)(h2:(∃ d,(recsOf q).find? (fun e=>e.name==("chain_ladder":Str))=some d)\/tabIn K "chain_ladder" = none)
  (h3:(∃ d,(recsOf q).find? (fun e=>e.name==("flat_ladder":Str))=some d)\/tabIn K "flat_ladder" = none) (h4:(∃ d,(recsOf q).find? (fun e=>e.name==("paired":Str))=some d)\/tabIn K "paired" = none) (h5:(∃ d,(recsOf q).find? (fun e=>e.name==("height_of":Str))=some d)\/tabIn K "height_of" = none) (h6:(∃ d,(recsOf q).find? (fun e=>e.name==("_law_high":Str))=some d)\/tabIn K "_law_high" = none):j6x q K:=fun x hx=>by
 rcases Qn.mp hx with rfl|hx
 ·exact h1
 rcases Qn.mp hx with rfl|hx
 ·exact h2
 rcases Qn.mp hx with rfl|hx
 ·exact h3
 rcases Qn.mp hx with rfl|hx
 ·exact h4
 rcases Qn.mp hx with rfl|hx
 ·exact h5
 rcases Qn.mp hx with rfl|hx
 ·exact h6
 cases hx
theorem TU{l:PySem.W.OpenLaw}{n k:Nat}{loose:List Str}{XP:(Str->Option Value)->Heap->Prop}{YP:World->Heap->Prop}{d:DefRec}{K:Params->PySem.W.Frag}{CX:World->mC}{sp:World->Sp}
  (hn:l.most=some n) (qY:n<=sizeLine) (mJ:d.params.defaults=[]) (hr:aF k callerA)
  (hY:∀ (w:World) (h:Heap),YP w h->(K w.params).In h)
  (F:∀ (w:World) (mg:Str->Option Value) (fa:Addr) (h:Heap),(K w.params).In h->h.Ns mainGlobals mg->mg d.name=some (.ref fa)->j6x q (K w.params)/\noTabs (K w.params)=true /\
    ∃ fd:FuncData,(∀ (s:Shared) (u:Value),BindsTo s fd ⟨[u],[]⟩ [(x,u)]) /\
     ∀ base:Heap,(K w.params).In base->base.Ns mainGlobals mg->Lm (K w.params) mg base->bY l.prog w (K w.params) mg base (CX w) k fa fd [x] (sp w))
  (gY:∀ (w:World) (H:Hp) (a:Addr) (ns:List Int),ns.length<=n->TB (K w.params) H->cK (K w.params) H a (ns.map V.int)->sp w [.ref a] H (fun v _=>v=.bl true) fun _ _ _=>False)
  (Cj:∀ (w:World) (H:Hp) (s:Shared) (e:Value) (s':Shared),CX w [] H s (fun _ _ _=>False) e s'->False) :
  PySem.W.WalkO q loose XP YP l.row.toRowW d [] (fun f vs=>PySem.call f vs):=by
 refine EF.Nk hn mJ fun w bA aH mg mb fa o pm cd doc a vs ns G Y ho hd g_ hmg rf hints hlen hg=>?_
 have KX:=hY w _ Y
 obtain⟨sf,Ci,fd,hb,hF⟩:=F w mg fa _ KX G.T.g hmg
 have Cg:=G.T.bmain
 refine TN KX G.T.g G.T.b G.T.builtins G.T.nolimit hg ?_ (fun x hx c Pt e=>?_) Ci rf hints (QC hlen qY) hr hF hb (fun H hO hS=>gY w H a ns hlen hO hS) fun H e s'=>Cj w H aH e s'
 ·obtain⟨bm,ob,b1,b2,b3,b4,b5,b6⟩:=Cg
  exact⟨bm,ob,b1,b2,b3,b4,b5,b6⟩
 ·rcases sf x hx with⟨dd,hd⟩|z
  ·exact tab_of G.T KX hd e
  ·rw[z]at e;cases e
def hI (v:Nat):Int:=if v=7 then -2 else Int.ofNat v
section
variable {P:Program}{w:World}{K:PySem.W.Frag}{mg:Str->Option Value}{base:Heap}{k:Nat}{x nm m qual:Str}{st:Stmt}{N ps:List Str}{body:av}
theorem jB.bw(a:lF K nm m qual st ps)(S:ae N ps (aJ st))
  (h:∀ (f:Addr) (a_:Value) (A:Around) (outer:List Env) (s:Shared) (H:Hp) (E:XK),aF k (A.deeper (envOfC qual (aJ st) s.heap.objs.size f a_))->eG (fu cV P w K mg base N qual (aJ st) f a_ A outer s H E).ft (gj st) body) :
  jB P w K mg base (k+1) nm m ps.length (lE N.length body):=jB.mk a S fun f a_ A outer s H E hr=>(h f a_ A outer s H E hr).o
theorem lG.bw(a:lF K nm m qual st ps)(S:ae N ps (aJ st))
  (h:∀ (f:Addr) (a_:Value) (A:Around) (outer:List Env) (s:Shared) (H:Hp) (E:XK),aF k (A.deeper (envOfC qual (aJ st) s.heap.objs.size f a_))->eG (fu cV P w K mg base N qual (aJ st) f a_ A outer s H E).ft (gj st) body) :
  lG P w K mg base (k+1) nm m ps.length (bb N.length body):=lG.mk a S fun f a_ A outer s H E hr=>(h f a_ A outer s H E hr).o
theorem pw.bw(a:lF K nm "__init__" qual st ps)(hc:∀ C,nsIn K mainGlobals nm=some (some (.ref C))->mg nm=some (.ref C)/\makesIn K C=true/\keepIn K (.ref C)=true/\hX K C)(S:ae N ps (aJ st))
  (h:∀ (f:Addr) (a_:Value) (A:Around) (outer:List Env) (s:Shared) (H:Hp) (E:XK),aF k (A.deeper (envOfC qual (aJ st) s.heap.objs.size f a_))->eG (fu cV P w K mg base N qual (aJ st) f a_ A outer s H E).ft (gj st) body) :
  pw P w K mg base (k+1) nm ps.length (lE N.length body):=pw.mk a hc S fun f a_ A outer s H E hr=>(h f a_ A outer s H E hr).o
end
end L3
namespace L3
open PySem PySem.Spec PyProof.Rows L2
theorem tU{k:Nat}{pt:fA}{tt:cD}{te:aw}{deep:Bool}:∀ (ds:List D) (S:Nat->aU) (b:Nat->Bool) (v:Nat->D),
  (∀ i (h:i<ds.length),∃ ρ1 ρ2,pt ds[i] (S i++List.replicate k none)=some ρ1/\tt ρ1=some (b i,ρ2) /\
    (if b i=true then ∃ q dA,te ρ2=some (v i,q,dA)/\¬ (deep=true/\(v i).cw=true/\q≠1)/\dA.take (S i).length=S (i+1)else ρ2.take (S i).length=S (i+1)))->
  l3 k pt tt te deep ds (S 0)=some (((List.range ds.length).filter b).map v,S ds.length)
 | [],S,b,v,_=>rfl
 | d::ds,S,b,v,h=>by
  obtain⟨ρ1,ρ2,h1,h2,h3⟩:=h 0 (by simp)
  have ih:=tU ds (fun i=>S (i+1)) (fun i=>b (i+1)) (fun i=>v (i+1)) (fun i hi=>h (i+1) (by simpa using hi))
  have er:((List.range (d::ds).length).filter b).map v=(if b 0=true then [v 0]else [])++((List.range ds.length).filter fun i=>b (i+1)).map fun i=>v (i+1):=by
   rw[Qz,JP,List.filter_cons,List.filter_map]
   split<;>simp[Yv]
  rw[er]
  unfold l3
  rw[show pt d (S 0++List.replicate k none)=some ρ1 from h1]
  simp only[h2]
  split at h3
  next hb=>
   obtain⟨q,dA,h4,h5,h6⟩:=h3
   simp only[hb,JF,h4,Qf h5,h6,ih]
   rfl
  next hb=>
   simp only[hb,h3,ih]
   rfl
theorem yH{pt:fA}{body:av}:∀ (ds:List D) (I:Nat->aU->Prop) (ρ:aU),(∀ i (h:i<ds.length) ρ,I i ρ->∃ ρ1 ρ2,pt ds[i] ρ=some ρ1/\(body ρ1=some (.nx ρ2)\/body ρ1=some (.ct ρ2))/\I (i+1) ρ2)->I 0 ρ->∃ ρ',iA pt body ds ρ=some (.nx ρ')/\I ds.length ρ'
 | [],I,ρ,_,h0=>⟨ρ,rfl,h0⟩
 | d::ds,I,ρ,h,h0=>by
  obtain⟨ρ1,ρ2,h1,h2,h3⟩:=h 0 (by simp) ρ h0
  obtain⟨ρ',e,h4⟩:=yH ds (fun i=>I (i+1)) ρ2 (fun i hi=>h (i+1) (by simpa using hi)) h3
  refine⟨ρ',?_,h4⟩
  unfold iA
  rw[show pt d ρ=some ρ1 from h1]
  rcases h2 with h2|h2<;>(simp only[h2];exact e)
theorem bO{f g:av}{ρ ρ1:aU}(h:f ρ=some (.nx ρ1)):aG f g ρ=g ρ1:=by unfold aG;rw[h]
theorem yI{f g:av}{ρ:aU}{d:D}{q:Nat}(h:f ρ=some (.rt d q)):aG f g ρ=some (.rt d q):=by unfold aG;rw[h]
theorem i5{n:Nat}{body:av}{ds:List D}{d:D}{q:Nat}(h:body (jW n ds)=some (.rt d q)):bb n body ds=some (d,q):=by unfold bb;rw[h]
theorem qA{k:Nat}{it:ko}{pt:fA}{tt:cD}{te:aw}{deep:Bool}{ρ ρ1 ρ2:aU}{ds vs:List D}(hi:it ρ=some (ds,ρ1))(hc:l3 k pt tt te deep ds ρ1=some (vs,ρ2)):dv k it pt tt te deep ρ=some (.lst vs,if deep=true then 2 else 1,ρ2):=by unfold dv;rw[hi];simp only[hc]
theorem TV{i:Nat}{f:aw}{ρ ρ1:aU}{d:D}{q:Nat}(h:f ρ=some (d,q,ρ1)):bD i f ρ=some (.nx (ρ1.set i (some (d,q)))):=by unfold bD;rw[h]
theorem lH{f:aw}{ρ ρ1:aU}{d:D}{q:Nat}(h:f ρ=some (d,q,ρ1)):aV f ρ=some (.rt d q):=by unfold aV;rw[h]
theorem j5{it:ko}{pt:fA}{body:av}{ρ ρ1:aU}{ds:List D}(h:it ρ=some (ds,ρ1)):dF it pt body ρ=iA pt body ds ρ1:=by unfold dF;rw[h]
theorem nZ{g:cD}{s s':av}{ρ ρ1:aU}(h:g ρ=some (false,ρ1)):cy g s s' ρ=s' ρ1:=by unfold cy;rw[h];rfl
theorem pB{i:Nat}{f:aw}{ρ ρ1 ρ2:aU}{d:D}{q:Nat}(h:f ρ=some (d,q,ρ1))(e:ρ1.set i (some (d,q))=ρ2):bD i f ρ=some (.nx ρ2):=by rw[TV h,e]
theorem dG{f:aw}{ρ ρ1:aU}{d:D}{q:Nat}(h:f ρ=some (d,q,ρ1)):aa f ag ρ=some ([d],ρ1):=by unfold aa;rw[h];rfl
theorem c_{f:aw}{g:bQ}{ρ ρ1 ρ2:aU}{d:D}{q:Nat}{ds:List D}(h:f ρ=some (d,q,ρ1))(h':g ρ1=some (ds,ρ2)):aa f g ρ=some (d::ds,ρ2):=by unfold aa;rw[h];simp only[h']
theorem Cn{g:bQ}{ρ ρ1:aU}{ds:List D}(h:g ρ=some ([.lst ds],ρ1)):iU g ρ=some (.tup ds,9,ρ1):=by unfold iU;rw[h]
theorem cS{F:List D->OD}{n:Nat}{g:bQ}{ρ ρ1:aU}{ds:List D}{d:D}{q:Nat}(h:g ρ=some (ds,ρ1))(hl:ds.length=n)(hF:F ds=some (d,q)):aB F n g ρ=some (d,q,ρ1):=by unfold aB;rw[h];simp only[hl,JF,hF]
def aD (l:List Nat):List D:=l.map fun i=>.int (Int.ofNat i)
abbrev iD (k:Nat):D:=.int (Int.ofNat k)
abbrev uL (v:List Nat):OD:=some (.lst (aD v),1)
abbrev v9 (v:List Nat):OD:=some (.tup (aD v),9)
abbrev b9 (b:Bool):OD:=some (.bl b,9)
abbrev i9 (k:Nat):OD:=some ((iD k),9)
def ma (n:Nat)(f:Nat->Nat->Nat)(i:Nat):D:=.tup (aD ((List.range n).map fun j=>f i j))
def bK (n:Nat)(f:Nat->Nat->Nat):D:=.tup ((List.range n).map fun i=>ma n f i)
abbrev t9 (n:Nat)(f:Nat->Nat->Nat):OD:=some (bK n f,9)
@[simp] theorem j77{n:Nat}{f:Nat->Nat->Nat}:(bK n f).cw=false:=rfl
@[simp] theorem j73{n:Nat}{f:Nat->Nat->Nat}{i:Nat}:(ma n f i).cw=false:=rfl
theorem iB(l:List Nat):(aD l).length=l.length:=by simp[aD]
theorem Co(l:List Nat)(i:Nat):(aD l)[i]? = (l[i]?).map fun x=>.int (Int.ofNat x):=by simp[aD]
theorem TX{n i:Nat}(h:i<n):oy n (Int.ofNat i)=some i:=by
 unfold oy
 rw[Qe (by exact Int.natCast_nonneg i),Qe (by show(i:Int)<n;omega)]
 rfl
theorem vN{α:Type}{xs:List α}{i:Nat}{x:α}(h:xs[i]? = some x):L2.eR xs (Int.ofNat i)=some x:=by
 unfold L2.eR
 rw[TX (Qr.mp h).1]
 exact h
theorem GL{l:List Nat}{i x:Nat}(h:l[i]? = some x):L2.eR (aD l) (Int.ofNat i)=some (iD x):=vN (by rw[Co,h];rfl)
theorem TY{g:Nat->D}{n i:Nat}(h:i<n):L2.eR ((List.range n).map g) (Int.ofNat i)=some (g i):=vN (by rw[Qu,ZE h];rfl)
theorem GN{g:Nat->Nat}{n i:Nat}(h:i<n):L2.eR (aD ((List.range n).map g)) (Int.ofNat i)=some (iD (g i)):=GL (by rw[Qu,ZE h];rfl)
theorem pC{n:Nat}{f:Nat->Nat->Nat}{i:Nat}(h:i<n):dO (bK n f) (Int.ofNat i)=some (ma n f i):=TY h
theorem nk{n:Nat}{f:Nat->Nat->Nat}{i j:Nat}(h:j<n):dO (ma n f i) (Int.ofNat j)=some (iD (f i j)):=GN h
theorem su{n:Nat}{f:Nat->Nat->Nat}:gp (bK n f)=some n:=by simp[bK,gp]
theorem GO:∀ ds:List D,gm ds=ds.map dC
 | []=>rfl
 | d::ds=>by rw[gm,GO ds];rfl
def lay (d:D):Bool:=gZ d&&(dC d).canLay0
theorem yJ{d:D}(h:lay d=true):gZ d=true:=(QH.mp h).1
theorem GP{d:D}(h:lay d=true):(dC d).canLay0=true:=(QH.mp h).2
theorem Cp:∀ {ds:List D},(∀ d∈ds,lay d=true)->lj ds=true
 | [],_=>rfl
 | d::ds,h=>by
  show(gZ d&&lj ds)=true
  rw[yJ (h d Qi),Cp fun x m=>h x (Qg _ m)]
  rfl
def jj (d:D):Nat:=(dC d).depth
theorem Cq:∀ {ds:List D},(∀ d∈ds,lay d=true)->PyData.canLayAll0 (gm ds)=true
 | [],_=>rfl
 | d::ds,h=>by
  rw[gm,PyData.canLayAll0,Cq fun x m=>h x (Qg _ m),Bool.and_true]
  exact GP (h d Qi)
theorem Cr{k:Nat}:∀ {ds:List D},(∀ d∈ds,jj d<=k)->PyData.depthAll (gm ds)<=k
 | [],_=>ZP _
 | d::ds,h=>by
  rw[gm,PyData.depthAll]
  exact Nat.max_le.mpr ⟨h d Qi,Cr fun x m=>h x (Qg _ m)⟩
def Sh (k:Nat)(d:D):Prop:=lay d=true/\jj d<=k
theorem Sh.int{k:Nat}(i:Int):Sh k (.int i):=⟨rfl,ZP _⟩
theorem Sh.bl{k:Nat}(i:Bool):Sh k (.bl i):=⟨rfl,ZP _⟩
theorem Sh.aX{k:Nat}:Sh k .aX:=⟨rfl,ZP _⟩
theorem Sh.tup{k:Nat}{ds:List D}(h:∀ d∈ds,Sh k d):Sh (k+1) (.tup ds):=⟨QH.mpr ⟨Cp fun d m=>(h d m).1,Cq fun d m=>(h d m).1⟩,Nat.succ_le_succ (Cr fun d m=>(h d m).2)⟩
theorem Sh.lst{k:Nat}{ds:List D}(h:∀ d∈ds,Sh k d):Sh (k+1) (.lst ds):=⟨QH.mpr ⟨Cp fun d m=>(h d m).1,Cq fun d m=>(h d m).1⟩,Nat.succ_le_succ (Cr fun d m=>(h d m).2)⟩
theorem Sh.ok{k:Nat}{d:D}(h:Sh k d)(hk:k<=64:=by decide):fB d=true:=by
 show(gZ d&&((dC d).canLay0&&decide ((dC d).depth<=64)))=true
 rw[yJ h.1,GP h.1,JY,JY]
 exact Zh (QC h.2 hk)
theorem GQ{l:List Nat}{d:D}(m:d∈aD l):Sh 0 d:=by
 obtain⟨x,_,rfl⟩:=QT.mp m
 exact .int _
theorem TZ(l:List Nat):Sh 1 (.lst (aD l)):=.lst fun _ m=>GQ m
theorem sv(l:List Nat):Sh 1 (.tup (aD l)):=.tup fun _ m=>GQ m
theorem T1(n:Nat)(f:Nat->Nat->Nat):Sh 2 (bK n f):=.tup fun d m=>by
 obtain⟨x,_,rfl⟩:=QT.mp m
 exact sv _
theorem GR:∀ l l':List Nat,PyData.eqvAll (gm (aD l)) (gm (aD l'))=decide (l=l')
 | [],[]=>rfl
 | [],_::_=>rfl
 | _::_,[]=>rfl
 | x::l,y::l'=>by
  show(((x:Int)==(y:Int))&&PyData.eqvAll (gm (aD l)) (gm (aD l')))=_
  rw[GR l l']
  by_cases h:x=y
  ·subst h;simp
  ·have:((x:Int)==(y:Int))=false:=by simp;omega
   rw[this]
   simp[h]
theorem GS(l l':List Nat):oT (.tup (aD l)) (.tup (aD l'))=decide (l=l'):=GR l l'
theorem GU(i j:Int):oT (.int i) (.int j)=decide (i=j):=by
 show(i==j)=_
 rw[YW]
theorem GV(i j:Nat):oT (iD i) (iD j)=decide (i=j):=by
 rw[GU]
 exact YI.mpr ⟨fun h=>Int.ofNat.inj h,fun h=>by rw[h]⟩
theorem T2(i j:Bool):oT (.bl i) (.bl j)=decide (i=j):=by
 show(i==j)=_
 rw[YW]
theorem T3(i j:Int):cz (.int i) (.int j)=some (.bl (!decide (i=j))):=by unfold cz;rw[Qe ⟨(Sh.int (k:=0) i).ok,(Sh.int (k:=0) j).ok⟩,GU]
theorem GW(i j:Nat):h_ (iD i) (iD j)=some (.bl (decide (i=j))):=by unfold h_;rw[Qe ⟨(Sh.int (k:=0) _).ok,(Sh.int (k:=0) _).ok⟩,GV]
theorem vO(i j:Nat):cz (iD i) (iD j)=some (.bl (!decide (i=j))):=by unfold cz;rw[Qe ⟨(Sh.int (k:=0) _).ok,(Sh.int (k:=0) _).ok⟩,GV]
theorem T4(i j:Bool):cz (.bl i) (.bl j)=some (.bl (!decide (i=j))):=by unfold cz;rw[Qe ⟨(Sh.bl (k:=0) i).ok,(Sh.bl (k:=0) j).ok⟩,T2]
theorem GX{α:Type}{p:α->Bool}:∀ {l:List α} {j:Nat} {x:α},l[j]? = some x->p x=true->(∀ i y,i<j->l[i]? = some y->p y=false)->l.findIdx? p=some j
 | [],j,x,h,_,_=>by simp at h
 | a::l,0,x,h,hp,_=>by
  simp at h;subst h
  simp[List.findIdx?_cons,hp]
 | a::l,j+1,x,h,hp,hn=>by
  have h0:p a=false:=hn 0 a (Nat.succ_pos _) rfl
  have ih:=GX (l:=l) (j:=j) (x:=x) (by simpa using h) hp fun i y hi hy=>hn (i+1) y (Nat.succ_lt_succ hi) (by simpa using hy)
  simp[List.findIdx?_cons,h0,ih]
structure bL (n:Nat) (f:Nat->Nat->Nat):Prop where
 lo:0<n
 hi:n<=16
 cl:∀ i j,i<n->j<n->f i j<n
 idem:∀ i,i<n->f i i=i
 comm:∀ i j,i<n->j<n->f i j=f j i
 assoc:∀ i j k,i<n->j<n->k<n->f (f i j) k=f i (f j k)
 bot:∃ z,z<n/\∀ j,j<n->f z j=j
def GY (n:Nat)(f:Nat->Nat->Nat):Bool:=
 decide (0<n)&&decide (n<=16)&&((List.range n).all fun i=>(List.range n).all fun j=>decide (f i j<n))&&((List.range n).all fun i=>decide (f i i=i))&&((List.range n).all fun i=>(List.range n).all fun j=>decide (f i j=f j i)) &&
 ((List.range n).all fun i=>(List.range n).all fun j=>(List.range n).all fun k=>decide (f (f i j) k=f i (f j k)))&&((List.range n).any fun z=>(List.range n).all fun j=>decide (f z j=j))
theorem Cs{n:Nat}{f:Nat->Nat->Nat}(h:GY n f=true):bL n f:=by
 unfold GY at h
 simp only[Z2,Zz,Zt,YH,QV]at h
 obtain⟨⟨⟨⟨⟨⟨h1,h2⟩,h3⟩,h4⟩,h5⟩,h6⟩,z,hz,h7⟩:=h
 exact⟨h1,h2,fun i j hi hj=>h3 i hi j hj,h4,fun i j hi hj=>h5 i hi j hj,fun i j k hi hj hk=>h6 i hi j hj k hk,z,hz,h7⟩
def yK (p:Nat->Nat->Nat)(n:Nat):Nat->List Nat
 | 0=>List.range n
 | k+1=>(yK p n k).eraseIdx (p k (yK p n k).length)
def drawn (p:Nat->Nat->Nat)(n k:Nat):Nat:=(yK p n k).getD (p k (yK p n k).length) 0
theorem vP{i n:Nat}{tt:cD}{te:aw}{ρ:aU}{deep:Bool}(hi:ρ.length=i)(b:Nat->Bool)(v:Nat->D)(q:Nat->Nat)(ht:∀ j,j<n->tt (ρ++[(i9 j)])=some (b j,ρ++[(i9 j)]))
  (he:∀ j,j<n->b j=true->te (ρ++[(i9 j)])=some (v j,q j,ρ++[(i9 j)])) (hd:deep=true->∀ j,(v j).cw=true->q j=1:=by intro h;cases h) :
  l3 1 (aQ i) tt te deep (dZ n) ρ=some (((List.range n).filter b).map v,ρ):=by
 have h:=tU (k:=1) (pt:=aQ i) (tt:=tt) (te:=te) (deep:=deep) (dZ n) (fun _=>ρ) b v (fun j hj=>?_)
 ·rw[jw]at h
  exact h
 ·rw[jw]at hj
  refine⟨ρ++[(i9 j)],_,?_,ht j hj,?_⟩
  ·have:(dZ n)[j]'(by rw[jw];exact hj)=(iD j):=by simp[dZ]
   rw[this]
   unfold aQ
   rw[Qe (by simp[hi])]
   subst hi
   simp[J6]
  ·by_cases hb:b j=true
   ·rw[Qe hb]
    exact⟨q j,_,he j hj hb,fun⟨h1,h2,h3⟩=>h3 (hd h1 j h2),by simp⟩
   ·rw[Qf hb]
    simp
theorem T5{n:Nat}{g:Nat->Nat}:(List.range n).map g=List.range n ↔ ∀ j,j<n->g j=j:=by
 constructor
 ·intro h j hj
  have:=JZ (fun l=>l[j]?) h
  simpa [hj]using this
 ·intro h
  have e:=List.map_congr_left (l:=List.range n) (f:=g) (g:=id) fun a ha=>h a (QV.mp ha)
  rw[e,List.map_id]
namespace bL
variable {n:Nat}{f:Nat->Nat->Nat}(L:bL n f)
include L
theorem nq{z x:Nat}(hz:z<n)(bz:∀ j,j<n->f z j=j)(hx:x<n)(bx:∀ j,j<n->f x j=j):x=z:=by
 have h1:=bx z hz
 have h2:=bz x hx
 rw[L.comm x z hx hz]at h1
 omega
theorem fold_lt:∀ {l:List Nat} {a:Nat},a<n->(∀ x∈l,x<n)->l.foldl f a<n
 | [],a,ha,_=>ha
 | y::l,a,ha,h=>fold_lt (l:=l) (L.cl a y ha (h y Qi)) fun x m=>h x (Qg _ m)
end bL
theorem tV{pt:fA}{body:av}{d:D}{q:Nat}:∀ (ds:List D) (I:aU->Prop) (ok:Nat->Bool) (ρ:aU),
  (∀ i (h:i<ds.length) ρ,I ρ->∃ ρ1,pt ds[i] ρ=some ρ1/\(ok i=true->∃ ρ2,body ρ1=some (.nx ρ2)/\I ρ2)/\(ok i=false->body ρ1=some (.rt d q)))->I ρ->
  ((List.range ds.length).all ok=true->∃ ρ',iA pt body ds ρ=some (.nx ρ')/\I ρ')/\((List.range ds.length).all ok=false->iA pt body ds ρ=some (.rt d q))
 | [],I,ok,ρ,_,h0=>⟨fun _=>⟨ρ,rfl,h0⟩,fun h=>by simp at h⟩
 | x::ds,I,ok,ρ,h,h0=>by
  obtain⟨ρ1,h1,h2,h3⟩:=h 0 (by simp) ρ h0
  have e1:pt x ρ=some ρ1:=h1
  have er:(List.range (x::ds).length).all ok=(ok 0&&(List.range ds.length).all fun i=>ok (i+1)):=by
   rw[Qz,JP,Y2,YQ];rfl
  rw[er]
  cases hk:ok 0 with
  | false=>
   refine⟨fun z=>by simp at z,fun _=>?_⟩
   unfold iA
   simp only[e1,h3 hk]
  | true=>
   obtain⟨ρ2,h4,h5⟩:=h2 hk
   obtain⟨i1,i2⟩:=tV ds I (fun i=>ok (i+1)) ρ2 (fun i hi=>h (i+1) (by simpa using hi)) h5
   rw[JY]
   unfold iA
   simp only[e1,h4]
   exact⟨i1,i2⟩
theorem range_all{n:Nat}{p:Nat->Bool}:(List.range n).all p=true ↔ ∀ i,i<n->p i=true:=by
 rw[Zt]
 exact⟨fun h i hi=>h i (QV.mpr hi),fun h i hi=>h i (QV.mp hi)⟩
theorem GZ(p:Nat->Bool):∀ l:List Nat,((List.range l.length).all fun i=>p (l.getD i 0))=l.all p
 | []=>rfl
 | a::l=>by
  rw[Qz,JP,Y2,YQ,Y2,<- GZ p l]
  rfl
theorem Ct{l:List Nat}{i:Nat}(h:i<(aD l).length):(aD l)[i]=(iD (l.getD i 0)):=by
 have h':i<l.length:=by rw[iB]at h;exact h
 simp[aD,h']
theorem vQ{l:List Nat}{i:Nat}(h:i<l.length):l.getD i 0∈l:=by
 rw[Zb,Qv h]
 exact Zu h
theorem j9y{i:Nat}{te:aw}{ρ:aU}{deep:Bool}(l:List Nat)(hi:ρ.length=i)(v:Nat->D)(q:Nat->Nat)
  (he:∀ x,x∈l->te (ρ++[(i9 x)])=some (v x,q x,ρ++[(i9 x)])) (hd:deep=true->∀ j,(v j).cw=true->q j=1:=by intro h;cases h) :
  l3 1 (aQ i) dB te deep (aD l) ρ=some (l.map v,ρ):=by
 have h:=tU (k:=1) (pt:=aQ i) (tt:=dB) (te:=te) (deep:=deep) (aD l) (fun _=>ρ) (fun _=>true) (fun j=>v (l.getD j 0)) (fun j hj=>?_)
 ·rw[iB,show(List.range l.length).filter (fun _=>true)=List.range l.length by simp]at h
  rw[h]
  have e:(List.range l.length).map (fun j=>v (l.getD j 0))=l.map v:=by
   apply Q7
   intro k
   by_cases hk:k<l.length
   ·simp[hk]
   ·rw[Qx (by simp;omega),Qx (by simp;omega)]
  rw[e]
 ·have yL:j<l.length:=by rw[iB]at hj;exact hj
  refine⟨ρ++[(i9 (l.getD j 0))],_,?_,rfl,?_⟩
  ·rw[Ct hj]
   unfold aQ
   rw[Qe (by simp[hi])]
   subst hi
   simp[J6]
  ·rw[Qe rfl]
   exact⟨q _,_,he _ (vQ yL),fun⟨h1,h2,h3⟩=>h3 (hd h1 _ h2),by simp⟩
theorem T6{i:Nat}{tt:cD}{te:aw}{ρ:aU}{deep:Bool}(l:List Nat)(hi:ρ.length=i)(b:Nat->Bool)(v:Nat->D)(q:Nat->Nat)
  (ht:∀ x,x∈l->tt (ρ++[(i9 x)])=some (b x,ρ++[(i9 x)]))
  (he:∀ x,x∈l->b x=true->te (ρ++[(i9 x)])=some (v x,q x,ρ++[(i9 x)])) (hd:deep=true->∀ j,(v j).cw=true->q j=1:=by intro h;cases h) :
  l3 1 (aQ i) tt te deep (aD l) ρ=some ((l.filter b).map v,ρ):=by
 have h:=tU (k:=1) (pt:=aQ i) (tt:=tt) (te:=te) (deep:=deep) (aD l) (fun _=>ρ) (fun j=>b (l.getD j 0)) (fun j=>v (l.getD j 0)) (fun j hj=>?_)
 ·rw[iB]at h
  rw[h]
  have e:((List.range l.length).filter fun j=>b (l.getD j 0)).map (fun j=>v (l.getD j 0))=(l.filter b).map v:=by
   have e1:(List.range l.length).map (fun j=>l.getD j 0)=l:=by
    apply Q7
    intro k
    by_cases hk:k<l.length
    ·simp[hk]
    ·rw[Qx (by simp;omega),Qx (by omega)]
   have e2:=JZ (fun m=>(List.filter b m).map v) e1
   simp only[List.filter_map,ZV]at e2
   exact e2
  rw[e]
 ·have yL:j<l.length:=by rw[iB]at hj;exact hj
  refine⟨ρ++[(i9 (l.getD j 0))],_,?_,ht _ (vQ yL),?_⟩
  ·rw[Ct hj]
   unfold aQ
   rw[Qe (by simp[hi])]
   subst hi
   simp[J6]
  ·by_cases hb:b (l.getD j 0)=true
   ·rw[Qe hb]
    exact⟨q _,_,he _ (vQ yL) hb,fun⟨h1,h2,h3⟩=>h3 (hd h1 _ h2),by simp⟩
   ·rw[Qf hb]
    simp
theorem fZ{g:D->D->Option D}{fa fb:aw}{ρ ρ1 ρ2:aU}{x y d:D}{q q':Nat}(ha:fa ρ=some (x,q,ρ1))(hb:fb ρ1=some (y,q',ρ2))(hg:g x y=some d):e2 g fa fb ρ=some (d,9,ρ2):=by unfold e2;rw[ha];simp only[hb,hg]
theorem n4{f:aw}{ρ ρ1:aU}{b:Bool}{q:Nat}(h:f ρ=some (.bl b,q,ρ1)):bJ f ρ=some (b,ρ1):=by unfold bJ;rw[h]
theorem T7{i:Nat}{g:bQ}{ρ ρ1 ρ2:aU}{ds:List D}{d:D}(hl:yd ρ[i]? = true)(hg:g ρ=some ([d],ρ1))(h1:ρ1[i]? = some (some (.lst ds,1)))(hn:ds.length<=1000)(e:ρ1.set i (some (.lst (ds++[d]),1))=ρ2):gF (tJ i g) ρ=some (.nx ρ2):=by
 unfold gF tJ
 rw[Qe hl,hg]
 simp only[h1,Qe hn,e]
theorem Cu{b:List D->Option D}{g:bQ}{ρ ρ1:aU}{ds:List D}{d:D}(h:g ρ=some (ds,ρ1))(hd:b ds=some d):eB b g ρ=some (d,9,ρ1):=by unfold eB;rw[h];simp only[hd]
def dH (n:Nat)(r:Nat->Nat):D:=.tup (aD ((List.range n).map r))
abbrev r9 (n:Nat)(r:Nat->Nat):OD:=some (dH n r,9)
@[simp] theorem j46{n:Nat}{r:Nat->Nat}:(dH n r).cw=false:=rfl
theorem vR{n i:Nat}{r:Nat->Nat}(h:i<n):dO (dH n r) (Int.ofNat i)=some (iD (r i)):=GN h
theorem tW(l l':List Nat):cz (.tup (aD l)) (.tup (aD l'))=some (.bl (!decide (l=l'))):=by unfold cz;rw[Qe ⟨(sv l).ok,(sv l').ok⟩,GS]
theorem G0(n:Nat)(r:Nat->Nat):Sh 1 (dH n r):=sv _
namespace bL
variable {x y z:Nat}
variable {n:Nat}{f:Nat->Nat->Nat}(L:bL n f)
include L
theorem le_trans(hx:x<n)(hy:y<n)(hz:z<n)(h1:f x y=y)(h2:f y z=z):f x z=z:=by
 rw[<- h2,<- L.assoc x y z hx hy hz,h1]
theorem kT(hx:x<n)(hy:y<n)(h1:f x y=y)(h2:f y x=x):x=y:=by
 rw[L.comm y x hy hx,h1]at h2;exact h2.symm
theorem sx(hx:x<n)(hy:y<n):f x (f x y)=f x y:=by rw[<- L.assoc x x y hx hx hy,L.idem x hx]
theorem Cv(hx:x<n)(hy:y<n):f y (f x y)=f x y:=by rw[L.comm x y hx hy];exact L.sx hy hx
theorem lub(hx:x<n)(hy:y<n)(hz:z<n)(h1:f x z=z)(h2:f y z=z):f (f x y) z=z:=by rw[L.assoc x y z hx hy hz,h2,h1]
omit L
def low (n:Nat)(f:Nat->Nat->Nat)(x:Nat):List Nat:=(List.range n).filter fun y=>decide (f y x=x)
theorem kU:y∈low n f x ↔ y<n/\f y x=x:=by simp[low]
include L
variable {z:Nat}(hz:z<n)(bz:∀ j,j<n->f z j=j){r s:Nat->Nat}(hr:∀ i,i<n->r i<n)
include hz bz hr
end bL
theorem iC{α:Type}{us:List α}(h:us.length=1):∃ a,us=[a]:=match us,h with|[a],_=>⟨a,rfl⟩
theorem f9{α:Type}{us:List α}(h:us.length=2):∃ a b,us=[a,b]:=by
 cases us with
 | nil=>cases h
 | cons a us=>
  obtain⟨b,hh⟩:=iC (Z7 h)
  exact⟨a,b,by rw[hh]⟩
theorem fE{α:Type}{us:List α}(h:us.length=3):∃ a b c,us=[a,b,c]:=by
 cases us with
 | nil=>cases h
 | cons a us=>
  obtain⟨b,c,hh⟩:=f9 (Z7 h)
  exact⟨a,b,c,by rw[hh]⟩
theorem sy{α:Type}{us:List α}(h:us.length=4):∃ a b c d,us=[a,b,c,d]:=by
 cases us with
 | nil=>cases h
 | cons a us=>
  obtain⟨b,c,d,hh⟩:=fE (Z7 h)
  exact⟨a,b,c,d,by rw[hh]⟩
theorem yM{pt:fA}{body:av}{d:D}{ds:List D}{ρ ρ1 ρ2:aU}(h1:pt d ρ=some ρ1)(h2:body ρ1=some (.nx ρ2)):iA pt body (d::ds) ρ=iA pt body ds ρ2:=by
 show(match pt d ρ with|none=>none|some ρ1=>_)=_
 simp only[h1,h2]
theorem G1{α J σ:Type}{pt:fA}{body:av}(enc:α->D)(S:σ->J->aU)(g:σ->α->σ)(I:σ->Prop):∀ (l:List α) (s:σ) (j:J),I s->
  (∀ x∈l,∀ s j,I s->I (g s x)/\∃ ρ1 j',pt (enc x) (S s j)=some ρ1/\body ρ1=some (.nx (S (g s x) j')))->∃ j',iA pt body (l.map enc) (S s j)=some (.nx (S (l.foldl g s) j'))/\I (l.foldl g s)
 | [],s,j,i,_=>⟨j,rfl,i⟩
 | x::l,s,j,i,h=>by
  obtain⟨i1,ρ1,j1,h1,h2⟩:=h x Qi s j i
  obtain⟨j2,e,i2⟩:=G1 enc S g I l (g s x) j1 i1 fun y m=>h y (Qg _ m)
  exact⟨j2,(yM h1 h2).trans e,i2⟩
theorem G2{c:cD}{b:av}{Q:aU->Prop}(I:Nat->aU->Prop)
  (h:∀ k ρ,I k ρ->(∃ ρ1,c ρ=some (false,ρ1)/\Q ρ1)\/(∃ ρ1 ρ2 k',c ρ=some (true,ρ1)/\b ρ1=some (.nx ρ2)/\k'<k/\I k' ρ2)):∀ m k ρ,k<m->I k ρ->∃ ρ',m6 c b m ρ=some (.nx ρ')/\Q ρ'
 | 0,k,_,hk,_=>absurd hk (YS k)
 | m+1,k,ρ,hk,i=>by
  rcases h k ρ i with⟨ρ1,h1,h2⟩|⟨ρ1,ρ2,k',h1,h2,h3,h4⟩
  ·exact⟨ρ1,by unfold m6;simp[h1],h2⟩
  ·obtain⟨ρ',e,q⟩:=G2 I h m k' ρ2 (by omega) h4
   refine⟨ρ',?_,q⟩
   unfold m6
   simp[h1,h2,e]
theorem T8{c:cD}{b:av}{Q:aU->Prop}(I:Nat->aU->Prop){k:Nat}{ρ:aU}(hk:k<1000)(i:I k ρ)
  (h:∀ k ρ,I k ρ->(∃ ρ1,c ρ=some (false,ρ1)/\Q ρ1)\/(∃ ρ1 ρ2 k',c ρ=some (true,ρ1)/\b ρ1=some (.nx ρ2)/\k'<k/\I k' ρ2)):∃ ρ',tM c b ρ=some (.nx ρ')/\Q ρ':=G2 I h 1000 k ρ hk i
def gv (v:List Nat)(i:Nat):Nat:=v.getD i 0
theorem Cw{v:List Nat}{i:Nat}(h:i<v.length):v[i]? = some (gv v i):=by unfold gv;simp[h]
theorem T9{v:List Nat}{i:Nat}(h:i<v.length):gv v i∈v:=vQ h
theorem G3{v:List Nat}{i:Nat}(h:i<v.length):dO (.tup (aD v)) (Int.ofNat i)=some (iD (gv v i)):=GL (Cw h)
theorem T_{v:List Nat}{i:Nat}(h:i<v.length)(x j:Nat):gv (v.set i x) j=if j=i then x else gv v j:=by
 unfold gv
 rw[Zb,Zb]
 by_cases e:j=i
 ·subst e;rw[Qe rfl,QI h];rfl
 ·rw[Qf e,QJ (fun z=>e z.symm)]
theorem G4{u v:List Nat}(h:u.length=v.length)(k:∀ i,i<u.length->gv u i=gv v i):u=v:=by
 apply Q7
 intro i
 by_cases hi:i<u.length
 ·rw[Cw hi,Cw (by omega),k i hi]
 ·rw[Qx (by omega),Qx (by omega)]
structure Vn (n p:Nat) (v:List Nat):Prop where
 len:v.length=p
 lt:∀ x∈v,x<n
theorem Vn.gv{n p:Nat}{v:List Nat}(h:Vn n p v){i:Nat}(hi:i<p):gv v i<n:=h.lt _ (T9 (by rw[h.len];exact hi))
theorem Vn.set{n p:Nat}{v:List Nat}(h:Vn n p v){i x:Nat}(hx:x<n):Vn n p (v.set i x):=⟨by rw[QL];exact h.len,fun y hy=>by
 rcases List.mem_or_eq_of_mem_set hy with h' | h'
 ·exact h.lt y h'
 ·rw[h'];exact hx⟩
def fF (f:Nat->Nat->Nat)(p:Nat)(u v:List Nat):Prop:=∀ i,i<p->f (gv u i) (gv v i)=gv v i
abbrev ky:=Nat×(List Nat->Nat)
def bH (f:Nat->Nat->Nat)(v:List Nat)(s:ky):List Nat:=v.set s.1 (f (gv v s.1) (s.2 v))
structure kW (n p:Nat) (f:Nat->Nat->Nat) (s:ky):Prop where
 pl:s.1<p
 lt:∀ v,Vn n p v->s.2 v<n
 mono:∀ u v,Vn n p u->Vn n p v->fF f p u v->f (s.2 u) (s.2 v)=s.2 v
def qB (f:Nat->Nat->Nat)(l:List ky)(v:List Nat):Prop:=∀ s∈l,f (s.2 v) (gv v s.1)=gv v s.1
namespace bL
variable {s:ky}{u v:List Nat}
variable {n:Nat}{f:Nat->Nat->Nat}(L:bL n f){p:Nat}
include L
theorem eJ(h:Vn n p v):fF f p v v:=fun i hi=>L.idem _ (h.gv hi)
theorem iE{w:List Nat}(hu:Vn n p u)(hv:Vn n p v)(hw:Vn n p w)(a:fF f p u v)(b:fF f p v w):fF f p u w:=fun i hi=>L.le_trans (hu.gv hi) (hv.gv hi) (hw.gv hi) (a i hi) (b i hi)
theorem gL(hu:Vn n p u)(hv:Vn n p v)(a:fF f p u v)(b:fF f p v u):u=v:=
 G4 (hu.len.trans hv.len.symm) fun i hi=>by
  rw[hu.len]at hi
  exact L.kT (hu.gv hi) (hv.gv hi) (a i hi) (b i hi)
theorem jD(hs:kW n p f s)(h:Vn n p v):Vn n p (bH f v s):=h.set (L.cl _ _ (h.gv hs.pl) (hs.lt v h))
theorem gM(hs:kW n p f s)(h:Vn n p v)(i:Nat):gv (bH f v s) i=if i=s.1 then f (gv v s.1) (s.2 v)else gv v i:=T_ (by rw[h.len];exact hs.pl) _ _
theorem kz(hs:kW n p f s)(h:Vn n p v):fF f p v (bH f v s):=fun i hi=>by
 rw[L.gM hs h]
 by_cases e:i=s.1
 ·subst e;rw[Qe rfl];exact L.sx (h.gv hi) (hs.lt v h)
 ·rw[Qf e];exact L.idem _ (h.gv hi)
theorem nr(hs:kW n p f s)(hu:Vn n p u)(hv:Vn n p v)(a:fF f p u v):fF f p (bH f u s) (bH f v s):=fun i hi=>by
 rw[L.gM hs hu,L.gM hs hv]
 by_cases e:i=s.1
 ·subst e
  rw[Qe rfl,Qe rfl]
  have h1:=hu.gv hs.pl
  have h2:=hs.lt u hu
  have h3:=hv.gv hs.pl
  have h4:=hs.lt v hv
  exact L.lub h1 h2 (L.cl _ _ h3 h4) (L.le_trans h1 h3 (L.cl _ _ h3 h4) (a _ hs.pl) (L.sx h3 h4)) (L.le_trans h2 h4 (L.cl _ _ h3 h4) (hs.mono u v hu hv a) (L.Cv h3 h4))
 ·rw[Qf e,Qf e];exact a i hi
theorem i6(hs:kW n p f s)(h:Vn n p v):bH f v s=v ↔ f (s.2 v) (gv v s.1)=gv v s.1:=by
 constructor
 ·intro e
  have:=JZ (fun u=>gv u s.1) e
  rw[L.gM hs h,Qe rfl]at this
  rw[L.comm _ _ (hs.lt v h) (h.gv hs.pl)]
  exact this
 ·intro e
  refine G4 (by unfold bH;rw[QL]) fun i hi=>?_
  rw[L.gM hs h]
  by_cases e':i=s.1
  ·subst e';rw[Qe rfl,L.comm _ _ (h.gv hs.pl) (hs.lt v h)];exact e
  ·rw[Qf e']
theorem i7:∀ {l:List ky} {v:List Nat},(∀ s∈l,kW n p f s)->Vn n p v->Vn n p (l.foldl (bH f) v)
 | [],v,_,h=>h
 | s::l,v,hs,h=>i7 (l:=l) (fun t m=>hs t (Qg _ m)) (L.jD (hs s Qi) h)
theorem gN:∀ {l:List ky} {v:List Nat},(∀ s∈l,kW n p f s)->Vn n p v->fF f p v (l.foldl (bH f) v)
 | [],v,_,h=>L.eJ h
 | s::l,v,hs,h=>by
  have h1:=L.jD (hs s Qi) h
  have hl:∀ t∈l,kW n p f t:=fun t m=>hs t (Qg _ m)
  exact L.iE h h1 (L.i7 (l:=l) hl h1) (L.kz (hs s Qi) h) (gN (l:=l) hl h1)
theorem fG{a:List Nat}(ha:Vn n p a):∀ {l:List ky} {v:List Nat},(∀ s∈l,kW n p f s)->Vn n p v->qB f l a->fF f p v a->fF f p (l.foldl (bH f) v) a
 | [],v,_,h,_,e=>e
 | s::l,v,hs,h,c,e=>by
  have s0:=hs s Qi
  have h1:=L.jD s0 h
  have hl:∀ t∈l,kW n p f t:=fun t m=>hs t (Qg _ m)
  refine fG ha (l:=l) hl h1 (fun t m=>c t (Qg _ m)) ?_
  have:=L.nr s0 h ha e
  rw[(L.i6 s0 ha).mpr (c s Qi)]at this
  exact this
theorem fg:∀ {l:List ky} {v:List Nat},(∀ s∈l,kW n p f s)->Vn n p v->(l.foldl (bH f) v=v ↔ qB f l v)
 | [],v,_,h=>⟨fun _ _ m=>(QG m).elim,fun _=>rfl⟩
 | s::l,v,hs,h=>by
  have s0:=hs s Qi
  have h1:=L.jD s0 h
  have hl:∀ t∈l,kW n p f t:=fun t m=>hs t (Qg _ m)
  constructor
  ·intro e
   have e0:l.foldl (bH f) (bH f v s)=v:=e
   have up:=L.gN hl h1
   rw[e0]at up
   have e1:bH f v s=v:=L.gL h1 h up (L.kz s0 h)
   rw[e1]at e0
   have c:=(fg (l:=l) hl h).mp e0
   intro t m
   rcases Qn.mp m with rfl|m
   ·exact(L.i6 s0 h).mp e1
   ·exact c t m
  ·intro c
   show l.foldl (bH f) (bH f v s)=v
   rw[(L.i6 s0 h).mpr (c s Qi)]
   exact(fg (l:=l) hl h).mpr fun t m=>c t (Qg _ m)
def cnt (n:Nat)(f:Nat->Nat->Nat)(x:Nat):Nat:=((List.range n).filter fun y=>decide (f x y=y)).length
def mu (n:Nat)(f:Nat->Nat->Nat)(v:List Nat):Nat:=(v.map (cnt n f)).sum
omit L in
theorem Ua(x:Nat):cnt n f x<=n:=by
 have:=ZN (fun y=>decide (f x y=y)) (List.range n)
 rw[Jd]at this
 exact this
omit L in
theorem vS(h:Vn n p v):mu n f v<=p*n:=by
 have key:∀ l:List Nat,(l.map (cnt n f)).sum<=l.length*n:=by
  intro l
  induction l with
  | nil=>simp
  | cons x l ih=>
   have:=Ua (n:=n) (f:=f) x
   simp only[QZ,List.sum_cons,Qz,Nat.succ_mul]
   omega
 have:=key v
 rw[h.len]at this
 exact this
omit L in
theorem G5{q r:Nat->Bool}{a:Nat}:∀ {l:List Nat},(∀ x∈l,r x=true->q x=true)->a∈l->q a=true->r a=false->(l.filter r).length<(l.filter q).length
 | y::l,h,ha,hq,hr=>by
  have hl:∀ x∈l,r x=true->q x=true:=fun x m=>h x (Qg _ m)
  have le:∀ l:List Nat,(∀ x∈l,r x=true->q x=true)->(l.filter r).length<=(l.filter q).length:=by
   intro l
   induction l with
   | nil=>intro _;simp
   | cons z l ih=>
    intro h
    have i:=ih fun x m=>h x (Qg _ m)
    by_cases hz:r z=true
    ·rw[Q9 hz,Q9 (h z Qi hz)]
     simp only[Qz];omega
    ·rw[ZA hz]
     by_cases vT:q z=true
     ·rw[Q9 vT];simp only[Qz];omega
     ·rw[ZA vT];exact i
  by_cases e:y=a
  ·subst e
   rw[ZA (by rw[hr];simp),Q9 hq]
   have:=le l hl
   simp only[Qz];omega
  ·have Ub:a∈l:=by
    rcases Qn.mp ha with h' | h'
    ·exact absurd h'.symm e
    ·exact h'
   have i:=G5 (l:=l) hl Ub hq hr
   by_cases hz:r y=true
   ·rw[Q9 hz,Q9 (h y Qi hz)]
    simp only[Qz];omega
   ·rw[ZA hz]
    by_cases vT:q y=true
    ·rw[Q9 vT];simp only[Qz];omega
    ·rw[ZA vT];exact i
theorem sA{x y:Nat}(hx:x<n)(hy:y<n)(h:f x y=y)(ne:x≠y):cnt n f y<cnt n f x:=by
 refine G5 (a:=x) (fun k m hk=>?_) (QV.mpr hx) (Zh (L.idem x hx)) (Q4 fun e=>ne (L.kT hx hy h e))
 exact Zh (L.le_trans hx hy (QV.mp m) h (JO hk))
theorem qD(hu:Vn n p u)(hv:Vn n p v)(a:fF f p u v)(ne:u≠v):mu n f v<mu n f u:=by
 have key:∀ (u v:List Nat),u.length=v.length->(∀ x∈u,x<n)->(∀ x∈v,x<n)->(∀ i,i<u.length->f (gv u i) (gv v i)=gv v i)->((v.map (cnt n f)).sum<=(u.map (cnt n f)).sum)/\(u≠v->(v.map (cnt n f)).sum<(u.map (cnt n f)).sum):=by
  intro u
  induction u with
  | nil=>
   intro v hl _ _ _
   have:v=[]:=Q2.mp hl.symm
   subst this
   exact⟨Qd _,fun h=>absurd rfl h⟩
  | cons x u ih=>
   intro v hl h1 h2 h3
   cases v with
   | nil=>cases hl
   | cons y v=>
    have gh:u.length=v.length:=by simpa using hl
    obtain⟨i1,i2⟩:=ih v gh (fun z m=>h1 z (Qg _ m)) (fun z m=>h2 z (Qg _ m)) (fun i hi=>h3 (i+1) (by simpa using hi))
    have e0:f x y=y:=h3 0 (by simp)
    have hx:=h1 x Qi
    have hy:=h2 y Qi
    simp only[QZ,List.sum_cons]
    by_cases e:x=y
    ·subst e
     exact⟨by omega,fun h=>by have:=i2 (fun z=>h (by rw[z]));omega⟩
    ·have:=L.sA hx hy e0 e
     exact⟨by omega,fun _=>by omega⟩
 exact(key u v (hu.len.trans hv.len.symm) hu.lt hv.lt (fun i hi=>a i (by rw[<- hu.len];exact hi))).2 ne
end bL
end L3
namespace My
open PySem PySem.Spec PyProof.Rows L2 L3
variable {F:D->List D->Option D}{G:List D->OD}{a d ob:D}{an od:Option Addr}{b:Nat×Nat}{body:av}{cd ct dc oc pm:Value}{ds ba:List D}{f:Nat->Nat->Nat}{fa fb fe te:aw}{dh ps:List Str}{g:bQ}{h i m n p q q' x:Nat}{l:PySem.W.OpenLaw}{qual:Str}{r:Nat->Nat}{s:ky}{sl:Array (Option Value)}{st:Stmt}{v:List Nat}{ρ ρ1 ρ2:aU}
def top (i:Nat):Stmt:=PySem.Challenge.pw_ladderhall_k99_whole_edges_by_hand.main.body.getD i (.Pass ⟨0,0,0,0⟩)
structure Bt (mg:Str->Option Value):Prop where
 jE:mg "all" = none
 sC:mg "bool" = none
 fH:mg "enumerate" = none
 vU:mg "int" = none
 bh:mg "isinstance" = none
 aP:mg "len" = none
 i8:mg "list" = none
 vV:mg "max" = none
 vW:mg "min" = none
 ax:mg "range" = none
 vX:mg "str" = none
 aS:mg "tuple" = none
 dQ:∃ t,mg "MOST_WORTHS" = some (.int 16 t)
structure Kt (K:PySem.W.Frag):Prop where
 jF:ku K "Keeper" "begins"
 nu:ku K "Keeper" "ladder"
 dR:ku K "Keeper" "many_raises"
 nv:ku K "Keeper" "places"
 ny:ku K "Keeper" "ways"
 jG:ku K "Keeper" "worths"
section
variable {P:Program}{w:World}{K:PySem.W.Frag}{mg:Str->Option Value}{base:Heap}
def G6:av:=aV (AY (aa (ab 0) ag))
def qE:=bb 1 (G6)
theorem Uc:ae ["many"] ["many"] (aJ (top 19)):=bu (by decide +kernel)
theorem G7(B:Bt mg)(a:At K mg "row_of_least" (top 19) ["many"]):ah P w K mg base 1 "row_of_least" 1 (qE):=
 ah.bw a Uc fun _ _ _ _ _ _ _ hr=>
  aC (aZ (Fw rfl B.aS Qp B.ax (aq 0 rfl rfl aj)))
def G8:av:=aV (Bb (ab 0) (aa (aB qE 1 (aa (dE 0) ag)) ag))
def jH:=bb 1 (G8)
theorem Ud:ae ["ladder"] ["ladder"] (aJ (top 21)):=bu (by decide +kernel)
theorem G9(B:Bt mg)(Cy:ah P w K mg base 1 "row_of_least" 1 qE)(a:At K mg "least_of" (top 21) ["ladder"]):ah P w K mg base 2 "least_of" 1 (jH):=
 ah.bw a Ud fun _ _ _ _ _ _ _ hr=>
  aC (aZ (PF hr (aI 0 rfl rfl) (ao (aO Cy hr (by decide) (ao (fC B.aP (ql 0 rfl rfl)) aj cI)) aj cI)))
abbrev Ue:av:=bD 2 (eT (aW 0 (ab 2)) (ab 3))
def G_:av:=aG (bD 2 (aB jH 1 (aa (ab 0) ag)))
 (aG (dF (d_ (ab 1)) (aQ 3) Ue)
 (aV (ab 2)))
def qF:=bb 4 (G_)
theorem yN:ae ["ladder","worths","joined","worth"] ["ladder","worths"] (aJ (top 24)):=bu (by decide +kernel)
theorem Ha(B:Bt mg)(me:ah P w K mg base 2 "least_of" 1 jH)(a:At K mg "joined_all" (top 24) ["ladder","worths"]):ah P w K mg base 3 "joined_all" 2 (qF):=
 ah.bw a yN fun _ _ _ _ _ _ _ hr=>
  aL (bW (i:=2) yN.nd rfl (Or.inl rfl) (aO me hr (by decide) (aq 0 rfl rfl aj)))
  (aL (fV Qq rfl (iz (aI 1 rfl rfl)) (bM (i:=3) (show 0<=3 by decide) yN.nd rfl (Or.inl rfl)) (aC (bW (i:=2) yN.nd rfl (Or.inl rfl) (fT (bj (ql 0 rfl rfl) (aI 2 rfl rfl)) (aI 3 rfl rfl)))))
  (aC (aZ (aI 2 rfl rfl))))
def Hb:av:=aV (e2 h_ (eT (aW 0 (ab 1)) (ab 2)) (ab 2))
def jI:=bb 3 (Hb)
theorem Ug:ae ["ladder","one","other"] ["ladder","one","other"] (aJ (top 22)):=bu (by decide +kernel)
theorem Hc(B:Bt mg)(a:At K mg "is_below" (top 22) ["ladder","one","other"]):ah P w K mg base 1 "is_below" 3 (jI):=
 ah.bw a Ug fun _ _ _ _ _ _ _ hr=>
  aC (aZ (uZ hr (fT (bj (ql 0 rfl rfl) (aI 1 rfl rfl)) (aI 2 rfl rfl)) (aI 2 rfl rfl)))
def Hd:av:=aV (dv 1 (ck (aa (dE 0) ag)) (aQ 2) (dP (aB jI 3 (aa (ab 0) (aa (ab 2) (aa (ab 1) ag))))) (ab 2) false)
def nz:=bb 2 (Hd)
theorem Uh:ae ["ladder","worth"] ["ladder","worth"] (aJ (top 23)):=bu (by decide +kernel)
abbrev He:List Str:=["ladder","worth","x"]
theorem Ui:(He).Nodup:=by decide +kernel
theorem Hf(B:Bt mg)(n5:ah P w K mg base 1 "is_below" 3 jI)(a:At K mg "below" (top 23) ["ladder","worth"]):ah P w K mg base 2 "below" 2 (nz):=
 ah.bw a Uh fun _ _ _ _ _ _ _ hr=>
  aC (aZ (iT (k:=1) (N':=He) false rfl ⟨rfl,by decide +kernel,rfl,rfl,rfl⟩ (fy B.ax (ao (fC B.aP (qv 0)) aj cI)) (fun _ _ _ _=>bM (i:=2) (show 2<=2 by decide) Ui rfl (Or.inl rfl) (Or.inr rfl)) (fun _ _ _ _=>xY (gk (aO n5 hr (by decide) (ao (aY (qv 0)) (ao (aY (qv 2)) (ao (aY (qv 1)) aj bC) bC) bC)))) (fun _ _ _ _=>aY (qv 2))))
def Hg:av:=aV (aB qF 2 (aa (ab 0) (aa (dv 1 (d_ (aB nz 2 (aa (ab 0) (aa (ab 1) ag)))) (aQ 3) (dP (aB jI 3 (aa (ab 0) (aa (ab 3) (aa (ab 2) ag))))) (ab 3) false) ag)))
def tX:=bb 3 (Hg)
theorem Uj:ae ["ladder","one","other"] ["ladder","one","other"] (aJ (top 25)):=bu (by decide +kernel)
abbrev Hh:List Str:=["ladder","one","other","x"]
theorem Uk:(Hh).Nodup:=by decide +kernel
theorem Hi(B:Bt mg)(Cz:ah P w K mg base 3 "joined_all" 2 qF)(CA:ah P w K mg base 2 "below" 2 nz)(n5:ah P w K mg base 1 "is_below" 3 jI)(a:At K mg "met" (top 25) ["ladder","one","other"]):ah P w K mg base 4 "met" 3 (tX):=
 ah.bw a Uj fun _ _ _ _ _ _ _ hr=>
  aC (aZ (aO Cz hr (by decide) (ao (aY (qv 0)) (ao (iT (k:=1) (N':=Hh) false rfl ⟨rfl,by decide +kernel,rfl,rfl,rfl⟩ (iz (aO CA hr (by decide) (ao (aY (qv 0)) (aq 1 rfl rfl aj) bC))) (fun _ _ _ _=>bM (i:=3) (show 3<=3 by decide) Uk rfl (Or.inl rfl) (Or.inr rfl)) (fun _ _ _ _=>xY (gk (aO n5 hr (by decide) (ao (aY (qv 0)) (ao (aY (qv 3)) (ao (aY (qv 2)) aj bC) bC) bC)))) (fun _ _ _ _=>aY (qv 3))) aj ly) bC)))
def Hj:av:=aV (iU (aa (u7 (kh (aa (aB jH 1 (aa (ab 0) ag)) ag)) (aW 1 (eC (.int 0)))) ag))
def mf:=bb 2 (Hj)
theorem Ul:ae ["ladder","chart"] ["ladder","chart"] (aJ (top 55)):=bu (by decide +kernel)
theorem Um(B:Bt mg)(me:ah P w K mg base 2 "least_of" 1 jH)(a:At K mg "lowest" (top 55) ["ladder","chart"]):ah P w K mg base 3 "lowest" 2 (mf):=
 ah.bw a Ul fun _ _ _ _ _ _ _ hr=>
  aC (aZ (lr B.aS Qp (ao (Bd (nQ (ao (aO me hr (by decide) (aq 0 rfl rfl aj)) aj cI)) (bj (ql 1 rfl rfl) bc)) aj jZ)))
def Hk:av:=aV (bg (aa (iZ 0 "places") (aa (iZ 0 "ways") (aa (iZ 0 "begins") ag))))
def qG:=bb 1 Hk
theorem Uo:ae ["self"] ["self"] (aJ (ji (top 73) 4)):=bu (by decide +kernel)
theorem Up(B:Bt mg)(a:lF K "Keeper" "chart" "Keeper.chart" (ji (top 73) 4) ["self"]):lG P w K mg base 1 "Keeper" "chart" 1 qG:=
 lG.bw (k:=0) a Uo fun _ _ _ _ _ _ _ hr=>
  aC (aZ (bN (ao (lD (ql 0 rfl rfl)) (ao (lD (ql 0 rfl rfl)) (ao (lD (ql 0 rfl rfl)) aj oW) oW) oW)))
def Hl:av:=aG (kS "Keeper" 0 "ladder" (ab 1))
 (aG (kS "Keeper" 0 "places" (ab 2))
 (aG (kS "Keeper" 0 "ways" (bg ag))
 (aG (kS "Keeper" 0 "begins" (bg ag))
 (aG (kS "Keeper" 0 "worths" (aB mf 2 (aa (ab 1) (aa (sr "Keeper" "chart" qG 0) ag))))
 (kS "Keeper" 0 "many_raises" (eC (.int 0)))))))
def tY:D->List D->Option D:=lE 3 Hl
theorem Uq:ae ["self","ladder","places"] ["self","ladder","places"] (aJ (ji (top 73) 0)):=bu (by decide +kernel)
theorem Ur(B:Bt mg)(N:Kt K)(sD:ah P w K mg base 3 "lowest" 2 mf)(c8:lG P w K mg base 1 "Keeper" "chart" 1 qG)(a:lF K "Keeper" "__init__" "Keeper.__init__" (ji (top 73) 0) ["self","ladder","places"])(hc:∀ C,PySem.W.nsIn K mainGlobals "Keeper" = some (some (.ref C))->mg "Keeper" = some (.ref C)/\PySem.W.makesIn K C=true/\PySem.W.keepIn K (.ref C)=true/\hX K C):pw P w K mg base 4 "Keeper" 3 tY:=
 pw.bw (k:=3) a hc Uq fun _ _ _ _ _ _ _ hr=>
  aL (nY N.nu (ql 0 rfl rfl) (aI 1 rfl rfl))
  (aL (nY N.nv (ql 0 rfl rfl) (aI 2 rfl rfl))
  (aL (nY N.ny (ql 0 rfl rfl) (bN aj))
  (aL (nY N.jF (ql 0 rfl rfl) (bN aj))
  (aL (nY N.jG (ql 0 rfl rfl) (aO sD hr (by decide) (aq 1 rfl rfl (ao (Ce c8 hr (by decide) (ql 0 rfl rfl)) aj cI))))
  (aC (nY N.dR (ql 0 rfl rfl) bc))))))
def Hm:av:=aV (kK (oZ .int (ab 0)) (Bf (oZ .bool (ab 0))))
def sE:=bb 1 (Hm)
theorem Us:ae ["thing"] ["thing"] (aJ (top 9)):=bu (by decide +kernel)
theorem Ut(B:Bt mg)(a:At K mg "is_whole" (top 9) ["thing"]):ah P w K mg base 1 "is_whole" 1 (sE):=
 ah.bw a Us fun _ _ _ _ _ _ _ hr=>
  aC (aZ (qh (rV .int B.bh B.vU PyProof.Rows.boot_int (aI 0 rfl rfl)) (rR (PK (rV .bool B.bh B.sC PyProof.Rows.boot_bool (aI 0 rfl rfl))))))
def Hn:av:=aV (kK (aB sE 1 (aa (ab 0) ag)) (qo tH lY (eC (.int 0)) (ab 0) (ab 1)))
def n6:=bb 2 (Hn)
theorem Uu:ae ["thing","many"] ["thing","many"] (aJ (top 10)):=bu (by decide +kernel)
theorem Uv(B:Bt mg)(CB:ah P w K mg base 1 "is_whole" 1 sE)(a:At K mg "is_number_of" (top 10) ["thing","many"]):ah P w K mg base 2 "is_number_of" 2 (n6):=
 ah.bw a Uu fun _ _ _ _ _ _ _ hr=>
  aC (aZ (qh (aO CB hr (by decide) (aq 0 rfl rfl aj)) (rR (Q_ bc (aI 0 rfl rfl) (aI 1 rfl rfl)))))
def Ho:av:=cy (eU (dP (aB n6 2 (aa (ab 1) (aa (ab 0) ag))))) o9 (cM)
def qH:=bb 2 (Ho)
theorem Uw:ae ["places","place"] ["places","place"] (aJ (top 42)):=bu (by decide +kernel)
theorem Ux(B:Bt mg)(vY:ah P w K mg base 2 "is_number_of" 2 n6)(a:At K mg "refuse_no_place" (top 42) ["places","place"]):ah P w K mg base 3 "refuse_no_place" 2 (qH):=
 ah.bw a Uw fun _ _ _ _ _ _ _ hr=>
  aC (du (iy (gk (aO vY hr (by decide) (aq 1 rfl rfl (aq 0 rfl rfl aj))))) (aC rY) dt)
def Hq:av:=aG (cy (bJ (e2 h_ (aW 2 (eC (.int 0))) (eC (.str "begin")))) (aV (eT (aW 0 (eC (.int 2))) (aW 2 (eC (.int 1))))) cM)
 (aG (bD 3 (eT (aW 0 (eC (.int 1))) (aW 2 (eC (.int 1)))))
 (aV (bg (aa (aW 3 (eC (.int 1))) (aa (eT (aW 3 (eC (.int 2))) (aW 1 (aW 3 (eC (.int 0))))) ag)))))
def vZ:=bb 4 (Hq)
theorem Hr:ae ["chart","worths","step","way"] ["chart","worths","step"] (aJ (top 60)):=bu (by decide +kernel)
theorem Uy(B:Bt mg)(a:At K mg "place_and_worth" (top 60) ["chart","worths","step"]):ah P w K mg base 1 "place_and_worth" 3 (vZ):=
 ah.bw a Hr fun _ _ _ _ _ _ _ hr=>
  aL (du (x_ hr (bj (ql 2 rfl rfl) bc) oK) (aC (aZ (fT (bj (ql 0 rfl rfl) bc) (bj (ql 2 rfl rfl) bc)))) dt)
  (aL (bW (i:=3) Hr.nd rfl (Or.inl rfl) (fT (bj (ql 0 rfl rfl) bc) (bj (ql 2 rfl rfl) bc)))
  (aC (aZ (bN (ao (bj (ql 3 rfl rfl) bc) (ao (fT (bj (ql 3 rfl rfl) bc) (bj (ql 1 rfl rfl) (bj (ql 3 rfl rfl) bc))) aj e_) e_)))))
def Hs:av:=aG (bD 4 (aB vZ 3 (aa (ab 1) (aa (ab 2) (aa (ab 3) ag)))))
 (aG (bD 5 (aW 4 (eC (.int 0))))
 (aG (bD 6 (eT (aW 0 (aW 2 (ab 5))) (aW 4 (eC (.int 1)))))
 (aV (o7 (o7 (yg (ab 2) vd (qr (ab 5))) (bg (aa (ab 6) ag))) (yg (ab 2) (qr (e2 dY (ab 5) (eC (.int 1)))) vd)))))
def sF:=bb 7 (Hs)
theorem yO:ae ["ladder","chart","worths","step","coming","place","joined"] ["ladder","chart","worths","step"] (aJ (top 61)):=bu (by decide +kernel)
theorem Uz(B:Bt mg)(UA:ah P w K mg base 1 "place_and_worth" 3 vZ)(a:At K mg "worths_behind" (top 61) ["ladder","chart","worths","step"]):ah P w K mg base 2 "worths_behind" 4 (sF):=
 ah.bw a yO fun _ _ _ _ _ _ _ hr=>
  aL (bW (i:=4) yO.nd rfl (Or.inl rfl) (aO UA hr (by decide) (aq 1 rfl rfl (aq 2 rfl rfl (aq 3 rfl rfl aj)))))
  (aL (bW (i:=5) yO.nd rfl (Or.inl rfl) (bj (ql 4 rfl rfl) bc))
  (aL (bW (i:=6) yO.nd rfl (Or.inl rfl) (fT (bj (ql 0 rfl rfl) (bj (ql 2 rfl rfl) (aI 5 rfl rfl))) (bj (ql 4 rfl rfl) bc)))
  (aC (aZ (vc (vc (FJ (aI 2 rfl rfl) Bi (Bj (aI 5 rfl rfl))) (bN (aq 6 rfl rfl aj))) (FJ (aI 2 rfl rfl) (Bj (kg (aI 5 rfl rfl) bc)) Bi))))))
abbrev v_:av:=aG (bD 7 (aB sF 4 (aa (ab 0) (aa (ab 1) (aa (ab 3) (aa (ab 6) ag))))))
 (aG (cy (bJ (e2 cz (ab 7) (ab 3))) (gF (tJ 4 (aa (ab 6) ag))) cM)
 (bD 3 (ab 7)))
abbrev yP:av:=aG (bD 5 (ab 3))
 (dF (d_ (ab 2)) (aQ 6) v_)
def Ht:av:=aG (bD 4 (kh ag))
 (aG (bD 5 (eC .aX))
 (aG (tM (bJ (e2 cz (ab 3) (ab 5))) yP)
 (aV (bg (aa (ab 3) (aa (ab 4) ag))))))
def qI:=bb 8 (Ht)
theorem sG:ae ["ladder","chart","order","worths","raising","ahead","step","behind"] ["ladder","chart","order","worths"] (aJ (top 63)):=bu (by decide +kernel)
theorem UB(B:Bt mg)(CC:ah P w K mg base 2 "worths_behind" 4 sF)(a:At K mg "risen" (top 63) ["ladder","chart","order","worths"]):ah P w K mg base 3 "risen" 4 (qI):=
 ah.bw a sG fun _ _ _ _ _ _ _ hr=>
  aL (bW (i:=4) sG.nd rfl (Or.inl rfl) (nQ aj))
  (aL (bW (i:=5) sG.nd rfl (Or.inl rfl) E3)
  (aL (yh Qq (jl hr (aI 3 rfl rfl) (aI 5 rfl rfl)) (aL (bW (i:=5) sG.nd rfl (Or.inl rfl) (aI 3 rfl rfl))
  (aC (fV Qq rfl (iz (aI 2 rfl rfl)) (bM (i:=6) (show 0<=6 by decide) sG.nd rfl (Or.inl rfl)) (aL (bW (i:=7) sG.nd rfl (Or.inl rfl) (aO CC hr (by decide) (aq 0 rfl rfl (aq 1 rfl rfl (aq 3 rfl rfl (aq 6 rfl rfl aj))))))
  (aL (du (jl hr (aI 7 rfl rfl) (aI 3 rfl rfl)) (aC (jV (Fz (ql 4 rfl rfl) (aq 6 rfl rfl aj)))) dt)
  (aC (bW (i:=3) sG.nd rfl (Or.inl rfl) (aI 7 rfl rfl)))))))))
  (aC (aZ (bN (aq 3 rfl rfl (aq 4 rfl rfl aj)))))))
def Hu:av:=aG (bD 1 (dv 1 (ck (aa (eB mV (aa (aW 0 (eC (.int 2))) ag)) ag)) (aQ 2) dB (bg (aa (eC (.str "begin")) (aa (ab 2) ag))) false))
 (aV (qt (ab 1) (dv 1 (ck (aa (eB mV (aa (aW 0 (eC (.int 1))) ag)) ag)) (aQ 2) dB (bg (aa (eC (.str "way")) (aa (ab 2) ag))) false)))
def sH:=bb 2 (Hu)
theorem Hv:ae ["chart","begins"] ["chart"] (aJ (top 57)):=bu (by decide +kernel)
abbrev CD:List Str:=["chart","begins","number"]
theorem Hw:(CD).Nodup:=by decide +kernel
theorem UC(B:Bt mg)(a:At K mg "all_steps" (top 57) ["chart"]):ah P w K mg base 1 "all_steps" 1 (sH):=
 ah.bw a Hv fun _ _ _ _ _ _ _ hr=>
  aL (xZ (i:=1) (k:=1) (N':=CD) false Hv.nd rfl (Or.inl rfl) rfl rfl ⟨rfl,by decide +kernel,rfl,rfl,rfl⟩ (fy B.ax (ao (u0 B.aP (ao (bj (ql 0 rfl rfl) bc) aj e_)) aj cI)) (fun _ _ _ _=>bM (i:=2) (show 2<=2 by decide) Hw rfl (Or.inl rfl) (Or.inr rfl)) (fun _ _ _ _=>iS) (fun _ _ _ _=>bN (ao oK (ao (aY (qv 2)) aj bC) qj)))
  (aC (aZ (yi (aI 1 rfl rfl) (iT (k:=1) (N':=CD) false rfl ⟨rfl,by decide +kernel,rfl,rfl,rfl⟩ (fy B.ax (ao (u0 B.aP (ao (bj (ql 0 rfl rfl) bc) aj e_)) aj cI)) (fun _ _ _ _=>bM (i:=2) (show 2<=2 by decide) Hw rfl (Or.inl rfl) (Or.inr rfl)) (fun _ _ _ _=>iS) (fun _ _ _ _=>bN (ao oK (ao (aY (qv 2)) aj bC) qj))))))
def Hx:av:=aG (bD 1 (sr "Keeper" "chart" qG 0))
 (aG (bD 2 (aB qI 4 (aa (iZ 0 "ladder") (aa (ab 1) (aa (aB sH 1 (aa (ab 1) ag)) (aa (iZ 0 "worths") ag))))))
 (aG (kS "Keeper" 0 "worths" (aW 2 (eC (.int 0))))
 (kS "Keeper" 0 "many_raises" (e2 dY (iZ 0 "many_raises") (eB mV (aa (aW 2 (eC (.int 1))) ag))))))
def qJ:D->List D->Option D:=lE 3 Hx
theorem CF:ae ["self","chart","ended"] ["self"] (aJ (ji (top 73) 3)):=bu (by decide +kernel)
theorem UD(B:Bt mg)(N:Kt K)(c8:lG P w K mg base 1 "Keeper" "chart" 1 qG)(CG:ah P w K mg base 3 "risen" 4 qI)(CH:ah P w K mg base 1 "all_steps" 1 sH)(a:lF K "Keeper" "rise" "Keeper.rise" (ji (top 73) 3) ["self"]):jB P w K mg base 4 "Keeper" "rise" 1 qJ:=
 jB.bw (k:=3) a CF fun _ _ _ _ _ _ _ hr=>
  aL (bW (i:=1) CF.nd rfl (Or.inl rfl) (Ce c8 hr (by decide) (ql 0 rfl rfl)))
  (aL (bW (i:=2) CF.nd rfl (Or.inl rfl) (aO CG hr (by decide) (ao (lD (ql 0 rfl rfl)) (aq 1 rfl rfl (ao (aO CH hr (by decide) (aq 1 rfl rfl aj)) (ao (lD (ql 0 rfl rfl)) aj oW) cI)) oW)))
  (aL (nY N.jG (ql 0 rfl rfl) (bj (ql 2 rfl rfl) bc))
  (aC (nY N.dR (ql 0 rfl rfl) (kg (lD (ql 0 rfl rfl)) (u0 B.aP (ao (bj (ql 2 rfl rfl) bc) aj e_)))))))
def Hy:av:=aG (gF (aB qH 2 (aa (iZ 0 "places") (aa (ab 1) ag))))
 (aG (kS "Keeper" 0 "begins" (o7 (iZ 0 "begins") (bg (aa (bg (aa (ab 1) (aa (ab 2) ag))) ag))))
 (gF (nh "Keeper" "rise" qJ 1 0 ag)))
def tZ:D->List D->Option D:=lE 3 Hy
theorem UE:ae ["self","place","worth"] ["self","place","worth"] (aJ (ji (top 73) 1)):=bu (by decide +kernel)
theorem UG(B:Bt mg)(N:Kt K)(yQ:ah P w K mg base 3 "refuse_no_place" 2 qH)(CI:jB P w K mg base 4 "Keeper" "rise" 1 qJ)(a:lF K "Keeper" "add_begin" "Keeper.add_begin" (ji (top 73) 1) ["self","place","worth"]):jB P w K mg base 5 "Keeper" "add_begin" 3 tZ:=
 jB.bw (k:=4) a UE fun _ _ _ _ _ _ _ hr=>
  aL (jV (aO yQ hr (by decide) (ao (lD (ql 0 rfl rfl)) (aq 1 rfl rfl aj) oW)))
  (aL (nY N.jF (ql 0 rfl rfl) (vc (lD (ql 0 rfl rfl)) (bN (ao (bN (aq 1 rfl rfl (aq 2 rfl rfl aj))) aj gu))))
  (aC (jV (GD CI hr (by decide) (ql 0 rfl rfl)))))
def Hz:av:=aG (cy (bJ (e2 lY (ab 1) (dE 0))) (aV (aW 0 (ab 1))) cM)
 (aG (cy (bJ (e2 h_ (ab 0) (kh ag))) (aV (eC (.int 0))) cM)
 (aV (e2 dY (e2 uW (aW 0 (e2 uX (ab 1) (dE 0))) (eC (.int 31))) (ab 1))))
def wa:=bb 2 (Hz)
theorem UH:ae ["_law_script","_law_k"] ["_law_script","_law_k"] (aJ (top 81)):=bu (by decide +kernel)
theorem UI(B:Bt mg)(a:At K mg "_law_cell" (top 81) ["_law_script","_law_k"]):ah P w K mg base 1 "_law_cell" 2 (wa):=
 ah.bw a UH fun _ _ _ _ _ _ _ hr=>
  aL (du (xT (aI 1 rfl rfl) (fC B.aP (ql 0 rfl rfl))) (aC (aZ (bj (ql 0 rfl rfl) (aI 1 rfl rfl)))) dt)
  (aL (du (x_ hr (aI 0 rfl rfl) (nQ aj)) (aC (aZ bc)) dt)
  (aC (aZ (kg (xQ (bj (ql 0 rfl rfl) (xR (aI 1 rfl rfl) (fC B.aP (ql 0 rfl rfl)))) bc) (aI 1 rfl rfl)))))
def HA:av:=aG (bD 3 (e2 uX (e2 uW (e2 dY (aB wa 2 (aa (ab 0) (aa (ab 1) ag))) (e2 uW (eC (.int 6151)) (e2 dY (ab 1) (eC (.int 1))))) (eC (.int 40692))) (eC (.int 2147483399))))
 (aV (e2 uX (e2 uX (e2 dY (e2 uW (ab 3) (ab 3)) (e2 E5 (ab 3) (eC (.int 31)))) (eC (.int 2147483629))) (ab 2)))
def nA:=bb 4 (HA)
theorem HB:ae ["_law_script","_law_k","_law_many","_law_drawn"] ["_law_script","_law_k","_law_many"] (aJ (top 82)):=bu (by decide +kernel)
theorem UJ(B:Bt mg)(UK:ah P w K mg base 1 "_law_cell" 2 wa)(a:At K mg "_law_pick" (top 82) ["_law_script","_law_k","_law_many"]):ah P w K mg base 2 "_law_pick" 3 (nA):=
 ah.bw a HB fun _ _ _ _ _ _ _ hr=>
  aL (bW (i:=3) HB.nd rfl (Or.inl rfl) (xR (xQ (kg (aO UK hr (by decide) (aq 0 rfl rfl (aq 1 rfl rfl aj))) (xQ bc (kg (aI 1 rfl rfl) bc))) bc) bc))
  (aC (aZ (xR (xR (kg (xQ (aI 3 rfl rfl) (aI 3 rfl rfl)) (OA (aI 3 rfl rfl) bc)) bc) (aI 2 rfl rfl))))
abbrev HC (ob:D)(G:List D->OD):av:=gF (tJ 2 (aa (iU (aa (dv 1 (ck (aa (ab 0) ag)) (aQ 4) dB (vm ob G 1 2 (aa (ab 3) (aa (ab 4) ag))) false) ag)) ag))
def HD (ob:D)(G:List D->OD):av:=aG (bD 2 (kh ag))
 (aG (dF (ck (aa (ab 0) ag)) (aQ 3) (HC ob G))
 (aV (iU (aa (ab 2) ag))))
def mh (ob:D)(G:List D->OD):List D->OD:=bb 4 (HD ob G)
theorem CJ:ae ["many","entry","rows","x"] ["many","entry"] (aJ (top 26)):=bu (by decide +kernel)
abbrev HE:List Str:=["many","entry","rows","x","y"]
theorem UL:(HE).Nodup:=by decide +kernel
theorem UM(B:Bt mg)(co:r_ P w K mg base 5 ob 2 G)(a:At K mg "table_of" (top 26) ["many","entry"]):ah P w K mg base 6 "table_of" 2 (mh ob G):=
 ah.bw a CJ fun _ _ _ _ _ _ _ hr=>
  aL (bW (i:=2) CJ.nd rfl (Or.inl rfl) (nQ aj))
  (aL (fV Qq rfl (fy B.ax (aq 0 rfl rfl aj)) (bM (i:=3) (show 0<=3 by decide) CJ.nd rfl (Or.inr rfl)) (aC (jV (Fz (ql 2 rfl rfl) (ao (lr B.aS Qp (ao (iT (k:=1) (N':=HE) false rfl ⟨rfl,by decide +kernel,rfl,rfl,rfl⟩ (fy B.ax (aq 0 rfl rfl aj)) (fun _ _ _ _=>bM (i:=4) (show 4<=4 by decide) UL rfl (Or.inl rfl) (Or.inr rfl)) (fun _ _ _ _=>iS) (fun _ _ _ _=>RX (qv 1) co hr (by decide) (ao (aY (qv 3)) (ao (aY (qv 4)) aj bC) bC))) aj ly)) aj cI)))))
  (aC (aZ (lr B.aS Qp (aq 2 rfl rfl aj)))))
def UN:aw:=eB AV (aa (ab 0) (aa (ab 1) ag))
def HF:av:=aG (cy (ki (bJ (e2 lY (ab 0) (eC (.int 1)))) (bJ (e2 AI (ab 0) (eC (.int 16))))) o9 cM)
 (aV (pf mh UN [] (ab 0)))
def wb:=bb 1 (HF)
theorem UO:ae ["many"] ["many"] (aJ (top 29)):=bu (by decide +kernel)
theorem UP(B:Bt mg)(L:Lm K mg base)(KX:K.In base)(NG:base.Ns mainGlobals mg)(tb:∃ c Pt,PySem.W.tabIn K "chain_ladder" = some (c,Pt))(hT:∀ (base:Heap) (ob:D) (G:List D->OD),r_ P w K mg base 5 ob 2 G->ah P w K mg base 6 "table_of" 2 (mh ob G))(hy:∃ fn,mg "table_of" = some (.ref fn)/\PySem.W.keepIn K (.ref fn)=true)(a:At K mg "chain_ladder" (top 29) ["many"]):ah P w K mg base 7 "chain_ladder" 1 wb:=
 ah.GH (k:=6) KX NG tb a UO fun f c Pt A outer s H E ht hr=>
  aL (du (pA (oN (xT (aI 0 rfl rfl) bc) (qe (OI (aI 0 rfl rfl) (FP B.dQ))))) (aC rY) dt)
  (aC (aZ (GG (ps:=["x","y"]) (caps:=[]) (is:=[]) (kb:=4) L (by decide) ht (by exact bS.of rfl rfl rfl (by decide +kernel) (by decide +kernel) (by decide +kernel) (by decide +kernel) (by decide +kernel)) hy hr (by decide) hT (fun _ _ _ _ _ _ _ _ _ hr=>Pe rfl B.vV PyProof.Rows.boot_max (aq 0 rfl rfl (aq 1 rfl rfl aj))) (fun _ _ _ _ _ _ h=>by obtain⟨_,_,rfl⟩:=L3.GI h;rfl) trivial (aI 0 rfl rfl) (fun _=>bC))))
def UQ:av:=aG (bD 1 (dv 1 (ck (aa (aW 0 (eC (.int 0))) ag)) (aQ 2) dB (bg (aa (eC (.str "place")) (aa (ab 2) ag))) false))
 (aV (qt (ab 1) (dv 1 (ck (aa (eB mV (aa (aW 0 (eC (.int 2))) ag)) ag)) (aQ 2) dB (bg (aa (eC (.str "begin")) (aa (ab 2) ag))) false)))
def CK:=bb 2 (UQ)
theorem HG:ae ["chart","places"] ["chart"] (aJ (top 45)):=bu (by decide +kernel)
abbrev CL:List Str:=["chart","places","number"]
theorem HH:(CL).Nodup:=by decide +kernel
theorem UR(B:Bt mg)(a:At K mg "all_starts" (top 45) ["chart"]):ah P w K mg base 1 "all_starts" 1 (CK):=
 ah.bw a HG fun _ _ _ _ _ _ _ hr=>
  aL (xZ (i:=1) (k:=1) (N':=CL) false HG.nd rfl (Or.inl rfl) rfl rfl ⟨rfl,by decide +kernel,rfl,rfl,rfl⟩ (fy B.ax (ao (bj (ql 0 rfl rfl) bc) aj e_)) (fun _ _ _ _=>bM (i:=2) (show 2<=2 by decide) HH rfl (Or.inl rfl) (Or.inr rfl)) (fun _ _ _ _=>iS) (fun _ _ _ _=>bN (ao oK (ao (aY (qv 2)) aj bC) qj)))
  (aC (aZ (yi (aI 1 rfl rfl) (iT (k:=1) (N':=CL) false rfl ⟨rfl,by decide +kernel,rfl,rfl,rfl⟩ (fy B.ax (ao (u0 B.aP (ao (bj (ql 0 rfl rfl) bc) aj e_)) aj cI)) (fun _ _ _ _=>bM (i:=2) (show 2<=2 by decide) HH rfl (Or.inl rfl) (Or.inr rfl)) (fun _ _ _ _=>iS) (fun _ _ _ _=>bN (ao oK (ao (aY (qv 2)) aj bC) qj))))))
def US:av:=aV (dv 2 (yk (aa (aW 0 (eC (.int 1))) ag)) (l8 (cX (aQ 2) (cX (aQ 3) kL))) (bJ (e2 h_ (aW 3 (eC (.int 0))) (ab 1))) (ab 2) false)
def wc:=bb 2 (US)
theorem UT:ae ["chart","place"] ["chart","place"] (aJ (top 48)):=bu (by decide +kernel)
abbrev HI:List Str:=["chart","place","number","way"]
theorem HJ:(HI).Nodup:=by decide +kernel
theorem UU(B:Bt mg)(a:At K mg "ways_from" (top 48) ["chart","place"]):ah P w K mg base 1 "ways_from" 2 (wc):=
 ah.bw a UT fun _ _ _ _ _ _ _ hr=>
  aC (aZ (iT (k:=2) (N':=HI) false rfl ⟨rfl,by decide +kernel,rfl,rfl,rfl⟩ (FW B.fH (ao (bj (ql 0 rfl rfl) bc) aj e_)) (fun _ _ _ _=>rT (n:=2) rfl (jy (bM (i:=2) (show 2<=2 by decide) HJ rfl (Or.inl rfl) (Or.inr rfl)) (jy (bM (i:=3) (show 2<=3 by decide) HJ rfl (Or.inl rfl) (Or.inr rfl)) rS)) ye) (fun _ _ _ _=>xY (x_ hr (bj (qv 3) bc) (aY (qv 1)))) (fun _ _ _ _=>aY (qv 2))))
def UW:av:=aG (bD 3 (eT (aW 0 (eC (.int 1))) (ab 2)))
 (aV (bg (aa (aW 3 (eC (.int 1))) (aa (eT (aW 3 (eC (.int 2))) (aW 1 (eC (.int 1)))) ag))))
def we:=bb 4 (UW)
theorem HK:ae ["chart","state","number","way"] ["chart","state","number"] (aJ (top 49)):=bu (by decide +kernel)
theorem UX(B:Bt mg)(a:At K mg "led_on" (top 49) ["chart","state","number"]):ah P w K mg base 1 "led_on" 3 (we):=
 ah.bw a HK fun _ _ _ _ _ _ _ hr=>
  aL (bW (i:=3) HK.nd rfl (Or.inl rfl) (fT (bj (ql 0 rfl rfl) bc) (aI 2 rfl rfl)))
  (aC (aZ (bN (ao (bj (ql 3 rfl rfl) bc) (ao (fT (bj (ql 3 rfl rfl) bc) (bj (ql 1 rfl rfl) bc)) aj e_) e_))))
abbrev UY:av:=aG (bD 7 (aB we 3 (aa (ab 0) (aa (ab 4) (aa (ab 6) ag)))))
 (cy (bJ (BS (ab 7) 1)) (BO 3 (ab 7) (bg (aa (aW 5 (eC (.int 0))) (aa (qt (aW 5 (eC (.int 1))) (kh (aa (ab 6) ag))) ag)))) cM)
abbrev UZ:av:=aG (bD 5 (BN 1 (ab 4)))
 (dF (d_ (aB wc 2 (aa (ab 0) (aa (aW 4 (eC (.int 0))) ag)))) (aQ 6) UY)
def U0:av:=aG (bD 3 BM)
 (aG (dF (d_ (ab 2)) (aQ 4) UZ)
 (yA 3))
def CM:=bb 8 (U0)
theorem t4:ae ["chart","paths","newest","longer","state","path","number","reached"] ["chart","paths","newest"] (aJ (top 52)):=bu (by decide +kernel)
theorem U1(B:Bt mg)(CN:ah P w K mg base 1 "ways_from" 2 wc)(CO:ah P w K mg base 1 "led_on" 3 we)(a:At K mg "longer_paths" (top 52) ["chart","paths","newest"]):ah P w K mg base 2 "longer_paths" 3 (CM):=
 ah.bw a t4 fun _ _ _ _ _ _ _ hr=>
  aL (bW (i:=3) t4.nd rfl (Or.inl rfl) Gf)
  (aL (fV Qq rfl (iz (aI 2 rfl rfl)) (bM (i:=4) (show 0<=4 by decide) t4.nd rfl (Or.inl rfl)) (aL (bW (i:=5) t4.nd rfl (Or.inl rfl) (SD hr (ql 1 rfl rfl) (aI 4 rfl rfl)))
  (aC (fV Qq rfl (iz (aO CN hr (by decide) (aq 0 rfl rfl (ao (bj (ql 4 rfl rfl) bc) aj e_)))) (bM (i:=6) (show 0<=6 by decide) t4.nd rfl (Or.inl rfl)) (aL (bW (i:=7) t4.nd rfl (Or.inl rfl) (aO CO hr (by decide) (aq 0 rfl rfl (aq 4 rfl rfl (aq 6 rfl rfl aj)))))
  (aC (du (Te hr (aI 7 rfl rfl) (ql 1 rfl rfl)) (aC (SE hr (ql 3 rfl rfl) (aI 7 rfl rfl) (bN (ao (bj (ql 5 rfl rfl) bc) (ao (yi (bj (ql 5 rfl rfl) bc) (nQ (aq 6 rfl rfl aj))) aj jZ) e_)))) dt)))))))
  (aC (Gp (ql 3 rfl rfl))))
def U2:av:=aG (cy (bJ (e2 h_ (aW 2 (eC (.int 0))) (eC (.str "place")))) (aV (bg (aa (aW 2 (eC (.int 1))) (aa (aB jH 1 (aa (ab 0) ag)) ag)))) cM)
 (aV (eT (aW 1 (eC (.int 2))) (aW 2 (eC (.int 1)))))
def wg:=bb 3 (U2)
theorem U3:ae ["ladder","chart","start"] ["ladder","chart","start"] (aJ (top 47)):=bu (by decide +kernel)
theorem U4(B:Bt mg)(me:ah P w K mg base 2 "least_of" 1 jH)(a:At K mg "started" (top 47) ["ladder","chart","start"]):ah P w K mg base 3 "started" 3 (wg):=
 ah.bw a U3 fun _ _ _ _ _ _ _ hr=>
  aL (du (x_ hr (bj (ql 2 rfl rfl) bc) oK) (aC (aZ (bN (ao (bj (ql 2 rfl rfl) bc) (ao (aO me hr (by decide) (aq 0 rfl rfl aj)) aj cI) e_)))) dt)
  (aC (aZ (fT (bj (ql 1 rfl rfl) bc) (bj (ql 2 rfl rfl) bc))))
abbrev U5:av:=aG (bD 5 (BZ CM 2 (ab 1) (ab 4)))
 (aG (gF (BR 2 5))
 (bD 4 (yz 5)))
abbrev U6:av:=gF (BQ 2 (aB wg 3 (aa (ab 0) (aa (ab 1) (aa (ab 3) ag)))) (bg (aa (ab 3) (aa (kh ag) ag))))
def U7:av:=aG (bD 2 BM)
 (aG (dF (d_ (aB CK 1 (aa (ab 1) ag))) (aQ 3) U6)
 (aG (bD 4 (yz 2))
 (aG (tM (dP (ab 4)) U5)
 (yA 2))))
def CP:=bb 6 (U7)
theorem t5:ae ["ladder","chart","paths","start","newest","further"] ["ladder","chart"] (aJ (top 51)):=bu (by decide +kernel)
theorem U8(B:Bt mg)(U9:ah P w K mg base 1 "all_starts" 1 CK)(CQ:ah P w K mg base 3 "started" 3 wg)(U_:ah P w K mg base 2 "longer_paths" 3 CM)(a:At K mg "shortest_paths" (top 51) ["ladder","chart"]):ah P w K mg base 4 "shortest_paths" 2 (CP):=
 ah.bw a t5 fun _ _ _ _ _ _ _ hr=>
  aL (bW (i:=2) t5.nd rfl (Or.inl rfl) Gf)
  (aL (fV Qq rfl (iz (aO U9 hr (by decide) (aq 1 rfl rfl aj))) (bM (i:=3) (show 0<=3 by decide) t5.nd rfl (Or.inl rfl)) (aC (jV (S8 hr (ql 2 rfl rfl) (aO CQ hr (by decide) (aq 0 rfl rfl (aq 1 rfl rfl (aq 3 rfl rfl aj)))) (bN (aq 3 rfl rfl (ao (nQ aj) aj FC)))))))
  (aL (bW (i:=4) t5.nd rfl (Or.inl rfl) (Gn rfl B.i8 Z8 (ql 2 rfl rfl)))
  (aL (yh Qq (gk (aI 4 rfl rfl)) (aL (bW (i:=5) t5.nd rfl (Or.inl rfl) (Th U_ hr (by decide) (aI 1 rfl rfl) (ql 2 rfl rfl) (aI 4 rfl rfl)))
  (aL (jV (Tb hr (ql 2 rfl rfl) (ql 5 rfl rfl)))
  (aC (bW (i:=4) t5.nd rfl (Or.inl rfl) (Gn rfl B.i8 Z8 (ql 5 rfl rfl)))))))
  (aC (Gp (ql 2 rfl rfl))))))
def Va:av:=aV (BU (aB CP 2 (aa (ab 0) (aa (ab 1) ag))) (bg (aa (ab 2) (aa (ab 3) ag))))
def wj:=bb 4 (Va)
theorem Vb:ae ["ladder","chart","place","worth"] ["ladder","chart","place","worth"] (aJ (top 53)):=bu (by decide +kernel)
theorem Vc(B:Bt mg)(Vd:ah P w K mg base 4 "shortest_paths" 2 CP)(a:At K mg "path_to" (top 53) ["ladder","chart","place","worth"]):ah P w K mg base 5 "path_to" 4 (wj):=
 ah.bw a Vb fun _ _ _ _ _ _ _ hr=>
  aC (aZ (Tf hr (aO Vd hr (by decide) (aq 0 rfl rfl (aq 1 rfl rfl aj))) (bN (aq 2 rfl rfl (aq 3 rfl rfl aj)))))
def HL:av:=aG (cy (ki (eU (dP (oZ .tuple (ab 0)))) (ki (bJ (e2 cz (dE 0) (eC (.int 2)))) (eU (dP (oZ .str (aW 0 (eC (.int 0)))))))) (aV (eC (.bl false))) cM)
 (aV (aB n6 2 (aa (aW 0 (eC (.int 1))) (aa (Bo (ab 1) (aW 0 (eC (.int 0))) (eC (.int 0))) ag))))
def sI:=bb 2 (HL)
theorem Ve:ae ["thing","many_by_name"] ["thing","many_by_name"] (aJ (top 12)):=bu (by decide +kernel)
theorem Vf(B:Bt mg)(vY:ah P w K mg base 2 "is_number_of" 2 n6)(a:At K mg "is_named_number" (top 12) ["thing","many_by_name"]):ah P w K mg base 3 "is_named_number" 2 (sI):=
 ah.bw a Ve fun _ _ _ _ _ _ _ hr=>
  aL (du (pA (oN (iy (gk (rV .tuple B.bh B.aS Qp (aI 0 rfl rfl)))) (oN (jl hr (fC B.aP (ql 0 rfl rfl)) bc) (qe (iy (gk (rV .str B.bh B.vX PyProof.Rows.boot_str (bj (ql 0 rfl rfl) bc)))))))) (aC (aZ dM)) dt)
  (aC (aZ (aO vY hr (by decide) (ao (bj (ql 0 rfl rfl) bc) (ao (RC hr (aI 1 rfl rfl) (bj (ql 0 rfl rfl) bc) bc) aj cI) e_))))
def Vg:av:=aV (aB sI 2 (aa (ab 1) (aa (tN "place" "begin" (Be 0 (qC 0)) (o_ 0 2)) ag)))
def CS:=bb 2 (Vg)
theorem Vh:ae ["chart","thing"] ["chart","thing"] (aJ (top 46)):=bu (by decide +kernel)
theorem Vi(B:Bt mg)(CT:ah P w K mg base 3 "is_named_number" 2 sI)(a:At K mg "is_start" (top 46) ["chart","thing"]):ah P w K mg base 4 "is_start" 2 (CS):=
 ah.bw a Vh fun _ _ _ _ _ _ _ hr=>
  aC (aZ (aO CT hr (by decide) (aq 1 rfl rfl (ao (FQ (by decide) (PJ (ql 0 rfl rfl) Ry) (Bm B.aP (ql 0 rfl rfl))) aj FT))))
abbrev Vj:av:=aG (cy (bJ (e2 x9 (ab 5) (aB wc 2 (aa (ab 1) (aa (aW 4 (eC (.int 0))) ag))))) o9 cM)
 (bD 4 (aB we 3 (aa (ab 1) (aa (ab 4) (aa (ab 5) ag)))))
def Vk:av:=aG (cy (eU (dP (aB CS 2 (aa (ab 1) (aa (ab 2) ag))))) o9 cM)
 (aG (bD 4 (aB wg 3 (aa (ab 0) (aa (ab 1) (aa (ab 2) ag)))))
 (aG (dF (d_ (ab 3)) (aQ 5) Vj)
 (aV (ab 4))))
def wk:=bb 6 (Vk)
theorem yR:ae ["ladder","chart","start","ways","state","number"] ["ladder","chart","start","ways"] (aJ (top 50)):=bu (by decide +kernel)
theorem Vl(B:Bt mg)(Vm:ah P w K mg base 4 "is_start" 2 CS)(CQ:ah P w K mg base 3 "started" 3 wg)(CN:ah P w K mg base 1 "ways_from" 2 wc)(CO:ah P w K mg base 1 "led_on" 3 we)(a:At K mg "brought" (top 50) ["ladder","chart","start","ways"]):ah P w K mg base 5 "brought" 4 (wk):=
 ah.bw a yR fun _ _ _ _ _ _ _ hr=>
  aL (du (iy (gk (aO Vm hr (by decide) (aq 1 rfl rfl (aq 2 rfl rfl aj))))) (aC rY) dt)
  (aL (bW (i:=4) yR.nd rfl (Or.inl rfl) (aO CQ hr (by decide) (aq 0 rfl rfl (aq 1 rfl rfl (aq 2 rfl rfl aj)))))
  (aL (fV Qq rfl (iz (aI 3 rfl rfl)) (bM (i:=5) (show 0<=5 by decide) yR.nd rfl (Or.inl rfl)) (aL (du (Pd hr (aI 5 rfl rfl) (aO CN hr (by decide) (aq 1 rfl rfl (ao (bj (ql 4 rfl rfl) bc) aj e_)))) (aC rY) dt)
  (aC (bW (i:=4) yR.nd rfl (Or.inl rfl) (aO CO hr (by decide) (aq 1 rfl rfl (aq 4 rfl rfl (aq 5 rfl rfl aj))))))))
  (aC (aZ (aI 4 rfl rfl)))))
def CU:av:=aG (cy (ki (eU (dP (oZ .tuple (ab 0)))) (bJ (e2 cz (dE 0) (ab 1)))) (aV (eC (.bl false))) cM)
 (aV (eB mW (aa (dv 1 (d_ (ab 0)) (aQ 3) dB (aB n6 2 (aa (ab 3) (aa (ab 2) ag))) false) ag)))
def lI:=bb 3 (CU)
theorem Vo:ae ["thing","length","many"] ["thing","length","many"] (aJ (top 11)):=bu (by decide +kernel)
abbrev HM:List Str:=["thing","length","many","part"]
theorem Vp:(HM).Nodup:=by decide +kernel
theorem Vq(B:Bt mg)(vY:ah P w K mg base 2 "is_number_of" 2 n6)(a:At K mg "is_row_of" (top 11) ["thing","length","many"]):ah P w K mg base 3 "is_row_of" 3 (lI):=
 ah.bw a Vo fun _ _ _ _ _ _ _ hr=>
  aL (du (pA (oN (iy (gk (rV .tuple B.bh B.aS Qp (aI 0 rfl rfl)))) (qe (jl hr (fC B.aP (ql 0 rfl rfl)) (aI 1 rfl rfl))))) (aC (aZ dM)) dt)
  (aC (aZ (u_ rfl B.jE (ao (iT (k:=1) (N':=HM) false rfl ⟨rfl,by decide +kernel,rfl,rfl,rfl⟩ (iz (aI 0 rfl rfl)) (fun _ _ _ _=>bM (i:=3) (show 3<=3 by decide) Vp rfl (Or.inl rfl) (Or.inr rfl)) (fun _ _ _ _=>iS) (fun _ _ _ _=>aO vY hr (by decide) (ao (aY (qv 3)) (ao (aY (qv 2)) aj bC) bC))) aj ly))))
def HN:av:=aV (aB lI 3 (aa (ab 1) (aa (dE 0) (aa (dE 0) ag))))
def wm:=bb 2 (HN)
theorem Vr:ae ["ladder","thing"] ["ladder","thing"] (aJ (top 31)):=bu (by decide +kernel)
theorem Vs(B:Bt mg)(sJ:ah P w K mg base 3 "is_row_of" 3 lI)(a:At K mg "is_rule" (top 31) ["ladder","thing"]):ah P w K mg base 4 "is_rule" 2 (wm):=
 ah.bw a Vr fun _ _ _ _ _ _ _ hr=>
  aC (aZ (aO sJ hr (by decide) (aq 1 rfl rfl (ao (fC B.aP (ql 0 rfl rfl)) (ao (fC B.aP (ql 0 rfl rfl)) aj cI) cI))))
abbrev Vt:av:=cy (eU (dP (aB jI 3 (aa (ab 0) (aa (aW 1 (ab 3)) (aa (aW 1 (ab 2)) ag)))))) (aV (eC (.bl false))) (cM)
abbrev Vu:av:=dF (d_ (aB nz 2 (aa (ab 0) (aa (ab 2) ag)))) (aQ 3) (Vt)
def HP:av:=aG (dF (ck (aa (dE 0) ag)) (aQ 2) Vu)
 (aV (eC (.bl true)))
def wo:=bb 4 (HP)
theorem CV:ae ["ladder","rule","y","x"] ["ladder","rule"] (aJ (top 32)):=bu (by decide +kernel)
theorem Vv(B:Bt mg)(CA:ah P w K mg base 2 "below" 2 nz)(n5:ah P w K mg base 1 "is_below" 3 jI)(a:At K mg "rises" (top 32) ["ladder","rule"]):ah P w K mg base 3 "rises" 2 (wo):=
 ah.bw a CV fun _ _ _ _ _ _ _ hr=>
  aL (fV Qq rfl (fy B.ax (ao (fC B.aP (ql 0 rfl rfl)) aj cI)) (bM (i:=2) (show 0<=2 by decide) CV.nd rfl (Or.inl rfl)) (aC (fV Qq rfl (iz (aO CA hr (by decide) (aq 0 rfl rfl (aq 2 rfl rfl aj)))) (bM (i:=3) (show 0<=3 by decide) CV.nd rfl (Or.inl rfl)) (aC (du (iy (gk (aO n5 hr (by decide) (aq 0 rfl rfl (ao (bj (ql 1 rfl rfl) (aI 3 rfl rfl)) (ao (bj (ql 1 rfl rfl) (aI 2 rfl rfl)) aj e_) e_))))) (aC (aZ dM)) dt)))))
  (aC (aZ dM))
def HQ:av:=aV (kK (aB wm 2 (aa (ab 0) (aa (ab 1) ag))) (aB wo 2 (aa (ab 0) (aa (ab 1) ag))))
def wq:=bb 2 (HQ)
theorem Vw:ae ["ladder","thing"] ["ladder","thing"] (aJ (top 38)):=bu (by decide +kernel)
theorem Vx(B:Bt mg)(Vy:ah P w K mg base 4 "is_rule" 2 wm)(Vz:ah P w K mg base 3 "rises" 2 wo)(a:At K mg "is_rising_rule" (top 38) ["ladder","thing"]):ah P w K mg base 5 "is_rising_rule" 2 (wq):=
 ah.bw a Vw fun _ _ _ _ _ _ _ hr=>
  aC (aZ (qh (aO Vy hr (by decide) (aq 0 rfl rfl (aq 1 rfl rfl aj))) (rR (aO Vz hr (by decide) (aq 0 rfl rfl (aq 1 rfl rfl aj))))))
def HR:av:=cy (eU (dP (aB wq 2 (aa (ab 0) (aa (ab 1) ag))))) o9 (cM)
def sL:=bb 2 (HR)
theorem VA:ae ["ladder","thing"] ["ladder","thing"] (aJ (top 39)):=bu (by decide +kernel)
theorem VB(B:Bt mg)(VC:ah P w K mg base 5 "is_rising_rule" 2 wq)(a:At K mg "refuse_unrising" (top 39) ["ladder","thing"]):ah P w K mg base 6 "refuse_unrising" 2 (sL):=
 ah.bw a VA fun _ _ _ _ _ _ _ hr=>
  aC (du (iy (gk (aO VC hr (by decide) (aq 0 rfl rfl (aq 1 rfl rfl aj))))) (aC rY) dt)
def HS:av:=aG (gF (aB qH 2 (aa (iZ 0 "places") (aa (ab 1) ag))))
 (aG (gF (aB qH 2 (aa (iZ 0 "places") (aa (ab 2) ag))))
 (aG (gF (aB sL 2 (aa (iZ 0 "ladder") (aa (ab 3) ag))))
 (aG (kS "Keeper" 0 "ways" (o7 (iZ 0 "ways") (bg (aa (bg (aa (ab 1) (aa (ab 2) (aa (ab 3) ag)))) ag))))
 (gF (nh "Keeper" "rise" qJ 1 0 ag)))))
def wu:D->List D->Option D:=lE 4 HS
theorem VD:ae ["self","start","goal","rule"] ["self","start","goal","rule"] (aJ (ji (top 73) 2)):=bu (by decide +kernel)
theorem VE(B:Bt mg)(N:Kt K)(yQ:ah P w K mg base 3 "refuse_no_place" 2 qH)(CW:ah P w K mg base 6 "refuse_unrising" 2 sL)(CI:jB P w K mg base 4 "Keeper" "rise" 1 qJ)(a:lF K "Keeper" "add_way" "Keeper.add_way" (ji (top 73) 2) ["self","start","goal","rule"]):jB P w K mg base 7 "Keeper" "add_way" 4 wu:=
 jB.bw (k:=6) a VD fun _ _ _ _ _ _ _ hr=>
  aL (jV (aO yQ hr (by decide) (ao (lD (ql 0 rfl rfl)) (aq 1 rfl rfl aj) oW)))
  (aL (jV (aO yQ hr (by decide) (ao (lD (ql 0 rfl rfl)) (aq 2 rfl rfl aj) oW)))
  (aL (jV (aO CW hr (by decide) (ao (lD (ql 0 rfl rfl)) (aq 3 rfl rfl aj) oW)))
  (aL (nY N.ny (ql 0 rfl rfl) (vc (lD (ql 0 rfl rfl)) (bN (ao (bN (aq 1 rfl rfl (aq 2 rfl rfl (aq 3 rfl rfl aj)))) aj gu))))
  (aC (jV (GD CI hr (by decide) (ql 0 rfl rfl)))))))
def HU:av:=aV (iZ 0 "worths")
def wx:=bb 1 HU
theorem VF:ae ["self"] ["self"] (aJ (ji (top 73) 5)):=bu (by decide +kernel)
theorem VG(B:Bt mg)(a:lF K "Keeper" "answer" "Keeper.answer" (ji (top 73) 5) ["self"]):lG P w K mg base 1 "Keeper" "answer" 1 wx:=
 lG.bw (k:=0) a VF fun _ _ _ _ _ _ _ hr=>
  aC (aZ (lD (ql 0 rfl rfl)))
abbrev VH:av:=bD 2 (aW 1 (ab 2))
def VI:av:=aG (gF (aB sL 2 (aa (ab 0) (aa (ab 1) ag))))
 (aG (bD 2 (aB jH 1 (aa (ab 0) ag)))
 (aG (tM (bJ (e2 cz (aW 1 (ab 2)) (ab 2))) VH)
 (aV (ab 2))))
def wz:=bb 3 (VI)
theorem CY:ae ["ladder","rule","worth"] ["ladder","rule"] (aJ (top 40)):=bu (by decide +kernel)
theorem VJ(B:Bt mg)(CW:ah P w K mg base 6 "refuse_unrising" 2 sL)(me:ah P w K mg base 2 "least_of" 1 jH)(a:At K mg "fixed" (top 40) ["ladder","rule"]):ah P w K mg base 7 "fixed" 2 (wz):=
 ah.bw a CY fun _ _ _ _ _ _ _ hr=>
  aL (jV (aO CW hr (by decide) (aq 0 rfl rfl (aq 1 rfl rfl aj))))
  (aL (bW (i:=2) CY.nd rfl (Or.inl rfl) (aO me hr (by decide) (aq 0 rfl rfl aj)))
  (aL (yh Qq (jl hr (bj (ql 1 rfl rfl) (aI 2 rfl rfl)) (aI 2 rfl rfl)) (aC (bW (i:=2) CY.nd rfl (Or.inl rfl) (bj (ql 1 rfl rfl) (aI 2 rfl rfl)))))
  (aC (aZ (aI 2 rfl rfl)))))
def VL:av:=aV (iU (aa (dv 1 (d_ (ab 0)) (aQ 2) dB (aW 1 (ab 2)) false) ag))
def yS:=bb 2 (VL)
theorem VM:ae ["first","then"] ["first","then"] (aJ (top 37)):=bu (by decide +kernel)
abbrev HV:List Str:=["first","then","worth"]
theorem VN:(HV).Nodup:=by decide +kernel
theorem VO(B:Bt mg)(a:At K mg "after" (top 37) ["first","then"]):ah P w K mg base 1 "after" 2 (yS):=
 ah.bw a VM fun _ _ _ _ _ _ _ hr=>
  aC (aZ (lr B.aS Qp (ao (iT (k:=1) (N':=HV) false rfl ⟨rfl,by decide +kernel,rfl,rfl,rfl⟩ (iz (aI 0 rfl rfl)) (fun _ _ _ _=>bM (i:=2) (show 2<=2 by decide) VN rfl (Or.inl rfl) (Or.inr rfl)) (fun _ _ _ _=>iS) (fun _ _ _ _=>bj (qv 1) (aY (qv 2)))) aj ly)))
def VP:av:=aV (aB yS 2 (aa (aB yS 2 (aa (ab 0) (aa (ab 1) ag))) (aa (ab 2) ag)))
def CZ:=bb 3 (VP)
theorem VQ:ae ["back","rule","mapping"] ["back","rule","mapping"] (aJ (top 79)):=bu (by decide +kernel)
theorem VR(B:Bt mg)(HW:ah P w K mg base 1 "after" 2 yS)(a:At K mg "back_and_forth" (top 79) ["back","rule","mapping"]):ah P w K mg base 2 "back_and_forth" 3 (CZ):=
 ah.bw a VQ fun _ _ _ _ _ _ _ hr=>
  aC (aZ (aO HW hr (by decide) (ao (aO HW hr (by decide) (aq 0 rfl rfl (aq 1 rfl rfl aj))) (aq 2 rfl rfl aj) cI)))
abbrev VS:av:=cy (bJ (e2 cz (aW 2 (eT (aW 0 (ab 4)) (ab 5))) (eT (aW 1 (aW 2 (ab 4))) (aW 2 (ab 5))))) (aV (eC (.bl false))) (cM)
abbrev VT:av:=dF (ck (aa (ab 3) ag)) (aQ 5) (VS)
def VU:av:=aG (bD 3 (dE 0))
 (aG (dF (ck (aa (ab 3) ag)) (aQ 4) VT)
 (aV (eC (.bl true))))
def C2:=bb 6 (VU)
theorem yT:ae ["ladder","other","table","many","x","y"] ["ladder","other","table"] (aJ (top 33)):=bu (by decide +kernel)
theorem VW(B:Bt mg)(a:At K mg "leads_joins_to_joins" (top 33) ["ladder","other","table"]):ah P w K mg base 1 "leads_joins_to_joins" 3 (C2):=
 ah.bw a yT fun _ _ _ _ _ _ _ hr=>
  aL (bW (i:=3) yT.nd rfl (Or.inl rfl) (fC B.aP (ql 0 rfl rfl)))
  (aL (fV Qq rfl (fy B.ax (aq 3 rfl rfl aj)) (bM (i:=4) (show 0<=4 by decide) yT.nd rfl (Or.inl rfl)) (aC (fV Qq rfl (fy B.ax (aq 3 rfl rfl aj)) (bM (i:=5) (show 0<=5 by decide) yT.nd rfl (Or.inl rfl)) (aC (du (jl hr (bj (ql 2 rfl rfl) (fT (bj (ql 0 rfl rfl) (aI 4 rfl rfl)) (aI 5 rfl rfl))) (fT (bj (ql 1 rfl rfl) (bj (ql 2 rfl rfl) (aI 4 rfl rfl))) (bj (ql 2 rfl rfl) (aI 5 rfl rfl)))) (aC (aZ dM)) dt)))))
  (aC (aZ dM)))
def VX:av:=aG (cy (eU (dP (aB lI 3 (aa (ab 2) (aa (dE 0) (aa (dE 1) ag)))))) (aV (eC (.bl false))) cM)
 (aV (kK (aB C2 3 (aa (ab 0) (aa (ab 1) (aa (ab 2) ag)))) (e2 h_ (aW 2 (aB jH 1 (aa (ab 0) ag))) (aB jH 1 (aa (ab 1) ag)))))
def C3:=bb 3 (VX)
theorem VY:ae ["ladder","other","thing"] ["ladder","other","thing"] (aJ (top 75)):=bu (by decide +kernel)
theorem VZ(B:Bt mg)(sJ:ah P w K mg base 3 "is_row_of" 3 lI)(V0:ah P w K mg base 1 "leads_joins_to_joins" 3 C2)(me:ah P w K mg base 2 "least_of" 1 jH)(a:At K mg "is_map" (top 75) ["ladder","other","thing"]):ah P w K mg base 4 "is_map" 3 (C3):=
 ah.bw a VY fun _ _ _ _ _ _ _ hr=>
  aL (du (iy (gk (aO sJ hr (by decide) (aq 2 rfl rfl (ao (fC B.aP (ql 0 rfl rfl)) (ao (fC B.aP (ql 1 rfl rfl)) aj cI) cI))))) (aC (aZ dM)) dt)
  (aC (aZ (qh (aO V0 hr (by decide) (aq 0 rfl rfl (aq 1 rfl rfl (aq 2 rfl rfl aj)))) (rR (uZ hr (bj (ql 2 rfl rfl) (aO me hr (by decide) (aq 0 rfl rfl aj))) (aO me hr (by decide) (aq 1 rfl rfl aj)))))))
def V1:av:=cy (eU (dP (aB C3 3 (aa (ab 0) (aa (ab 1) (aa (ab 2) ag)))))) o9 (cM)
def C4:=bb 3 (V1)
theorem V2:ae ["ladder","other","thing"] ["ladder","other","thing"] (aJ (top 76)):=bu (by decide +kernel)
theorem V3(B:Bt mg)(V4:ah P w K mg base 4 "is_map" 3 C3)(a:At K mg "refuse_no_map" (top 76) ["ladder","other","thing"]):ah P w K mg base 5 "refuse_no_map" 3 (C4):=
 ah.bw a V2 fun _ _ _ _ _ _ _ hr=>
  aC (du (iy (gk (aO V4 hr (by decide) (aq 0 rfl rfl (aq 1 rfl rfl (aq 2 rfl rfl aj)))))) (aC rY) dt)
def V5:av:=aV (dv 2 (yk (aa (ab 1) ag)) (l8 (cX (aQ 3) (cX (aQ 4) kL))) (dP (aB jI 3 (aa (ab 0) (aa (ab 4) (aa (ab 2) ag))))) (ab 3) false)
def C5:=bb 3 (V5)
theorem V6:ae ["ladder","table","worth"] ["ladder","table","worth"] (aJ (top 34)):=bu (by decide +kernel)
abbrev HX:List Str:=["ladder","table","worth","x","led"]
theorem HY:(HX).Nodup:=by decide +kernel
theorem V7(B:Bt mg)(n5:ah P w K mg base 1 "is_below" 3 jI)(a:At K mg "led_below" (top 34) ["ladder","table","worth"]):ah P w K mg base 2 "led_below" 3 (C5):=
 ah.bw a V6 fun _ _ _ _ _ _ _ hr=>
  aC (aZ (iT (k:=2) (N':=HX) false rfl ⟨rfl,by decide +kernel,rfl,rfl,rfl⟩ (FW B.fH (aq 1 rfl rfl aj)) (fun _ _ _ _=>rT (n:=2) rfl (jy (bM (i:=3) (show 3<=3 by decide) HY rfl (Or.inl rfl) (Or.inr rfl)) (jy (bM (i:=4) (show 3<=4 by decide) HY rfl (Or.inl rfl) (Or.inr rfl)) rS)) ye) (fun _ _ _ _=>xY (gk (aO n5 hr (by decide) (ao (aY (qv 0)) (ao (aY (qv 4)) (ao (aY (qv 2)) aj bC) bC) bC)))) (fun _ _ _ _=>aY (qv 3))))
def V8:av:=aG (gF (aB C4 3 (aa (ab 0) (aa (ab 1) (aa (ab 2) ag)))))
 (aV (iU (aa (dv 1 (ck (aa (dE 1) ag)) (aQ 3) dB (aB qF 2 (aa (ab 0) (aa (aB C5 3 (aa (ab 1) (aa (ab 2) (aa (ab 3) ag)))) ag))) false) ag)))
def C6:=bb 3 (V8)
theorem V9:ae ["ladder","other","mapping"] ["ladder","other","mapping"] (aJ (top 77)):=bu (by decide +kernel)
abbrev HZ:List Str:=["ladder","other","mapping","worth"]
theorem V_:(HZ).Nodup:=by decide +kernel
theorem Wa(B:Bt mg)(Wb:ah P w K mg base 5 "refuse_no_map" 3 C4)(Cz:ah P w K mg base 3 "joined_all" 2 qF)(Wc:ah P w K mg base 2 "led_below" 3 C5)(a:At K mg "back_of" (top 77) ["ladder","other","mapping"]):ah P w K mg base 6 "back_of" 3 (C6):=
 ah.bw a V9 fun _ _ _ _ _ _ _ hr=>
  aL (jV (aO Wb hr (by decide) (ao (aY (qv 0)) (ao (aY (qv 1)) (ao (aY (qv 2)) aj bC) bC) bC)))
  (aC (aZ (lr B.aS Qp (ao (iT (k:=1) (N':=HZ) false rfl ⟨rfl,by decide +kernel,rfl,rfl,rfl⟩ (fy B.ax (ao (fC B.aP (qv 1)) aj cI)) (fun _ _ _ _=>bM (i:=3) (show 3<=3 by decide) V_ rfl (Or.inl rfl) (Or.inr rfl)) (fun _ _ _ _=>iS) (fun _ _ _ _=>aO Cz hr (by decide) (ao (aY (qv 0)) (ao (aO Wc hr (by decide) (ao (aY (qv 1)) (ao (aY (qv 2)) (ao (aY (qv 3)) aj bC) bC) bC)) aj cI) bC))) aj ly))))
def Wd:av:=aV (aB CZ 3 (aa (aB C6 3 (aa (ab 0) (aa (ab 1) (aa (ab 2) ag)))) (aa (ab 3) (aa (ab 2) ag))))
def wA:=bb 4 (Wd)
theorem We:ae ["ladder","other","mapping","rule"] ["ladder","other","mapping","rule"] (aJ (top 78)):=bu (by decide +kernel)
theorem Wf(B:Bt mg)(Wg:ah P w K mg base 2 "back_and_forth" 3 CZ)(Wh:ah P w K mg base 6 "back_of" 3 C6)(a:At K mg "mapped_rule" (top 78) ["ladder","other","mapping","rule"]):ah P w K mg base 7 "mapped_rule" 4 (wA):=
 ah.bw a We fun _ _ _ _ _ _ _ hr=>
  aC (aZ (aO Wg hr (by decide) (ao (aO Wh hr (by decide) (aq 0 rfl rfl (aq 1 rfl rfl (aq 2 rfl rfl aj)))) (aq 3 rfl rfl (aq 2 rfl rfl aj)) cI)))
def H0:av:=aV (aB sI 2 (aa (ab 1) (aa (tN "begin" "way" (o_ 0 2) (o_ 0 1)) ag)))
def n8:=bb 2 (H0)
theorem Wi:ae ["chart","thing"] ["chart","thing"] (aJ (top 58)):=bu (by decide +kernel)
theorem Wj(B:Bt mg)(CT:ah P w K mg base 3 "is_named_number" 2 sI)(a:At K mg "is_step" (top 58) ["chart","thing"]):ah P w K mg base 4 "is_step" 2 (n8):=
 ah.bw a Wi fun _ _ _ _ _ _ _ hr=>
  aC (aZ (aO CT hr (by decide) (aq 1 rfl rfl (ao (FQ (by decide) (Bm B.aP (ql 0 rfl rfl)) (Bm B.aP (ql 0 rfl rfl))) aj FT))))
def H9:av:=cy (eU (dP (eB mW (aa (dv 1 (d_ (ab 1)) (aQ 2) dB (aB n8 2 (aa (ab 0) (aa (ab 2) ag))) false) ag)))) o9 (cM)
def sM:=bb 2 (H9)
theorem Wk:ae ["chart","steps"] ["chart","steps"] (aJ (top 59)):=bu (by decide +kernel)
abbrev H_:List Str:=["chart","steps","step"]
theorem Wl:(H_).Nodup:=by decide +kernel
theorem Wm(B:Bt mg)(C7:ah P w K mg base 4 "is_step" 2 n8)(a:At K mg "refuse_no_step" (top 59) ["chart","steps"]):ah P w K mg base 5 "refuse_no_step" 2 (sM):=
 ah.bw a Wk fun _ _ _ _ _ _ _ hr=>
  aC (du (iy (gk (u_ rfl B.jE (ao (iT (k:=1) (N':=H_) false rfl ⟨rfl,by decide +kernel,rfl,rfl,rfl⟩ (iz (aI 1 rfl rfl)) (fun _ _ _ _=>bM (i:=2) (show 2<=2 by decide) Wl rfl (Or.inl rfl) (Or.inr rfl)) (fun _ _ _ _=>iS) (fun _ _ _ _=>aO C7 hr (by decide) (ao (aY (qv 0)) (ao (aY (qv 2)) aj bC) bC))) aj ly)))) (aC rY) dt)
def Ie:av:=aG (gF (aB sM 2 (aa (ab 1) (aa (ab 2) ag))))
 (aG (bD 3 (aB qI 4 (aa (ab 0) (aa (ab 1) (aa (ab 2) (aa (aB mf 2 (aa (ab 0) (aa (ab 1) ag))) ag))))))
 (aV (bg (aa (aW 3 (eC (.int 0))) (aa (eB mV (aa (aW 3 (eC (.int 1))) ag)) ag)))))
def wB:=bb 4 (Ie)
theorem Ig:ae ["ladder","chart","order","ended"] ["ladder","chart","order"] (aJ (top 64)):=bu (by decide +kernel)
theorem Wo(B:Bt mg)(C8:ah P w K mg base 5 "refuse_no_step" 2 sM)(CG:ah P w K mg base 3 "risen" 4 qI)(sD:ah P w K mg base 3 "lowest" 2 mf)(a:At K mg "least_by" (top 64) ["ladder","chart","order"]):ah P w K mg base 6 "least_by" 3 (wB):=
 ah.bw a Ig fun _ _ _ _ _ _ _ hr=>
  aL (jV (aO C8 hr (by decide) (aq 1 rfl rfl (aq 2 rfl rfl aj))))
  (aL (bW (i:=3) Ig.nd rfl (Or.inl rfl) (aO CG hr (by decide) (aq 0 rfl rfl (aq 1 rfl rfl (aq 2 rfl rfl (ao (aO sD hr (by decide) (aq 0 rfl rfl (aq 1 rfl rfl aj))) aj cI))))))
  (aC (aZ (bN (ao (bj (ql 3 rfl rfl) bc) (ao (u0 B.aP (ao (bj (ql 3 rfl rfl) bc) aj e_)) aj cI) e_)))))
def Ih:av:=aV (eT (aB wB 3 (aa (ab 0) (aa (ab 1) (aa (aB sH 1 (aa (ab 1) ag)) ag)))) (eC (.int 0)))
def pD:=bb 2 (Ih)
theorem Wp:ae ["ladder","chart"] ["ladder","chart"] (aJ (top 56)):=bu (by decide +kernel)
theorem Wq(B:Bt mg)(Wr:ah P w K mg base 6 "least_by" 3 wB)(CH:ah P w K mg base 1 "all_steps" 1 sH)(a:At K mg "least" (top 56) ["ladder","chart"]):ah P w K mg base 7 "least" 2 (pD):=
 ah.bw a Wp fun _ _ _ _ _ _ _ hr=>
  aC (aZ (fT (aO Wr hr (by decide) (aq 0 rfl rfl (aq 1 rfl rfl (ao (aO CH hr (by decide) (aq 1 rfl rfl aj)) aj cI)))) bc))
abbrev Ws:av:=cy (eU (dP (aB jI 3 (aa (ab 0) (aa (ab 7) (aa (aW 2 (ab 6)) ag)))))) (aV (eC (.bl false))) (cM)
abbrev Wt:av:=cy (eU (dP (aB jI 3 (aa (ab 0) (aa (aW 5 (aW 2 (ab 3))) (aa (aW 2 (ab 4)) ag)))))) (aV (eC (.bl false))) (cM)
def Wu:av:=aG (cy (eU (dP (aB lI 3 (aa (ab 2) (aa (aW 1 (eC (.int 0))) (aa (dE 0) ag)))))) (aV (eC (.bl false))) cM)
 (aG (dF (d_ (aW 1 (eC (.int 1)))) (l8 (cX (aQ 3) (cX (aQ 4) (cX (aQ 5) kL)))) Wt)
 (aG (dF (d_ (aW 1 (eC (.int 2)))) (l8 (cX (aQ 6) (cX (aQ 7) kL))) Ws)
 (aV (eC (.bl true)))))
def C9:=bb 8 (Wu)
theorem t6:ae ["ladder","chart","thing","start","goal","rule","place","worth"] ["ladder","chart","thing"] (aJ (top 43)):=bu (by decide +kernel)
theorem Wv(B:Bt mg)(sJ:ah P w K mg base 3 "is_row_of" 3 lI)(n5:ah P w K mg base 1 "is_below" 3 jI)(a:At K mg "is_answer" (top 43) ["ladder","chart","thing"]):ah P w K mg base 4 "is_answer" 3 (C9):=
 ah.bw a t6 fun _ _ _ _ _ _ _ hr=>
  aL (du (iy (gk (aO sJ hr (by decide) (aq 2 rfl rfl (ao (bj (ql 1 rfl rfl) bc) (ao (fC B.aP (ql 0 rfl rfl)) aj cI) e_))))) (aC (aZ dM)) dt)
  (aL (fV Qq rfl (iz (bj (ql 1 rfl rfl) bc)) (rT (n:=3) rfl (jy (bM (i:=3) (show 0<=3 by decide) t6.nd rfl (Or.inl rfl)) (jy (bM (i:=4) (show 0<=4 by decide) t6.nd rfl (Or.inl rfl)) (jy (bM (i:=5) (show 0<=5 by decide) t6.nd rfl (Or.inl rfl)) rS))) Bk) (aC (du (iy (gk (aO n5 hr (by decide) (aq 0 rfl rfl (ao (bj (ql 5 rfl rfl) (bj (ql 2 rfl rfl) (aI 3 rfl rfl))) (ao (bj (ql 2 rfl rfl) (aI 4 rfl rfl)) aj e_) e_))))) (aC (aZ dM)) dt)))
  (aL (fV Qq rfl (iz (bj (ql 1 rfl rfl) bc)) (rT (n:=2) rfl (jy (bM (i:=6) (show 0<=6 by decide) t6.nd rfl (Or.inl rfl)) (jy (bM (i:=7) (show 0<=7 by decide) t6.nd rfl (Or.inl rfl)) rS)) ye) (aC (du (iy (gk (aO n5 hr (by decide) (aq 0 rfl rfl (aq 7 rfl rfl (ao (bj (ql 2 rfl rfl) (aI 6 rfl rfl)) aj e_)))))) (aC (aZ dM)) dt)))
  (aC (aZ dM))))
abbrev Ww:av:=bD 3 (aB sF 4 (aa (ab 0) (aa (ab 1) (aa (ab 3) (aa (ab 4) ag)))))
def Wx:av:=aG (gF (aB sM 2 (aa (ab 1) (aa (ab 2) ag))))
 (aG (bD 3 (aB mf 2 (aa (ab 0) (aa (ab 1) ag))))
 (aG (dF (d_ (ab 2)) (aQ 4) Ww)
 (aV (ab 3))))
def C_:=bb 5 (Wx)
theorem yU:ae ["ladder","chart","steps","worths","step"] ["ladder","chart","steps"] (aJ (top 62)):=bu (by decide +kernel)
theorem Wy(B:Bt mg)(C8:ah P w K mg base 5 "refuse_no_step" 2 sM)(sD:ah P w K mg base 3 "lowest" 2 mf)(CC:ah P w K mg base 2 "worths_behind" 4 sF)(a:At K mg "gone" (top 62) ["ladder","chart","steps"]):ah P w K mg base 6 "gone" 3 (C_):=
 ah.bw a yU fun _ _ _ _ _ _ _ hr=>
  aL (jV (aO C8 hr (by decide) (aq 1 rfl rfl (aq 2 rfl rfl aj))))
  (aL (bW (i:=3) yU.nd rfl (Or.inl rfl) (aO sD hr (by decide) (aq 0 rfl rfl (aq 1 rfl rfl aj))))
  (aL (fV Qq rfl (iz (aI 2 rfl rfl)) (bM (i:=4) (show 0<=4 by decide) yU.nd rfl (Or.inl rfl)) (aC (bW (i:=3) yU.nd rfl (Or.inl rfl) (aO CC hr (by decide) (aq 0 rfl rfl (aq 1 rfl rfl (aq 3 rfl rfl (aq 4 rfl rfl aj))))))))
  (aC (aZ (aI 3 rfl rfl)))))
def Wz:av:=aG (cy (ki (eU (dP (oZ .list (ab 3)))) (eU (dP (eB mW (aa (dv 1 (d_ (ab 3)) (aQ 4) dB (aB n8 2 (aa (ab 1) (aa (ab 4) ag))) false) ag))))) (aV (eC (.bl false))) cM)
 (aV (kK (aB C9 3 (aa (ab 0) (aa (ab 1) (aa (ab 2) ag)))) (e2 h_ (aB C_ 3 (aa (ab 0) (aa (ab 1) (aa (ab 3) ag)))) (ab 2))))
def sN:=bb 4 (Wz)
theorem WA:ae ["ladder","chart","answer","thing"] ["ladder","chart","answer","thing"] (aJ (top 65)):=bu (by decide +kernel)
abbrev Ii:List Str:=["ladder","chart","answer","thing","step"]
theorem WB:(Ii).Nodup:=by decide +kernel
theorem WC(B:Bt mg)(C7:ah P w K mg base 4 "is_step" 2 n8)(WD:ah P w K mg base 4 "is_answer" 3 C9)(WE:ah P w K mg base 6 "gone" 3 C_)(a:At K mg "is_paper" (top 65) ["ladder","chart","answer","thing"]):ah P w K mg base 7 "is_paper" 4 (sN):=
 ah.bw a WA fun _ _ _ _ _ _ _ hr=>
  aL (du (pA (oN (iy (gk (rV .list B.bh B.i8 Z8 (aI 3 rfl rfl)))) (qe (iy (gk (u_ rfl B.jE (ao (iT (k:=1) (N':=Ii) false rfl ⟨rfl,by decide +kernel,rfl,rfl,rfl⟩ (iz (aI 3 rfl rfl)) (fun _ _ _ _=>bM (i:=4) (show 4<=4 by decide) WB rfl (Or.inl rfl) (Or.inr rfl)) (fun _ _ _ _=>iS) (fun _ _ _ _=>aO C7 hr (by decide) (ao (aY (qv 1)) (ao (aY (qv 4)) aj bC) bC))) aj ly))))))) (aC (aZ dM)) dt)
  (aC (aZ (qh (aO WD hr (by decide) (aq 0 rfl rfl (ao (aY (qv 1)) (aq 2 rfl rfl aj) bC))) (rR (uZ hr (aO WE hr (by decide) (aq 0 rfl rfl (ao (aY (qv 1)) (aq 3 rfl rfl aj) bC))) (aI 2 rfl rfl))))))
def WG:av:=aV (iU (aa (u7 (kh (aa (ab 1) ag)) (dE 0)) ag))
def pE:=bb 2 (WG)
theorem WH:ae ["ladder","worth"] ["ladder","worth"] (aJ (top 36)):=bu (by decide +kernel)
theorem WI(B:Bt mg)(a:At K mg "steady" (top 36) ["ladder","worth"]):ah P w K mg base 1 "steady" 2 (pE):=
 ah.bw a WH fun _ _ _ _ _ _ _ hr=>
  aC (aZ (lr B.aS Qp (ao (Bd (nQ (aq 1 rfl rfl aj)) (fC B.aP (ql 0 rfl rfl))) aj jZ)))
def WJ:av:=aV (iU (aa (u7 (kh (aa (aB pE 2 (aa (ab 0) (aa (aB jH 1 (aa (ab 0) ag)) ag))) ag)) (dE 1)) ag))
def Dc:=bb 2 (WJ)
theorem WK:ae ["ladder","program"] ["ladder","program"] (aJ (top 70)):=bu (by decide +kernel)
theorem WM(B:Bt mg)(Dd:ah P w K mg base 1 "steady" 2 pE)(me:ah P w K mg base 2 "least_of" 1 jH)(a:At K mg "least_rules" (top 70) ["ladder","program"]):ah P w K mg base 3 "least_rules" 2 (Dc):=
 ah.bw a WK fun _ _ _ _ _ _ _ hr=>
  aC (aZ (lr B.aS Qp (ao (Bd (nQ (ao (aO Dd hr (by decide) (aq 0 rfl rfl (ao (aO me hr (by decide) (aq 0 rfl rfl aj)) aj cI))) aj cI)) (fC B.aP (ql 1 rfl rfl))) aj jZ)))
def WN:av:=aG (bD 3 (dv 3 (d_ (aW 0 (eC (.int 1)))) (l8 (cX (aQ 4) (cX (aQ 5) (cX (aQ 6) kL)))) dB (bg (aa (ab 4) (aa (ab 5) (aa (oO (dP (aB sE 1 (aa (ab 6) ag))) (aW 1 (ab 6)) (ab 6)) ag)))) false))
 (aV (bg (aa (aW 0 (eC (.int 0))) (aa (iU (aa (ab 3) ag)) (aa (bg (aa (bg (aa (eC (.int 0)) (aa (ab 2) ag))) ag)) ag)))))
def De:=bb 4 (WN)
theorem Ij:ae ["house","rules","worth","ways"] ["house","rules","worth"] (aJ (top 67)):=bu (by decide +kernel)
abbrev Ik:List Str:=["house","rules","worth","ways","start","goal","led"]
theorem Df:(Ik).Nodup:=by decide +kernel
theorem WO(B:Bt mg)(CB:ah P w K mg base 1 "is_whole" 1 sE)(a:At K mg "called_chart" (top 67) ["house","rules","worth"]):ah P w K mg base 2 "called_chart" 3 (De):=
 ah.bw a Ij fun _ _ _ _ _ _ _ hr=>
  aL (xZ (i:=3) (k:=3) (N':=Ik) false Ij.nd rfl (Or.inl rfl) rfl rfl ⟨rfl,by decide +kernel,rfl,rfl,rfl⟩ (iz (bj (ql 0 rfl rfl) bc)) (fun _ _ _ _=>rT (n:=3) rfl (jy (bM (i:=4) (show 4<=4 by decide) Df rfl (Or.inl rfl) (Or.inr rfl)) (jy (bM (i:=5) (show 4<=5 by decide) Df rfl (Or.inl rfl) (Or.inr rfl)) (jy (bM (i:=6) (show 4<=6 by decide) Df rfl (Or.inl rfl) (Or.inr rfl)) rS))) Bk) (fun _ _ _ _=>iS) (fun _ _ _ _=>bN (ao (aY (qv 4)) (ao (aY (qv 5)) (ao (AL (gk (aO CB hr (by decide) (ao (aY (qv 6)) aj bC))) (bj (qv 1) (aY (qv 6))) (aY (qv 6))) aj PL) bC) bC)))
  (aC (aZ (bN (ao (bj (ql 0 rfl rfl) bc) (ao (lr B.aS Qp (aq 3 rfl rfl aj)) (ao (bN (ao (bN (bR (aq 2 rfl rfl aj))) aj gu)) aj gu) cI) e_))))
def WQ:av:=aV (iU (aa (dv 1 (ck (aa (dE 0) ag)) (aQ 3) dB (eT (aB pD 2 (aa (ab 0) (aa (aB De 3 (aa (ab 1) (aa (ab 2) (aa (ab 3) ag)))) ag))) (Bh (eC (.int 1)))) false) ag))
def Dg:=bb 3 (WQ)
theorem WR:ae ["ladder","house","rules"] ["ladder","house","rules"] (aJ (top 68)):=bu (by decide +kernel)
abbrev Il:List Str:=["ladder","house","rules","worth"]
theorem WS:(Il).Nodup:=by decide +kernel
theorem WT(B:Bt mg)(Dh:ah P w K mg base 7 "least" 2 pD)(WU:ah P w K mg base 2 "called_chart" 3 De)(a:At K mg "house_rule" (top 68) ["ladder","house","rules"]):ah P w K mg base 8 "house_rule" 3 (Dg):=
 ah.bw a WR fun _ _ _ _ _ _ _ hr=>
  aC (aZ (lr B.aS Qp (ao (iT (k:=1) (N':=Il) false rfl ⟨rfl,by decide +kernel,rfl,rfl,rfl⟩ (fy B.ax (ao (fC B.aP (qv 0)) aj cI)) (fun _ _ _ _=>bM (i:=3) (show 3<=3 by decide) WS rfl (Or.inl rfl) (Or.inr rfl)) (fun _ _ _ _=>iS) (fun _ _ _ _=>fT (aO Dh hr (by decide) (ao (aY (qv 0)) (ao (aO WU hr (by decide) (ao (aY (qv 1)) (ao (aY (qv 2)) (ao (aY (qv 3)) aj bC) bC) bC)) aj cI) bC)) (Rh bc))) aj ly)))
def WV:av:=aV (iU (aa (dv 1 (d_ (ab 1)) (aQ 3) dB (aB Dg 3 (aa (ab 0) (aa (ab 3) (aa (ab 2) ag)))) false) ag))
def Di:=bb 3 (WV)
theorem WW:ae ["ladder","program","rules"] ["ladder","program","rules"] (aJ (top 69)):=bu (by decide +kernel)
abbrev Im:List Str:=["ladder","program","rules","house"]
theorem WX:(Im).Nodup:=by decide +kernel
theorem WY(B:Bt mg)(WZ:ah P w K mg base 8 "house_rule" 3 Dg)(a:At K mg "one_call_deeper" (top 69) ["ladder","program","rules"]):ah P w K mg base 9 "one_call_deeper" 3 (Di):=
 ah.bw a WW fun _ _ _ _ _ _ _ hr=>
  aC (aZ (lr B.aS Qp (ao (iT (k:=1) (N':=Im) false rfl ⟨rfl,by decide +kernel,rfl,rfl,rfl⟩ (iz (aI 1 rfl rfl)) (fun _ _ _ _=>bM (i:=3) (show 3<=3 by decide) WX rfl (Or.inl rfl) (Or.inr rfl)) (fun _ _ _ _=>iS) (fun _ _ _ _=>aO WZ hr (by decide) (ao (aY (qv 0)) (ao (aY (qv 3)) (ao (aY (qv 2)) aj bC) bC) bC))) aj ly)))
abbrev W0:av:=aG (bD 4 (ab 3))
 (aG (bD 3 (aB Di 3 (aa (ab 0) (aa (ab 1) (aa (ab 4) ag)))))
 (bD 5 (e2 fS (ab 5) (eC (.int 1)))))
def W1:av:=aG (bD 3 (aB Dc 2 (aa (ab 0) (aa (ab 1) ag))))
 (aG (bD 4 (eC .aX))
 (aG (bD 5 (ab 2))
 (aG (tM (AK (bJ (e2 AJ (ab 5) (eC (.int 0)))) (bJ (e2 cz (ab 3) (ab 4)))) W0)
 (aV (ab 3)))))
def t7:=bb 6 (W1)
theorem sO:ae ["ladder","program","deep","rules","ahead","left"] ["ladder","program","deep"] (aJ (top 71)):=bu (by decide +kernel)
theorem W2(B:Bt mg)(W3:ah P w K mg base 3 "least_rules" 2 Dc)(W4:ah P w K mg base 9 "one_call_deeper" 3 Di)(a:At K mg "summaries_by" (top 71) ["ladder","program","deep"]):ah P w K mg base 10 "summaries_by" 3 (t7):=
 ah.bw a sO fun _ _ _ _ _ _ _ hr=>
  aL (bW (i:=3) sO.nd rfl (Or.inl rfl) (aO W3 hr (by decide) (aq 0 rfl rfl (aq 1 rfl rfl aj))))
  (aL (bW (i:=4) sO.nd rfl (Or.inl rfl) E3)
  (aL (bW (i:=5) sO.nd rfl (Or.inl rfl) (aI 2 rfl rfl))
  (aL (yh Qq (pA (OL (OJ (aI 5 rfl rfl) bc) (OK (jl hr (aI 3 rfl rfl) (aI 4 rfl rfl))))) (aL (bW (i:=4) sO.nd rfl (Or.inl rfl) (aI 3 rfl rfl))
  (aL (bW (i:=3) sO.nd rfl (Or.inl rfl) (aO W4 hr (by decide) (aq 0 rfl rfl (aq 1 rfl rfl (aq 4 rfl rfl aj)))))
  (aC (bW (i:=5) sO.nd rfl (Or.inl rfl) (mP (aI 5 rfl rfl) bc))))))
  (aC (aZ (aI 3 rfl rfl))))))
abbrev W5:av:=cy (bJ (e2 cz (eT (aW 0 (eT (aW 0 (ab 2)) (ab 3))) (ab 4)) (eT (aW 0 (ab 2)) (eT (aW 0 (ab 3)) (ab 4))))) (aV (eC (.bl false))) (cM)
abbrev W6:av:=dF (ck (aa (ab 1) ag)) (aQ 4) (W5)
abbrev W7:av:=dF (ck (aa (ab 1) ag)) (aQ 3) (W6)
def W8:av:=aG (bD 1 (dE 0))
 (aG (dF (ck (aa (ab 1) ag)) (aQ 2) W7)
 (aV (eC (.bl true))))
def Dj:=bb 5 (W8)
theorem wC:ae ["table","many","x","y","z"] ["table"] (aJ (top 18)):=bu (by decide +kernel)
theorem W9(B:Bt mg)(a:At K mg "joins_are_from_either_end" (top 18) ["table"]):ah P w K mg base 1 "joins_are_from_either_end" 1 (Dj):=
 ah.bw a wC fun _ _ _ _ _ _ _ hr=>
  aL (bW (i:=1) wC.nd rfl (Or.inl rfl) (fC B.aP (ql 0 rfl rfl)))
  (aL (fV Qq rfl (fy B.ax (aq 1 rfl rfl aj)) (bM (i:=2) (show 0<=2 by decide) wC.nd rfl (Or.inl rfl)) (aC (fV Qq rfl (fy B.ax (aq 1 rfl rfl aj)) (bM (i:=3) (show 0<=3 by decide) wC.nd rfl (Or.inl rfl)) (aC (fV Qq rfl (fy B.ax (aq 1 rfl rfl aj)) (bM (i:=4) (show 0<=4 by decide) wC.nd rfl (Or.inl rfl)) (aC (du (jl hr (fT (bj (ql 0 rfl rfl) (fT (bj (ql 0 rfl rfl) (aI 2 rfl rfl)) (aI 3 rfl rfl))) (aI 4 rfl rfl)) (fT (bj (ql 0 rfl rfl) (aI 2 rfl rfl)) (fT (bj (ql 0 rfl rfl) (aI 3 rfl rfl)) (aI 4 rfl rfl)))) (aC (aZ dM)) dt)))))))
  (aC (aZ dM)))
def W_:av:=aV (e2 x8 (aB qE 1 (aa (dE 0) ag)) (ab 0))
def Dk:=bb 1 (W_)
theorem Xa:ae ["table"] ["table"] (aJ (top 20)):=bu (by decide +kernel)
theorem Xb(B:Bt mg)(Cy:ah P w K mg base 1 "row_of_least" 1 qE)(a:At K mg "has_least" (top 20) ["table"]):ah P w K mg base 2 "has_least" 1 (Dk):=
 ah.bw a Xa fun _ _ _ _ _ _ _ hr=>
  aC (aZ (Pc hr (aO Cy hr (by decide) (ao (fC B.aP (ql 0 rfl rfl)) aj cI)) (aI 0 rfl rfl)))
def Xc:av:=aV (eB mW (aa (dv 1 (ck (aa (dE 0) ag)) (aQ 1) dB (e2 h_ (eT (aW 0 (ab 1)) (ab 1)) (ab 1)) false) ag))
def Dl:=bb 1 (Xc)
theorem Xd:ae ["table"] ["table"] (aJ (top 16)):=bu (by decide +kernel)
abbrev Io:List Str:=["table","x"]
theorem Xe:(Io).Nodup:=by decide +kernel
theorem Xf(B:Bt mg)(a:At K mg "joins_with_itself_stay" (top 16) ["table"]):ah P w K mg base 1 "joins_with_itself_stay" 1 (Dl):=
 ah.bw a Xd fun _ _ _ _ _ _ _ hr=>
  aC (aZ (u_ rfl B.jE (ao (iT (k:=1) (N':=Io) false rfl ⟨rfl,by decide +kernel,rfl,rfl,rfl⟩ (fy B.ax (ao (fC B.aP (qv 0)) aj cI)) (fun _ _ _ _=>bM (i:=1) (show 1<=1 by decide) Xe rfl (Or.inl rfl) (Or.inr rfl)) (fun _ _ _ _=>iS) (fun _ _ _ _=>uZ hr (fT (bj (qv 0) (aY (qv 1))) (aY (qv 1))) (aY (qv 1)))) aj ly)))
abbrev Xg:av:=cy (bJ (e2 cz (eT (aW 0 (ab 1)) (ab 2)) (eT (aW 0 (ab 2)) (ab 1)))) (aV (eC (.bl false))) (cM)
abbrev Xh:av:=dF (ck (aa (ab 1) ag)) (aQ 2) (Xg)
def Xi:av:=aG (dF (ck (aa (dE 0) ag)) (aQ 1) Xh)
 (aV (eC (.bl true)))
def Dm:=bb 3 (Xi)
theorem Dp:ae ["table","x","y"] ["table"] (aJ (top 17)):=bu (by decide +kernel)
theorem Xj(B:Bt mg)(a:At K mg "joins_are_either_way" (top 17) ["table"]):ah P w K mg base 1 "joins_are_either_way" 1 (Dm):=
 ah.bw a Dp fun _ _ _ _ _ _ _ hr=>
  aL (fV Qq rfl (fy B.ax (ao (fC B.aP (ql 0 rfl rfl)) aj cI)) (bM (i:=1) (show 0<=1 by decide) Dp.nd rfl (Or.inl rfl)) (aC (fV Qq rfl (fy B.ax (aq 1 rfl rfl aj)) (bM (i:=2) (show 0<=2 by decide) Dp.nd rfl (Or.inl rfl)) (aC (du (jl hr (fT (bj (ql 0 rfl rfl) (aI 1 rfl rfl)) (aI 2 rfl rfl)) (fT (bj (ql 0 rfl rfl) (aI 2 rfl rfl)) (aI 1 rfl rfl))) (aC (aZ dM)) dt)))))
  (aC (aZ dM))
def Xk:av:=aG (cy (ki (eU (dP (oZ .tuple (ab 0)))) (eU (bJ (qo tH tH (eC (.int 1)) (dE 0) (eC (.int 16)))))) (aV (eC (.bl false))) cM)
 (aG (bD 1 (dE 0))
 (aG (cy (eU (dP (eB mW (aa (dv 1 (d_ (ab 0)) (aQ 2) dB (aB lI 3 (aa (ab 2) (aa (ab 1) (aa (ab 1) ag)))) false) ag)))) (aV (eC (.bl false))) cM)
 (aG (cy (ki (eU (dP (aB Dl 1 (aa (ab 0) ag)))) (eU (dP (aB Dm 1 (aa (ab 0) ag))))) (aV (eC (.bl false))) cM)
 (aV (kK (aB Dj 1 (aa (ab 0) ag)) (aB Dk 1 (aa (ab 0) ag)))))))
def wD:=bb 2 (Xk)
theorem Ip:ae ["thing","many"] ["thing"] (aJ (top 15)):=bu (by decide +kernel)
abbrev Iq:List Str:=["thing","many","row"]
theorem Xl:(Iq).Nodup:=by decide +kernel
theorem Xm(B:Bt mg)(sJ:ah P w K mg base 3 "is_row_of" 3 lI)(Xn:ah P w K mg base 1 "joins_with_itself_stay" 1 Dl)(Xo:ah P w K mg base 1 "joins_are_either_way" 1 Dm)(Xp:ah P w K mg base 1 "joins_are_from_either_end" 1 Dj)(Xq:ah P w K mg base 2 "has_least" 1 Dk)(a:At K mg "is_ladder" (top 15) ["thing"]):ah P w K mg base 4 "is_ladder" 1 (wD):=
 ah.bw a Ip fun _ _ _ _ _ _ _ hr=>
  aL (du (pA (oN (iy (gk (rV .tuple B.bh B.aS Qp (aI 0 rfl rfl)))) (qe (iy (Ru bc (fC B.aP (ql 0 rfl rfl)) (FP B.dQ)))))) (aC (aZ dM)) dt)
  (aL (bW (i:=1) Ip.nd rfl (Or.inr rfl) (fC B.aP (ql 0 rfl rfl)))
  (aL (du (iy (gk (u_ rfl B.jE (ao (iT (k:=1) (N':=Iq) false rfl ⟨rfl,by decide +kernel,rfl,rfl,rfl⟩ (iz (aI 0 rfl rfl)) (fun _ _ _ _=>bM (i:=2) (show 2<=2 by decide) Xl rfl (Or.inl rfl) (Or.inr rfl)) (fun _ _ _ _=>iS) (fun _ _ _ _=>aO sJ hr (by decide) (ao (aY (qv 2)) (ao (aY (qv 1)) (ao (aY (qv 1)) aj bC) bC) bC))) aj ly)))) (aC (aZ dM)) dt)
  (aL (du (pA (oN (iy (gk (aO Xn hr (by decide) (aq 0 rfl rfl aj)))) (qe (iy (gk (aO Xo hr (by decide) (aq 0 rfl rfl aj))))))) (aC (aZ dM)) dt)
  (aC (aZ (qh (aO Xp hr (by decide) (aq 0 rfl rfl aj)) (rR (aO Xq hr (by decide) (aq 0 rfl rfl aj)))))))))
def t8:aw:=aB tX 3 (aa (ab 2) (aa (ab 0) (aa (ab 1) ag)))
def Ir:av:=aV (pf mh t8 [0] (dE 0))
def wF:=bb 1 (Ir)
theorem Xr:ae ["ladder"] ["ladder"] (aJ (top 27)):=bu (by decide +kernel)
theorem Xs(B:Bt mg)(L:Lm K mg base)(KX:K.In base)(NG:base.Ns mainGlobals mg)(tb:∃ c Pt,PySem.W.tabIn K "turned" = some (c,Pt))(hT:∀ (base:Heap) (ob:D) (G:List D->OD),r_ P w K mg base 5 ob 2 G->ah P w K mg base 6 "table_of" 2 (mh ob G))(hy:∃ fn,mg "table_of" = some (.ref fn)/\PySem.W.keepIn K (.ref fn)=true)(wG:∀ base:Heap,ah P w K mg base 4 "met" 3 tX)(a:At K mg "turned" (top 27) ["ladder"]):ah P w K mg base 7 "turned" 1 wF:=
 ah.GH (k:=6) KX NG tb a Xr fun f c Pt A outer s H E ht hr=>
  aC (aZ (GG (ps:=["x","y"]) (caps:=["ladder"]) (is:=[0]) (kb:=4) L (by decide) ht (by exact bS.of rfl rfl rfl (by decide +kernel) (by decide +kernel) (by decide +kernel) (by decide +kernel) (by decide +kernel)) hy hr (by decide) hT (fun _ _ _ _ _ _ _ _ _ hr=>aO (wG _) hr (by decide) (ao (aY (qv 2)) (aq 0 rfl rfl (aq 1 rfl rfl aj)) bC)) (fun _ _ _ _ _ _ h=>by obtain⟨_,_,rfl⟩:=L3.GI h;rfl) ⟨rfl,rfl,trivial⟩ (fC B.aP (qv 0)) (fun _=>cI)))
abbrev Iu:av:=cy (bJ (e2 cz (eT (aW 2 (ab 3)) (eT (aW 0 (ab 4)) (ab 5))) (eT (aW 0 (eT (aW 2 (ab 3)) (ab 4))) (eT (aW 2 (ab 3)) (ab 5))))) (aV (eC (.bl false))) (cM)
abbrev Iv:av:=dF (ck (aa (ab 1) ag)) (aQ 5) (Iu)
abbrev Iw:av:=dF (ck (aa (ab 1) ag)) (aQ 4) (Iv)
def Iy:av:=aG (bD 1 (dE 0))
 (aG (bD 2 (aB wF 1 (aa (ab 0) ag)))
 (aG (dF (ck (aa (ab 1) ag)) (aQ 3) Iw)
 (aV (eC (.bl true)))))
def qK:=bb 6 (Iy)
theorem t_:ae ["ladder","many","meets","x","y","z"] ["ladder"] (aJ (top 28)):=bu (by decide +kernel)
theorem Xt(B:Bt mg)(Xu:ah P w K mg base 7 "turned" 1 wF)(a:At K mg "is_parting" (top 28) ["ladder"]):ah P w K mg base 8 "is_parting" 1 (qK):=
 ah.bw a t_ fun _ _ _ _ _ _ _ hr=>
  aL (bW (i:=1) t_.nd rfl (Or.inl rfl) (fC B.aP (ql 0 rfl rfl)))
  (aL (bW (i:=2) t_.nd rfl (Or.inl rfl) (aO Xu hr (by decide) (aq 0 rfl rfl aj)))
  (aL (fV Qq rfl (fy B.ax (aq 1 rfl rfl aj)) (bM (i:=3) (show 0<=3 by decide) t_.nd rfl (Or.inl rfl)) (aC (fV Qq rfl (fy B.ax (aq 1 rfl rfl aj)) (bM (i:=4) (show 0<=4 by decide) t_.nd rfl (Or.inl rfl)) (aC (fV Qq rfl (fy B.ax (aq 1 rfl rfl aj)) (bM (i:=5) (show 0<=5 by decide) t_.nd rfl (Or.inl rfl)) (aC (du (jl hr (fT (bj (ql 2 rfl rfl) (aI 3 rfl rfl)) (fT (bj (ql 0 rfl rfl) (aI 4 rfl rfl)) (aI 5 rfl rfl))) (fT (bj (ql 0 rfl rfl) (fT (bj (ql 2 rfl rfl) (aI 3 rfl rfl)) (aI 4 rfl rfl))) (fT (bj (ql 2 rfl rfl) (aI 3 rfl rfl)) (aI 5 rfl rfl)))) (aC (aZ dM)) dt)))))))
  (aC (aZ dM))))
def Xv:av:=aV (AY (aa (dE 0) ag))
def nB:=bb 1 (Xv)
theorem Xw:ae ["ladder"] ["ladder"] (aJ (top 35)):=bu (by decide +kernel)
theorem Xx(B:Bt mg)(a:At K mg "plain_rule" (top 35) ["ladder"]):ah P w K mg base 1 "plain_rule" 1 (nB):=
 ah.bw a Xw fun _ _ _ _ _ _ _ hr=>
  aC (aZ (Fw rfl B.aS Qp B.ax (ao (fC B.aP (ql 0 rfl rfl)) aj cI)))
abbrev yV:av:=aG (bD 19 (dv 1 (ck (aa (eC (.int 4)) ag)) (aQ 21) dB (oO (bJ (e2 lY (e2 dY (ab 21) (ab 18)) (eC (.int 3)))) (aB pE 2 (aa (ab 2) (aa (eC (.int 0)) ag))) (aB nB 1 (aa (ab 2) ag))) false))
 (cy (bJ (e2 cz (aB t7 3 (aa (ab 2) (aa (ab 17) (aa (ab 18) ag)))) (iU (aa (ab 19) ag)))) (aV (eC (.bl false))) cM)
abbrev yW:av:=gF (nh "Keeper" "add_way" wu 4 13 (aa (ab 14) (aa (ab 15) (aa (ab 16) ag))))
abbrev yX:av:=aG (bD 12 (o7 (mZ (bg (aa (ab 6) ag)) (e2 dY (ab 11) (eC (.int 1)))) (tS (bg (aa (eC (.int 0)) ag)) (e2 fS (e2 fS (ab 5) (ab 11)) (eC (.int 1))))))
 (cy (bJ (e2 cz (aB sN 4 (aa (ab 2) (aa (ab 8) (aa (ab 12) (aa (vj (ab 10) vd (qr (e2 dY (ab 11) (eC (.int 1))))) ag))))) (e2 h_ (ab 11) (e2 fS (ab 5) (eC (.int 1)))))) (aV (eC (.bl false))) cM)
def Iz:av:=aG (bD 1 (e2 dY (eC (.int 5)) (aB nA 3 (aa (ab 0) (aa (eC (.int 0)) (aa (eC (.int 2)) ag))))))
 (aG (vf (bg (aa (aB wb 1 (aa (ab 1) ag)) (aa (e2 dY (eC (.int 3)) (aB nA 3 (aa (ab 0) (aa (eC (.int 1)) (aa (e2 fS (ab 1) (eC (.int 3))) ag))))) ag))) (l8 (cX (aQ 2) (cX (aQ 3) kL))))
 (aG (bD 4 (iU (aa (dv 1 (ck (aa (ab 1) ag)) (aQ 21) dB (oO (bJ (e2 lY (ab 21) (ab 3))) (eB yq (aa (e2 dY (ab 21) (eC (.int 1))) (aa (ab 3) ag))) (ab 21)) false) ag)))
 (aG (cy (ki (bJ (e2 cz (aB wz 2 (aa (ab 2) (aa (ab 4) ag))) (ab 3))) (bJ (e2 cz (aB wA 4 (aa (ab 2) (aa (ab 2) (aa (aB nB 1 (aa (ab 2) ag)) (aa (ab 4) ag))))) (ab 4)))) (aV (eC (.bl false))) cM)
 (aG (yp 5 6 (aa (e2 dY (eC (.int 3)) (aB nA 3 (aa (ab 0) (aa (eC (.int 2)) (aa (eC (.int 5)) ag))))) (aa (e2 dY (eC (.int 1)) (aB nA 3 (aa (ab 0) (aa (eC (.int 3)) (aa (e2 fS (ab 1) (eC (.int 1))) ag))))) ag)))
 (aG (bD 7 (iU (aa (dv 1 (ck (aa (e2 fS (ab 5) (eC (.int 1))) ag)) (aQ 21) dB (bg (aa (ab 21) (aa (e2 dY (ab 21) (eC (.int 1))) (aa (aB nB 1 (aa (ab 2) ag)) ag)))) false) ag)))
 (aG (bD 8 (bg (aa (ab 5) (aa (ab 7) (aa (bg (aa (bg (aa (eC (.int 0)) (aa (ab 6) ag))) ag)) ag)))))
 (aG (bD 9 (bg (aa (bg (aa (eC (.str "begin")) (aa (eC (.int 0)) ag))) (aa (AX (aa (e2 fS (ab 5) (eC (.int 1))) ag)) ag))))
 (aG (cy (bJ (e2 cz (aB wj 4 (aa (ab 2) (aa (ab 8) (aa (e2 fS (ab 5) (eC (.int 1))) (aa (ab 6) ag))))) (ab 9))) (aV (eC (.bl false))) cM)
 (aG (cy (bJ (e2 cz (aB wk 4 (aa (ab 2) (aa (ab 8) (aa (aW 9 (eC (.int 0))) (aa (aW 9 (eC (.int 1))) ag))))) (bg (aa (e2 fS (ab 5) (eC (.int 1))) (aa (ab 6) ag))))) (aV (eC (.bl false))) cM)
 (aG (cy (ki (bJ (e2 cz (aB pD 2 (aa (ab 2) (aa (ab 8) ag))) (mZ (bg (aa (ab 6) ag)) (ab 5)))) (bJ (e2 vb (aB sN 4 (aa (ab 2) (aa (ab 8) (aa (aB mf 2 (aa (ab 2) (aa (ab 8) ag))) (aa (kh ag) ag))))) (eC (.bl false))))) (aV (eC (.bl false))) cM)
 (aG (bD 10 (qt (kh (aa (bg (aa (eC (.str "begin")) (aa (eC (.int 0)) ag))) ag)) (dv 1 (ck (aa (e2 fS (ab 5) (eC (.int 1))) ag)) (aQ 21) dB (bg (aa (eC (.str "way")) (aa (ab 21) ag))) false)))
 (aG (dF (ck (aa (ab 5) ag)) (aQ 11) yX)
 (aG (bD 13 (tR "Keeper" tY 3 (aa (ab 2) (aa (ab 5) ag))))
 (aG (dF (d_ (vi (ab 7))) (l8 (cX (aQ 14) (cX (aQ 15) (cX (aQ 16) kL)))) yW)
 (aG (gF (nh "Keeper" "add_begin" tZ 3 13 (aa (eC (.int 0)) (aa (ab 6) ag))))
 (aG (cy (bJ (e2 cz (sr "Keeper" "answer" wx 13) (mZ (bg (aa (ab 6) ag)) (ab 5)))) (aV (eC (.bl false))) cM)
 (aG (bD 17 (bg (aa (bg (aa (eC (.int 2)) (aa (bg (aa (bg (aa (eC (.int 0)) (aa (eC (.int 1)) (aa (eC (.int 1)) ag)))) ag)) ag))) (aa (bg (aa (eC (.int 2)) (aa (bg (aa (bg (aa (eC (.int 0)) (aa (eC (.int 1)) (aa (eC (.int 2)) ag)))) ag)) ag))) (aa (bg (aa (eC (.int 2)) (aa (bg (aa (bg (aa (eC (.int 0)) (aa (eC (.int 1)) (aa (eC (.int 3)) ag)))) ag)) ag))) (aa (bg (aa (eC (.int 1)) (aa (bg ag) ag))) ag))))))
 (aG (dF (d_ (bg (aa (eC (.int 0)) (aa (eC (.int 3)) ag)))) (aQ 18) yV)
 (aG (bD 20 (bg (aa (bg (aa (eC (.int 0)) (aa (eC (.int 1)) (aa (eC (.int 2)) (aa (eC (.int 3)) (aa (eC (.int 4)) ag)))))) (aa (bg (aa (eC (.int 1)) (aa (eC (.int 1)) (aa (eC (.int 1)) (aa (eC (.int 1)) (aa (eC (.int 1)) ag)))))) (aa (bg (aa (eC (.int 2)) (aa (eC (.int 1)) (aa (eC (.int 2)) (aa (eC (.int 1)) (aa (eC (.int 1)) ag)))))) (aa (bg (aa (eC (.int 3)) (aa (eC (.int 1)) (aa (eC (.int 1)) (aa (eC (.int 3)) (aa (eC (.int 1)) ag)))))) (aa (bg (aa (eC (.int 4)) (aa (eC (.int 1)) (aa (eC (.int 1)) (aa (eC (.int 1)) (aa (eC (.int 4)) ag)))))) ag)))))))
 (aV (kK (e2 tK (aB wD 1 (aa (ab 20) ag)) (eC (.bl true))) (kK (e2 tK (aB qK 1 (aa (ab 20) ag)) (eC (.bl false))) (e2 tK (aB qK 1 (aa (ab 2) ag)) (eC (.bl true)))))))))))))))))))))))))
def ua:=bb 21 (Iz)
theorem iF:ae ["_law_script","_law_many","_law_ladder","_law_goal","_law_rule","_law_places","_law_worth","_law_ways","_law_chart","_law_due","_law_steps","_law_at","_law_told","_law_keeper","_law_start","_law_end","_law_plain","_law_program","_law_deep","_law_some","_law_table"] ["_law_script"] (aJ (top 83)):=bu (by decide +kernel)
abbrev IA:List Str:=["_law_script","_law_many","_law_ladder","_law_goal","_law_rule","_law_places","#6","_law_ways","_law_chart","_law_due","_law_steps","_law_at","_law_told","_law_keeper","_law_start","_law_end","_law_plain","_law_program","_law_deep","_law_some","_law_table","_law_worth"]
theorem Xy:(IA).Nodup:=by decide +kernel
abbrev IB:List Str:=["_law_script","_law_many","_law_ladder","_law_goal","_law_rule","_law_places","_law_worth","_law_ways","_law_chart","_law_due","_law_steps","_law_at","_law_told","_law_keeper","_law_start","_law_end","_law_plain","_law_program","_law_deep","_law_some","_law_table","_law_place"]
theorem Xz:(IB).Nodup:=by decide +kernel
abbrev Dq:List Str:=["_law_script","_law_many","_law_ladder","_law_goal","_law_rule","_law_places","_law_worth","_law_ways","_law_chart","_law_due","_law_steps","_law_at","_law_told","_law_keeper","_law_start","_law_end","_law_plain","_law_program","_law_deep","_law_some","_law_table","_law_number"]
theorem IC:(Dq).Nodup:=by decide +kernel
theorem XA(B:Bt mg)(yY:ah P w K mg base 2 "_law_pick" 3 nA)(XB:ah P w K mg base 7 "chain_ladder" 1 wb)(XD:ah P w K mg base 7 "fixed" 2 wz)(XE:ah P w K mg base 7 "mapped_rule" 4 wA)(Dr:ah P w K mg base 1 "plain_rule" 1 nB)(XF:ah P w K mg base 5 "path_to" 4 wj)(XG:ah P w K mg base 5 "brought" 4 wk)(Dh:ah P w K mg base 7 "least" 2 pD)(ID:ah P w K mg base 7 "is_paper" 4 sN)(sD:ah P w K mg base 3 "lowest" 2 mf)(c4:pw P w K mg base 4 "Keeper" 3 tY)(c6:jB P w K mg base 7 "Keeper" "add_way" 4 wu)(c5:jB P w K mg base 5 "Keeper" "add_begin" 3 tZ)(c7:lG P w K mg base 1 "Keeper" "answer" 1 wx)(Dd:ah P w K mg base 1 "steady" 2 pE)(XH:ah P w K mg base 10 "summaries_by" 3 t7)(XI:ah P w K mg base 4 "is_ladder" 1 wD)(IE:ah P w K mg base 8 "is_parting" 1 qK){f:Addr}{fd:FuncData}(F:kH K "law" "law" (top 83) f fd):bY P w K mg base cV 11 f fd ["_law_script"] (kJ K 1 ua):=
 TF (k:=10) F iF fun _ _ _ _ _ _ _ hr=>
  aL (bW (i:=1) iF.nd rfl (Or.inl rfl) (kg bc (aO yY hr (by decide) (aq 0 rfl rfl (bR (bR aj))))))
  (aL (Rp (bN (ao (aO XB hr (by decide) (aq 1 rfl rfl aj)) (ao (kg bc (aO yY hr (by decide) (aq 0 rfl rfl (bR (ao (mP (aI 1 rfl rfl) bc) aj jZ))))) aj jZ) cI)) (rT (n:=2) rfl (jy (bM (i:=2) (show 0<=2 by decide) iF.nd rfl (Or.inr rfl)) (jy (bM (i:=3) (show 0<=3 by decide) iF.nd rfl (Or.inr rfl)) rS)) ye))
  (aL (bW (i:=4) iF.nd rfl (Or.inl rfl) (lr B.aS Qp (ao (iT (k:=1) (N':=IA) false rfl ⟨rfl,by decide +kernel,rfl,rfl,rfl⟩ (fy B.ax (aq 1 rfl rfl aj)) (fun _ _ _ _=>bM (i:=21) (show 21<=21 by decide) Xy rfl (Or.inl rfl) (Or.inr rfl)) (fun _ _ _ _=>iS) (fun _ _ _ _=>AL (xT (aY (qv 21)) (aY (qv 3))) (Sk rfl B.vW (ao (kg (aY (qv 21)) bc) (ao (aY (qv 3)) aj bC) jZ)) (aY (qv 21)))) aj ly)))
  (aL (du (pA (oN (jl hr (aO XD hr (by decide) (ao (aY (qv 2)) (aq 4 rfl rfl aj) bC)) (aY (qv 3))) (qe (jl hr (aO XE hr (by decide) (ao (aY (qv 2)) (ao (aY (qv 2)) (ao (aO Dr hr (by decide) (ao (aY (qv 2)) aj bC)) (aq 4 rfl rfl aj) cI) bC) bC)) (aI 4 rfl rfl))))) (aC (aZ dM)) dt)
  (aL (Sf (i:=5) (j:=6) rfl iF.nd rfl rfl (by decide) (ao (kg bc (aO yY hr (by decide) (aq 0 rfl rfl (bR (bR aj))))) (ao (kg bc (aO yY hr (by decide) (aq 0 rfl rfl (bR (ao (mP (aI 1 rfl rfl) bc) aj jZ))))) aj jZ) jZ))
  (aL (bW (i:=7) iF.nd rfl (Or.inl rfl) (lr B.aS Qp (ao (iT (k:=1) (N':=IB) false rfl ⟨rfl,by decide +kernel,rfl,rfl,rfl⟩ (fy B.ax (ao (mP (aI 5 rfl rfl) bc) aj jZ)) (fun _ _ _ _=>bM (i:=21) (show 21<=21 by decide) Xz rfl (Or.inl rfl) (Or.inr rfl)) (fun _ _ _ _=>iS) (fun _ _ _ _=>bN (ao (aY (qv 21)) (ao (kg (aY (qv 21)) bc) (ao (aO Dr hr (by decide) (ao (aY (qv 2)) aj bC)) aj cI) jZ) bC))) aj ly)))
  (aL (bW (i:=8) iF.nd rfl (Or.inl rfl) (bN (aq 5 rfl rfl (aq 7 rfl rfl (ao (bN (ao (bN (bR (aq 6 rfl rfl aj))) aj gu)) aj gu)))))
  (aL (bW (i:=9) iF.nd rfl (Or.inl rfl) (bN (ao (bN (ao oK (bR aj) qj)) (ao (Pm rfl B.i8 Z8 B.ax (ao (mP (aI 5 rfl rfl) bc) aj jZ)) aj cI) gu)))
  (aL (du (jl hr (aO XF hr (by decide) (ao (aY (qv 2)) (aq 8 rfl rfl (ao (mP (aI 5 rfl rfl) bc) (aq 6 rfl rfl aj) jZ)) bC)) (aI 9 rfl rfl)) (aC (aZ dM)) dt)
  (aL (du (jl hr (aO XG hr (by decide) (ao (aY (qv 2)) (aq 8 rfl rfl (ao (bj (ql 9 rfl rfl) bc) (ao (bj (ql 9 rfl rfl) bc) aj e_) e_)) bC)) (bN (ao (mP (aI 5 rfl rfl) bc) (aq 6 rfl rfl aj) jZ))) (aC (aZ dM)) dt)
  (aL (du (pA (oN (jl hr (aO Dh hr (by decide) (ao (aY (qv 2)) (aq 8 rfl rfl aj) bC)) (Bl (bN (aq 6 rfl rfl aj)) (aI 5 rfl rfl))) (qe (Rg (aO ID hr (by decide) (ao (aY (qv 2)) (aq 8 rfl rfl (ao (aO sD hr (by decide) (ao (aY (qv 2)) (aq 8 rfl rfl aj) bC)) (ao (nQ aj) aj FC) cI)) bC)) dM)))) (aC (aZ dM)) dt)
  (aL (bW (i:=10) iF.nd rfl (Or.inl rfl) (yi (nQ (ao (bN (ao oK (bR aj) qj)) aj gu)) (iT (k:=1) (N':=Dq) false rfl ⟨rfl,by decide +kernel,rfl,rfl,rfl⟩ (fy B.ax (ao (mP (aI 5 rfl rfl) bc) aj jZ)) (fun _ _ _ _=>bM (i:=21) (show 21<=21 by decide) IC rfl (Or.inl rfl) (Or.inr rfl)) (fun _ _ _ _=>iS) (fun _ _ _ _=>bN (ao oK (ao (aY (qv 21)) aj bC) qj)))))
  (aL (fV Qq rfl (fy B.ax (aq 5 rfl rfl aj)) (bM (i:=11) (show 0<=11 by decide) iF.nd rfl (Or.inl rfl)) (aL (bW (i:=12) iF.nd rfl (Or.inl rfl) (vc (Bl (bN (aq 6 rfl rfl aj)) (kg (aI 11 rfl rfl) bc)) (TC (bN (bR aj)) (mP (mP (aI 5 rfl rfl) (aI 11 rfl rfl)) bc))))
  (aC (du (jl hr (aO ID hr (by decide) (ao (aY (qv 2)) (aq 8 rfl rfl (aq 12 rfl rfl (ao (RW (aI 10 rfl rfl) Bi (Bj (kg (aI 11 rfl rfl) bc))) aj e_))) bC)) (uZ hr (aI 11 rfl rfl) (mP (aI 5 rfl rfl) bc))) (aC (aZ dM)) dt))))
  (aL (bW (i:=13) iF.nd rfl (Or.inl rfl) (Tv c4 hr (by decide) (ao (aY (qv 2)) (aq 5 rfl rfl aj) bC)))
  (aL (fV Qq rfl (iz (RT (aI 7 rfl rfl))) (rT (n:=3) rfl (jy (bM (i:=14) (show 0<=14 by decide) iF.nd rfl (Or.inl rfl)) (jy (bM (i:=15) (show 0<=15 by decide) iF.nd rfl (Or.inl rfl)) (jy (bM (i:=16) (show 0<=16 by decide) iF.nd rfl (Or.inl rfl)) rS))) Bk) (aC (jV (GC c6 hr (by decide) (ql 13 rfl rfl) (aq 14 rfl rfl (aq 15 rfl rfl (aq 16 rfl rfl aj)))))))
  (aL (jV (GC c5 hr (by decide) (ql 13 rfl rfl) (bR (aq 6 rfl rfl aj))))
  (aL (du (jl hr (Ce c7 hr (by decide) (ql 13 rfl rfl)) (Bl (bN (aq 6 rfl rfl aj)) (aI 5 rfl rfl))) (aC (aZ dM)) dt)
  (aL (bW (i:=17) iF.nd rfl (Or.inl rfl) (bN (ao (bN (bR (ao (bN (ao (bN (bR (bR (bR aj)))) aj gu)) aj gu))) (ao (bN (bR (ao (bN (ao (bN (bR (bR (bR aj)))) aj gu)) aj gu))) (ao (bN (bR (ao (bN (ao (bN (bR (bR (bR aj)))) aj gu)) aj gu))) (ao (bN (bR (ao (bN aj) aj gu))) aj gu) gu) gu) gu)))
  (aL (fV Qq rfl (iz (bN (bR (bR aj)))) (bM (i:=18) (show 0<=18 by decide) iF.nd rfl (Or.inr rfl)) (aL (xZ (i:=19) (k:=1) (N':=Dq) false iF.nd rfl (Or.inl rfl) rfl rfl ⟨rfl,by decide +kernel,rfl,rfl,rfl⟩ (fy B.ax (bR aj)) (fun _ _ _ _=>bM (i:=21) (show 21<=21 by decide) IC rfl (Or.inl rfl) (Or.inr rfl)) (fun _ _ _ _=>iS) (fun _ _ _ _=>AL (xT (kg (aY (qv 21)) (aY (qv 18))) bc) (aO Dd hr (by decide) (ao (aY (qv 2)) (bR aj) bC)) (aO Dr hr (by decide) (ao (aY (qv 2)) aj bC))))
  (aC (du (jl hr (aO XH hr (by decide) (ao (aY (qv 2)) (aq 17 rfl rfl (ao (aY (qv 18)) aj bC)) bC)) (lr B.aS Qp (aq 19 rfl rfl aj))) (aC (aZ dM)) dt))))
  (aL (bW (i:=20) iF.nd rfl (Or.inl rfl) (bN (ao (bN (bR (bR (bR (bR (bR aj)))))) (ao (bN (bR (bR (bR (bR (bR aj)))))) (ao (bN (bR (bR (bR (bR (bR aj)))))) (ao (bN (bR (bR (bR (bR (bR aj)))))) (ao (bN (bR (bR (bR (bR (bR aj)))))) aj gu) gu) gu) gu) gu)))
  (aC (aZ (qh (Bg (aO XI hr (by decide) (aq 20 rfl rfl aj)) dM) (qh (Bg (aO IE hr (by decide) (aq 20 rfl rfl aj)) dM) (rR (Bg (aO IE hr (by decide) (ao (aY (qv 2)) aj bC)) dM)))))))))))))))))))))))))
end
abbrev n9 (ns:List Int):D:=.lst (ns.map D.int)
abbrev n0 (l:List Int):OD:=some (n9 l,0)
def yZ (ns:List Int)(k:Int):Int:=if k<ns.length then ns.getD k.toNat 0 else if ns=[]then 0 else ns.getD (k % ns.length).toNat 0*31+k
theorem IF{ns:List Int}{k:Int}(h0:0<=k)(h:k<ns.length):L2.eR (ns.map D.int) k=some (.int (ns.getD k.toNat 0)):=by
 obtain⟨m,rfl⟩:∃ m:Nat,k=Int.ofNat m:=⟨k.toNat,by show k=(k.toNat:Int);omega⟩
 have hk:m<ns.length:=by have:(m:Int)<ns.length:=h;omega
 apply vN
 rw[Qu,Qv hk]
 simp[hk]
theorem XJ(ns:List Int):Sh 1 (n9 ns):=.lst fun d m=>by
 obtain⟨x,_,rfl⟩:=QT.mp m
 exact .int _
theorem IG(ns:List Int):h_ (n9 ns) (.lst [])=some (.bl (decide (ns=[]))):=by
 unfold h_
 rw[Qe ⟨(XJ ns).ok,(TZ []).ok⟩]
 cases ns<;>rfl
theorem XM(ns:List Int)(k:Int)(h0:0<=k):wa [n9 ns,.int k]=some (.int (yZ ns k),9):=by
 unfold wa Hz yZ
 by_cases h:k<ns.length
 ·simp[h,IF h0 h,gp,dO]
 ·by_cases hn:ns=[]
  ·subst hn
   have h':¬ k<0:=by omega
   simp[h',gp,IG]
  ·have hp:(0:Int)<ns.length:=by have:=Jp.mpr hn;omega
   have h1:=YU k (Int.ne_of_gt hp)
   have h2:=Yn k hp
   have h3:=IF h1 h2
   have rE:=Jp.mpr hn
   simp[h,gp,dO,IG,hn,rE,h3]
def qL (ns:List Int)(k:Int):Int:=(yZ ns k+6151*(k+1))*40692 % 2147483399
def y1 (ns:List Int)(k m:Int):Int:=(qL ns k*qL ns k+qL ns k / 31) % 2147483629 % m
theorem XN(ns:List Int)(k m:Int)(h0:0<=k)(hm:0<m):nA [n9 ns,.int k,.int m]=some (.int (y1 ns k m),9):=by
 have d0:0<=qL ns k:=YU _ (by decide)
 have d1:qL ns k<2147483399:=Yn _ (by decide)
 have g1:-18446744073709551616<qL ns k:=by omega
 have g2:qL ns k<18446744073709551616:=by omega
 have hd:(yZ ns k+6151*(k+1))*40692 % 2147483399=qL ns k:=rfl
 unfold nA HA y1
 simp[XM ns k h0,hm,hd,g1,g2]
theorem XQ(ns:List Int)(k:Int){m:Int}(hm:0<m):0<=y1 ns k m:=YU _ (Int.ne_of_gt hm)
theorem XR(ns:List Int)(k:Int){m:Int}(hm:0<m):y1 ns k m<m:=Yn _ hm
def tf (rows:List (List Nat))(i j:Nat):Nat:=(rows.getD i []).getD j 0
def ch (n:Nat):List (List Nat):=(List.range n).map fun i=>(List.range n).map fun j=>max i j
def sb (n:Nat):List (List Nat):=(List.range (n+2)).map fun i=>(List.range (n+2)).map fun j=>if i=0\/j=0\/i=j then max i j else n+1
section
variable (ns:List Int)(t:Int)(n:Nat)(B:Nat->Nat->Nat)(q:Nat)
section
variable {n B}{π ι:Nat->Nat}(cl:∀ i j,i<n->j<n->B i j<n)(h1:∀ i,i<n->π i<n)(h2:∀ i,i<n->ι i<n)(h3:∀ i,i<n->ι (π i)=i)(h4:∀ i,i<n->π (ι i)=i)
include cl h1 h2 h3 h4
omit cl h1 h2 h3 h4
theorem y2(h:i<(dZ n).length):(dZ n)[i]=(iD i):=by simp[dZ]
include cl h1 h2 h3 h4
end
end
theorem Ds(hn:n<=1000)(h:ρ[i]? = some (some (d,q)))(hl:gp d=some n):ck (aa (dE i) ag) ρ=some (dZ n,ρ):=by
 have b1:(-1000:Int)<=Int.ofNat n:=by show(-1000:Int)<=n;omega
 have b2:Int.ofNat n<=1000:=by show(n:Int)<=1000;omega
 simp only[ck,aa,dE,ag,h,hl]
 rw[Qe ⟨b1,b2⟩]
 rfl
section
variable {n:Nat}{f:Nat->Nat->Nat}
theorem y3{x w:Nat}(hx:x<n)(hw:w<n):jI [bK n f,(iD x),(iD w)]=(b9 (decide (f x w=w))):=by
 unfold jI Hb
 simp[-Int.ofNat_eq_natCast,pC hx,nk hw,GW]
theorem BF(hn:n<=1000){w:Nat}(hw:w<n):nz [bK n f,(iD w)]=(uL ((List.range n).filter fun x=>decide (f x w=w))):=by
 unfold nz Hd
 refine i5 (lH (qA (deep:=false) (ρ2:=[(t9 n f),(i9 w)]) (Ds hn rfl su) ?_))
 refine vP (i:=2) (ρ:=[(t9 n f),(i9 w)]) (deep:=false) rfl (fun x=>decide (f x w=w)) (fun x=>(iD x)) (fun _=>9) (fun j hj=>?_) (fun j hj _=>?_)
 ·simp[-Int.ofNat_eq_natCast,y3 hj hw]
 ·simp[-Int.ofNat_eq_natCast]
end
section
variable {n:Nat}{f:Nat->Nat->Nat}
variable (L:bL n f){z:Nat}(hz:z<n)(bz:∀ j,j<n->f z j=j)
include L hz bz
theorem XS{w:Nat}(hw:w<n):decide ((List.range n).map (fun j=>f w j)=List.range n)=decide (w=z):=by
 rw[YI,T5]
 exact⟨fun h=>L.nq hz bz hw h,fun h=>by subst h;exact bz⟩
include L hz bz
theorem IH(hn:n<=1000):jH [bK n f]=(i9 z):=by
 have b1:(-1000:Int)<=Int.ofNat n:=by show(-1000:Int)<=n;omega
 have b2:Int.ofNat n<=1000:=by show(n:Int)<=1000;omega
 have hr:qE [(iD n)]=(v9 (List.range n)):=by
  unfold qE G6
  simp[-Int.ofNat_eq_natCast,b1,b2]
  rfl
 have hi:yb (.tup (aD (List.range n))) ((List.range n).map fun i=>ma n f i)=some z:=by
  unfold yb
  rw[GO,ZV]
  have ev:∀ i,i<n->PyData.eqv (dC (ma n f i)) (dC (.tup (aD (List.range n))))=decide (i=z):=fun i hi=>(GS _ _).trans (XS L hz bz hi)
  refine GX (x:=dC (ma n f z)) ?_ ?_ ?_
  ·rw[Qu,ZE hz];rfl
  ·rw[ev z hz];simp
  ·intro i y hi hy
   have eS:i<n:=JI hi hz
   rw[Qu,ZE eS]at hy
   cases hy
   refine(ev i eS).trans ?_
   simp;omega
 have h1:fB (.tup ((List.range n).map fun i=>ma n f i))=true:=(T1 n f).ok
 have h2:fB (.tup (aD (List.range n)))=true:=(sv _).ok
 have hl:gp (.tup ((List.range n).map fun i=>ma n f i))=some n:=su (f:=f)
 unfold jH G8 bK
 simp[-Int.ofNat_eq_natCast,hr,hl,h1,h2,hi]
theorem XT(hn:n<=1000){l:List Nat}(hl:l.length<=1000)(hm:∀ x∈l,x<n):qF [bK n f,.lst (aD l)]=(i9 (l.foldl f z)):=by
 unfold qF G_
 refine i5 ?_
 refine(bO (ρ1:=[(t9 n f),some (.lst (aD l),0),(i9 z),none]) ?_).trans ?_
 ·simp[-Int.ofNat_eq_natCast,IH L hz bz hn]
 obtain⟨ρ',e,y,rfl⟩:=yH (pt:=aQ 3) (body:=bD 2 (eT (aW 0 (ab 2)) (ab 3))) (aD l) (fun i ρ=>∃ y,ρ=[(t9 n f),some (.lst (aD l),0),(i9 ((l.take i).foldl f z)),y]) [(t9 n f),some (.lst (aD l),0),(i9 z),none] (fun i hi ρ ak=>by
  obtain⟨y,hy⟩:=ak
  subst hy
  have eS:i<l.length:=by rw[iB]at hi;exact hi
  have hg:(aD l)[i]=.int (Int.ofNat l[i]):=by simp[aD]
  have hx:l[i]<n:=hm _ (Zu eS)
  have ha:(l.take i).foldl f z<n:=L.fold_lt hz fun x m=>hm x (List.mem_of_mem_take m)
  refine⟨[(t9 n f),some (.lst (aD l),0),(i9 ((l.take i).foldl f z)),some (.int (Int.ofNat l[i]),9)],[(t9 n f),some (.lst (aD l),0),(i9 ((l.take (i+1)).foldl f z)),some (.int (Int.ofNat l[i]),9)],?_,.inl ?_,⟨_,rfl⟩⟩
  ·rw[hg];simp
  ·rw[JQ eS,Yu]
   simp[-Int.ofNat_eq_natCast,pC ha,nk hx]) ⟨none,rfl⟩
 rw[iB,JW]at e
 refine(bO ((j5 (ds:=aD l) (ρ1:=[(t9 n f),some (.lst (aD l),0),(i9 z),none]) ?_).trans e)).trans ?_
 ·simp[iB,hl]
 ·simp[-Int.ofNat_eq_natCast]
end
section
variable {n:Nat}{f:Nat->Nat->Nat}
def pF (n:Nat)(f:Nat->Nat->Nat)(r:Nat->Nat):Bool:=(List.range n).all fun y=>(bL.low n f y).all fun x=>decide (f (r x) (r y)=r y)
theorem Dt:pF n f r=true ↔ ∀ y x,y<n->x<n->f x y=y->f (r x) (r y)=r y:=by
 unfold pF
 rw[L3.range_all]
 simp only[Zt,bL.kU,Zz]
 exact⟨fun h y x hy hx e=>h y hy x ⟨hx,e⟩,fun h y hy x e=>h y x hy e.1 e.2⟩
theorem XU(hn:n<=1000)(hr:∀ i,i<n->r i<n):wo [bK n f,dH n r]=(b9 (pF n f r)):=by
 unfold wo HP
 refine i5 ?_
 have hs:jW 4 [bK n f,dH n r]=[(t9 n f),(r9 n r),none,none]:=rfl
 rw[hs]
 obtain⟨h1,h2⟩:=tV (pt:=aQ 2) (body:=dF (d_ (aB nz 2 (aa (ab 0) (aa (ab 2) ag)))) (aQ 3) (cy (eU (dP (aB jI 3 (aa (ab 0) (aa (aW 1 (ab 3)) (aa (aW 1 (ab 2)) ag)))))) (aV (eC (.bl false))) cM)) (d:=.bl false) (q:=9) (dZ n) (fun ρ=>∃ x y,ρ=[(t9 n f),(r9 n r),x,y]) (fun y=>(bL.low n f y).all fun x=>decide (f (r x) (r y)=r y)) [(t9 n f),(r9 n r),none,none] (fun y hy ρ ⟨a,b,e⟩=>by
  subst e
  have mi:y<n:=by rw[jw]at hy;exact hy
  refine⟨[(t9 n f),(r9 n r),(i9 y),b],by rw[show(dZ n)[y]=(iD y)by simp[dZ]];simp,?_⟩
  have hl:(aD (bL.low n f y)).length<=1000:=by
   rw[iB]
   have:=ZN (fun x=>decide (f x y=y)) (List.range n)
   rw[Jd]at this
   exact QC this hn
  have hi:d_ (aB nz 2 (aa (ab 0) (aa (ab 2) ag))) [(t9 n f),(r9 n r),(i9 y),b]=some (aD (bL.low n f y),[(t9 n f),(r9 n r),(i9 y),b]):=by
   have hb:nz [bK n f,(iD y)]=(uL (bL.low n f y)):=BF hn mi
   simp[-Int.ofNat_eq_natCast,hb,hl]
  obtain⟨i1,i2⟩:=tV (pt:=aQ 3) (body:=cy (eU (dP (aB jI 3 (aa (ab 0) (aa (aW 1 (ab 3)) (aa (aW 1 (ab 2)) ag)))))) (aV (eC (.bl false))) cM) (d:=.bl false) (q:=9) (aD (bL.low n f y)) (fun ρ=>∃ b,ρ=[(t9 n f),(r9 n r),(i9 y),b]) (fun i=>decide (f (r ((bL.low n f y).getD i 0)) (r y)=r y)) [(t9 n f),(r9 n r),(i9 y),b] (fun i eS ρ ⟨b,e⟩=>by
   subst e
   have hm:=vQ (l:=bL.low n f y) (i:=i) (by rw[iB]at eS;exact eS)
   have hx:=(bL.kU.mp hm).1
   rw[Ct eS]
   refine⟨[(t9 n f),(r9 n r),(i9 y),(i9 ((bL.low n f y).getD i 0))],by simp,fun ok=>⟨[(t9 n f),(r9 n r),(i9 y),(i9 ((bL.low n f y).getD i 0))],?_,⟨_,rfl⟩⟩,fun no=>?_⟩
   ·have Du:=JO ok
    simp[-Int.ofNat_eq_natCast,-List.getD_eq_getElem?_getD,vR hx,vR mi,y3 (f:=f) (hr _ hx) (hr _ mi),Du]
   ·have Dv:=of_decide_eq_false no
    simp[-Int.ofNat_eq_natCast,-List.getD_eq_getElem?_getD,vR hx,vR mi,y3 (f:=f) (hr _ hx) (hr _ mi),Dv]) ⟨b,rfl⟩
  rw[iB,GZ (fun x=>decide (f (r x) (r y)=r y))]at i1 i2
  refine⟨fun ok=>?_,fun no=>(j5 hi).trans (i2 no)⟩
  obtain⟨ρ2,e,b',rfl⟩:=i1 ok
  exact⟨_,(j5 hi).trans e,_,_,rfl⟩) ⟨none,none,rfl⟩
 rw[jw]at h1 h2
 cases h:pF n f r with
 | true=>
  obtain⟨ρ',e,x,y,rfl⟩:=h1 h
  exact(bO ((j5 (Ds hn rfl su)).trans e)).trans rfl
 | false=>exact yI ((j5 (Ds hn rfl su)).trans (h2 h))
end
def iG (n:Nat):D->Bool
 | .int i=>decide (0<=i)&&decide (i<(n:Int))
 | _=>false
def fI (m n:Nat):D->Bool
 | .tup ds=>decide (ds.length=m)&&ds.all (iG n)
 | _=>false
theorem n_(d:D):sE [d]=(b9 (match d with|.int _=>true|_=>false)):=by
 unfold sE Hm
 cases d<;>simp[gH]
theorem Dw(n:Nat)(d:D):n6 [d,(iD n)]=(b9 (iG n d)):=by
 unfold n6 Hn
 cases d with
 | int i=>
  have h:=n_ (.int i)
  by_cases h0:0<=i
  ·by_cases h1:i<(n:Int)
   ·simp[h,iG,h0,h1]
   ·simp[h,iG,h0,h1]
  ·simp[h,iG,h0]
 | aX=>simp[n_,iG]
 | bl b=>simp[n_,iG]
 | str x=>simp[n_,iG]
 | tup ds=>simp[n_,iG]
 | lst ds=>simp[n_,iG]
 | gC ks ds=>simp[n_,iG]
 | exc nm=>simp[n_,iG]
 | ob f fo vs ds=>simp[n_,iG]
 | mp k ds=>simp[n_,iG]
theorem XW(m n:Nat)(d:D)(hl:∀ ds,d=.tup ds->ds.length<=1000):lI [d,(iD m),(iD n)]=(b9 (fI m n d)):=by
 unfold lI CU
 cases d with
 | tup ds=>
  have hl:=hl ds rfl
  refine i5 ?_
  have hs:jW 3 [.tup ds,(iD m),(iD n)]=[some (.tup ds,9),(i9 m),(i9 n)]:=rfl
  rw[hs]
  by_cases hm:ds.length=m
  ·refine(bO (ρ1:=[some (.tup ds,9),(i9 m),(i9 n)]) ?_).trans ?_
   ·simp[-Int.ofNat_eq_natCast,gH,gp,hm,vO]
   ·have hi:d_ (ab 0) [some (.tup ds,9),(i9 m),(i9 n)]=some (ds,[some (.tup ds,9),(i9 m),(i9 n)]):=by simp[hl]
    have hc:=tU (k:=1) (pt:=aQ 3) (tt:=dB) (te:=aB n6 2 (aa (ab 3) (aa (ab 2) ag))) (deep:=false) ds (fun _=>[some (.tup ds,9),(i9 m),(i9 n)]) (fun _=>true) (fun i=>.bl (iG n (ds.getD i .aX))) (fun i hi=>by
     have hg:ds.getD i .aX=ds[i]:=by simp[hi]
     refine⟨[some (.tup ds,9),(i9 m),(i9 n),some (ds[i],cj ds[i])],[some (.tup ds,9),(i9 m),(i9 n),some (ds[i],cj ds[i])],by simp[-cj],rfl,?_⟩
     rw[Qe rfl]
     refine⟨9,[some (.tup ds,9),(i9 m),(i9 n),some (ds[i],cj ds[i])],?_,by simp,by simp⟩
     have hv:∃ q,ab 3 [some (.tup ds,9),(i9 m),(i9 n),some (ds[i],cj ds[i])]=some (ds[i],q,[some (.tup ds,9),(i9 m),(i9 n),some (ds[i],cj ds[i])]):=by
      cases hL:(ds[i]).cw with
      | false=>exact⟨9,by simp[-cj,hL]⟩
      | true=>exact⟨0,by simp[hL]⟩
     obtain⟨q,hv⟩:=hv
     rw[hg]
     exact cS (c_ hv (dG (q:=9) rfl)) rfl (Dw n _))
    rw[show(List.range ds.length).filter (fun _=>true)=List.range ds.length by simp]at hc
    have e:(List.range ds.length).map (fun i=>D.bl (iG n (ds.getD i .aX)))=ds.map fun d=>.bl (iG n d):=by
     apply Q7
     intro k
     by_cases hk:k<ds.length
     ·simp[hk]
     ·rw[Qx (by simp;omega),Qx (by simp;omega)]
    rw[e]at hc
    refine lH (Cu (dG (qA (deep:=false) hi hc)) ?_)
    simp only[mW,FG,ZB,fI,hm]
    simp[YQ,Yv]
  ·have e:fI m n (.tup ds)=false:=by simp[fI,hm]
   rw[e]
   refine yI ?_
   simp[-Int.ofNat_eq_natCast,gH,gp,vO,hm]
 | aX=>simp[gH,fI]
 | bl b=>simp[gH,fI]
 | int i=>simp[gH,fI]
 | str x=>simp[gH,fI]
 | lst ds=>simp[gH,fI]
 | gC ks ds=>simp[gH,fI]
 | exc nm=>simp[gH,fI]
 | ob f fo vs ds=>simp[gH,fI]
 | mp k ds=>simp[gH,fI]
theorem XX(m n:Nat)(hm:m<=1000)(d:D):lI [d,(iD m),(iD n)]=(b9 (fI m n d)):=by
 by_cases h:∀ ds,d=.tup ds->ds.length<=1000
 ·exact XW m n d h
 ·cases d with
  | tup ds=>
   have cR:ds.length≠m:=fun e=>h fun ba e'=>by cases e';omega
   have e:fI m n (.tup ds)=false:=by simp[fI,cR]
   unfold lI CU
   refine i5 ?_
   rw[e]
   refine yI ?_
   simp[-Int.ofNat_eq_natCast,gH,gp,vO,cR]
  | _=>exact absurd (fun ds e=>nomatch e) h
theorem XY(hr:∀ i,i<n->r i<n):fI n n (dH n r)=true:=by
 unfold fI dH
 simp only[iB,QA,Jd,decide_true,JY]
 rw[Zt]
 intro d m
 obtain⟨x,hx,rfl⟩:=QT.mp m
 obtain⟨i,hi,rfl⟩:=QT.mp hx
 have:=hr i (QV.mp hi)
 show(decide ((0:Int)<=(r i:Int))&&decide ((r i:Int)<(n:Int)))=true
 simp;omega
theorem XZ(hn:n<=1000)(d:D):wm [bK n f,d]=(b9 (fI n n d)):=by
 unfold wm HN
 have hv:∃ q ρ',ab 1 [(t9 n f),some (d,cj d)]=some (d,q,ρ')/\ρ'[0]? = some ((t9 n f)):=by
  cases hL:d.cw with
  | false=>exact⟨9,[(t9 n f),some (d,cj d)],by simp[-cj,hL],rfl⟩
  | true=>exact⟨0,[(t9 n f),some (d,0)],by simp[hL],rfl⟩
 obtain⟨q,ρ',hv,h0⟩:=hv
 have II:dE 0 ρ'=some ((iD n),9,ρ'):=by unfold dE;simp only[h0,su]
 exact i5 (lH (cS (c_ (ρ:=[(t9 n f),some (d,cj d)]) hv (c_ II (dG II))) rfl (XX n n hn d)))
theorem X0(h:ρ[i]? = some (some (d,cj d))):ab i ρ=some (d,cj d,ρ):=by
 unfold ab
 rw[h]
 cases hL:d.cw with
 | false=>simp[hL]
 | true=>simp[hL]
theorem X1(ds:List D)(hi:ρ.length=i)(v:D->D)(q:D->Nat)
  (he:∀ d,d∈ds->te (ρ++[some (d,cj d)])=some (v d,q d,ρ++[some (d,cj d)])) :
  l3 1 (aQ i) dB te false ds ρ=some (ds.map v,ρ):=by
 have h:=tU (k:=1) (pt:=aQ i) (tt:=dB) (te:=te) (deep:=false) ds (fun _=>ρ) (fun _=>true) (fun j=>v (ds.getD j .aX)) (fun j hj=>?_)
 ·rw[show(List.range ds.length).filter (fun _=>true)=List.range ds.length by simp]at h
  rw[h]
  have e:(List.range ds.length).map (fun j=>v (ds.getD j .aX))=ds.map v:=by
   apply Q7
   intro k
   by_cases hk:k<ds.length
   ·simp[hk]
   ·rw[Qx (by simp;omega),Qx (by simp;omega)]
  rw[e]
 ·have hg:ds.getD j .aX=ds[j]:=by simp[hj]
  refine⟨ρ++[some (ds[j],cj ds[j])],_,?_,rfl,?_⟩
  ·unfold aQ
   rw[Qe (by simp[hi])]
   subst hi
   simp[-cj,J6]
  ·rw[Qe rfl,hg]
   exact⟨q _,_,he _ (Zu hj),by simp,by simp⟩
theorem X2{it:ko}(hi:ρ.length=i)(hit:it ρ=some (ds,ρ))(b:D->Bool)(q:D->Nat)
  (he:∀ d,d∈ds->te (ρ++[some (d,cj d)])=some (.bl (b d),q d,ρ++[some (d,cj d)])) :
  eB mW (aa (dv 1 it (aQ i) dB te false) ag) ρ=some (.bl (ds.all b),9,ρ):=by
 refine Cu (dG (qA (deep:=false) hit (X1 ds hi (fun d=>.bl (b d)) q he))) ?_
 simp only[mW,FG,ZB]
 simp[YQ,Yv]
def oa (ds:List D)(i:Nat):Nat:=match ds[i]? with
 | some (.int k)=>k.toNat
 | _=>0
theorem IJ(h:fI m n (.tup ds)=true):ds.length=m/\∀ i,i<m->ds[i]? = some (iD (oa ds i))/\oa ds i<n:=by
 unfold fI at h
 simp only[Z2,Zz,Zt]at h
 obtain⟨hl,ha⟩:=h
 refine⟨hl,fun i hi=>?_⟩
 have eS:i<ds.length:=by omega
 have hm:=ha ds[i] (Zu eS)
 have hg:ds[i]? = some ds[i]:=Qv eS
 unfold oa
 rw[hg]
 cases e:ds[i]with
 | int k=>
  rw[e]at hm
  unfold iG at hm
  simp only[Z2,Zz]at hm
  refine⟨?_,?_⟩
  ·show some (D.int k)=some (D.int ((k.toNat:Nat):Int))
   rw[Y0 hm.1]
  ·show k.toNat<n
   omega
 | _=>rw[e]at hm;cases hm
theorem X3(h:fI m n (.tup ds)=true):D.tup ds=dH m (oa ds):=by
 obtain⟨hl,key⟩:=IJ h
 unfold dH
 congr 1
 apply Q7
 intro i
 by_cases hi:i<m
 ·rw[(key i hi).1,Co,Qu,ZE hi]
  rfl
 ·rw[Qx (by omega),Qx (by simp[iB];omega)]
theorem X4(h:fI n n (.tup ds)=true):D.tup ds=dH n (oa ds)/\∀ i,i<n->oa ds i<n:=⟨X3 h,fun i hi=>((IJ h).2 i hi).2⟩
theorem X5(hi:i<n):oa (aD ((List.range n).map r)) i=r i:=by
 unfold oa
 rw[Co,Qu,ZE hi]
 rfl
def rr (n:Nat)(f:Nat->Nat->Nat)(d:D):Bool:=match d with
 | .tup ds=>fI n n (.tup ds)&&pF n f (oa ds)
 | _=>false
theorem X6{s:Nat->Nat}(h:∀ i,i<n->r i=s i):pF n f r=pF n f s:=by
 rw[Bool.eq_iff_iff,Dt,Dt]
 constructor
 ·intro k y x hy hx e
  rw[<- h x hx,<- h y hy];exact k y x hy hx e
 ·intro k y x hy hx e
  rw[h x hx,h y hy];exact k y x hy hx e
theorem X7(hr:∀ i,i<n->r i<n):rr n f (dH n r)=pF n f r:=by
 have h:=XY hr
 show(fI n n (dH n r)&&pF n f (oa (aD ((List.range n).map r))))=_
 rw[h,JY]
 exact X6 fun i hi=>X5 hi
theorem X8(hn:n<=1000)(d:D):wq [bK n f,d]=(b9 (rr n f d)):=by
 have h1:=XZ (n:=n) (f:=f) hn d
 have v1:ab 1 [(t9 n f),some (d,cj d)]=some (d,cj d,[(t9 n f),some (d,cj d)]):=X0 rfl
 have v0:ab 0 [(t9 n f),some (d,cj d)]=some (bK n f,9,[(t9 n f),some (d,cj d)]):=rfl
 have c1:=cS (n:=2) (c_ v0 (dG v1)) rfl h1
 unfold wq HQ
 refine i5 (lH (ρ1:=[(t9 n f),some (d,cj d)]) ?_)
 show kK _ _ [(t9 n f),some (d,cj d)]=_
 unfold kK
 rw[c1]
 cases hR:fI n n d with
 | false=>
  have:rr n f d=false:=by cases d<;>simp_all [rr]
  simp[this]
 | true=>
  cases d with
  | tup ds=>
   obtain⟨e,hb⟩:=X4 hR
   have r:=XU (f:=f) hn hb
   rw[<- e]at r
   have c2:=cS (n:=2) (c_ v0 (dG v1)) rfl r
   simp only[JF,c2]
   simp[rr,hR]
  | _=>cases hR
structure bX where
 p:Nat
 W:List (Nat×Nat×(Nat->Nat))
 B:List (Nat×Nat)
def d7 (n:Nat)(w:Nat×Nat×(Nat->Nat)):D:=.tup [(iD w.1),(iD w.2.1),dH n w.2.2]
def jn (b:Nat×Nat):D:=.tup [(iD b.1),(iD b.2)]
def dS (n:Nat)(C:bX):D:=.tup [(iD C.p),.tup (C.W.map (d7 n)),.tup (C.B.map jn)]
abbrev c9 (n:Nat)(C:bX):OD:=some (dS n C,9)
def Dx (n:Nat)(f:Nat->Nat->Nat)(p:Nat)(w:Nat×Nat×(Nat->Nat)):Prop:=w.1<p/\w.2.1<p/\(∀ i,i<n->w.2.2 i<n)/\∀ x y,x<n->y<n->f x y=y->f (w.2.2 x) (w.2.2 y)=w.2.2 y
def IK (n:Nat)(p:Nat)(b:Nat×Nat):Prop:=b.1<p/\b.2<n
structure bX.Ok (n:Nat) (f:Nat->Nat->Nat) (C:bX):Prop where
 p1:1<=C.p
 p8:C.p<=8
 Dy:C.W.length<=60
 Dz:C.B.length<=60
 ws:∀ w∈C.W,Dx n f C.p w
 bs:∀ b∈C.B,IK n C.p b
@[simp] theorem j3l{C:bX}:(dS n C).cw=false:=rfl
@[simp] theorem j75{w:Nat×Nat×(Nat->Nat)}:(d7 n w).cw=false:=rfl
@[simp] theorem j76:(jn b).cw=false:=rfl
theorem y4(hm:m<=1000){ρ':aU}(h:fe ρ=some ((iD m),q,ρ')):ck (aa fe ag) ρ=some (dZ m,ρ'):=by
 have b1:(-1000:Int)<=Int.ofNat m:=by show(-1000:Int)<=m;omega
 have b2:Int.ofNat m<=1000:=by show(m:Int)<=1000;omega
 simp only[ck,aa,ag,h]
 rw[Qe ⟨b1,b2⟩]
 rfl
def sP (b:Nat×Nat):ky:=(b.1,fun _=>b.2)
def wH (w:Nat×Nat×(Nat->Nat)):ky:=(w.2.1,fun v=>w.2.2 (gv v w.1))
def g7 (C:bX):List ky:=C.B.map sP++C.W.map wH
section
variable {n:Nat}{f:Nat->Nat->Nat}(L:bL n f){C:bX}(hC:C.Ok n f)
include L hC
theorem DA:∀ s∈g7 C,kW n C.p f s:=fun s hs=>by
 unfold g7 at hs
 rcases QR.mp hs with h|h
 ·obtain⟨b,hb,rfl⟩:=QT.mp h
  have k:=hC.bs b hb
  exact⟨k.1,fun _ _=>k.2,fun _ _ _ _ _=>L.idem _ k.2⟩
 ·obtain⟨w,hw,rfl⟩:=QT.mp h
  have k:=hC.ws w hw
  exact⟨k.2.1,fun v hv=>k.2.2.1 _ (hv.gv k.1),fun u v hu hv e=>k.2.2.2 _ _ (hu.gv k.1) (hv.gv k.1) (e _ k.1)⟩
end
abbrev Sn:=Bool×Nat
def aE (s:Sn):D:=.tup [.str (if s.1 then "begin" else "way"),(iD s.2)]
@[simp] theorem j5l{s:Sn}:(aE s).cw=false:=rfl
def okN (C:bX)(s:Sn):Prop:=s.2<(if s.1 then C.B.length else C.W.length)
def bI (C:bX)(s:Sn):ky:=if s.1 then sP (C.B.getD s.2 (0,0))else wH (C.W.getD s.2 (0,0,id))
def pG (C:bX):List Sn:=(List.range C.B.length).map (fun k=>(true,k))++(List.range C.W.length).map (fun k=>(false,k))
theorem DB(C:bX):∀ s∈pG C,okN C s:=fun s hs=>by
 unfold pG at hs
 rcases QR.mp hs with h|h
 ·obtain⟨k,hk,rfl⟩:=QT.mp h
  exact QV.mp hk
 ·obtain⟨k,hk,rfl⟩:=QT.mp h
  exact QV.mp hk
theorem IL{α β:Type}(l:List α)(d:α)(g:α->β):(List.range l.length).map (fun k=>g (l.getD k d))=l.map g:=by
 apply Q7
 intro k
 by_cases hk:k<l.length
 ·simp[hk]
 ·rw[Qx (by simp;omega),Qx (by simp;omega)]
theorem IM(C:bX):(pG C).map (bI C)=g7 C:=by
 unfold pG g7
 rw[ZD,ZV,ZV,<- IL C.B (0,0) sP,<- IL C.W (0,0,id) wH]
 rfl
theorem DC{C:bX}{s:Sn}(h:okN C s):bI C s∈g7 C:=by
 unfold okN at h
 unfold bI g7
 cases hb:s.1 with
 | true=>
  rw[hb]at h
  have h':s.2<C.B.length:=h
  refine QM _ (QT.mpr ⟨C.B.getD s.2 (0,0),?_,rfl⟩)
  rw[Zb,Qv h']
  exact Zu h'
 | false=>
  rw[hb]at h
  have h':s.2<C.W.length:=h
  refine Qk _ (QT.mpr ⟨C.W.getD s.2 (0,0,id),?_,rfl⟩)
  rw[Zb,Qv h']
  exact Zu h'
theorem X9:h_ (.str "begin") (.str "begin")=some (.bl true):=by
 have h:fB (.str "begin")=true:=by decide +kernel
 unfold h_
 rw[Qe ⟨h,h⟩]
 rfl
theorem X_:h_ (.str "way") (.str "begin")=some (.bl false):=by
 have h:fB (.str "begin")=true:=by decide +kernel
 have h':fB (.str "way")=true:=by decide +kernel
 have e:oT (.str "way") (.str "begin")=false:=by decide +kernel
 unfold h_
 rw[Qe ⟨h',h⟩,e]
theorem Y8(hp:p<v.length):L3.j0 (aD v) none (some (Int.ofNat p))=aD (v.take p):=by
 unfold L3.j0
 have e1:HT.bo (aD v).length 0 none=0:=rfl
 have e2:HT.bo (aD v).length (aD v).length (some (Int.ofNat p))=p:=by
  rw[iB]
  have:¬ ((p:Int)<0):=by omega
  simp[HT.bo,this]
  omega
 rw[e1,e2,YZ,YM]
 simp only[aD,List.map_take]
theorem Y9(hp:p<v.length):L3.j0 (aD v) (some (Int.ofNat p+1)) none=aD (v.drop (p+1)):=by
 unfold L3.j0
 have e1:HT.bo (aD v).length 0 (some (Int.ofNat p+1))=p+1:=by
  rw[iB]
  have:¬ ((p:Int)+1<0):=by omega
  simp[HT.bo,this]
  omega
 have e2:HT.bo (aD v).length (aD v).length none=(aD v).length:=rfl
 rw[e1,e2,YN (by rw[Z1];exact Qd _)]
 simp only[aD,List.map_drop]
theorem Y_(hp:p<v.length):aD (v.take p)++[(iD x)]++aD (v.drop (p+1))=aD (v.set p x):=by
 rw[List.set_eq_take_append_cons_drop,Qe hp]
 simp[aD]
def Rz (f:Nat->Nat->Nat)(C:bX):List Nat->List Sn->Prop
 | _,[]=>True
 | v,s::R=>bH f v (bI C s)≠v/\Rz f C (bH f v (bI C s)) R
theorem Rz.snoc{C:bX}{s:Sn}:∀ {R:List Sn} {v:List Nat},Rz f C v R->bH f ((R.map (bI C)).foldl (bH f) v) (bI C s)≠(R.map (bI C)).foldl (bH f) v->Rz f C v (R++[s])
 | [],_,_,h=>⟨h,trivial⟩
 | _::_,_,r,h=>⟨r.1,Rz.snoc r.2 h⟩
section
variable {n:Nat}{f:Nat->Nat->Nat}(L:bL n f){C:bX}(hC:C.Ok n f)
include L hC
theorem yr(hv:Vn n C.p v){s:Sn}(hs:okN C s):vZ [dS n C,.tup (aD v),aE s]=some (.tup [.int (Int.ofNat (bI C s).1),(iD ((bI C s).2 v))],9):=by
 obtain⟨b,k⟩:=s
 unfold okN at hs
 unfold vZ Hq
 have c1:dO (dS n C) 1=some (.tup (C.W.map (d7 n))):=rfl
 have c2:dO (dS n C) 2=some (.tup (C.B.map jn)):=rfl
 cases b with
 | true=>
  have hk:k<C.B.length:=hs
  have s0:dO (aE (true,k)) 0=some (.str "begin"):=rfl
  have s1:dO (aE (true,k)) 1=some (iD k):=rfl
  have e:dO (.tup (C.B.map jn)) (Int.ofNat k)=some (jn (C.B.getD k (0,0))):=vN (by rw[Qu,Qv hk];simp[hk])
  have k8:bI C (true,k)=sP (C.B.getD k (0,0)):=rfl
  rw[k8]
  generalize C.B.getD k (0,0)=b at *
  generalize aE (true,k)=sd at *
  have hb:jn b=.tup [.int (Int.ofNat (sP b).1),(iD ((sP b).2 v))]:=rfl
  rw[<- hb]
  simp[-Int.ofNat_eq_natCast,s0,s1,c2,e,X9]
 | false=>
  have hk:k<C.W.length:=hs
  have s0:dO (aE (false,k)) 0=some (.str "way"):=rfl
  have s1:dO (aE (false,k)) 1=some (iD k):=rfl
  have e:dO (.tup (C.W.map (d7 n))) (Int.ofNat k)=some (d7 n (C.W.getD k (0,0,id))):=vN (by rw[Qu,Qv hk];simp[hk])
  have k8:bI C (false,k)=wH (C.W.getD k (0,0,id)):=rfl
  have hw:C.W.getD k (0,0,id)∈C.W:=by
   rw[Zb,Qv hk]
   exact Zu hk
  have ok:=hC.ws _ hw
  rw[k8]
  generalize C.W.getD k (0,0,id)=w at *
  have w0:dO (d7 n w) 0=some (iD w.1):=rfl
  have w1:dO (d7 n w) 1=some (iD w.2.1):=rfl
  have w2:dO (d7 n w) 2=some (dH n w.2.2):=rfl
  have a0:=G3 (v:=v) (i:=w.1) (by rw[hv.len];exact ok.1)
  have a1:=vR (r:=w.2.2) (hv.gv ok.1)
  have Z_:aE (false,k)=aE (false,k):=rfl
  generalize hsd:aE (false,k)=sd at *
  have hL:sd.cw=false:=by rw[<- hsd];rfl
  show _=some (D.tup [(iD w.2.1),(iD (w.2.2 (gv v w.1)))],9)
  generalize hwt:d7 n w=wt at *
  have hL2:wt.cw=false:=by rw[<- hwt];rfl
  simp[-Int.ofNat_eq_natCast,s0,s1,c1,e,X_,w0,w1,w2,a0,a1,hL,hL2]
theorem z5b(hv:Vn n C.p v){s:Sn}(hs:okN C s):sF [bK n f,dS n C,.tup (aD v),aE s]=(v9 (bH f v (bI C s))):=by
 have ok:=DA L hC _ (DC hs)
 have hp:=yr L hC hv hs
 have hx:=ok.lt v hv
 have hg:=hv.gv ok.pl
 have bT:(bI C s).1<v.length:=by rw[hv.len];exact ok.pl
 have DD:=hC.p8
 have hl:=hv.len
 unfold bH
 generalize (bI C s).1=g at *
 generalize (bI C s).2 v=x at *
 have a0:=G3 bT
 have a1:=pC (f:=f) hg
 have a2:=nk (f:=f) (i:=gv v g) hx
 have s1:=Y8 bT
 have s2:=Y9 bT
 have s3:=Y_ (x:=f (gv v g) x) bT
 have l1:(aD (v.take g)).length=g:=by rw[iB,Zc];omega
 have l2:(aD (v.drop (g+1))).length=v.length-(g+1):=by rw[iB,Z1]
 unfold sF Hs
 refine i5 ?_
 show aG _ _ [(t9 n f),(c9 n C),(v9 v),some (aE s,9),none,none,none]=_
 refine(bO (ρ1:=[(t9 n f),(c9 n C),(v9 v),some (aE s,9),some (.tup [(iD g),(iD x)],9),none,none]) (by simp[-Int.ofNat_eq_natCast,hp])).trans ?_
 have t0:dO (.tup [(iD g),(iD x)]) 0=some (iD g):=rfl
 have t1:dO (.tup [(iD g),(iD x)]) 1=some (iD x):=rfl
 refine(bO (ρ1:=[(t9 n f),(c9 n C),(v9 v),some (aE s,9),some (.tup [(iD g),(iD x)],9),(i9 g),none]) (by simp[-Int.ofNat_eq_natCast,t0])).trans ?_
 refine(bO (ρ1:=[(t9 n f),(c9 n C),(v9 v),some (aE s,9),some (.tup [(iD g),(iD x)],9),(i9 g),(i9 (f (gv v g) x))]) (by simp[-Int.ofNat_eq_natCast,a0,a1,a2,t1])).trans ?_
 rw[<- s3]
 have m1:(aD (v.take g)).length+1<=1000:=by omega
 have m2:(aD (v.take g)).length+1+(aD (v.drop (g+1))).length<=1000:=by omega
 generalize aD (v.take g)=u1 at *
 generalize aD (v.drop (g+1))=u2 at *
 have m1':u1.length<=999:=by omega
 simp[-Int.ofNat_eq_natCast,s1,s2,m1,m1',m2]
structure i_ (n:Nat) (f:Nat->Nat->Nat) (p:Nat) (l:List ky) (v u:List Nat):Prop where
 V:Vn n p u
 cl:qB f l u
 up:fF f p v u
 le:∀ a,Vn n p a->qB f l a->fF f p v a->fF f p u a
theorem IP(hv:Vn n C.p v){l:List Sn}(hl:∀ s∈l,okN C s)(hlen:l.length<=1000) :
  ∃ (u:List Nat) (R:List Sn),i_ n f C.p (l.map (bI C)) v u/\(∀ s∈R,s∈l)/\(R.map (bI C)).foldl (bH f) v=u/\(bL.mu n f u+R.length<=bL.mu n f v/\Rz f C v R)/\qI [bK n f,dS n C,.lst (l.map aE),.tup (aD v)]=some (.tup [.tup (aD u),.lst (R.map aE)],9):=by
 have DD:=hC.p8
 have hn8:=L.hi
 have hmu:=bL.vS (f:=f) hv
 have hmu':C.p*n<=8*16:=Nat.mul_le_mul DD hn8
 have hS:∀ t∈l.map (bI C),kW n C.p f t:=fun t ht=>by
  obtain⟨s,hs,rfl⟩:=QT.mp ht
  exact DA L hC _ (DC (hl s hs))
 have round:∀ (w:List Nat) (R:List Sn) (a:OD) (j:(OD×OD)),Vn n C.p w->(∀ s∈R,s∈l)->(R.map (bI C)).foldl (bH f) v=w->(bL.mu n f w+R.length<=bL.mu n f v/\Rz f C v R)->
   ∃ (R':List Sn) (j':(OD×OD)),(∀ s∈R',s∈l)/\(R'.map (bI C)).foldl (bH f) v=(l.map (bI C)).foldl (bH f) w/\(bL.mu n f ((l.map (bI C)).foldl (bH f) w)+R'.length<=bL.mu n f v/\Rz f C v R') /\
    iA (aQ 6) v_ (l.map aE) [(t9 n f),(c9 n C),some (.lst (l.map aE),0),(v9 w),some (.lst ((R).map aE),1),a,(j).1,(j).2]=some (.nx [(t9 n f),(c9 n C),some (.lst (l.map aE),0),(v9 ((l.map (bI C)).foldl (bH f) w)),some (.lst ((R').map aE),1),a,(j').1,(j').2]):=fun w R a j hw h1 h2 h3=>by
  obtain⟨j',e,i1,i2,i3,i4⟩:=G1 (J:=(OD×OD)) (pt:=aQ 6) (body:=v_) aE (fun(σ:List Nat×List Sn) j=>[(t9 n f),(c9 n C),some (.lst (l.map aE),0),(v9 σ.1),some (.lst ((σ.2).map aE),1),a,(j).1,(j).2]) (fun σ s=>(bH f σ.1 (bI C s),if bH f σ.1 (bI C s)=σ.1 then σ.2 else σ.2++[s]))
   (fun σ=>Vn n C.p σ.1/\(∀ s∈σ.2,s∈l)/\(σ.2.map (bI C)).foldl (bH f) v=σ.1/\(bL.mu n f σ.1+σ.2.length<=bL.mu n f v/\Rz f C v σ.2)) l (w,R) j ⟨hw,h1,h2,h3⟩ (fun s hs σ j ak=>by
    obtain⟨k1,k2,k3,k4⟩:=ak
    obtain⟨x,Q⟩:=σ
    dsimp only at k1 k2 k3 k4 ⊢
    have ok:=DA L hC _ (DC (hl s hs))
    have hb:=z5b L hC k1 (hl s hs)
    have iu:=L.jD ok k1
    by_cases he:bH f x (bI C s)=x
    ·rw[Qe he]
     refine⟨⟨iu,k2,by rw[he];exact k3,by rw[he];exact k4⟩,[(t9 n f),(c9 n C),some (.lst (l.map aE),0),(v9 x),some (.lst ((Q).map aE),1),a,(((some (aE s,9),j.2):(OD×OD))).1,(((some (aE s,9),j.2):(OD×OD))).2],(some (aE s,9),(v9 (bH f x (bI C s)))),by simp,?_⟩
     unfold v_
     refine(bO (ρ1:=[(t9 n f),(c9 n C),some (.lst (l.map aE),0),(v9 x),some (.lst ((Q).map aE),1),a,(((some (aE s,9),(v9 (bH f x (bI C s)))):(OD×OD))).1,(((some (aE s,9),(v9 (bH f x (bI C s)))):(OD×OD))).2]) (by simp[hb])).trans ?_
     refine(bO (ρ1:=[(t9 n f),(c9 n C),some (.lst (l.map aE),0),(v9 x),some (.lst ((Q).map aE),1),a,(((some (aE s,9),(v9 (bH f x (bI C s)))):(OD×OD))).1,(((some (aE s,9),(v9 (bH f x (bI C s)))):(OD×OD))).2]) (by rw[he];simp[tW])).trans ?_
     simp
    ·rw[Qf he]
     have cY:=L.qD k1 iu (L.kz ok k1) (fun z=>he z.symm)
     refine⟨⟨iu,fun t ht=>?_,?_,⟨by rw[Qh];show _+(Q.length+1)<=_;have:=k4.1;omega,k4.2.snoc (by rw[k3];exact he)⟩⟩,[(t9 n f),(c9 n C),some (.lst (l.map aE),0),(v9 x),some (.lst ((Q).map aE),1),a,(((some (aE s,9),j.2):(OD×OD))).1,(((some (aE s,9),j.2):(OD×OD))).2],(some (aE s,9),(v9 (bH f x (bI C s)))),by simp,?_⟩
     ·rcases QR.mp ht with h|h
      ·exact k2 t h
      ·rw[Qt.mp h];exact hs
     ·rw[ZD,Yu,k3];rfl
     ·unfold v_
      have hQ:Q.length<=1000:=by have:=k4.1;omega
      refine(bO (ρ1:=[(t9 n f),(c9 n C),some (.lst (l.map aE),0),(v9 x),some (.lst ((Q).map aE),1),a,(((some (aE s,9),(v9 (bH f x (bI C s)))):(OD×OD))).1,(((some (aE s,9),(v9 (bH f x (bI C s)))):(OD×OD))).2]) (by simp[hb])).trans ?_
      refine(bO (ρ1:=[(t9 n f),(c9 n C),some (.lst (l.map aE),0),(v9 x),some (.lst (((Q++[s])).map aE),1),a,(((some (aE s,9),(v9 (bH f x (bI C s)))):(OD×OD))).1,(((some (aE s,9),(v9 (bH f x (bI C s)))):(OD×OD))).2]) (by
       generalize bH f x (bI C s)=y at *
       simp[tW,he,hQ])).trans ?_
      simp)
  have ef:∀ (l:List Sn) (σ:List Nat×List Sn),(l.foldl (fun(σ:List Nat×List Sn) s=>(bH f σ.1 (bI C s),if bH f σ.1 (bI C s)=σ.1 then σ.2 else σ.2++[s])) σ).1=(l.map (bI C)).foldl (bH f) σ.1:=by
   intro l
   induction l with
   | nil=>intro σ;rfl
   | cons s l ih=>intro σ;exact ih _
  have IQ:=ef l (w,R)
  generalize l.foldl (fun(σ:List Nat×List Sn) s=>(bH f σ.1 (bI C s),if bH f σ.1 (bI C s)=σ.1 then σ.2 else σ.2++[s])) (w,R)=σ at *
  obtain⟨x,Q⟩:=σ
  dsimp only at IQ i1 i2 i3 i4 e
  have ef2:x=(l.map (bI C)).foldl (bH f) w:=IQ
  subst ef2
  exact⟨Q,j',i2,i3,i4,e⟩
 obtain⟨ρ',e,u,R,j,hu,hR1,hR2,hR3,rfl⟩:=T8 (c:=bJ (e2 cz (ab 3) (ab 5))) (b:=yP)
  (Q:=fun ρ=>∃ (u:List Nat) (R:List Sn),∃ j:(OD×OD),i_ n f C.p (l.map (bI C)) v u/\(∀ s∈R,s∈l)/\(R.map (bI C)).foldl (bH f) v=u/\(bL.mu n f u+R.length<=bL.mu n f v/\Rz f C v R)/\ρ=[(t9 n f),(c9 n C),some (.lst (l.map aE),0),(v9 u),some (.lst ((R).map aE),1),(v9 u),(j).1,(j).2])
  (fun k ρ=>∃ (w:List Nat) (R:List Sn),∃ j:(OD×OD),∃ a:D,Vn n C.p w/\fF f C.p v w/\(∀ x,Vn n C.p x->qB f (l.map (bI C)) x->fF f C.p v x->fF f C.p w x)/\(∀ s∈R,s∈l)/\(R.map (bI C)).foldl (bH f) v=w/\(bL.mu n f w+R.length<=bL.mu n f v/\Rz f C v R) /\
    ((a=.aX/\k=bL.mu n f w+1)\/∃ y,a=.tup (aD y)/\Vn n C.p y/\w=(l.map (bI C)).foldl (bH f) y/\k=bL.mu n f w+(if y=w then 0 else 1))/\ρ=[(t9 n f),(c9 n C),some (.lst (l.map aE),0),(v9 w),some (.lst ((R).map aE),1),some (a,9),(j).1,(j).2])
  (k:=bL.mu n f v+1) (ρ:=[(t9 n f),(c9 n C),some (.lst (l.map aE),0),(v9 v),some (.lst ((([]:List Sn)).map aE),1),some (.aX,9),(((none,none):(OD×OD))).1,(((none,none):(OD×OD))).2]) (by omega) ⟨v,[],(none,none),.aX,hv,L.eJ hv,fun x _ _ h=>h,(fun _ z=>nomatch z),rfl,⟨Qd _,trivial⟩,.inl ⟨rfl,rfl⟩,rfl⟩ (fun k ρ ak=>by
   obtain⟨w,R,j,a,hw,h1,h2,h3,h4,h5,h6,hr⟩:=ak
   subst hr
   have next:(bJ (e2 cz (ab 3) (ab 5)) [(t9 n f),(c9 n C),some (.lst (l.map aE),0),(v9 w),some (.lst ((R).map aE),1),some (a,9),(j).1,(j).2]=some (true,[(t9 n f),(c9 n C),some (.lst (l.map aE),0),(v9 w),some (.lst ((R).map aE),1),some (a,9),(j).1,(j).2]))->bL.mu n f w+1<=k->∃ ρ1 ρ2 k',bJ (e2 cz (ab 3) (ab 5)) [(t9 n f),(c9 n C),some (.lst (l.map aE),0),(v9 w),some (.lst ((R).map aE),1),some (a,9),(j).1,(j).2]=some (true,ρ1)/\yP ρ1=some (.nx ρ2)/\k'<k/\∃ (w:List Nat) (R:List Sn),∃ j:(OD×OD),∃ a:D,Vn n C.p w/\fF f C.p v w/\(∀ x,Vn n C.p x->qB f (l.map (bI C)) x->fF f C.p v x->fF f C.p w x)/\(∀ s∈R,s∈l)/\(R.map (bI C)).foldl (bH f) v=w/\(bL.mu n f w+R.length<=bL.mu n f v/\Rz f C v R) /\
   ((a=.aX/\k'=bL.mu n f w+1)\/∃ y,a=.tup (aD y)/\Vn n C.p y/\w=(l.map (bI C)).foldl (bH f) y/\k'=bL.mu n f w+(if y=w then 0 else 1))/\ρ2=[(t9 n f),(c9 n C),some (.lst (l.map aE),0),(v9 w),some (.lst ((R).map aE),1),some (a,9),(j).1,(j).2]:=fun ht hk=>by
    obtain⟨R',j',r1,r2,r3,r4⟩:=round w R ((v9 w)) j hw h3 h4 h5
    have l_:=L.i7 hS hw
    have up:=L.gN hS hw
    refine⟨_,[(t9 n f),(c9 n C),some (.lst (l.map aE),0),(v9 ((l.map (bI C)).foldl (bH f) w)),some (.lst ((R').map aE),1),(v9 w),(j').1,(j').2],bL.mu n f ((l.map (bI C)).foldl (bH f) w)+(if w=(l.map (bI C)).foldl (bH f) w then 0 else 1),ht,?_,?_,_,R',j',.tup (aD w),l_,L.iE hv hw l_ h1 up,fun x hx cx hvx=>L.fG hx hS hw cx (h2 x hx cx hvx),r1,r2,r3,.inr ⟨w,rfl,hw,rfl,rfl⟩,rfl⟩
    ·unfold yP
     refine(bO (ρ1:=[(t9 n f),(c9 n C),some (.lst (l.map aE),0),(v9 w),some (.lst ((R).map aE),1),(v9 w),(j).1,(j).2]) (by simp)).trans ?_
     exact(j5 (ds:=l.map aE) (ρ1:=[(t9 n f),(c9 n C),some (.lst (l.map aE),0),(v9 w),some (.lst ((R).map aE),1),(v9 w),(j).1,(j).2]) (by simp[hlen])).trans r4
    ·by_cases he:w=(l.map (bI C)).foldl (bH f) w
     ·rw[Qe he,<- he];omega
     ·rw[Qf he]
      have:=L.qD hw l_ up he
      omega
   rcases h6 with⟨rfl,hk⟩|⟨y,rfl,hy,y6,hk⟩
   ·refine .inr (next ?_ (by omega))
    have cR:cz (.tup (aD w)) .aX=some (.bl true):=by
     unfold cz
     rw[Qe ⟨(sv w).ok,(Sh.aX (k:=0)).ok⟩]
     rfl
    simp[cR]
   ·by_cases ub:y=w
    ·subst ub
     refine .inl ⟨[(t9 n f),(c9 n C),some (.lst (l.map aE),0),(v9 y),some (.lst ((R).map aE),1),(v9 y),(j).1,(j).2],by simp[tW],y,R,j,⟨hw,(L.fg hS hw).mp y6.symm,h1,h2⟩,h3,h4,h5,rfl⟩
    ·rw[Qf ub]at hk
     refine .inr (next ?_ (by omega))
     have:¬ (w=y):=fun z=>ub z.symm
     simp[tW,this])
 refine⟨u,R,hu,hR1,hR2,hR3,?_⟩
 unfold qI Ht
 refine i5 ?_
 show aG _ _ [(t9 n f),(c9 n C),some (.lst (l.map aE),0),(v9 v),none,none,none,none]=_
 refine(bO (ρ1:=[(t9 n f),(c9 n C),some (.lst (l.map aE),0),(v9 v),some (.lst [],1),none,none,none]) (by simp)).trans ?_
 refine(bO (ρ1:=[(t9 n f),(c9 n C),some (.lst (l.map aE),0),(v9 v),some (.lst ((([]:List Sn)).map aE),1),some (.aX,9),(((none,none):(OD×OD))).1,(((none,none):(OD×OD))).2]) (by simp)).trans ?_
 refine(bO e).trans ?_
 simp
theorem z7t(hv:Vn n C.p v){l:List Sn}(hl:∀ s∈l,okN C s)(hlen:l.length<=1000) :
  ∃ (u:List Nat) (R:List Sn),i_ n f C.p (l.map (bI C)) v u/\(∀ s∈R,s∈l)/\(R.map (bI C)).foldl (bH f) v=u/\bL.mu n f u+R.length<=bL.mu n f v/\qI [bK n f,dS n C,.lst (l.map aE),.tup (aD v)]=some (.tup [.tup (aD u),.lst (R.map aE)],9):=by
 obtain⟨u,R,h1,h2,h3,h4,e⟩:=IP L hC hv hl hlen
 exact⟨u,R,h1,h2,h3,h4.1,e⟩
end
theorem dg1(a b:D):j3 ["begin","way"] [a,b] "begin" = some a:=by unfold j3;rw[Qe rfl]
theorem dg2(a b:D):j3 ["begin","way"] [a,b] "way" = some b:=by
 unfold j3
 rw[Qf (by decide)]
 unfold j3
 rw[Qe rfl]
section
variable {n:Nat}{f:Nat->Nat->Nat}{C:bX}
def DE (C:bX)(s:Sn):Bool:=decide (s.2<(if s.1 then C.B.length else C.W.length))
theorem z7x{s:Sn}:DE C s=true ↔ okN C s:=decide_eq_true_iff
theorem IS(m k:Nat):iG m (iD k)=decide (k<m):=by
 show(decide ((0:Int)<=(k:Int))&&decide ((k:Int)<(m:Int)))=_
 simp
theorem z2u(s:Sn):sI [aE s,.gC ["begin","way"] [(iD C.B.length),(iD C.W.length)]]=(b9 (DE C s)):=by
 obtain⟨b,k⟩:=s
 have l2:cz (.int 2) (.int 2)=some (.bl false):=(T3 _ _).trans (by simp)
 have n1:=fun m=>Dw m (iD k)
 have g1:=dg1 (iD C.B.length) (iD C.W.length)
 have g2:=dg2 (iD C.B.length) (iD C.W.length)
 have s0:∀ x:Str,dO (.tup [.str x,(iD k)]) 0=some (.str x):=fun _=>rfl
 have s1:∀ x:Str,dO (.tup [.str x,(iD k)]) 1=some (iD k):=fun _=>rfl
 have ll:∀ x:Str,gp (.tup [.str x,(iD k)])=some 2:=fun _=>rfl
 unfold sI HL
 cases b with
 | true=>
  show bb _ _ [.tup [.str "begin",(iD k)],_]=(b9 (decide (k<C.B.length)))
  simp[-Int.ofNat_eq_natCast,gH,ll,l2,s0,s1,g1,n1,IS]
 | false=>
  show bb _ _ [.tup [.str "way",(iD k)],_]=(b9 (decide (k<C.W.length)))
  simp[-Int.ofNat_eq_natCast,gH,ll,l2,s0,s1,g2,n1,IS]
theorem y8p(s:Sn):n8 [dS n C,aE s]=(b9 (DE C s)):=by
 have h:=z2u (C:=C) s
 unfold n8 H0
 have e1:o_ 0 2 [(c9 n C),some (aE s,9)]=some (Int.ofNat C.B.length):=by
  show some (Int.ofNat (C.B.map jn).length)=_
  rw[QA]
 have lA:o_ 0 1 [(c9 n C),some (aE s,9)]=some (Int.ofNat C.W.length):=by
  show some (Int.ofNat (C.W.map (d7 n)).length)=_
  rw[QA]
 have ed:tN "begin" "way" (o_ 0 2) (o_ 0 1) [(c9 n C),some (aE s,9)]=some (.gC ["begin","way"] [(iD C.B.length),(iD C.W.length)],9,[(c9 n C),some (aE s,9)]):=by
  unfold tN
  rw[e1,lA]
 exact i5 (lH (cS (c_ (f:=ab 1) (d:=aE s) (q:=9) (ρ:=[(c9 n C),some (aE s,9)]) (ρ1:=[(c9 n C),some (aE s,9)]) rfl (dG ed)) rfl h))
theorem z27{s:Sn}(hs:okN C s):n8 [dS n C,aE s]=(b9 true):=by rw[y8p,z7x.mpr hs]
theorem x9o{l:List Sn}(hl:∀ s∈l,okN C s)(hlen:l.length<=1000):sM [dS n C,.lst (l.map aE)]=some (.aX,9):=by
 have hit:d_ (ab 1) [(c9 n C),some (.lst (l.map aE),0)]=some (l.map aE,[(c9 n C),some (.lst (l.map aE),0)]):=by simp[hlen]
 have e:=X2 (i:=2) (te:=aB n8 2 (aa (ab 0) (aa (ab 2) ag))) (ρ:=[(c9 n C),some (.lst (l.map aE),0)]) rfl hit (fun _=>true) (fun _=>9) (fun d hd=>by
  obtain⟨s,hs,rfl⟩:=QT.mp hd
  simp[z27 (n:=n) (hl s hs)])
 have ea:(l.map aE).all (fun _=>true)=true:=by simp
 rw[ea]at e
 unfold sM H9
 show(match cy _ _ _ [(c9 n C),some (.lst (l.map aE),0)]with|some (.rt d q)=>some (d,q)|some (.nx _)=>some (D.aX,9)|_=>none)=_
 have ei:cy (eU (dP (eB mW (aa (dv 1 (d_ (ab 1)) (aQ 2) dB (aB n8 2 (aa (ab 0) (aa (ab 2) ag))) false) ag)))) o9 cM [(c9 n C),some (.lst (l.map aE),0)]=some (.nx [(c9 n C),some (.lst (l.map aE),0)]):=by
  refine(nZ ?_).trans rfl
  unfold eU dP
  rw[e]
  rfl
 rw[ei]
theorem IU:(pG C).length=C.B.length+C.W.length:=by simp[pG]
theorem IV(hB:C.B.length<=60)(hW:C.W.length<=60):sH [dS n C]=some (.lst ((pG C).map aE),1):=by
 unfold sH Hu
 refine i5 ?_
 show aG _ _ [(c9 n C),none]=_
 have c1:dO (dS n C) 1=some (.tup (C.W.map (d7 n))):=rfl
 have c2:dO (dS n C) 2=some (.tup (C.B.map jn)):=rfl
 have lB:gp (.tup (C.B.map jn))=some C.B.length:=by simp[gp]
 have lW:gp (.tup (C.W.map (d7 n)))=some C.W.length:=by simp[gp]
 have h1:=qA (k:=1) (tt:=dB) (te:=bg (aa (eC (.str "begin")) (aa (ab 2) ag))) (deep:=false) (y4 (m:=C.B.length) (by omega) (fe:=eB mV (aa (aW 0 (eC (.int 2))) ag)) (ρ:=[(c9 n C),none]) (ρ':=[(c9 n C),none]) (q:=9) (by simp[-Int.ofNat_eq_natCast,c2,lB])) (vP (i:=2) rfl (fun _=>true) (fun k=>aE (true,k)) (fun _=>9) (fun k hk=>rfl) (fun k hk _=>by simp[-Int.ofNat_eq_natCast,aE]))
 rw[show(List.range C.B.length).filter (fun _=>true)=List.range C.B.length by simp]at h1
 refine(bO (ρ1:=[(c9 n C),some (.lst ((List.range C.B.length).map fun k=>aE (true,k)),1)]) (pB h1 rfl)).trans ?_
 have h2:=qA (k:=1) (tt:=dB) (te:=bg (aa (eC (.str "way")) (aa (ab 2) ag))) (deep:=false) (y4 (m:=C.W.length) (by omega) (fe:=eB mV (aa (aW 0 (eC (.int 1))) ag)) (ρ:=[(c9 n C),some (.lst ((List.range C.B.length).map fun k=>aE (true,k)),0)]) (ρ':=[(c9 n C),some (.lst ((List.range C.B.length).map fun k=>aE (true,k)),0)]) (q:=9) (by simp[-Int.ofNat_eq_natCast,c1,lW])) (vP (i:=2) rfl (fun _=>true) (fun k=>aE (false,k)) (fun _=>9) (fun k hk=>rfl) (fun k hk _=>by simp[-Int.ofNat_eq_natCast,aE]))
 rw[show(List.range C.W.length).filter (fun _=>true)=List.range C.W.length by simp]at h2
 have ea:(pG C).map aE=((List.range C.B.length).map fun k=>aE (true,k))++((List.range C.W.length).map fun k=>aE (false,k)):=by
  unfold pG
  rw[ZD,ZV,ZV]
  rfl
 rw[ea]
 refine lH (ρ1:=[(c9 n C),some (.lst ((List.range C.B.length).map fun k=>aE (true,k)),0)]) ?_
 have v1:ab 1 [(c9 n C),some (.lst ((List.range C.B.length).map fun k=>aE (true,k)),1)]=some (.lst ((List.range C.B.length).map fun k=>aE (true,k)),0,[(c9 n C),some (.lst ((List.range C.B.length).map fun k=>aE (true,k)),0)]):=rfl
 unfold qt
 rw[v1]
 have hl:((List.range C.B.length).map fun k=>aE (true,k)).length+((List.range C.W.length).map fun k=>aE (false,k)).length<=1000:=by
  rw[QA,QA,Jd,Jd];omega
 generalize ((List.range C.B.length).map fun k=>aE (true,k))=x at *
 generalize ((List.range C.W.length).map fun k=>aE (false,k))=y at *
 rw[Qf (by decide)]at h2
 simp only[h2,Qe hl]
end
section
variable {n:Nat}{f:Nat->Nat->Nat}(L:bL n f){z:Nat}(hz:z<n)(bz:∀ j,j<n->f z j=j){C:bX}(hC:C.Ok n f)
def fJ (p z:Nat):List Nat:=List.replicate p z
theorem y7(hz:z<n):Vn n p (fJ p z):=⟨by simp[fJ],fun x hx=>by rw[(List.mem_replicate.mp hx).2];exact hz⟩
theorem j0f(hi:i<p):gv (fJ p z) i=z:=by unfold gv fJ;simp[hi]
theorem DF(bz:∀ j,j<n->f z j=j)(hv:Vn n p v):fF f p (fJ p z) v:=fun i hi=>by rw[j0f hi];exact bz _ (hv.gv hi)
include L hz bz hC
theorem DG:mf [bK n f,dS n C]=(v9 (fJ C.p z)):=by
 have hn:n<=1000:=QC L.hi (by decide)
 have DD:=hC.p8
 have c0:dO (dS n C) 0=some (iD C.p):=rfl
 have hl:=IH L hz bz hn
 unfold mf Hj
 have e:(List.replicate C.p [(iD z)]).flatten=aD (fJ C.p z):=by
  simp[aD,fJ,ZW]
 have b1:(-1000:Int)<=Int.ofNat C.p:=by show(-1000:Int)<=(C.p:Int);omega
 have b2:Int.ofNat C.p<=1000:=by show(C.p:Int)<=1000;omega
 have b3:(Int.ofNat C.p).toNat=C.p:=rfl
 have b4:C.p<=1000:=by omega
 simp[-Int.ofNat_eq_natCast,-List.flatten_replicate_singleton,hl,c0,b1,b2,b3,b4,e]
theorem y8s{l:List Sn}(hl:∀ s∈l,okN C s)(hlen:l.length<=1000) :
  ∃ (u:List Nat) (R:List Sn),i_ n f C.p (l.map (bI C)) (fJ C.p z) u/\(∀ s∈R,s∈l)/\(R.map (bI C)).foldl (bH f) (fJ C.p z)=u/\bL.mu n f u+R.length<=bL.mu n f (fJ C.p z)/\wB [bK n f,dS n C,.lst (l.map aE)]=some (.tup [.tup (aD u),(iD R.length)],9):=by
 obtain⟨u,R,h1,h2,h3,h4,e⟩:=z7t L hC (y7 (p:=C.p) hz) hl hlen
 refine⟨u,R,h1,h2,h3,h4,?_⟩
 have r0:=x9o (n:=n) hl hlen
 have r1:=DG L hz bz hC
 have a0:dO (.tup [.tup (aD u),.lst (R.map aE)]) 0=some (.tup (aD u)):=rfl
 have a1:dO (.tup [.tup (aD u),.lst (R.map aE)]) 1=some (.lst (R.map aE)):=rfl
 have a2:gp (.lst (R.map aE))=some R.length:=by simp[gp]
 unfold wB Ie
 simp[-Int.ofNat_eq_natCast,r0,r1,e,a0,a1,a2]
theorem y84:∃ u,i_ n f C.p (g7 C) (fJ C.p z) u/\pD [bK n f,dS n C]=(v9 u):=by
 have hB:=hC.Dz
 have hW:=hC.Dy
 obtain⟨u,R,h1,h2,h3,h4,e⟩:=y8s L hz bz hC (DB C) (by rw[IU];omega)
 rw[IM]at h1
 refine⟨u,h1,?_⟩
 have r0:=IV (n:=n) hB hW
 have a0:dO (.tup [.tup (aD u),(iD R.length)]) 0=some (.tup (aD u)):=rfl
 unfold pD Ih
 simp[-Int.ofNat_eq_natCast,r0,e,a0]
end
theorem z7h{x:D×Nat}(h:ρ[i]? = some (some x)):ρ.set i (some x)=ρ:=by
 apply Q7
 intro k
 by_cases hk:i=k
 ·subst hk
  rw[h,QI (Qr.mp h).1]
 ·rw[QJ hk]
theorem IW(h:ρ[i]? = some (some (.lst ds,q))):ab i ρ=some (.lst ds,0,ρ.set i (some (.lst ds,0))):=by
 unfold ab
 rw[h]
 by_cases hq:q=0
 ·subst hq
  rw[z7h h]
  rfl
 ·simp[hq]
theorem IX{g h:cD}(e:g ρ=some (false,ρ1)):ki g h ρ=h ρ1:=by unfold ki;rw[e];rfl
theorem IY{g:cD}{b:Bool}(e:g ρ=some (b,ρ1)):eU g ρ=some (!b,ρ1):=by unfold eU;rw[e]
theorem IZ{f:aw}{b:Bool}(h:f ρ=some (.bl b,q,ρ1)):dP f ρ=some (b,ρ1):=by unfold dP;rw[h];cases b<;>rfl
theorem I0(h:ρ[i]? = some (some (d,q)))(hd:d.cw=false):ab i ρ=some (d,9,ρ):=by unfold ab;rw[h];simp[hd]
theorem j7n{f:aw}{j:Nat}{x y:D}(h:f ρ=some (.tup [x,y],q,ρ1))(e:(ρ1.set i (some (x,cj x))).set j (some (y,cj y))=ρ2)(hi:i<ρ1.length)(hj:j<ρ1.length):vf f (l8 (cX (aQ i) (cX (aQ j) kL))) ρ=some (.nx ρ2):=by
 subst e
 unfold vf
 rw[h]
 simp[hi,hj]
theorem y8(ns:List Int){c:Int}(hc:0<=c)(hn:0<n):∃ v,v<n/\nA [n9 ns,.int c,(iD n)]=(i9 v):=by
 have DH:(0:Int)<Int.ofNat n:=by show(0:Int)<(n:Int);omega
 have h1:=XQ ns c DH
 have h2:=XR ns c DH
 have h3:Int.ofNat n=(n:Int):=rfl
 obtain⟨v,hv⟩:=Int.eq_ofNat_of_zero_le h1
 refine⟨v,by rw[hv,h3]at h2;omega,?_⟩
 rw[XN ns c _ hc DH,hv]
 rfl
theorem I9{P:D->Prop}{b c:D}(h1:P a)(h2:P b)(h3:P c):∀ d ∈ [a,b,c],P d:=fun d hd=>by
 rcases Qn.mp hd with rfl|hd
 ·exact h1
 ·rcases Qn.mp hd with rfl|hd
  ·exact h2
  ·rcases Qn.mp hd with rfl|hd
   ·exact h3
   ·cases hd
theorem j9x{P:D->Prop}{b:D}(h1:P a)(h2:P b):∀ d ∈ [a,b],P d:=fun d hd=>by
 rcases Qn.mp hd with rfl|hd
 ·exact h1
 ·rcases Qn.mp hd with rfl|hd
  ·exact h2
  ·cases hd
theorem z7m(n:Nat)(C:bX):Sh 4 (dS n C):=.tup (I9 (.int _)
 (.tup fun d hd=>by obtain⟨w,_,rfl⟩:=QT.mp hd;exact .tup (I9 (.int _) (.int _) ⟨(G0 _ _).1,(G0 _ _).2⟩))
 (.tup fun d hd=>by obtain⟨b,_,rfl⟩:=QT.mp hd;exact .tup (j9x (.int _) (.int _))))
theorem I_{α J:Type}{pt:fA}(enc:α->D)(S:List D->J->aU)(v:α->D):∀ (l:List α) (acc:List D) (j:J),acc.length+l.length<=1000->
  (∀ a∈l,∀ ds j,ds.length<=1000->∃ ρ1 j',pt (enc a) (S ds j)=some ρ1/\body ρ1=some (.nx (S (ds++[v a]) j')))->∃ j',iA pt body (l.map enc) (S acc j)=some (.nx (S (acc++l.map v) j'))
 | [],acc,j,_,_=>⟨j,by rw[ZU,ZU,Zj];rfl⟩
 | a::l,acc,j,hl,h=>by
  rw[Qz]at hl
  obtain⟨ρ1,j1,h1,h2⟩:=h a Qi acc j (by omega)
  obtain⟨j2,e⟩:=I_ enc S v l (acc++[v a]) j1 (by rw[Qh];show _+1+_<=1000;omega) fun b hb=>h b (Qg _ hb)
  refine⟨j2,?_⟩
  rw[QZ,yM h1 h2,e,JH]
  rfl
def mt (n:Nat)(f:Nat->Nat->Nat)(z a b:Nat):Nat:=(((List.range n).filter fun x=>decide (f x a=a)).filter fun x=>decide (f x b=b)).foldl f z
section
variable {n:Nat}{f:Nat->Nat->Nat}
variable (L:bL n f){z:Nat}(hz:z<n)(bz:∀ j,j<n->f z j=j)
theorem J_{a b:Nat}:x∈((List.range n).filter fun x=>decide (f x a=a)).filter (fun x=>decide (f x b=b)) ↔ x<n/\f x a=a/\f x b=b:=by
 simp only[Ju,QV,Zz,and_assoc]
include L hz bz
theorem j7h(a b:Nat):mt n f z a b<n:=L.fold_lt hz fun x m=>(J_.mp m).1
theorem j44(hn:n<=1000){a b:Nat}(ha:a<n)(hb:b<n):tX [bK n f,(iD a),(iD b)]=(i9 (mt n f z a b)):=by
 unfold tX Hg
 refine i5 (lH (ρ1:=[(t9 n f),(i9 a),(i9 b)]) (cS (ds:=[bK n f,.lst (aD (((List.range n).filter fun x=>decide (f x a=a)).filter fun x=>decide (f x b=b)))]) (c_ (q:=9) (ρ1:=[(t9 n f),(i9 a),(i9 b)]) rfl (dG (qA (deep:=false) (ds:=aD ((List.range n).filter fun x=>decide (f x a=a))) (ρ1:=[(t9 n f),(i9 a),(i9 b)]) ?_ (T6 (i:=3) (deep:=false) ((List.range n).filter fun x=>decide (f x a=a)) rfl (fun x=>decide (f x b=b)) (fun x=>(iD x)) (fun _=>9) (fun x hx=>?_) (fun x hx _=>rfl))))) rfl (XT L hz bz hn ?_ fun x m=>(J_.mp m).1)))
 ·have hl:((List.range n).filter fun x=>decide (f x a=a)).length<=1000:=QC (ZN _ _) (by simpa using hn)
  simp[-Int.ofNat_eq_natCast,BF hn ha,iB,hl]
 ·have iu:x<n:=by simp at hx;exact hx.1
  simp[-Int.ofNat_eq_natCast,y3 iu hb]
 ·exact QC (ZN _ _) (QC (ZN _ _) (by simpa using hn))
end
theorem DI(hn:n<=1000)(h:ρ[i]? = some (some ((iD n),q))):ck (aa (ab i) ag) ρ=some (dZ n,ρ):=by
 have b1:(-1000:Int)<=Int.ofNat n:=by show(-1000:Int)<=n;omega
 have b2:Int.ofNat n<=1000:=by show(n:Int)<=1000;omega
 simp[-Int.ofNat_eq_natCast,h,b1,b2]
 rfl
theorem z4p(ho:ρ[i]? = some (some (ob,9)))(h:g ρ=some (ds,ρ1))(hl:ds.length=n)(hG:G ds=some (d,q)):vm ob G i n g ρ=some (d,q,ρ1):=by
 unfold vm
 rw[Qe ho]
 exact cS h hl hG
theorem Ka(hn:n<=1000)(hb:ob.cw=false){g:Nat->Nat->Nat}(hG:∀ x y,x<n->y<n->G [(iD x),(iD y)]=(i9 (g x y))) :
  mh ob G [(iD n),ob]=(t9 n g):=by
 unfold mh HD
 have s0:jW 4 [(iD n),ob]=[(i9 n),some (ob,9),none,none]:=by simp[hb]
 refine i5 ?_
 rw[s0]
 refine(bO (ρ1:=[(i9 n),some (ob,9),some (.lst [],1),none]) rfl).trans ?_
 obtain⟨j',e⟩:=I_ (α:=Nat) (J:=OD) (pt:=aQ 3) (body:=HC ob G) (fun x=>(iD x)) (fun ds j=>[(i9 n),some (ob,9),some (.lst ds,1),j]) (fun x=>ma n g x) (List.range n) [] none (by simpa using hn) (fun x hx ds j mE=>by
  have iu:x<n:=QV.mp hx
  refine⟨[(i9 n),some (ob,9),some (.lst ds,1),(i9 x)],(i9 x),rfl,?_⟩
  refine T7 (ρ1:=[(i9 n),some (ob,9),some (.lst ds,1),(i9 x)]) rfl (dG (Cn (dG (qA (deep:=false) (ds:=dZ n) (ρ1:=[(i9 n),some (ob,9),some (.lst ds,1),(i9 x)]) (DI hn rfl) (vP (i:=4) (deep:=false) rfl (fun _=>true) (fun y=>(iD (g x y))) (fun _=>9) (fun j hj=>rfl) (fun y hy _=>z4p rfl rfl rfl (hG x y iu hy))))))) rfl mE ?_
  have e1:(List.range n).filter (fun _=>true)=List.range n:=by simp
  have e2:(List.range n).map (fun y=>(iD (g x y)))=aD ((List.range n).map fun y=>g x y):=by unfold aD;rw[ZV];rfl
  rw[e1,e2]
  rfl)
 refine(bO ((j5 (ds:=dZ n) (ρ1:=[(i9 n),some (ob,9),some (.lst [],1),none]) (DI hn rfl)).trans e)).trans ?_
 refine lH (Cn (dG (q:=0) (d:=.lst ([]++(List.range n).map fun x=>ma n g x)) (ρ1:=[(i9 n),some (ob,9),some (.lst ([]++(List.range n).map fun x=>ma n g x),0),j']) rfl))
section
variable {n:Nat}{f:Nat->Nat->Nat}
variable (L:bL n f){z:Nat}(hz:z<n)(bz:∀ j,j<n->f z j=j)
include L hz bz
theorem z5f(hn:n<=1000):wF [bK n f]=(t9 n (mt n f z)):=by
 have hG:∀ x y,x<n->y<n->lC t8 [bK n f] [(iD x),(iD y)]=(i9 (mt n f z x y)):=fun x y hx hy=>by
  have e:t8 (jW 3 [(iD x),(iD y),bK n f])=some ((iD (mt n f z x y)),9,jW 3 [(iD x),(iD y),bK n f]):=cS (ds:=[bK n f,(iD x),(iD y)]) rfl rfl (j44 L hz bz hn hx hy)
  unfold lC
  show(match t8 (jW 3 [(iD x),(iD y),bK n f])with|some (d,q,_)=>some (d,q)|none=>none)=_
  rw[e]
 have hT:∀ ob:D,ob.cw=false->mh ob (lC t8 [bK n f]) [(iD n),ob]=(t9 n (mt n f z)):=fun ob hb=>Ka hn hb hG
 unfold wF Ir
 refine i5 (lH (ρ1:=[(t9 n f)]) ?_)
 have e1:dE 0 [(t9 n f)]=some ((iD n),9,[(t9 n f)]):=by simp[-Int.ofNat_eq_natCast,su]
 have e2:tP [0] [(t9 n f)]=some [bK n f]:=rfl
 show pf mh t8 [0] (dE 0) [(t9 n f)]=_
 unfold pf
 simp only[e1,e2]
 rw[Qe (fun fa fo vs=>(hT _ rfl).trans (hT (qu [bK n f]) rfl).symm),hT (qu [bK n f]) rfl]
end
def y9 (n:Nat)(f g:Nat->Nat->Nat):Bool:=(List.range n).all fun x=>(List.range n).all fun y=>(List.range n).all fun w=>decide (g x (f y w)=f (g x y) (g x w))
section
variable {n:Nat}{f:Nat->Nat->Nat}
variable (L:bL n f){z:Nat}(hz:z<n)(bz:∀ j,j<n->f z j=j)
include L hz bz
theorem Kb(hn:n<=1000):qK [bK n f]=(b9 (y9 n f (mt n f z))):=by
 have et:=z5f L hz bz hn
 have cl:=L.cl
 have cg:∀ i j,i<n->j<n->mt n f z i j<n:=fun i j _ _=>j7h L hz bz i j
 generalize mt n f z=g at *
 unfold qK Iy
 refine i5 ?_
 refine(bO (ρ1:=[(t9 n f),(i9 n),none,none,none,none]) (by simp[su])).trans ?_
 refine(bO (ρ1:=[(t9 n f),(i9 n),(t9 n g),none,none,none]) (pB (cS (ds:=[bK n f]) rfl rfl et) rfl)).trans ?_
 have hR:∀ ρ:aU,ρ[1]? = some ((i9 n))->ck (aa (ab 1) ag) ρ=some (dZ n,ρ):=fun ρ h=>DI hn h
 obtain⟨h1,h2⟩:=tV (pt:=aQ 3) (body:=Iw) (d:=.bl false) (q:=9) (dZ n) (fun ρ=>∃ x y z,ρ=[(t9 n f),(i9 n),(t9 n g),x,y,z]) (fun x=>(List.range n).all fun y=>(List.range n).all fun w=>decide (g x (f y w)=f (g x y) (g x w))) [(t9 n f),(i9 n),(t9 n g),none,none,none] (fun x hx ρ hh=>by
  obtain⟨a,b,c,rfl⟩:=hh
  have iu:x<n:=by rw[jw]at hx;exact hx
  refine⟨[(t9 n f),(i9 n),(t9 n g),(i9 x),b,c],by rw[y2 hx];simp,?_⟩
  obtain⟨i1,i2⟩:=tV (pt:=aQ 4) (body:=Iv) (d:=.bl false) (q:=9) (dZ n) (fun ρ=>∃ y z,ρ=[(t9 n f),(i9 n),(t9 n g),(i9 x),y,z]) (fun y=>(List.range n).all fun w=>decide (g x (f y w)=f (g x y) (g x w))) [(t9 n f),(i9 n),(t9 n g),(i9 x),b,c] (fun y hy ρ hh=>by
   obtain⟨b,c,rfl⟩:=hh
   have mi:y<n:=by rw[jw]at hy;exact hy
   refine⟨[(t9 n f),(i9 n),(t9 n g),(i9 x),(i9 y),c],by rw[y2 hy];simp,?_⟩
   obtain⟨j1,j2⟩:=tV (pt:=aQ 5) (body:=Iu) (d:=.bl false) (q:=9) (dZ n) (fun ρ=>∃ z,ρ=[(t9 n f),(i9 n),(t9 n g),(i9 x),(i9 y),z]) (fun w=>decide (g x (f y w)=f (g x y) (g x w))) [(t9 n f),(i9 n),(t9 n g),(i9 x),(i9 y),c] (fun w hw ρ hh=>by
    obtain⟨c,rfl⟩:=hh
    have l_:w<n:=by rw[jw]at hw;exact hw
    have ub:=cl y w mi l_
    have Kc:=cg x y iu mi
    have Kd:=cg x w iu l_
    refine⟨[(t9 n f),(i9 n),(t9 n g),(i9 x),(i9 y),(i9 w)],by rw[y2 hw];simp,fun ok=>⟨[(t9 n f),(i9 n),(t9 n g),(i9 x),(i9 y),(i9 w)],?_,⟨_,rfl⟩⟩,fun no=>?_⟩
    ·have Du:=JO ok
     simp[-Int.ofNat_eq_natCast,pC iu,pC mi,pC Kc,nk ub,nk mi,nk l_,nk Kd,vO,Du]
    ·have Dv:=of_decide_eq_false no
     simp[-Int.ofNat_eq_natCast,pC iu,pC mi,pC Kc,nk ub,nk mi,nk l_,nk Kd,vO,Dv]) ⟨c,rfl⟩
   rw[jw]at j1 j2
   refine⟨fun ok=>?_,fun no=>(j5 (hR _ rfl)).trans (j2 no)⟩
   obtain⟨ρ2,e,c',rfl⟩:=j1 ok
   exact⟨_,(j5 (hR _ rfl)).trans e,_,_,rfl⟩) ⟨b,c,rfl⟩
  rw[jw]at i1 i2
  refine⟨fun ok=>?_,fun no=>(j5 (hR _ rfl)).trans (i2 no)⟩
  obtain⟨ρ2,e,b',c',rfl⟩:=i1 ok
  exact⟨_,(j5 (hR _ rfl)).trans e,_,_,_,rfl⟩) ⟨none,none,none,rfl⟩
 rw[jw]at h1 h2
 cases h:y9 n f g with
 | true=>
  obtain⟨ρ',e,x,y,z,rfl⟩:=h1 h
  exact(bO ((j5 (hR _ rfl)).trans e)).trans rfl
 | false=>exact yI ((j5 (hR _ rfl)).trans (h2 h))
end
theorem z9l{fN:aw}{is:List Nat}(hn:n<=1000){cds:List D}{g:Nat->Nat->Nat}(hN:fN ρ=some ((iD n),q,ρ1))(hc:tP is ρ1=some cds)
  (hG:∀ x y,x<n->y<n->∃ ρ',fb (jW ([(iD x),(iD y)]++cds).length ([(iD x),(iD y)]++cds))=some ((iD (g x y)),9,ρ')):pf mh fb is fN ρ=some (bK n g,9,ρ1):=by
 have hG':∀ x y,x<n->y<n->lC fb cds [(iD x),(iD y)]=(i9 (g x y)):=fun x y hx hy=>by
  obtain⟨ρ',e⟩:=hG x y hx hy
  unfold lC
  rw[e]
 have hT:∀ ob:D,ob.cw=false->mh ob (lC fb cds) [(iD n),ob]=(t9 n g):=fun ob hb=>Ka hn hb hG'
 unfold pf
 simp only[hN,hc]
 rw[Qe (fun fa fo vs=>(hT _ rfl).trans (hT (qu cds) rfl).symm),hT (qu cds) rfl]
theorem z8o(h1:1<=m)(h2:m<=16):wb [(iD m)]=(t9 m max):=by
 unfold wb HF
 have b1:¬ (Int.ofNat m<1):=by show ¬ ((m:Int)<1);omega
 have b2:¬ ((16:Int)<Int.ofNat m):=by show ¬ ((16:Int)<(m:Int));omega
 refine i5 ((bO (ρ1:=[(i9 m)]) ?_).trans (lH (z9l (cds:=[]) (q:=9) (ρ1:=[(i9 m)]) (QC h2 (by decide)) rfl rfl fun x y hx hy=>⟨[(i9 x),(i9 y)],?_⟩)))
 ·simp[-Int.ofNat_eq_natCast,b1,b2]
 ·have e:(if Int.ofNat y > Int.ofNat x then Int.ofNat y else Int.ofNat x)=Int.ofNat (max x y):=by
   by_cases h:x<y
   ·rw[Qe (by show(x:Int)<(y:Int);omega),Nat.max_eq_right (Zi h)]
   ·rw[Qf (by show ¬ ((x:Int)<(y:Int));omega),Nat.max_eq_left (JU h)]
  show some (D.int (if Int.ofNat y > Int.ofNat x then Int.ofNat y else Int.ofNat x),9,_)=_
  rw[e]
  rfl
theorem lJ{f nm:Str}{fs:List Str}{p:Option Addr}(h:ρ[i]? = some (some (.mp (.i nm fs p) ds,q)))(hv:vL fs ds f=some d):iZ i f ρ=some (d,cj d,ρ):=by
 unfold iZ
 rw[h]
 simp only[hv]
theorem oe{f nm:Str}{fs:List Str}{p:Option Addr}(he:fe ρ=some (d,q,ρ1))(h:ρ1[i]? = some (some (.mp (.i nm fs p) ds,1)))(nd:fs.Nodup)(jv:ds.length<999)(e:ρ1.set i (some (.mp (.i nm (ng fs f) p) (kR fs ds f d),1))=ρ2):kS nm i f fe ρ=some (.nx ρ2):=by
 unfold kS
 rw[he]
 simp only[h]
 rw[Qe ⟨trivial,nd,jv⟩,e]
theorem DJ{nm m:Str}{F:List D->OD}{fs:List Str}{p:Option Addr}{r:D}(h:ρ[i]? = some (some (.mp (.i nm fs p) ds,1)))(hc:fs.contains m=false)(hF:F [.mp (.i nm fs p) ds]=some (r,q))(hl:si q r=true):sr nm m F i ρ=some (r,q,ρ):=by
 unfold sr
 rw[h]
 simp only[hF]
 rw[Qe ⟨trivial,hc⟩,Qe hl]
theorem y_{nm m:Str}{za fs:List Str}{p0 p:Option Addr}{wI fW:List D}(h0:ρ[i]? = some (some (.mp (.i nm za p0) wI,1)))(hc:za.contains m=false)(hg:g ρ=some (ds,ρ1))(h:ρ1[i]? = some (some (.mp (.i nm fs p) fW,1)))(hn:ds.length+1=n)
  (hF:∀ a,F (.mp (.i nm fs (some a)) fW) ds=some (.mp (.i nm dh (some a)) ba)) (e:ρ1.set i (some (.mp (.i nm dh p) ba,1))=ρ2):nh nm m F n i g ρ=some (.aX,9,ρ2):=by
 unfold nh
 have hi:yE nm m (some (some (.mp (.i nm za p0) wI,1)))=true:=by
  show(decide (nm=nm) && !za.contains m)=true
  rw[hc]
  simp
 rw[h0,Qe hi]
 simp only[hg,h]
 rw[Qe ⟨trivial,hn⟩,GA hF]
 simp only[e]
theorem z77{nm:Str}(hg:g ρ=some (ds,ρ1))(hn:ds.length+1=n)(hF:∀ a,F (.mp (.i nm [] (some a)) []) ds=some (.mp (.i nm dh (some a)) ba)):tR nm F n g ρ=some (.mp (.i nm dh none) ba,1,ρ1):=by
 unfold tR
 rw[hg]
 simp only
 rw[Qe hn,GA hF]
theorem zb{k:MK}(h:body (vH n d ds)=some (.nx ρ))(e:ρ[0]? = some (some (.mp k ba,1))):lE n body d ds=some (.mp k ba):=by
 unfold lE
 rw[h]
 simp only[e]
theorem qM{f:aw}(h:f ρ=some (d,q,ρ1)):gF f ρ=some (.nx ρ1):=by unfold gF;rw[h]
theorem DK(h:g ρ=some (ds,ρ1))(hl:ds.length<=1000):bg g ρ=some (.tup ds,9,ρ1):=by unfold bg;rw[h];exact Qe hl
abbrev qN:List Str:=["ladder","places","ways","begins","worths","many_raises"]
def qO (n:Nat)(f:Nat->Nat->Nat)(C:bX)(v:List Nat)(m:Nat):List D:=[bK n f,(iD C.p),.tup (C.W.map (d7 n)),.tup (C.B.map jn),.tup (aD v),(iD m)]
abbrev kpr (p:Option Addr)(n:Nat)(f:Nat->Nat->Nat)(C:bX)(v:List Nat)(m:Nat):D:=.mp (.i "Keeper" qN p) (qO n f C v m)
theorem Ke{C:bX}:vL qN (qO n f C v m) "ladder" = some (bK n f):=rfl
theorem zc{C:bX}:vL qN (qO n f C v m) "places" = some (iD C.p):=rfl
theorem Kf{C:bX}:vL qN (qO n f C v m) "ways" = some (.tup (C.W.map (d7 n))):=rfl
theorem Kg{C:bX}:vL qN (qO n f C v m) "begins" = some (.tup (C.B.map jn)):=rfl
theorem Kh{C:bX}:vL qN (qO n f C v m) "worths" = some (.tup (aD v)):=rfl
theorem z50{C:bX}:vL qN (qO n f C v m) "many_raises" = some (iD m):=rfl
theorem z5x{p:Option Addr}{C:bX}:qG [kpr p n f C v m]=(c9 n C):=by
 unfold qG Hk
 refine i5 (lH (ρ1:=[some (kpr p n f C v m,0)]) ?_)
 have h0:jW 1 [kpr p n f C v m]=[some (kpr p n f C v m,0)]:=rfl
 rw[h0]
 exact DK (c_ (lJ rfl zc) (c_ (lJ rfl Kf) (dG (lJ rfl Kg)))) (show 3<=1000 by decide)
theorem z4m(n:Nat)(C:bX):si 9 (dS n C)=true:=yJ (z7m n C).1
theorem j8l(v:List Nat):si 9 (.tup (aD v))=true:=yJ (sv v).1
theorem z4c{p:Option Addr}{C:bX}:wx [kpr p n f C v m]=(v9 v):=by
 unfold wx HU
 exact i5 (lH (ρ1:=[some (kpr p n f C v m,0)]) (lJ rfl Kh))
section
variable {n:Nat}{f:Nat->Nat->Nat}(L:bL n f){z:Nat}(hz:z<n)(bz:∀ j,j<n->f z j=j)
include L hz bz
theorem j0c(a:Addr)(h1:1<=p)(h8:p<=8):tY (.mp (.i "Keeper" [] (some a)) []) [bK n f,(iD p)]=some (kpr (some a) n f ⟨p,[],[]⟩ (fJ p z) 0):=by
 have hC:bX.Ok n f ⟨p,[],[]⟩:=⟨h1,h8,by show 0<=60;decide,by show 0<=60;decide,(fun _ z=>nomatch z),(fun _ z=>nomatch z)⟩
 have hl:=DG L hz bz hC
 unfold tY Hl
 refine zb (ρ:=[some (.mp (.i "Keeper" qN (some a)) (qO n f ⟨p,[],[]⟩ (fJ p z) 0),1),(t9 n f),(i9 p)]) ?_ rfl
 show aG _ _ [some (.mp (.i "Keeper" [] (some a)) [],1),(t9 n f),(i9 p)]=_
 refine(bO (ρ1:=[some (.mp (.i "Keeper" ["ladder"] (some a)) [bK n f],1),(t9 n f),(i9 p)]) (oe (d:=bK n f) (q:=9) (ρ1:=[some (.mp (.i "Keeper" [] (some a)) [],1),(t9 n f),(i9 p)]) rfl rfl (by decide) (by show 0<999;decide) rfl)).trans ?_
 refine(bO (ρ1:=[some (.mp (.i "Keeper" (["ladder","places"]) (some a)) [bK n f,(iD p)],1),(t9 n f),(i9 p)]) (oe (d:=(iD p)) (q:=9) (ρ1:=[some (.mp (.i "Keeper" ["ladder"] (some a)) [bK n f],1),(t9 n f),(i9 p)]) rfl rfl (by decide) (by show 1<999;decide) rfl)).trans ?_
 refine(bO (ρ1:=[some (.mp (.i "Keeper" (["ladder","places","ways"]) (some a)) [bK n f,(iD p),.tup []],1),(t9 n f),(i9 p)]) (oe (d:=.tup []) (q:=9) (ρ1:=[some (.mp (.i "Keeper" (["ladder","places"]) (some a)) [bK n f,(iD p)],1),(t9 n f),(i9 p)]) rfl rfl (by decide) (by show 2<999;decide) rfl)).trans ?_
 refine(bO (ρ1:=[some (.mp (.i "Keeper" (["ladder","places","ways","begins"]) (some a)) [bK n f,(iD p),.tup [],.tup []],1),(t9 n f),(i9 p)]) (oe (d:=.tup []) (q:=9) (ρ1:=[some (.mp (.i "Keeper" (["ladder","places","ways"]) (some a)) [bK n f,(iD p),.tup []],1),(t9 n f),(i9 p)]) rfl rfl (by decide) (by show 3<999;decide) rfl)).trans ?_
 have hc:qG [.mp (.i "Keeper" ["ladder","places","ways","begins"] (some a)) [bK n f,(iD p),.tup [],.tup []]]=some (dS n ⟨p,[],[]⟩,9):=rfl
 refine(bO (ρ1:=[some (.mp (.i "Keeper" (["ladder","places","ways","begins","worths"]) (some a)) [bK n f,(iD p),.tup [],.tup [],.tup (aD (fJ p z))],1),(t9 n f),(i9 p)]) (oe (d:=.tup (aD (fJ p z))) (q:=9) (ρ1:=[some (.mp (.i "Keeper" (["ladder","places","ways","begins"]) (some a)) [bK n f,(iD p),.tup [],.tup []],1),(t9 n f),(i9 p)]) (cS (c_ (f:=ab 1) (q:=9) rfl (dG (DJ rfl rfl hc rfl))) rfl hl) rfl (by decide) (by show 4<999;decide) rfl)).trans ?_
 exact oe (d:=.int 0) (q:=9) (ρ1:=[some (.mp (.i "Keeper" (["ladder","places","ways","begins","worths"]) (some a)) [bK n f,(iD p),.tup [],.tup [],.tup (aD (fJ p z))],1),(t9 n f),(i9 p)]) rfl rfl (by decide) (by show 5<999;decide) rfl
def DL (f:Nat->Nat->Nat)(C:bX)(v u:List Nat)(r:Nat):Prop:=∃ R:List Sn,R.length=r/\Rz f C v R/\(∀ s∈R,okN C s)/\(R.map (bI C)).foldl (bH f) v=u
omit hz bz in
theorem j2e{C:bX}(hC:C.Ok n f)(hv:Vn n C.p v)(m:Nat):∃ u r,i_ n f C.p (g7 C) v u/\(u=v->r=0)/\(u≠v->0<r)/\DL f C v u r/\∀ a,qJ (kpr (some a) n f C v m) []=some (kpr (some a) n f C u (m+r)):=by
 have hB:=hC.Dz
 have hW:=hC.Dy
 obtain⟨u,R,h1,h2,h3,⟨h4,h5⟩,e⟩:=IP L hC hv (DB C) (by rw[IU];omega)
 rw[IM]at h1
 refine⟨u,R.length,h1,fun z=>by rw[z]at h4;omega,fun z=>?_,⟨R,rfl,h5,fun s hs=>DB C s (h2 s hs),h3⟩,fun a=>?_⟩
 ·cases R with
  | nil=>exact absurd h3.symm z
  | cons x R=>exact Nat.succ_pos _
 have r0:=IV (n:=n) hB hW
 have a0:dO (.tup [.tup (aD u),.lst (R.map aE)]) 0=some (.tup (aD u)):=rfl
 have a1:dO (.tup [.tup (aD u),.lst (R.map aE)]) 1=some (.lst (R.map aE)):=rfl
 have a2:gp (.lst (R.map aE))=some R.length:=by simp[gp]
 unfold qJ Hx
 refine zb (ρ:=[some (kpr (some a) n f C u (m+R.length),1),(c9 n C),some (.tup [.tup (aD u),.lst (R.map aE)],9)]) ?_ rfl
 show aG _ _ [some (kpr (some a) n f C v m,1),none,none]=_
 refine(bO (ρ1:=[some (kpr (some a) n f C v m,1),(c9 n C),none]) (pB (DJ (ρ:=[some (kpr (some a) n f C v m,1),none,none]) rfl rfl z5x (z4m n C)) rfl)).trans ?_
 refine(bO (ρ1:=[some (kpr (some a) n f C v m,1),(c9 n C),some (.tup [.tup (aD u),.lst (R.map aE)],9)]) (pB (cS (ρ:=[some (kpr (some a) n f C v m,1),(c9 n C),none]) (c_ (lJ rfl Ke) (c_ (f:=ab 1) (q:=9) rfl (c_ (cS (dG (f:=ab 1) (q:=9) rfl) rfl r0) (dG (lJ rfl Kh))))) rfl e) rfl)).trans ?_
 refine(bO (ρ1:=[some (kpr (some a) n f C u m,1),(c9 n C),some (.tup [.tup (aD u),.lst (R.map aE)],9)]) (oe (ρ1:=[some (kpr (some a) n f C v m,1),(c9 n C),some (.tup [.tup (aD u),.lst (R.map aE)],9)]) (d:=.tup (aD u)) (q:=9) rfl rfl (by decide) (by show 6<999;decide) rfl)).trans ?_
 refine oe (ρ1:=[some (kpr (some a) n f C u m,1),(c9 n C),some (.tup [.tup (aD u),.lst (R.map aE)],9)]) (d:=(iD (m+R.length))) (q:=9) (fZ (lJ rfl z50) (Cu (d:=(iD R.length)) (dG (f:=aW 2 (eC (.int 1))) (d:=.lst (R.map aE)) (q:=0) rfl) ?_) rfl) rfl (by decide) (by show 6<999;decide) rfl
 simp only[mV,a2]
 rfl
structure Kept (n:Nat) (f:Nat->Nat->Nat) (z:Nat) (C:bX) (v:List Nat):Prop where
 ok:C.Ok n f
 low:i_ n f C.p (g7 C) (fJ C.p z) v
theorem Kept.more{C C':bX}(k:Kept n f z C v)(hC:C'.Ok n f)(hp:C'.p=C.p)(hs:∀ s∈g7 C,s∈g7 C')(m:Nat):∃ u r,Kept n f z C' u/\fF f C.p v u/\(u=v->r=0)/\(u≠v->0<r)/\DL f C' v u r/\(qB f (g7 C') v->u=v)/\∀ a,qJ (kpr (some a) n f C' v m) []=some (kpr (some a) n f C' u (m+r)):=by
 have hv:Vn n C'.p v:=by rw[hp];exact k.low.V
 obtain⟨u,r,h1,h2,gq,h3,h4⟩:=j2e L hC hv m
 have sQ:=y7 (n:=n) (p:=C'.p) hz
 refine⟨u,r,⟨hC,h1.V,h1.cl,DF bz h1.V,fun b hb cb lb=>h1.le b hb cb ?_⟩,by rw[<- hp];exact h1.up,h2,gq,h3,fun cv=>L.gL h1.V hv (h1.le v hv cv (L.eJ hv)) h1.up,h4⟩
 have:=k.low.le b (by rw[<- hp];exact hb) (fun s kI=>cb s (hs s kI)) (by rw[<- hp];exact lb)
 rw[hp]
 exact this
end
theorem j10{k:Nat}(hk:k<h):iG h (iD k)=true:=by
 show(decide ((0:Int)<=(k:Int))&&decide ((k:Int)<(h:Int)))=true
 rw[Zh (by omega),Zh (by omega)];rfl
theorem Ki(h:body (jW n ds)=some (.nx ρ)):bb n body ds=some (.aX,9):=by unfold bb;rw[h]
theorem DM{k:Nat}(hk:k<h):qH [(iD h),(iD k)]=some (.aX,9):=by
 have e:=Dw h (iD k)
 rw[j10 hk]at e
 unfold qH Ho
 exact Ki ((nZ (IY (IZ (cS (ds:=[(iD k),(iD h)]) rfl rfl e)))).trans rfl)
theorem x9u(hn:n<=1000)(hr:∀ i,i<n->r i<n)(hm:∀ x y,x<n->y<n->f x y=y->f (r x) (r y)=r y):sL [bK n f,dH n r]=some (.aX,9):=by
 have e:=X8 (f:=f) hn (dH n r)
 rw[X7 hr,Dt.mpr fun y x hy hx h=>hm x y hx hy h]at e
 unfold sL HR
 exact Ki ((nZ (IY (IZ (cS (ds:=[bK n f,dH n r]) rfl rfl e)))).trans rfl)
structure wJ (n:Nat) (f:Nat->Nat->Nat) (z:Nat) (C:bX) (v:List Nat) (C':bX) (u:List Nat) (r:Nat):Prop where
 kept:Kept n f z C' u
 up:fF f C.p v u
 r0:u=v->r=0
 r1:u≠v->0<r
 rz:DL f C' v u r
 st:qB f (g7 C') v->u=v
def bX.mj (C:bX)(b:Nat×Nat):bX:=⟨C.p,C.W,C.B++[b]⟩
def bX.way (C:bX)(w:Nat×Nat×(Nat->Nat)):bX:=⟨C.p,C.W++[w],C.B⟩
theorem zd{C:bX}:s∈g7 (C.mj b) ↔ s∈g7 C\/s=sP b:=by
 unfold g7 bX.mj
 simp only[ZD,QZ,ZU,QR,Qt]
 constructor
 ·rintro ((h|h)|h)
  ·exact .inl (.inl h)
  ·exact .inr h
  ·exact .inl (.inr h)
 ·rintro ((h|h)|h)
  ·exact .inl (.inl h)
  ·exact .inr h
  ·exact .inl (.inr h)
theorem j08{C:bX}{w:Nat×Nat×(Nat->Nat)}:s∈g7 (C.way w) ↔ s∈g7 C\/s=wH w:=by
 unfold g7 bX.way
 simp only[ZD,QZ,ZU,QR,Qt,or_assoc]
section
variable {n:Nat}{f:Nat->Nat->Nat}(L:bL n f){z:Nat}(hz:z<n)(bz:∀ j,j<n->f z j=j)
theorem DN{xs ys:List D}(ha:fa ρ=some (.tup xs,q,ρ1))(hb:fb ρ1=some (.tup ys,q',ρ2))(hl:xs.length+ys.length<=1000):o7 fa fb ρ=some (.tup (xs++ys),9,ρ2):=by
 unfold o7
 rw[ha]
 simp only[hb]
 rw[Qe hl]
include L hz bz
theorem z79{C:bX}(k:Kept n f z C v)(hb:IK n C.p b)(hl:C.B.length<60)(m:Nat):∃ u r,wJ n f z C v (C.mj b) u r/\∀ a,tZ (kpr (some a) n f C v m) [(iD b.1),(iD b.2)]=some (kpr (some a) n f (C.mj b) u (m+r)):=by
 have hC:=k.ok
 have DO:(C.mj b).Ok n f:=⟨hC.p1,hC.p8,hC.Dy,by show(C.B++[b]).length<=60;simp;omega,hC.ws,fun x hx=>by
  rcases QR.mp hx with h|h
  ·exact hC.bs x h
  ·rw[Qt.mp h];exact hb⟩
 obtain⟨u,r,h1,h2,h3,uS,h4,h5,h6⟩:=k.more L hz bz DO rfl (fun s hs=>zd.mpr (.inl hs)) m
 refine⟨u,r,⟨h1,h2,h3,uS,h4,h5⟩,fun a=>?_⟩
 unfold tZ Hy
 refine zb (ρ:=[some (kpr (some a) n f (C.mj b) u (m+r),1),(i9 b.1),(i9 b.2)]) ?_ rfl
 show aG _ _ [some (kpr (some a) n f C v m,1),(i9 b.1),(i9 b.2)]=_
 refine(bO (ρ1:=[some (kpr (some a) n f C v m,1),(i9 b.1),(i9 b.2)]) (qM (cS (c_ (lJ rfl zc) (dG (f:=ab 1) (q:=9) rfl)) rfl (DM hb.1)))).trans ?_
 have hm:C.B.map jn++[jn b]=(C.mj b).B.map jn:=by show _=(C.B++[b]).map jn;simp
 have gh:(C.B.map jn).length + [jn b].length<=1000:=by simp;omega
 have e1:=DN (fa:=iZ 0 "begins") (fb:=bg (aa (bg (aa (ab 1) (aa (ab 2) ag))) ag)) (ρ:=[some (kpr (some a) n f C v m,1),(i9 b.1),(i9 b.2)]) (ρ2:=[some (kpr (some a) n f C v m,1),(i9 b.1),(i9 b.2)]) (q':=9) (ys:=[jn b]) (lJ rfl Kg) rfl gh
 rw[hm]at e1
 refine(bO (ρ1:=[some (kpr (some a) n f (C.mj b) v m,1),(i9 b.1),(i9 b.2)]) (oe e1 rfl (by decide) (by show 6<999;decide) rfl)).trans ?_
 exact qM (y_ (ρ:=[some (kpr (some a) n f (C.mj b) v m,1),(i9 b.1),(i9 b.2)]) (ρ1:=[some (kpr (some a) n f (C.mj b) v m,1),(i9 b.1),(i9 b.2)]) (ds:=[]) rfl rfl rfl rfl rfl h6 rfl)
theorem j5w{C:bX}(k:Kept n f z C v){w:Nat×Nat×(Nat->Nat)}(hw:Dx n f C.p w)(hl:C.W.length<60)(m:Nat):∃ u r,wJ n f z C v (C.way w) u r/\∀ a,wu (kpr (some a) n f C v m) [(iD w.1),(iD w.2.1),dH n w.2.2]=some (kpr (some a) n f (C.way w) u (m+r)):=by
 have hn:n<=1000:=QC L.hi (by decide)
 have hC:=k.ok
 have DO:(C.way w).Ok n f:=⟨hC.p1,hC.p8,by show(C.W++[w]).length<=60;simp;omega,hC.Dz,fun x hx=>by
  rcases QR.mp hx with h|h
  ·exact hC.ws x h
  ·rw[Qt.mp h];exact hw,hC.bs⟩
 obtain⟨u,r,h1,h2,h3,uS,h4,h5,h6⟩:=k.more L hz bz DO rfl (fun s hs=>j08.mpr (.inl hs)) m
 refine⟨u,r,⟨h1,h2,h3,uS,h4,h5⟩,fun a=>?_⟩
 unfold wu HS
 refine zb (ρ:=[some (kpr (some a) n f (C.way w) u (m+r),1),(i9 w.1),(i9 w.2.1),(r9 n w.2.2)]) ?_ rfl
 show aG _ _ [some (kpr (some a) n f C v m,1),(i9 w.1),(i9 w.2.1),(r9 n w.2.2)]=_
 refine(bO (ρ1:=[some (kpr (some a) n f C v m,1),(i9 w.1),(i9 w.2.1),(r9 n w.2.2)]) (qM (cS (c_ (lJ rfl zc) (dG (f:=ab 1) (q:=9) rfl)) rfl (DM hw.1)))).trans ?_
 refine(bO (ρ1:=[some (kpr (some a) n f C v m,1),(i9 w.1),(i9 w.2.1),(r9 n w.2.2)]) (qM (cS (c_ (lJ rfl zc) (dG (f:=ab 2) (q:=9) rfl)) rfl (DM hw.2.1)))).trans ?_
 refine(bO (ρ1:=[some (kpr (some a) n f C v m,1),(i9 w.1),(i9 w.2.1),(r9 n w.2.2)]) (qM (cS (c_ (lJ rfl Ke) (dG (f:=ab 3) (q:=9) rfl)) rfl (x9u hn hw.2.2.1 hw.2.2.2)))).trans ?_
 have hm:C.W.map (d7 n)++[d7 n w]=(C.way w).W.map (d7 n):=by show _=(C.W++[w]).map (d7 n);simp
 have gh:(C.W.map (d7 n)).length + [d7 n w].length<=1000:=by simp;omega
 have e1:=DN (fa:=iZ 0 "ways") (fb:=bg (aa (bg (aa (ab 1) (aa (ab 2) (aa (ab 3) ag)))) ag)) (ρ:=[some (kpr (some a) n f C v m,1),(i9 w.1),(i9 w.2.1),(r9 n w.2.2)]) (ρ2:=[some (kpr (some a) n f C v m,1),(i9 w.1),(i9 w.2.1),(r9 n w.2.2)]) (q':=9) (ys:=[d7 n w]) (lJ rfl Kf) rfl gh
 rw[hm]at e1
 refine(bO (ρ1:=[some (kpr (some a) n f (C.way w) v m,1),(i9 w.1),(i9 w.2.1),(r9 n w.2.2)]) (oe e1 rfl (by decide) (by show 6<999;decide) rfl)).trans ?_
 exact qM (y_ (ρ:=[some (kpr (some a) n f (C.way w) v m,1),(i9 w.1),(i9 w.2.1),(r9 n w.2.2)]) (ρ1:=[some (kpr (some a) n f (C.way w) v m,1),(i9 w.1),(i9 w.2.1),(r9 n w.2.2)]) (ds:=[]) rfl rfl rfl rfl rfl h6 rfl)
end
def pH (r:OD)(d:D):Bool:=match r with
 | some (x,_)=>match cz x d with
  | some (.bl b)=>!b
  | _=>false
 | _=>false
theorem qP{r:OD}(h:pH r d=true):∃ x q,r=some (x,q)/\cz x d=some (.bl false):=by
 unfold pH at h
 split at h
 next x q=>
  split at h
  next b e=>
   refine⟨x,q,rfl,?_⟩
   cases b with
   | false=>exact e
   | true=>cases h
  ·cases h
 ·cases h
def wK (b:Bool)(r:OD):Bool:=match r with
 | some (.bl x,_)=>x==b
 | _=>false
theorem DP{r:OD}{b:Bool}(h:wK b r=true):∃ q,r=some (.bl b,q):=by
 unfold wK at h
 split at h
 next x q=>
  exact⟨q,by rw[eq_of_beq h]⟩
 ·cases h
abbrev eh (m:Nat):D:=bK m max
def ruF (g x:Nat):Nat:=if x<g then min (x+1) g else x
abbrev lK (m g:Nat):D:=dH m (ruF g)
def gy (p:Nat):List (Nat×Nat×(Nat->Nat)):=(List.range (p-1)).map fun i=>(i,i+1,id)
abbrev j6 (p w:Nat):bX:=⟨p,gy p,[(0,w)]⟩
def Kj (p:Nat):D:=.tup [.tup [.str "begin",.int 0],.lst (dZ (p-1))]
def cN (p:Nat):List D:=.tup [.str "begin",.int 0]::(List.range (p-1)).map fun i=>.tup [.str "way",(iD i)]
def fX:D:=.tup [.tup [.int 2,.tup [.tup [.int 0,.int 1,.int 1]]],.tup [.int 2,.tup [.tup [.int 0,.int 1,.int 2]]],.tup [.int 2,.tup [.tup [.int 0,.int 1,.int 3]]],.tup [.int 1,.tup []]]
def pI:List (List Nat):=[[0,1,2,3,4],[1,1,1,1,1],[2,1,2,1,1],[3,1,1,3,1],[4,1,1,1,4]]
theorem j1g:∀ m ∈ [5,6],∀ g ∈ [3,4,5],g<m->pH (wz [eh m,lK m g]) (iD g)=true:=by decide +kernel
theorem z6d:∀ m ∈ [5,6],∀ g ∈ [3,4,5],g<m->pH (wA [eh m,eh m,dH m id,lK m g]) (lK m g)=true:=by decide +kernel
theorem j51:∀ m ∈ [5,6],∀ p ∈ [3,4,5,6,7],∀ w ∈ [1,2,3,4,5],w<m->pH (wj [eh m,dS m (j6 p w),(iD (p-1)),(iD w)]) (Kj p)=true:=by decide +kernel
theorem z4f:∀ m ∈ [5,6],∀ p ∈ [3,4,5,6,7],∀ w ∈ [1,2,3,4,5],w<m->pH (wk [eh m,dS m (j6 p w),.tup [.str "begin",.int 0],.lst (dZ (p-1))]) (.tup [(iD (p-1)),(iD w)])=true:=by decide +kernel
theorem Kk:∀ m ∈ [5,6],∀ p ∈ [3,4,5,6,7],∀ w ∈ [1,2,3,4,5],w<m->pH (pD [eh m,dS m (j6 p w)]) (.tup (aD (List.replicate p w)))=true:=by decide +kernel
theorem j3r:∀ m ∈ [5,6],∀ p ∈ [3,4,5,6,7],∀ w ∈ [1,2,3,4,5],w<m->wK false (sN [eh m,dS m (j6 p w),.tup (aD (List.replicate p 0)),.lst []])=true:=by decide +kernel
theorem j0n:∀ m ∈ [5,6],∀ p ∈ [3,4,5,6,7],∀ w ∈ [1,2,3,4,5],w<m->∀ a∈List.range p,wK (decide (a=p-1)) (sN [eh m,dS m (j6 p w),.tup (aD (List.replicate (a+1) w++List.replicate (p-a-1) 0)),.lst ((cN p).take (a+1))])=true:=by decide +kernel
theorem Kl:∀ m,m=5\/m=6->nB [eh m]=(r9 m id):=fun m h=>by
 rcases h with rfl|rfl<;>kernel_rfl
theorem z7w:∀ m,m=5\/m=6->pE [eh m,.int 0]=(v9 (List.replicate m 0)):=fun m h=>by
 rcases h with rfl|rfl<;>kernel_rfl
theorem j66:∀ m ∈ [5,6],pH (t7 [eh m,fX,.int 0]) (.tup [.tup (aD (List.replicate m 0)),.tup (aD (List.replicate m 0)),.tup (aD (List.replicate m 0)),dH m id])=true:=by decide +kernel
theorem j43:∀ m ∈ [5,6],pH (t7 [eh m,fX,.int 3]) (.tup [dH m id,dH m id,dH m id,dH m id])=true:=by decide +kernel
theorem z7j:wK true (wD [bK 5 (tf pI)])=true:=by decide +kernel
theorem DQ(m:Nat)(h:m=5\/m=6):bL m max:=by
 rcases h with rfl|rfl
 ·exact Cs (by decide +kernel)
 ·exact Cs (by decide +kernel)
theorem z9x:bL 5 (tf pI):=Cs (by decide +kernel)
theorem j1b:y9 5 (tf pI) (mt 5 (tf pI) 0)=false:=by decide +kernel
theorem j3h(m:Nat)(h:m=5\/m=6):y9 m max (mt m max 0)=true:=by
 rcases h with rfl|rfl
 ·decide +kernel
 ·decide +kernel
theorem DR{k:Nat}(ha:fa ρ=some (.tup [(iD x)],q,ρ1))(hb:fb ρ1=some ((iD k),q',ρ2))(h1:1<=k)(h2:k<=1000):mZ fa fb ρ=some (.tup (aD (List.replicate k x)),9,ρ2):=by
 unfold mZ
 rw[ha]
 simp only[hb]
 rw[Qe ⟨rfl,by show(1:Int)<=(k:Int);omega,by show 1*k<=1000;omega⟩]
 show some (D.tup (List.replicate k [(iD x)]).flatten,9,_)=_
 rw[ZW]
 simp[aD]
theorem j42{k:Nat}(ha:fa ρ=some (.tup [(iD x)],q,ρ1))(hb:fb ρ1=some ((iD k),q',ρ2))(h2:k<=1000):tS fa fb ρ=some (.tup (aD (List.replicate k x)),9,ρ2):=by
 unfold tS
 rw[ha]
 simp only[hb]
 rw[Qe ⟨rfl,by show(0:Int)<=(k:Int);omega,by show 1*k<=1000;omega⟩]
 show some (D.tup (List.replicate k [(iD x)]).flatten,9,_)=_
 rw[ZW]
 simp[aD]
theorem j7l(hp:p<=ds.length):L3.j0 ds none (some (Int.ofNat p))=ds.take p:=by
 unfold L3.j0
 have e1:HT.bo ds.length 0 none=0:=rfl
 have e2:HT.bo ds.length ds.length (some (Int.ofNat p))=p:=by
  have:¬ ((p:Int)<0):=by omega
  simp[HT.bo,this]
  omega
 rw[e1,e2,YZ,YM]
theorem Km(h:fa ρ=some (.bl true,q,ρ1)):kK fa fb ρ=fb ρ1:=by unfold kK;rw[h];rfl
theorem j7z(L:bL n f){z:Nat}(bz:∀ j,j<n->f z j=j){l l':List ky}{u u':List Nat}(h:i_ n f p l (fJ p z) u)(h':i_ n f p l' (fJ p z) u')(e:∀ t∈l,t∈l')(e':∀ t∈l',t∈l):u=u':=
 L.gL h.V h'.V (h.le u' h'.V (fun s hs=>h'.cl s (e s hs)) (DF bz h'.V)) (h'.le u h.V (fun s hs=>h.cl s (e' s hs)) (DF bz h.V))
section
variable (ns:List Int){m:Nat}(hm:m=5\/m=6){g:Nat}(qQ:3<=g)(og:g<m){p:Nat}(ia:3<=p)(ib:p<=7){w:Nat}(kX:1<=w)(gO:w<m)
abbrev oh (ns:List Int)(m g:Nat)(a4 a5 a6 a7 a8 a9 dI cA cB ie ig ij il wL wM wN wO:OD):aU:=[(n0 ns),(i9 m),some (eh m,9),(i9 g),a4,a5,a6,a7,a8,a9,dI,cA,cB,ie,ig,ij,il,wL,wM,wN,wO]
abbrev uc (ns:List Int)(m g p w:Nat)(a7 a8 a9 dI cA cB ie ig ij il wL wM wN wO:OD):aU:=oh ns m g (some (lK m g,9)) ((i9 p)) ((i9 w)) a7 a8 a9 dI cA cB ie ig ij il wL wM wN wO
abbrev bF (ns:List Int)(m g p w:Nat)(dI cA cB ie ig ij il wL wM wN wO:OD):aU:=uc ns m g p w (some (.tup ((gy p).map (d7 m)),9)) ((c9 m (j6 p w))) (some (Kj p,9)) dI cA cB ie ig ij il wL wM wN wO
include hm
theorem oi:m ∈ [5,6]:=by rcases hm with rfl|rfl<;>decide
include qQ og
omit hm in
theorem Kn(h6:m<=6):g ∈ [3,4,5]:=by
 have:g=3\/g=4\/g=5:=by omega
 rcases this with rfl|rfl|rfl<;>decide
theorem j9u:m<=6:=by omega
theorem j3f:bD 4 (iU (aa (dv 1 (ck (aa (ab 1) ag)) (aQ 21) dB (oO (bJ (e2 lY (ab 21) (ab 3))) (eB yq (aa (e2 dY (ab 21) (eC (.int 1))) (aa (ab 3) ag))) (ab 21)) false) ag)) (oh ns m g none none none none none none none none none none none none none none none none none)=some (.nx (oh ns m g (some (lK m g,9)) none none none none none none none none none none none none none none none none)):=by
 rcases hm with rfl|rfl
 ·have:g=3\/g=4:=by omega
  rcases this with rfl|rfl<;>kernel_rfl
 ·have:g=3\/g=4\/g=5:=by omega
  rcases this with rfl|rfl|rfl<;>kernel_rfl
theorem j5u:ki (bJ (e2 cz (aB wz 2 (aa (ab 2) (aa (ab 4) ag))) (ab 3))) (bJ (e2 cz (aB wA 4 (aa (ab 2) (aa (ab 2) (aa (aB nB 1 (aa (ab 2) ag)) (aa (ab 4) ag))))) (ab 4))) (oh ns m g (some (lK m g,9)) none none none none none none none none none none none none none none none none)=some (false,oh ns m g (some (lK m g,9)) none none none none none none none none none none none none none none none none):=by
 have h6:=j9u hm qQ og
 obtain⟨x,q,e1,d1⟩:=qP (j1g m (oi hm) g (Kn qQ og h6) og)
 obtain⟨y,q',lA,d2⟩:=qP (z6d m (oi hm) g (Kn qQ og h6) og)
 refine(IX (n4 (fZ (cS (ds:=[eh m,lK m g]) rfl rfl e1) (fb:=ab 3) (q':=9) rfl d1))).trans ?_
 exact n4 (fZ (cS (ds:=[eh m,eh m,dH m id,lK m g]) (c_ (f:=ab 2) (q:=9) rfl (c_ (f:=ab 2) (q:=9) rfl (c_ (cS (ds:=[eh m]) rfl rfl (Kl m hm)) (dG (f:=ab 4) (q:=9) rfl)))) rfl lA) (fb:=ab 4) (q':=9) rfl d2)
omit qQ og
include ia ib
theorem j17:bD 7 (iU (aa (dv 1 (ck (aa (e2 fS (ab 5) (eC (.int 1))) ag)) (aQ 21) dB (bg (aa (ab 21) (aa (e2 dY (ab 21) (eC (.int 1))) (aa (aB nB 1 (aa (ab 2) ag)) ag)))) false) ag)) (uc ns m g p w none none none none none none none none none none none none none none)=some (.nx (uc ns m g p w (some (.tup ((gy p).map (d7 m)),9)) none none none none none none none none none none none none none)):=by
 have hp:p=3\/p=4\/p=5\/p=6\/p=7:=by omega
 rcases hm with rfl|rfl<;>rcases hp with rfl|rfl|rfl|rfl|rfl<;>kernel_rfl
theorem j5h:bD 9 (bg (aa (bg (aa (eC (.str "begin")) (aa (eC (.int 0)) ag))) (aa (AX (aa (e2 fS (ab 5) (eC (.int 1))) ag)) ag))) (uc ns m g p w (some (.tup ((gy p).map (d7 m)),9)) ((c9 m (j6 p w))) none none none none none none none none none none none none)=some (.nx (bF ns m g p w none none none none none none none none none none none)):=by
 have hp:p=3\/p=4\/p=5\/p=6\/p=7:=by omega
 rcases hp with rfl|rfl|rfl|rfl|rfl<;>rfl
theorem z8b:bD 10 (qt (kh (aa (bg (aa (eC (.str "begin")) (aa (eC (.int 0)) ag))) ag)) (dv 1 (ck (aa (e2 fS (ab 5) (eC (.int 1))) ag)) (aQ 21) dB (bg (aa (eC (.str "way")) (aa (ab 21) ag))) false)) (bF ns m g p w none none none none none none none none none none none)=some (.nx (bF ns m g p w (some (.lst (cN p),1)) none none none none none none none none none none)):=by
 have hp:p=3\/p=4\/p=5\/p=6\/p=7:=by omega
 rcases hp with rfl|rfl|rfl|rfl|rfl<;>kernel_rfl
omit hm in
theorem ud:p ∈ [3,4,5,6,7]:=by
 have hp:p=3\/p=4\/p=5\/p=6\/p=7:=by omega
 rcases hp with rfl|rfl|rfl|rfl|rfl<;>decide
omit hm in
theorem DS(ρ:aU)(h:ρ[5]? = some ((i9 p))):e2 fS (ab 5) (eC (.int 1)) ρ=some ((iD (p-1)),9,ρ):=fZ (I0 h rfl) (fb:=eC (.int 1)) (q':=9) rfl (by
 show some (D.int ((p:Int)-1))=some (D.int ((p-1:Nat):Int))
 have:(p:Int)-1=((p-1:Nat):Int):=by omega
 rw[this])
include kX gO
omit ia ib in
theorem ue:w ∈ [1,2,3,4,5]:=by
 have hp:w=1\/w=2\/w=3\/w=4\/w=5:=by omega
 rcases hp with rfl|rfl|rfl|rfl|rfl<;>decide
theorem j00:bJ (e2 cz (aB wj 4 (aa (ab 2) (aa (ab 8) (aa (e2 fS (ab 5) (eC (.int 1))) (aa (ab 6) ag))))) (ab 9)) (bF ns m g p w none none none none none none none none none none none)=some (false,bF ns m g p w none none none none none none none none none none none):=by
 obtain⟨x,q,e1,d1⟩:=qP (j51 m (oi hm) p (ud ia ib) w (ue hm kX gO) gO)
 exact n4 (fZ (cS (ds:=[eh m,dS m (j6 p w),(iD (p-1)),(iD w)]) (c_ (f:=ab 2) (q:=9) rfl (c_ (f:=ab 8) (q:=9) rfl (c_ (DS ia ib _ rfl) (dG (f:=ab 6) (q:=9) rfl)))) rfl e1) (fb:=ab 9) (q':=9) rfl d1)
theorem z1i:bJ (e2 cz (aB wk 4 (aa (ab 2) (aa (ab 8) (aa (aW 9 (eC (.int 0))) (aa (aW 9 (eC (.int 1))) ag))))) (bg (aa (e2 fS (ab 5) (eC (.int 1))) (aa (ab 6) ag)))) (bF ns m g p w none none none none none none none none none none none)=some (false,bF ns m g p w none none none none none none none none none none none):=by
 obtain⟨x,q,e1,d1⟩:=qP (z4f m (oi hm) p (ud ia ib) w (ue hm kX gO) gO)
 exact n4 (fZ (cS (ds:=[eh m,dS m (j6 p w),.tup [.str "begin",.int 0],.lst (dZ (p-1))]) rfl rfl e1) (DK (c_ (DS ia ib _ rfl) (dG (f:=ab 6) (q:=9) rfl)) (show 2<=1000 by decide)) d1)
theorem z6n:ki (bJ (e2 cz (aB pD 2 (aa (ab 2) (aa (ab 8) ag))) (mZ (bg (aa (ab 6) ag)) (ab 5)))) (bJ (e2 vb (aB sN 4 (aa (ab 2) (aa (ab 8) (aa (aB mf 2 (aa (ab 2) (aa (ab 8) ag))) (aa (kh ag) ag))))) (eC (.bl false)))) (bF ns m g p w none none none none none none none none none none none)=some (false,bF ns m g p w none none none none none none none none none none none):=by
 obtain⟨x,q,e1,d1⟩:=qP (Kk m (oi hm) p (ud ia ib) w (ue hm kX gO) gO)
 obtain⟨q',lA⟩:=DP (j3r m (oi hm) p (ud ia ib) w (ue hm kX gO) gO)
 have L:=DQ m hm
 have hC:(j6 p w).Ok m max:=⟨by show 1<=p;omega,by show p<=8;omega,by show(gy p).length<=60;unfold gy;simp;omega,by show 1<=60;decide,fun y hy=>by
  obtain⟨i,hi,rfl⟩:=QT.mp hy
  have:=QV.mp hi
  exact⟨by show i<p;omega,by show i+1<p;omega,fun _ h=>h,fun _ _ _ _ h=>h⟩,fun y hy=>by
  rw[Qt.mp hy]
  exact⟨by show 0<p;omega,gO⟩⟩
 have el:=DG L (z:=0) (by omega) (fun j hj=>Y6 j) hC
 have er:mZ (bg (aa (ab 6) ag)) (ab 5) (bF ns m g p w none none none none none none none none none none none)=some (.tup (aD (List.replicate p w)),9,bF ns m g p w none none none none none none none none none none none):=DR (x:=w) (k:=p) (q:=9) (q':=9) rfl rfl (by omega) (by omega)
 refine(IX (n4 (fZ (cS (ds:=[eh m,dS m (j6 p w)]) rfl rfl e1) er d1))).trans ?_
 exact n4 (fZ (cS (ds:=[eh m,dS m (j6 p w),.tup (aD (List.replicate p 0)),.lst []]) (c_ (f:=ab 2) (q:=9) rfl (c_ (f:=ab 8) (q:=9) rfl (c_ (cS (ds:=[eh m,dS m (j6 p w)]) rfl rfl el) (dG (f:=kh ag) (q:=1) rfl)))) rfl lA) (fb:=eC (.bl false)) (q':=9) rfl rfl)
theorem z4o:∃ a b,dF (ck (aa (ab 5) ag)) (aQ 11) yX (bF ns m g p w (some (.lst (cN p),1)) none none none none none none none none none none)=some (.nx (bF ns m g p w (some (.lst (cN p),0)) a b none none none none none none none none)):=by
 obtain⟨ρ',e,q,a,b,hq,rfl⟩:=yH (pt:=aQ 11) (body:=yX) (dZ p) (fun i ρ=>∃ q a b,(0<i->q=0)/\ρ=bF ns m g p w (some (.lst (cN p),q)) a b none none none none none none none none) (bF ns m g p w (some (.lst (cN p),1)) none none none none none none none none none none) (fun i hi ρ ak=>by
  obtain⟨q,a,b,hq,rfl⟩:=ak
  have eS:i<p:=by rw[jw]at hi;exact hi
  obtain⟨q',e1⟩:=DP (j0n m (oi hm) p (ud ia ib) w (ue hm kX gO) gO i (QV.mpr eS))
  have hl:(cN p).length=p:=by unfold cN;simp;omega
  refine⟨bF ns m g p w (some (.lst (cN p),q)) ((i9 i)) b none none none none none none none none,bF ns m g p w (some (.lst (cN p),0)) ((i9 i)) ((v9 (List.replicate (i+1) w++List.replicate (p-i-1) 0))) none none none none none none none none,by rw[y2];rfl,.inl ?_,0,_,_,fun _=>rfl,rfl⟩
  have h1:mZ (bg (aa (ab 6) ag)) (e2 dY (ab 11) (eC (.int 1))) (bF ns m g p w (some (.lst (cN p),q)) ((i9 i)) b none none none none none none none none)=some (.tup (aD (List.replicate (i+1) w)),9,bF ns m g p w (some (.lst (cN p),q)) ((i9 i)) b none none none none none none none none):=DR (x:=w) (k:=i+1) (q:=9) (q':=9) rfl rfl (by omega) (by omega)
  have hs:e2 fS (e2 fS (ab 5) (ab 11)) (eC (.int 1)) (bF ns m g p w (some (.lst (cN p),q)) ((i9 i)) b none none none none none none none none)=some ((iD (p-i-1)),9,bF ns m g p w (some (.lst (cN p),q)) ((i9 i)) b none none none none none none none none):=fZ (fZ (fa:=ab 5) (fb:=ab 11) (d:=.int ((p:Int)-(i:Int))) (q:=9) (q':=9) rfl rfl rfl) (fb:=eC (.int 1)) (q':=9) rfl (by
   show some (D.int ((p:Int)-(i:Int)-1))=some (D.int ((p-i-1:Nat):Int))
   have:(p:Int)-(i:Int)-1=((p-i-1:Nat):Int):=by omega
   rw[this])
  have h2:tS (bg (aa (eC (.int 0)) ag)) (e2 fS (e2 fS (ab 5) (ab 11)) (eC (.int 1))) (bF ns m g p w (some (.lst (cN p),q)) ((i9 i)) b none none none none none none none none)=some (.tup (aD (List.replicate (p-i-1) 0)),9,bF ns m g p w (some (.lst (cN p),q)) ((i9 i)) b none none none none none none none none):=j42 (x:=0) (k:=p-i-1) (q:=9) rfl hs (by omega)
  have h3:=DN h1 h2 (by rw[iB,iB,QY,QY];omega)
  have h4:aD (List.replicate (i+1) w)++aD (List.replicate (p-i-1) 0)=aD (List.replicate (i+1) w++List.replicate (p-i-1) 0):=by unfold aD;rw[ZD]
  rw[h4]at h3
  unfold yX
  refine(bO (ρ1:=bF ns m g p w (some (.lst (cN p),q)) ((i9 i)) ((v9 (List.replicate (i+1) w++List.replicate (p-i-1) 0))) none none none none none none none none) (pB h3 rfl)).trans ?_
  generalize List.replicate (i+1) w++List.replicate (p-i-1) 0=tl at *
  have v10:ab 10 (bF ns m g p w (some (.lst (cN p),q)) ((i9 i)) ((v9 tl)) none none none none none none none none)=some (.lst (cN p),0,bF ns m g p w (some (.lst (cN p),0)) ((i9 i)) ((v9 tl)) none none none none none none none none):=IW rfl
  have h5:vj (ab 10) vd (qr (e2 dY (ab 11) (eC (.int 1)))) (bF ns m g p w (some (.lst (cN p),q)) ((i9 i)) ((v9 tl)) none none none none none none none none)=some (.lst ((cN p).take (i+1)),1,bF ns m g p w (some (.lst (cN p),0)) ((i9 i)) ((v9 tl)) none none none none none none none none):=by
   have o2:qr (e2 dY (ab 11) (eC (.int 1))) (bF ns m g p w (some (.lst (cN p),0)) ((i9 i)) ((v9 tl)) none none none none none none none none)=some (some (Int.ofNat (i+1)),bF ns m g p w (some (.lst (cN p),0)) ((i9 i)) ((v9 tl)) none none none none none none none none):=rfl
   unfold vj
   rw[v10]
   show(match qr (e2 dY (ab 11) (eC (.int 1))) (bF ns m g p w (some (.lst (cN p),0)) ((i9 i)) ((v9 tl)) none none none none none none none none)with|some (hi,dA)=>some (D.lst (j0 (cN p) none hi),1,dA)|none=>none)=_
   rw[o2]
   show some (D.lst (j0 (cN p) none (some (Int.ofNat (i+1)))),1,_)=_
   rw[j7l (by omega)]
  have dn:=T4 (decide (i=p-1)) (decide (i=p-1))
  rw[Zh (show decide (i=p-1)=decide (i=p-1)from rfl)]at dn
  refine(nZ (ρ1:=bF ns m g p w (some (.lst (cN p),0)) ((i9 i)) ((v9 tl)) none none none none none none none none) ?_).trans rfl
  exact n4 (fZ (cS (ds:=[eh m,dS m (j6 p w),.tup (aD tl),.lst ((cN p).take (i+1))]) (c_ (f:=ab 2) (q:=9) rfl (c_ (f:=ab 8) (q:=9) rfl (c_ (f:=ab 12) (q:=9) rfl (dG h5)))) rfl e1) (fZ (fa:=ab 11) (q:=9) rfl (DS ia ib _ rfl) (GW i (p-1))) dn)) ⟨1,none,none,(fun h=>absurd h (QP 0)),rfl⟩
 rw[jw]at hq
 have Bc:=hq (by omega)
 subst Bc
 exact⟨a,b,(j5 (y4 (m:=p) (by omega) (fe:=ab 5) (q:=9) rfl)).trans e⟩
theorem z46(dI cA cB:OD):∃ k x y z,(∃ C mm,k=kpr none m max C (List.replicate p w) mm)/\aG (bD 13 (tR "Keeper" tY 3 (aa (ab 2) (aa (ab 5) ag))))
 (aG (dF (d_ (vi (ab 7))) (l8 (cX (aQ 14) (cX (aQ 15) (cX (aQ 16) kL)))) yW)
 (gF (nh "Keeper" "add_begin" tZ 3 13 (aa (eC (.int 0)) (aa (ab 6) ag))))) (bF ns m g p w dI cA cB none none none none none none none none)=some (.nx (bF ns m g p w dI cA cB (some (k,1)) x y z none none none none)):=by
 have L:=DQ m hm
 have hz:0<m:=by omega
 have bz:∀ j,j<m->max 0 j=j:=fun j _=>Y6 j
 have hk:=fun a=>j0c L hz bz a (p:=p) (by omega) (by omega)
 have k0:Kept m max 0 ⟨p,[],[]⟩ (fJ p 0):=⟨⟨by show 1<=p;omega,by show p<=8;omega,by show 0<=60;decide,by show 0<=60;decide,(fun _ z=>nomatch z),(fun _ z=>nomatch z)⟩,y7 hz,(fun s hs=>nomatch hs),L.eJ (y7 hz),fun b hb _ h=>h⟩
 have hlen:(gy p).length=p-1:=by unfold gy;simp
 have aA:∀ y∈gy p,Dx m max p y:=fun y hy=>by
  obtain⟨i,hi,rfl⟩:=QT.mp hy
  have:=QV.mp hi
  exact⟨by show i<p;omega,by show i+1<p;omega,fun _ h=>h,fun _ _ _ _ h=>h⟩
 obtain⟨ρ',e,C,v,mm,x,y,z,hC,ze,wQ,wR,rfl⟩:=yH (pt:=l8 (cX (aQ 14) (cX (aQ 15) (cX (aQ 16) kL)))) (body:=yW) ((gy p).reverse.map (d7 m))
  (fun i ρ=>∃ C v mm x y z,Kept m max 0 C v/\C.p=p/\C.B=[]/\C.W=(gy p).reverse.take i/\ρ=bF ns m g p w dI cA cB (some ((kpr none m max C v mm),1)) x y z none none none none) (bF ns m g p w dI cA cB (some ((kpr none m max ⟨p,[],[]⟩ (fJ p 0) 0),1)) none none none none none none none) (fun i hi ρ ak=>by
   obtain⟨C,v,mm,x,y,z,hC,ze,wQ,wR,rfl⟩:=ak
   have eS:i<(gy p).reverse.length:=by rw[QA]at hi;exact hi
   have hi2:i<p-1:=by rw[Ya,hlen]at eS;exact eS
   have DT:(gy p).reverse[i]∈gy p:=JX.mp (Zu eS)
   obtain⟨u,r,c1,c2⟩:=j5w L hz bz hC (w:=(gy p).reverse[i]) (by rw[ze];exact aA _ DT) (by rw[wR,Zc];omega) mm
   generalize y6:(gy p).reverse[i]=wy at *
   refine⟨bF ns m g p w dI cA cB (some ((kpr none m max C v mm),1)) ((i9 wy.1)) ((i9 wy.2.1)) ((r9 m wy.2.2)) none none none none,bF ns m g p w dI cA cB (some ((kpr none m max (C.way wy) u (mm+r)),1)) ((i9 wy.1)) ((i9 wy.2.1)) ((r9 m wy.2.2)) none none none none,?_,.inl ?_,C.way wy,u,mm+r,_,_,_,c1.kept,ze,wQ,?_,rfl⟩
   ·rw[List.getElem_map,y6]
    rfl
   ·unfold yW
    exact qM (y_ (i:=13) (ρ1:=bF ns m g p w dI cA cB (some ((kpr none m max C v mm),1)) ((i9 wy.1)) ((i9 wy.2.1)) ((r9 m wy.2.2)) none none none none) (ds:=[(iD wy.1),(iD wy.2.1),dH m wy.2.2]) rfl rfl rfl rfl rfl c2 rfl)
   ·show C.W++[wy]=_
    rw[wR,JQ eS,y6]) ⟨⟨p,[],[]⟩,fJ p 0,0,none,none,none,k0,rfl,rfl,rfl,rfl⟩
 rw[QA]at wR
 have wU:C.W=(gy p).reverse:=by rw[wR,JW]
 obtain⟨u,r,c1,c2⟩:=z79 L hz bz hC (b:=(0,w)) ⟨by show 0<C.p;omega,gO⟩ (by rw[wQ];decide) mm
 obtain⟨x1,q1,e1,d1⟩:=qP (Kk m (oi hm) p (ud ia ib) w (ue hm kX gO) gO)
 have hC0:(j6 p w).Ok m max:=⟨by show 1<=p;omega,by show p<=8;omega,by show(gy p).length<=60;omega,by show 1<=60;decide,aA,fun y hy=>by
  rw[Qt.mp hy]
  exact⟨by show 0<p;omega,gO⟩⟩
 obtain⟨ul,hul,eul⟩:=y84 L hz bz hC0
 rw[eul]at e1
 cases e1
 have hu:ul=List.replicate p w:=by
  rw[tW]at d1
  by_cases h:ul=List.replicate p w
  ·exact h
  ·rw[Q4 h]at d1
   cases d1
 have sQ:=c1.kept.low
 have hpp:(C.mj (0,w)).p=p:=ze
 rw[hpp]at sQ
 have hu2:u=ul:=j7z L bz sQ hul (fun t ht=>by
  rcases zd.mp ht with h|h
  ·unfold g7 at h ⊢
   rw[wQ,wU]at h
   simp only[ZU,Jw,YJ,JX]at h
   exact Qk _ h
  ·rw[h]
   exact QM _ Qi) (fun t ht=>by
  unfold g7 at ht
  rcases QR.mp ht with h|h
  ·exact zd.mpr (.inr (Qt.mp h))
  ·refine zd.mpr (.inl ?_)
   unfold g7
   rw[wQ,wU]
   simp only[ZU,Jw,YJ,JX]
   exact h)
 rw[hu2,hu]at c2
 refine⟨kpr none m max (C.mj (0,w)) (List.replicate p w) (mm+r),x,y,z,⟨_,_,rfl⟩,?_⟩
 refine(bO (ρ1:=bF ns m g p w dI cA cB (some ((kpr none m max ⟨p,[],[]⟩ (fJ p 0) 0),1)) none none none none none none none) (pB (z77 (ds:=[eh m,(iD p)]) rfl rfl hk) rfl)).trans ?_
 have DU:((gy p).map (d7 m)).reverse=(gy p).reverse.map (d7 m):=by rw[YJ]
 have hit:d_ (vi (ab 7)) (bF ns m g p w dI cA cB (some ((kpr none m max ⟨p,[],[]⟩ (fJ p 0) 0),1)) none none none none none none none)=some ((gy p).reverse.map (d7 m),bF ns m g p w dI cA cB (some ((kpr none m max ⟨p,[],[]⟩ (fJ p 0) 0),1)) none none none none none none none):=by
  rw[<- DU]
  show(if((gy p).map (d7 m)).reverse.length<=1000 then some (((gy p).map (d7 m)).reverse,_)else none)=_
  rw[Qe (by simp;omega)]
 refine(bO ((j5 hit).trans e)).trans ?_
 exact qM (y_ (i:=13) (ρ1:=bF ns m g p w dI cA cB (some ((kpr none m max C v mm),1)) x y z none none none none) (ds:=[.int 0,(iD w)]) rfl rfl rfl rfl rfl c2 rfl)
omit kX gO ia ib in
theorem j21(dI cA cB ie ig ij il:OD):∃ a b,dF (d_ (bg (aa (eC (.int 0)) (aa (eC (.int 3)) ag)))) (aQ 18) yV (bF ns m g p w dI cA cB ie ig ij il (some (fX,9)) none none none)=some (.nx (bF ns m g p w dI cA cB ie ig ij il (some (fX,9)) a b none)):=by
 obtain⟨x,q,e1,d1⟩:=qP (j66 m (oi hm))
 obtain⟨y,q',lA,d2⟩:=qP (j43 m (oi hm))
 have rE:=Kl m hm
 have kI:=z7w m hm
 have hr4:∀ a b,ck (aa (eC (.int 4)) ag) (bF ns m g p w dI cA cB ie ig ij il (some (fX,9)) a b none)=some (dZ 4,bF ns m g p w dI cA cB ie ig ij il (some (fX,9)) a b none):=fun a b=>y4 (m:=4) (by decide) (fe:=eC (.int 4)) (q:=9) rfl
 have comp:∀ (dp:Nat) (b:OD),dv 1 (ck (aa (eC (.int 4)) ag)) (aQ 21) dB (oO (bJ (e2 lY (e2 dY (ab 21) (ab 18)) (eC (.int 3)))) (aB pE 2 (aa (ab 2) (aa (eC (.int 0)) ag))) (aB nB 1 (aa (ab 2) ag))) false (bF ns m g p w dI cA cB ie ig ij il (some (fX,9)) ((i9 dp)) b none)=some (.lst ((List.range 4).map fun j=>if j+dp<3 then .tup (aD (List.replicate m 0))else dH m id),1,bF ns m g p w dI cA cB ie ig ij il (some (fX,9)) ((i9 dp)) b none):=fun dp b=>by
  have h:=qA (k:=1) (tt:=dB) (te:=oO (bJ (e2 lY (e2 dY (ab 21) (ab 18)) (eC (.int 3)))) (aB pE 2 (aa (ab 2) (aa (eC (.int 0)) ag))) (aB nB 1 (aa (ab 2) ag))) (deep:=false) (hr4 ((i9 dp)) b) (vP (i:=21) rfl (fun _=>true) (fun j=>if j+dp<3 then .tup (aD (List.replicate m 0))else dH m id) (fun _=>9) (fun j hj=>rfl) (fun j hj _=>by
   have ht:bJ (e2 lY (e2 dY (ab 21) (ab 18)) (eC (.int 3))) (bF ns m g p w dI cA cB ie ig ij il (some (fX,9)) ((i9 dp)) b none++[(i9 j)])=some (decide (j+dp<3),bF ns m g p w dI cA cB ie ig ij il (some (fX,9)) ((i9 dp)) b none++[(i9 j)]):=n4 (fZ (fZ (fa:=ab 21) (fb:=ab 18) (d:=(iD (j+dp))) (q:=9) (q':=9) rfl rfl rfl) (fb:=eC (.int 3)) (q':=9) rfl (by
    show some (D.bl (decide (((j+dp:Nat):Int)<3)))=_
    congr 2
    exact YI.mpr (by omega)))
   unfold oO
   rw[ht]
   by_cases h:j+dp<3
   ·rw[Zh h,Qe h]
    exact cS (F:=pE) (n:=2) (g:=aa (ab 2) (aa (eC (.int 0)) ag)) (ρ:=bF ns m g p w dI cA cB ie ig ij il (some (fX,9)) ((i9 dp)) b none++[(i9 j)]) (ds:=[eh m,.int 0]) rfl rfl kI
   ·rw[Q4 h,Qf h]
    exact cS (F:=nB) (n:=1) (g:=aa (ab 2) ag) (ρ:=bF ns m g p w dI cA cB ie ig ij il (some (fX,9)) ((i9 dp)) b none++[(i9 j)]) (ds:=[eh m]) rfl rfl rE))
  rw[show(List.range 4).filter (fun _=>true)=List.range 4 by simp]at h
  exact h
 have step:∀ (dp:Nat) (b:OD) (x:D) (q:Nat),t7 [eh m,fX,(iD dp)]=some (x,q)->cz x (.tup ((List.range 4).map fun j=>if j+dp<3 then .tup (aD (List.replicate m 0))else dH m id))=some (.bl false)->∃ b',yV (bF ns m g p w dI cA cB ie ig ij il (some (fX,9)) ((i9 dp)) b none)=some (.nx (bF ns m g p w dI cA cB ie ig ij il (some (fX,9)) ((i9 dp)) b' none)):=fun dp b x q hF hd=>by
  refine⟨some (.lst ((List.range 4).map fun j=>if j+dp<3 then .tup (aD (List.replicate m 0))else dH m id),0),?_⟩
  unfold yV
  refine(bO (pB (comp dp b) rfl)).trans ?_
  generalize ((List.range 4).map fun j=>if j+dp<3 then D.tup (aD (List.replicate m 0))else dH m id)=tl at *
  refine(nZ (n4 (fZ (cS (ds:=[eh m,fX,(iD dp)]) rfl rfl hF) (Cn (dG (IW rfl))) hd))).trans rfl
 obtain⟨b0,s0⟩:=step 0 none x q e1 d1
 obtain⟨b3,s3⟩:=step 3 b0 y q' lA d2
 refine⟨(i9 3),b3,?_⟩
 refine(j5 (ds:=[.int 0,.int 3]) (ρ1:=bF ns m g p w dI cA cB ie ig ij il (some (fX,9)) none none none) rfl).trans ?_
 refine(yM (ρ1:=bF ns m g p w dI cA cB ie ig ij il (some (fX,9)) ((i9 0)) none none) rfl s0).trans ?_
 exact(yM (ρ1:=bF ns m g p w dI cA cB ie ig ij il (some (fX,9)) ((i9 3)) b0 none) rfl s3).trans rfl
end
theorem k03:D.tup [.tup [.int 0,.int 1,.int 2,.int 3,.int 4],.tup [.int 1,.int 1,.int 1,.int 1,.int 1],.tup [.int 2,.int 1,.int 2,.int 1,.int 1],.tup [.int 3,.int 1,.int 1,.int 3,.int 1],.tup [.int 4,.int 1,.int 1,.int 1,.int 4]]=bK 5 (tf pI):=by kernel_rfl
theorem nC(ns:List Int)(h63:ns.length<=63):∃ q,ua [.lst (ns.map D.int)]=some (.bl true,q):=by
 obtain⟨c0,hc0,e0⟩:=y8 ns (c:=0) (by decide) (n:=2) (by decide)
 obtain⟨m,hm0⟩:∃ m,m=5+c0:=⟨_,rfl⟩
 have hm:m=5\/m=6:=by omega
 have hmI:dY (.int 5) (iD c0)=some (iD m):=by rw[hm0];rfl
 obtain⟨c1,l7,e1⟩:=y8 ns (c:=1) (by decide) (n:=m-3) (by omega)
 obtain⟨g,hg0⟩:∃ g,g=3+c1:=⟨_,rfl⟩
 have hgI:dY (.int 3) (iD c1)=some (iD g):=by rw[hg0];rfl
 obtain⟨c2,mD,lA⟩:=y8 ns (c:=2) (by decide) (n:=5) (by decide)
 obtain⟨p,hp0⟩:∃ p,p=3+c2:=⟨_,rfl⟩
 have hpI:dY (.int 3) (iD c2)=some (iD p):=by rw[hp0];rfl
 obtain⟨c3,hc3,e3⟩:=y8 ns (c:=3) (by decide) (n:=m-1) (by omega)
 obtain⟨w,hw0⟩:∃ w,w=1+c3:=⟨_,rfl⟩
 have hwI:dY (.int 1) (iD c3)=some (iD w):=by rw[hw0];rfl
 have qQ:3<=g:=by omega
 have og:g<m:=by omega
 have ia:3<=p:=by omega
 have ib:p<=7:=by omega
 have kX:1<=w:=by omega
 have gO:w<m:=by omega
 have hs3:fS (iD m) (.int 3)=some (iD (m-3)):=by rcases hm with h|h<;>rw[h]<;>rfl
 have hs1:fS (iD m) (.int 1)=some (iD (m-1)):=by rcases hm with h|h<;>rw[h]<;>rfl
 have lQ:=z8o (m:=m) (by omega) (by omega)
 refine⟨9,?_⟩
 unfold ua Iz
 refine i5 ?_
 show aG _ _ [(n0 ns),none,none,none,none,none,none,none,none,none,none,none,none,none,none,none,none,none,none,none,none]=_
 refine(bO (ρ1:=[(n0 ns),((i9 m)),none,none,none,none,none,none,none,none,none,none,none,none,none,none,none,none,none,none,none]) (pB (fZ (fa:=eC (.int 5)) (q:=9) rfl (cS (ds:=[n9 ns,.int 0,(iD 2)]) rfl rfl e0) hmI) rfl)).trans ?_
 refine(bO (ρ1:=oh ns m g none none none none none none none none none none none none none none none none none) (j7n (x:=eh m) (y:=(iD g)) (q:=9) (DK (c_ (cS (ds:=[(iD m)]) (ρ:=[(n0 ns),((i9 m)),none,none,none,none,none,none,none,none,none,none,none,none,none,none,none,none,none,none,none]) rfl rfl lQ) (dG (fZ (fa:=eC (.int 3)) (q:=9) rfl (cS (ds:=[n9 ns,.int 1,(iD (m-3))]) (c_ (f:=ab 0) (q:=0) rfl (c_ (f:=eC (.int 1)) (q:=9) rfl (dG (fZ (fa:=ab 1) (fb:=eC (.int 3)) (q:=9) (q':=9) rfl rfl hs3)))) rfl e1) hgI))) (show 2<=1000 by decide)) rfl (by show 2<21;decide) (by show 3<21;decide))).trans ?_
 refine(bO (j3f ns hm qQ og)).trans ?_
 refine(bO ((nZ (j5u ns hm qQ og)).trans rfl)).trans ?_
 refine(bO (ρ1:=uc ns m g p w none none none none none none none none none none none none none none) ?_).trans ?_
 ·have hx1:e2 dY (eC (.int 3)) (aB nA 3 (aa (ab 0) (aa (eC (.int 2)) (aa (eC (.int 5)) ag)))) (oh ns m g (some (lK m g,9)) none none none none none none none none none none none none none none none none)=some ((iD p),9,oh ns m g (some (lK m g,9)) none none none none none none none none none none none none none none none none):=fZ (fa:=eC (.int 3)) (q:=9) rfl (cS (ds:=[n9 ns,.int 2,(iD 5)]) rfl rfl lA) hpI
  have hx2:e2 dY (eC (.int 1)) (aB nA 3 (aa (ab 0) (aa (eC (.int 3)) (aa (e2 fS (ab 1) (eC (.int 1))) ag)))) (oh ns m g (some (lK m g,9)) none none none none none none none none none none none none none none none none)=some ((iD w),9,oh ns m g (some (lK m g,9)) none none none none none none none none none none none none none none none none):=fZ (fa:=eC (.int 1)) (q:=9) rfl (cS (ds:=[n9 ns,.int 3,(iD (m-1))]) (c_ (f:=ab 0) (q:=0) rfl (c_ (f:=eC (.int 3)) (q:=9) rfl (dG (fZ (fa:=ab 1) (fb:=eC (.int 1)) (q:=9) (q':=9) rfl rfl hs1)))) rfl e3) hwI
  unfold yp
  rw[c_ hx1 (dG hx2)]
  rfl
 refine(bO (j17 ns hm ia ib)).trans ?_
 refine(bO (ρ1:=uc ns m g p w (some (.tup ((gy p).map (d7 m)),9)) ((c9 m (j6 p w))) none none none none none none none none none none none none) rfl).trans ?_
 refine(bO (j5h ns hm ia ib)).trans ?_
 refine(bO ((nZ (j00 ns hm ia ib kX gO)).trans rfl)).trans ?_
 refine(bO ((nZ (z1i ns hm ia ib kX gO)).trans rfl)).trans ?_
 refine(bO ((nZ (z6n ns hm ia ib kX gO)).trans rfl)).trans ?_
 refine(bO (z8b ns hm ia ib)).trans ?_
 obtain⟨cA,cB,ep⟩:=z4o ns (g:=g) hm ia ib kX gO
 refine(bO ep).trans ?_
 obtain⟨k,x,y,z,⟨C,mm,hk⟩,ek⟩:=z46 ns (g:=g) hm ia ib kX gO (some (.lst (cN p),0)) cA cB
 subst hk
 have sR:∀ (a b c d:av) (ρ ρ1:aU),aG a (aG b c) ρ=some (.nx ρ1)->aG a (aG b (aG c d)) ρ=d ρ1:=fun a b c d ρ ρ1 h=>by
  unfold aG at h ⊢
  cases ha:a ρ with
  | none=>rw[ha]at h;cases h
  | some o=>
   rw[ha]at h
   cases o with
   | nx ρ2=>
    dsimp only at h ⊢
    cases hb:b ρ2 with
    | none=>rw[hb]at h;cases h
    | some o2=>
     rw[hb]at h
     cases o2 with
     | nx dA=>
      dsimp only at h ⊢
      rw[h]
     | rt d q=>cases h
     | bk dA=>cases h
     | ct dA=>cases h
   | rt d q=>cases h
   | bk ρ2=>cases h
   | ct ρ2=>cases h
 refine(sR _ _ _ _ _ _ ek).trans ?_
 have hT:=tW (List.replicate p w) (List.replicate p w)
 rw[Zh rfl]at hT
 have er:mZ (bg (aa (ab 6) ag)) (ab 5) (bF ns m g p w (some (.lst (cN p),0)) cA cB (some ((kpr none m max C (List.replicate p w) mm),1)) x y z none none none none)=some (.tup (aD (List.replicate p w)),9,bF ns m g p w (some (.lst (cN p),0)) cA cB (some ((kpr none m max C (List.replicate p w) mm),1)) x y z none none none none):=DR (x:=w) (k:=p) (q:=9) (q':=9) rfl rfl (by omega) (by omega)
 refine(bO ((nZ (n4 (fZ (DJ (i:=13) (m:="answer") (ρ:=bF ns m g p w (some (.lst (cN p),0)) cA cB (some ((kpr none m max C (List.replicate p w) mm),1)) x y z none none none none) rfl rfl z4c (j8l _)) er hT))).trans rfl)).trans ?_
 refine(bO (ρ1:=bF ns m g p w (some (.lst (cN p),0)) cA cB (some ((kpr none m max C (List.replicate p w) mm),1)) x y z (some (fX,9)) none none none) rfl).trans ?_
 obtain⟨a,b,es⟩:=j21 ns (g:=g) (p:=p) (w:=w) hm (some (.lst (cN p),0)) cA cB (some (kpr none m max C (List.replicate p w) mm,1)) x y z
 refine(bO es).trans ?_
 refine(bO (ρ1:=bF ns m g p w (some (.lst (cN p),0)) cA cB (some ((kpr none m max C (List.replicate p w) mm),1)) x y z (some (fX,9)) a b ((t9 5 (tf pI)))) (pB (d:=bK 5 (tf pI)) (q:=9) (ρ1:=bF ns m g p w (some (.lst (cN p),0)) cA cB (some ((kpr none m max C (List.replicate p w) mm),1)) x y z (some (fX,9)) a b none) (by rw[<- k03];rfl) rfl)).trans ?_
 generalize hR:(bF ns m g p w (some (.lst (cN p),0)) cA cB (some ((kpr none m max C (List.replicate p w) mm),1)) x y z (some (fX,9)) a b ((t9 5 (tf pI))))=R
 have r2:ab 2 R=some (eh m,9,R):=by rw[<- hR];rfl
 have rX:ab 20 R=some (bK 5 (tf pI),9,R):=by rw[<- hR];exact I0 rfl rfl
 obtain⟨q1,hl1⟩:=DP z7j
 have tO:=Kb z9x (z:=0) (by decide) (by decide +kernel) (by decide)
 rw[j1b]at tO
 have Ko:=Kb (DQ m hm) (z:=0) (by omega) (fun j _=>Y6 j) (by omega)
 rw[j3h m hm]at Ko
 refine lH (ρ1:=R) ?_
 rw[Km (fZ (cS (F:=wD) (n:=1) (dG rX) rfl hl1) (fb:=eC (.bl true)) (q':=9) rfl rfl),Km (fZ (cS (F:=qK) (n:=1) (dG rX) rfl tO) (fb:=eC (.bl false)) (q':=9) rfl rfl)]
 exact fZ (cS (F:=qK) (n:=1) (dG r2) rfl Ko) (fb:=eC (.bl true)) (q':=9) rfl rfl
def A0 (K:PySem.W.Frag)(mg:Str->Option Value)(x:Str)(st:Stmt):Prop:=∃ f fd,kH K x x st f fd/\mg x=some (.ref f)
theorem A0.mk{K:PySem.W.Frag}{h:Heap}{mg:Str->Option Value}{x:Str}{f:Addr}{kV:Value}(X:K.In h)(G:h.Ns mainGlobals mg)(a:PySem.W.nsIn K mainGlobals x=some (some (.ref f)))(l:K.lookup f=some ⟨oc,od,.func (PySem.W.fnOf x x (nN st) (gj st) (aJ st) .none kV dc pm an cd ct),sl⟩)(c:PySem.W.codeIn K cd x=true)(k:PySem.W.keepIn K (.ref f)=true):A0 K mg x st:=⟨_,_,Ab l c k,YA X G a⟩
theorem A0.at{K:PySem.W.Frag}{mg:Str->Option Value}{x:Str}(a:A0 K mg x st)(h:∀ (kV doc pm:Value) (an:Option Addr) (a_ ct:Value) (us:List Value),us.length=ps.length->bindArgs (PySem.W.fnOf x x (nN st) (gj st) (aJ st) .none kV doc pm an a_ ct) ⟨us,[]⟩=pure (ps.zip us)):At K mg x st ps:=by
 obtain⟨f,fd,F,m⟩:=a
 exact⟨f,fd,F,m,F.binds h⟩
def A0M (K:PySem.W.Frag)(nm m qual:Str)(st:Stmt):Prop:=∃ C f fd,PySem.W.nsIn K mainGlobals nm=some (some (.ref C))/\jr K C m f/\kH K m qual st f fd
theorem A0M.mk{K:PySem.W.Frag}{nm m:Str}{C f:Addr}{kV:Value}(n:PySem.W.nsIn K mainGlobals nm=some (some (.ref C)))(a:PySem.W.findIn K (.ref C) m=some (some (.ref f)))(i:PySem.W.isFn K (.ref f)=true)(l:K.lookup f=some ⟨oc,od,.func (PySem.W.fnOf m qual (nN st) (gj st) (aJ st) .none kV dc pm an cd ct),sl⟩)(c:PySem.W.codeIn K cd qual=true)(k:PySem.W.keepIn K (.ref f)=true):A0M K nm m qual st:=⟨_,_,_,n,⟨a,i,k⟩,Ab l c k⟩
theorem A0M.at{K:PySem.W.Frag}{nm m:Str}(a:A0M K nm m qual st)(h:∀ (kV doc pm:Value) (an:Option Addr) (a_ ct:Value) (us:List Value),us.length=ps.length->bindArgs (PySem.W.fnOf m qual (nN st) (gj st) (aJ st) .none kV doc pm an a_ ct) ⟨us,[]⟩=pure (ps.zip us)):lF K nm m qual st ps:=by
 obtain⟨C,f,fd,n,mt,F⟩:=a
 exact⟨C,f,fd,n,mt,F,F.binds h⟩
theorem all_mk{w:World}{K:PySem.W.Frag}{h:Heap}{mg:Str->Option Value}{fa:Addr}{DV:Addr}{DW wV:Option Addr}{DX:Array (Option Value)}{DY wW wX wY sS wZ:Value}{kC:Addr}(X:K.In h)(G:h.Ns mainGlobals mg)(hfa:mg "law" = some (.ref fa))
  (A1:A0 K mg "row_of_least" (top 19))
  (A2:A0 K mg "least_of" (top 21))
  (A3:A0 K mg "joined_all" (top 24))
  (A4:A0 K mg "is_below" (top 22))
  (A5:A0 K mg "below" (top 23))
  (A6:A0 K mg "met" (top 25))
  (A7:A0 K mg "lowest" (top 55))
  (A8:A0M K "Keeper" "chart" "Keeper.chart" (ji (top 73) 4))
  (A9:A0M K "Keeper" "__init__" "Keeper.__init__" (ji (top 73) 0))
  (A10:A0 K mg "is_whole" (top 9))
  (A11:A0 K mg "is_number_of" (top 10))
  (A12:A0 K mg "refuse_no_place" (top 42))
  (A13:A0 K mg "place_and_worth" (top 60))
  (A14:A0 K mg "worths_behind" (top 61))
  (A15:A0 K mg "risen" (top 63))
  (A16:A0 K mg "all_steps" (top 57))
  (A17:A0M K "Keeper" "rise" "Keeper.rise" (ji (top 73) 3))
  (A18:A0M K "Keeper" "add_begin" "Keeper.add_begin" (ji (top 73) 1))
  (A19:A0 K mg "_law_cell" (top 81))
  (A20:A0 K mg "_law_pick" (top 82))
  (A21:A0 K mg "table_of" (top 26))
  (A22:A0 K mg "chain_ladder" (top 29))
  (A23:A0 K mg "all_starts" (top 45))
  (A24:A0 K mg "ways_from" (top 48))
  (A25:A0 K mg "led_on" (top 49))
  (A26:A0 K mg "longer_paths" (top 52))
  (A27:A0 K mg "started" (top 47))
  (A28:A0 K mg "shortest_paths" (top 51))
  (A29:A0 K mg "path_to" (top 53))
  (A30:A0 K mg "is_named_number" (top 12))
  (A31:A0 K mg "is_start" (top 46))
  (A32:A0 K mg "brought" (top 50))
  (A33:A0 K mg "is_row_of" (top 11))
  (A34:A0 K mg "is_rule" (top 31))
  (A35:A0 K mg "rises" (top 32))
  (A36:A0 K mg "is_rising_rule" (top 38))
  (A37:A0 K mg "refuse_unrising" (top 39))
  (A38:A0M K "Keeper" "add_way" "Keeper.add_way" (ji (top 73) 2))
  (A39:A0M K "Keeper" "answer" "Keeper.answer" (ji (top 73) 5))
  (A40:A0 K mg "fixed" (top 40))
  (A41:A0 K mg "after" (top 37))
  (A42:A0 K mg "back_and_forth" (top 79))
  (A43:A0 K mg "leads_joins_to_joins" (top 33))
  (A44:A0 K mg "is_map" (top 75))
  (A45:A0 K mg "refuse_no_map" (top 76))
  (A46:A0 K mg "led_below" (top 34))
  (A47:A0 K mg "back_of" (top 77))
  (A48:A0 K mg "mapped_rule" (top 78))
  (A49:A0 K mg "is_step" (top 58))
  (A50:A0 K mg "refuse_no_step" (top 59))
  (A51:A0 K mg "least_by" (top 64))
  (A52:A0 K mg "least" (top 56))
  (A53:A0 K mg "is_answer" (top 43))
  (A54:A0 K mg "gone" (top 62))
  (A55:A0 K mg "is_paper" (top 65))
  (A56:A0 K mg "steady" (top 36))
  (A57:A0 K mg "least_rules" (top 70))
  (A58:A0 K mg "called_chart" (top 67))
  (A59:A0 K mg "house_rule" (top 68))
  (A60:A0 K mg "one_call_deeper" (top 69))
  (A61:A0 K mg "summaries_by" (top 71))
  (A62:A0 K mg "joins_are_from_either_end" (top 18))
  (A63:A0 K mg "has_least" (top 20))
  (A64:A0 K mg "joins_with_itself_stay" (top 16))
  (A65:A0 K mg "joins_are_either_way" (top 17))
  (A66:A0 K mg "is_ladder" (top 15))
  (A67:A0 K mg "turned" (top 27))
  (A68:A0 K mg "is_parting" (top 28))
  (A69:A0 K mg "plain_rule" (top 35))
  (a70:PySem.W.nsIn K mainGlobals "law" = some (some (.ref DV))) (l70:K.lookup DV=some ⟨DY,DW,.func (PySem.W.fnOf "law" "law" (nN (top 83)) (gj (top 83)) (aJ (top 83)) .none wW wX wY wV sS wZ),DX⟩) (c70:PySem.W.codeIn K sS "law" = true) (k70:PySem.W.keepIn K (.ref DV)=true)
  (z1:PySem.W.nsIn K mainGlobals "all" = some none) (z2:PySem.W.nsIn K mainGlobals "bool" = some none) (z3:PySem.W.nsIn K mainGlobals "enumerate" = some none) (z4:PySem.W.nsIn K mainGlobals "int" = some none) (z5:PySem.W.nsIn K mainGlobals "isinstance" = some none) (z6:PySem.W.nsIn K mainGlobals "len" = some none) (z7:PySem.W.nsIn K mainGlobals "list" = some none) (z8:PySem.W.nsIn K mainGlobals "max" = some none) (z9:PySem.W.nsIn K mainGlobals "min" = some none) (z10:PySem.W.nsIn K mainGlobals "range" = some none) (z11:PySem.W.nsIn K mainGlobals "str" = some none) (z12:PySem.W.nsIn K mainGlobals "tuple" = some none) {tk1:Tok} (v1:PySem.W.nsIn K mainGlobals "MOST_WORTHS" = some (some (.int 16 tk1))) (t_chain_ladder:∃ c Pt,PySem.W.tabIn K "chain_ladder" = some (c,Pt)) (t_turned:∃ c Pt,PySem.W.tabIn K "turned" = some (c,Pt)) (kN:PySem.W.nsIn K mainGlobals "Keeper" = some (some (.ref kC))) (kM:PySem.W.makesIn K kC=true) (kP:PySem.W.keepIn K (.ref kC)=true) (kpg:PySem.W.plainGet K kC Str.empty=true) (khd:PySem.W.hasDictIn K kC=true) (kpo:PySem.W.plainOver K kC=true) (ksa:PySem.W.findIn K (.ref kC) "__setattr__" = some (some (.builtin "object.__setattr__"))) (kca:PySem.W.findIn K (.ref kC) "__class__" = some (some (.builtin "object.__class__"))) (kcn:PySem.W.specialIn K (.builtin "object.__class__") "__get__" = some (some (.builtin "getset_descriptor.__get__"))) (kct:PySem.W.takesIn K (.builtin "object.__class__")=some true) (kcm:PySem.W.mroIn K kC (.type "object")=some true) (kn0:PySem.W.mroIn K kC (.type "bool")=some false) (kn1:PySem.W.mroIn K kC (.type "int")=some false) (kn2:PySem.W.mroIn K kC (.type "tuple")=some false) (kn3:PySem.W.mroIn K kC (.type "list")=some false) (kn4:PySem.W.mroIn K kC (.type "str")=some false) (kf_begins:PySem.W.findIn K (.ref kC) "begins" = some none) (kf_ladder:PySem.W.findIn K (.ref kC) "ladder" = some none) (kf_many_raises:PySem.W.findIn K (.ref kC) "many_raises" = some none) (kf_places:PySem.W.findIn K (.ref kC) "places" = some none) (kf_ways:PySem.W.findIn K (.ref kC) "ways" = some none) (kf_worths:PySem.W.findIn K (.ref kC) "worths" = some none) :
  ∃ fd:FuncData,(∀ (s:Shared) (v:Value),BindsTo s fd ⟨[v],[]⟩ [("_law_script",v)])/\∀ base:Heap,K.In base->base.Ns mainGlobals mg->Lm K mg base->bY l.prog w K mg base cV 11 fa fd ["_law_script"] (kJ K 1 ua):=by
 have e:=hfa.symm.trans (YA X G a70)
 cases e
 have B:Bt mg:=⟨QX X G z1,QX X G z2,QX X G z3,QX X G z4,QX X G z5,QX X G z6,QX X G z7,QX X G z8,QX X G z9,QX X G z10,QX X G z11,QX X G z12,⟨_,YA X G v1⟩⟩
 have hc:∀ C,PySem.W.nsIn K mainGlobals "Keeper" = some (some (.ref C))->mg "Keeper" = some (.ref C)/\PySem.W.makesIn K C=true/\PySem.W.keepIn K (.ref C)=true/\hX K C:=fun C e=>by
  rw[kN]at e
  cases e
  exact⟨YA X G kN,kM,kP,⟨⟨kpg,khd,kpo,ksa⟩,kca,kcn,kct,kcm,hX.Tw kn0 kn1 kn2 kn3 kn4⟩⟩
 have N:Kt K:=⟨ku.of kN kf_begins,ku.of kN kf_ladder,ku.of kN kf_many_raises,ku.of kN kf_places,ku.of kN kf_ways,ku.of kN kf_worths⟩
 refine⟨PySem.W.fnOf "law" "law" (nN (top 83)) (gj (top 83)) (aJ (top 83)) .none wW wX wY wV sS wZ,fun s v=>.of_eq rfl,fun base KX NG L=>?_⟩
 have gP:∀ base:Heap,ah l.prog w K mg base 1 "row_of_least" 1 qE:=fun base=>G7 B (A1.at fun _ _ _ _ _ _ _ h=>by obtain⟨_,rfl⟩:=L3.iC h;rfl)
 have kA:∀ base:Heap,ah l.prog w K mg base 2 "least_of" 1 jH:=fun base=>G9 B (gP base) (A2.at fun _ _ _ _ _ _ _ h=>by obtain⟨_,rfl⟩:=L3.iC h;rfl)
 have ja:∀ base:Heap,ah l.prog w K mg base 3 "joined_all" 2 qF:=fun base=>Ha B (kA base) (A3.at fun _ _ _ _ _ _ _ h=>by obtain⟨_,_,rfl⟩:=L3.f9 h;rfl)
 have gQ:∀ base:Heap,ah l.prog w K mg base 1 "is_below" 3 jI:=fun base=>Hc B (A4.at fun _ _ _ _ _ _ _ h=>by obtain⟨_,_,_,rfl⟩:=L3.fE h;rfl)
 have pJ:∀ base:Heap,ah l.prog w K mg base 2 "below" 2 nz:=fun base=>Hf B (gQ base) (A5.at fun _ _ _ _ _ _ _ h=>by obtain⟨_,_,rfl⟩:=L3.f9 h;rfl)
 have w9:∀ base:Heap,ah l.prog w K mg base 4 "met" 3 tX:=fun base=>Hi B (ja base) (pJ base) (gQ base) (A6.at fun _ _ _ _ _ _ _ h=>by obtain⟨_,_,_,rfl⟩:=L3.fE h;rfl)
 have fK:∃ fn,mg "table_of" = some (.ref fn)/\PySem.W.keepIn K (.ref fn)=true:=by
  obtain⟨f,fd,F,m⟩:=A21
  exact⟨f,m,F.kp⟩
 have fL:∀ (base:Heap) (ob:D) (G:List D->OD),r_ l.prog w K mg base 5 ob 2 G->ah l.prog w K mg base 6 "table_of" 2 (mh ob G):=fun base ob G co=>UM B co (A21.at fun _ _ _ _ _ _ _ h=>by obtain⟨_,_,rfl⟩:=L3.f9 h;rfl)
 have dy:=G7 (P:=l.prog) (w:=w) (base:=base) B (A1.at fun _ _ _ _ _ _ _ h=>by obtain⟨_,rfl⟩:=L3.iC h;rfl)
 have bP:=G9 B dy (A2.at fun _ _ _ _ _ _ _ h=>by obtain⟨_,rfl⟩:=L3.iC h;rfl)
 have eK:=Ha B bP (A3.at fun _ _ _ _ _ _ _ h=>by obtain⟨_,_,rfl⟩:=L3.f9 h;rfl)
 have cc:=Hc (P:=l.prog) (w:=w) (base:=base) B (A4.at fun _ _ _ _ _ _ _ h=>by obtain⟨_,_,_,rfl⟩:=L3.fE h;rfl)
 have kY:=Hf B cc (A5.at fun _ _ _ _ _ _ _ h=>by obtain⟨_,_,rfl⟩:=L3.f9 h;rfl)
 have Kp:=Hi B eK kY cc (A6.at fun _ _ _ _ _ _ _ h=>by obtain⟨_,_,_,rfl⟩:=L3.fE h;rfl)
 have eL:=Um B bP (A7.at fun _ _ _ _ _ _ _ h=>by obtain⟨_,_,rfl⟩:=L3.f9 h;rfl)
 have dz:=Up (P:=l.prog) (w:=w) (base:=base) B (A8.at fun _ _ _ _ _ _ _ h=>by obtain⟨_,rfl⟩:=L3.iC h;rfl)
 have eM:=Ur B N eL dz (A9.at fun _ _ _ _ _ _ _ h=>by obtain⟨_,_,_,rfl⟩:=L3.fE h;rfl) hc
 have gR:=Ut (P:=l.prog) (w:=w) (base:=base) B (A10.at fun _ _ _ _ _ _ _ h=>by obtain⟨_,rfl⟩:=L3.iC h;rfl)
 have cf:=Uv B gR (A11.at fun _ _ _ _ _ _ _ h=>by obtain⟨_,_,rfl⟩:=L3.f9 h;rfl)
 have cm:=Ux B cf (A12.at fun _ _ _ _ _ _ _ h=>by obtain⟨_,_,rfl⟩:=L3.f9 h;rfl)
 have eO:=Uy (P:=l.prog) (w:=w) (base:=base) B (A13.at fun _ _ _ _ _ _ _ h=>by obtain⟨_,_,_,rfl⟩:=L3.fE h;rfl)
 have cT:=Uz B eO (A14.at fun _ _ _ _ _ _ _ h=>by obtain⟨_,_,_,_,rfl⟩:=L3.sy h;rfl)
 have kZ:=UB B cT (A15.at fun _ _ _ _ _ _ _ h=>by obtain⟨_,_,_,_,rfl⟩:=L3.sy h;rfl)
 have fM:=UC (P:=l.prog) (w:=w) (base:=base) B (A16.at fun _ _ _ _ _ _ _ h=>by obtain⟨_,rfl⟩:=L3.iC h;rfl)
 have dU:=UD B N dz kZ fM (A17.at fun _ _ _ _ _ _ _ h=>by obtain⟨_,rfl⟩:=L3.iC h;rfl)
 have d8:=UG B N cm dU (A18.at fun _ _ _ _ _ _ _ h=>by obtain⟨_,_,_,rfl⟩:=L3.fE h;rfl)
 have jJ:=UI (P:=l.prog) (w:=w) (base:=base) B (A19.at fun _ _ _ _ _ _ _ h=>by obtain⟨_,_,rfl⟩:=L3.f9 h;rfl)
 have jK:=UJ B jJ (A20.at fun _ _ _ _ _ _ _ h=>by obtain⟨_,_,_,rfl⟩:=L3.fE h;rfl)
 have gS:=UP B L KX NG t_chain_ladder fL fK (A22.at fun _ _ _ _ _ _ _ h=>by obtain⟨_,rfl⟩:=L3.iC h;rfl)
 have jb:=UR (P:=l.prog) (w:=w) (base:=base) B (A23.at fun _ _ _ _ _ _ _ h=>by obtain⟨_,rfl⟩:=L3.iC h;rfl)
 have fO:=UU (P:=l.prog) (w:=w) (base:=base) B (A24.at fun _ _ _ _ _ _ _ h=>by obtain⟨_,_,rfl⟩:=L3.f9 h;rfl)
 have jL:=UX (P:=l.prog) (w:=w) (base:=base) B (A25.at fun _ _ _ _ _ _ _ h=>by obtain⟨_,_,_,rfl⟩:=L3.fE h;rfl)
 have gT:=U1 B fO jL (A26.at fun _ _ _ _ _ _ _ h=>by obtain⟨_,_,_,rfl⟩:=L3.fE h;rfl)
 have iH:=U4 B bP (A27.at fun _ _ _ _ _ _ _ h=>by obtain⟨_,_,_,rfl⟩:=L3.fE h;rfl)
 have fi:=U8 B jb iH gT (A28.at fun _ _ _ _ _ _ _ h=>by obtain⟨_,_,rfl⟩:=L3.f9 h;rfl)
 have lL:=Vc B fi (A29.at fun _ _ _ _ _ _ _ h=>by obtain⟨_,_,_,_,rfl⟩:=L3.sy h;rfl)
 have cn:=Vf B cf (A30.at fun _ _ _ _ _ _ _ h=>by obtain⟨_,_,rfl⟩:=L3.f9 h;rfl)
 have kB:=Vi B cn (A31.at fun _ _ _ _ _ _ _ h=>by obtain⟨_,_,rfl⟩:=L3.f9 h;rfl)
 have lM:=Vl B kB iH fO jL (A32.at fun _ _ _ _ _ _ _ h=>by obtain⟨_,_,_,_,rfl⟩:=L3.sy h;rfl)
 have cp:=Vq B cf (A33.at fun _ _ _ _ _ _ _ h=>by obtain⟨_,_,_,rfl⟩:=L3.fE h;rfl)
 have lN:=Vs B cp (A34.at fun _ _ _ _ _ _ _ h=>by obtain⟨_,_,rfl⟩:=L3.f9 h;rfl)
 have pK:=Vv B kY cc (A35.at fun _ _ _ _ _ _ _ h=>by obtain⟨_,_,rfl⟩:=L3.f9 h;rfl)
 have fj:=Vx B lN pK (A36.at fun _ _ _ _ _ _ _ h=>by obtain⟨_,_,rfl⟩:=L3.f9 h;rfl)
 have cq:=VB B fj (A37.at fun _ _ _ _ _ _ _ h=>by obtain⟨_,_,rfl⟩:=L3.f9 h;rfl)
 have fm:=VE B N cm cq dU (A38.at fun _ _ _ _ _ _ _ h=>by obtain⟨_,_,_,_,rfl⟩:=L3.sy h;rfl)
 have f_:=VG (P:=l.prog) (w:=w) (base:=base) B (A39.at fun _ _ _ _ _ _ _ h=>by obtain⟨_,rfl⟩:=L3.iC h;rfl)
 have pL:=VJ B cq bP (A40.at fun _ _ _ _ _ _ _ h=>by obtain⟨_,_,rfl⟩:=L3.f9 h;rfl)
 have pM:=VO (P:=l.prog) (w:=w) (base:=base) B (A41.at fun _ _ _ _ _ _ _ h=>by obtain⟨_,_,rfl⟩:=L3.f9 h;rfl)
 have fq:=VR B pM (A42.at fun _ _ _ _ _ _ _ h=>by obtain⟨_,_,_,rfl⟩:=L3.fE h;rfl)
 have cO:=VW (P:=l.prog) (w:=w) (base:=base) B (A43.at fun _ _ _ _ _ _ _ h=>by obtain⟨_,_,_,rfl⟩:=L3.fE h;rfl)
 have nE:=VZ B cp cO bP (A44.at fun _ _ _ _ _ _ _ h=>by obtain⟨_,_,_,rfl⟩:=L3.fE h;rfl)
 have gf:=V3 B nE (A45.at fun _ _ _ _ _ _ _ h=>by obtain⟨_,_,_,rfl⟩:=L3.fE h;rfl)
 have jM:=V7 B cc (A46.at fun _ _ _ _ _ _ _ h=>by obtain⟨_,_,_,rfl⟩:=L3.fE h;rfl)
 have lO:=Wa B gf eK jM (A47.at fun _ _ _ _ _ _ _ h=>by obtain⟨_,_,_,rfl⟩:=L3.fE h;rfl)
 have ip:=Wf B fq lO (A48.at fun _ _ _ _ _ _ _ h=>by obtain⟨_,_,_,_,rfl⟩:=L3.sy h;rfl)
 have iI:=Wj B cn (A49.at fun _ _ _ _ _ _ _ h=>by obtain⟨_,_,rfl⟩:=L3.f9 h;rfl)
 have cH:=Wm B iI (A50.at fun _ _ _ _ _ _ _ h=>by obtain⟨_,_,rfl⟩:=L3.f9 h;rfl)
 have kE:=Wo B cH kZ eL (A51.at fun _ _ _ _ _ _ _ h=>by obtain⟨_,_,_,rfl⟩:=L3.fE h;rfl)
 have k5:=Wq B kE fM (A52.at fun _ _ _ _ _ _ _ h=>by obtain⟨_,_,rfl⟩:=L3.f9 h;rfl)
 have jN:=Wv B cp cc (A53.at fun _ _ _ _ _ _ _ h=>by obtain⟨_,_,_,rfl⟩:=L3.fE h;rfl)
 have sT:=Wy B cH eL cT (A54.at fun _ _ _ _ _ _ _ h=>by obtain⟨_,_,_,rfl⟩:=L3.fE h;rfl)
 have kF:=WC B iI jN sT (A55.at fun _ _ _ _ _ _ _ h=>by obtain⟨_,_,_,_,rfl⟩:=L3.sy h;rfl)
 have jO:=WI (P:=l.prog) (w:=w) (base:=base) B (A56.at fun _ _ _ _ _ _ _ h=>by obtain⟨_,_,rfl⟩:=L3.f9 h;rfl)
 have iq:=WM B jO bP (A57.at fun _ _ _ _ _ _ _ h=>by obtain⟨_,_,rfl⟩:=L3.f9 h;rfl)
 have gU:=WO B gR (A58.at fun _ _ _ _ _ _ _ h=>by obtain⟨_,_,_,rfl⟩:=L3.fE h;rfl)
 have jc:=WT B k5 gU (A59.at fun _ _ _ _ _ _ _ h=>by obtain⟨_,_,_,rfl⟩:=L3.fE h;rfl)
 have eP:=WY B jc (A60.at fun _ _ _ _ _ _ _ h=>by obtain⟨_,_,_,rfl⟩:=L3.fE h;rfl)
 have gV:=W2 B iq eP (A61.at fun _ _ _ _ _ _ _ h=>by obtain⟨_,_,_,rfl⟩:=L3.fE h;rfl)
 have bZ:=W9 (P:=l.prog) (w:=w) (base:=base) B (A62.at fun _ _ _ _ _ _ _ h=>by obtain⟨_,rfl⟩:=L3.iC h;rfl)
 have jP:=Xb B dy (A63.at fun _ _ _ _ _ _ _ h=>by obtain⟨_,rfl⟩:=L3.iC h;rfl)
 have cC:=Xf (P:=l.prog) (w:=w) (base:=base) B (A64.at fun _ _ _ _ _ _ _ h=>by obtain⟨_,rfl⟩:=L3.iC h;rfl)
 have cP:=Xj (P:=l.prog) (w:=w) (base:=base) B (A65.at fun _ _ _ _ _ _ _ h=>by obtain⟨_,rfl⟩:=L3.iC h;rfl)
 have jQ:=Xm B cp cC cP bZ jP (A66.at fun _ _ _ _ _ _ _ h=>by obtain⟨_,rfl⟩:=L3.iC h;rfl)
 have nF:=Xs B L KX NG t_turned fL fK w9 (A67.at fun _ _ _ _ _ _ _ h=>by obtain⟨_,rfl⟩:=L3.iC h;rfl)
 have jd:=Xt B nF (A68.at fun _ _ _ _ _ _ _ h=>by obtain⟨_,rfl⟩:=L3.iC h;rfl)
 have je:=Xx (P:=l.prog) (w:=w) (base:=base) B (A69.at fun _ _ _ _ _ _ _ h=>by obtain⟨_,rfl⟩:=L3.iC h;rfl)
 exact XA B jK gS pL ip je lL lM k5 kF eL eM fm d8 f_ jO gV jQ jd (Ab (st:=top 83) l70 c70 k70)
theorem walk{q:Program}{loose:List Str}{XP:(Str->Option Value)->Heap->Prop}{YP:World->Heap->Prop}{d:DefRec}{K:Params->PySem.W.Frag}(hn:l.most=some 63)(mJ:d.params.defaults=[])
  (hY:∀ (w:World) (h:Heap),YP w h->(K w.params).In h)
  (F:∀ (w:World) (mg:Str->Option Value) (fa:Addr) (h:Heap),(K w.params).In h->h.Ns mainGlobals mg->mg d.name=some (.ref fa)->j6x q (K w.params)/\PySem.W.noTabs (K w.params)=true /\
    ∃ fd:FuncData,(∀ (s:Shared) (u:Value),BindsTo s fd ⟨[u],[]⟩ [("_law_script",u)])/\∀ base:Heap,(K w.params).In base->base.Ns mainGlobals mg->Lm (K w.params) mg base->bY l.prog w (K w.params) mg base cV 11 fa fd ["_law_script"] (kJ (K w.params) 1 ua)) :
  PySem.W.WalkO q loose XP YP l.row.toRowW d [] (fun f vs=>PySem.call f vs):=
 TU (n:=63) (k:=11) (x:="_law_script") (CX:=fun _=>cV) (sp:=fun w=>kJ (K w.params) 1 ua) hn (by decide) mJ ⟨rfl,by decide,by decide⟩ hY F (fun _ _ a ns hl tb hS=>PM nC hl hS tb) fun _ _ _ _ _ z=>z
end My
namespace PySem.W.Fast
def tw10036062752566006766:=0
def tw10172203121448652054:=0
def tw10190454312957267381:=0
def tw1020217520041776638:=0
def tw1020442625820866280:=0
def tw10212619695062098723:=0
def tw10233658734743939299:=0
def tw10288138272766650925:=0
def tw10315748544779719060:=0
def tw10427206087467251412:=0
def tw10440863655694388795:=0
def tw1044538881862519116:=0
def tw10474334175002945417:=0
def tw10515147112566064834:=0
def tw10520650915231354382:=0
def tw1052782475643930870:=0
def tw10594438896054543858:=0
def tw10613956040085904480:=0
def tw1062062397800834627:=0
def tw10717886285228786226:=0
def tw10738682694670166176:=0
def tw10778256899219514408:=0
def tw10789822594495959074:=0
def tw10806311021919800877:=0
def tw10845539349125234782:=0
def tw10850692128894891633:=0
def tw10911748293834531491:=0
def tw10954379996656119964:=0
def tw11024550641674948670:=0
def tw1103882707190851167:=0
def tw11047980069322937593:=0
def tw11096927072760567286:=0
def tw11104824259898146888:=0
def tw11151125068591155530:=0
def tw11170931190365687888:=0
def tw11172043722492710852:=0
def tw11203936371862566571:=0
def tw11249225706604790808:=0
def tw11297530901946543925:=0
def tw11318503497081285669:=0
def tw1137486359164806804:=0
def tw11379073610345424497:=0
def tw11404671074478849247:=0
def tw11406681117281730236:=0
def tw11409624509288343422:=0
def tw11414136412901324443:=0
def tw11468938584687547598:=0
def tw11507321318569011903:=0
def tw11514058207006429847:=0
def tw11531092546326562242:=0
def tw11559658286159952974:=0
def tw115640806329237926:=0
def tw11583697802482521119:=0
def tw11601681841219898791:=0
def tw11627039626398260961:=0
def tw11729365345372985898:=0
def tw11731562637416882940:=0
def tw11899581233983663078:=0
def tw11942339060762425910:=0
def tw1196205628071029792:=0
def tw11963398314628578710:=0
def tw11970356442322451765:=0
def tw11974099129890777139:=0
def tw12003963072304884710:=0
def tw12054995108550977395:=0
def tw12119785427953509418:=0
def tw12125917777246156536:=0
def tw12158949432542299243:=0
def tw12164767119629903557:=0
def tw1216892382694501275:=0
def tw12287537744320320834:=0
def tw12289612850551818330:=0
def tw12325181753923130893:=0
def tw12338211270848688407:=0
def tw1234685218819558826:=0
def tw12372715189962095160:=0
def tw12459705340594949588:=0
def tw12475566048900683780:=0
def tw12476527396963909986:=0
def tw12513537828338430121:=0
def tw12539384480567524079:=0
def tw12592684571778217557:=0
def tw12634147043005780123:=0
def tw12692089263602545741:=0
def tw12728634295355242268:=0
def tw12759670444724426227:=0
def tw12762326503754901844:=0
def tw12787382925087698547:=0
def tw12795176943093807768:=0
def tw12818393197741804823:=0
def tw12858326933078802155:=0
def tw12881303148144039352:=0
def tw12896254591432108547:=0
def tw12905908113095358093:=0
def tw12943829455180058520:=0
def tw12958466673758534389:=0
def tw13015008204183624739:=0
def tw13019537392564171689:=0
def tw13028587432949176915:=0
def tw13042268950055486927:=0
def tw13056505821107642239:=0
def tw13072285423009111113:=0
def tw13076365350218313217:=0
def tw13120498736645167740:=0
def tw13141676061157848619:=0
def tw13166852888409589986:=0
def tw13193155175170197286:=0
def tw13211989191841886083:=0
def tw13266402141020268427:=0
def tw13300579250837291857:=0
def tw13370262284798282454:=0
def tw13390503613585662485:=0
def tw13422231514448296722:=0
def tw13424560387567315350:=0
def tw13454368480184287360:=0
def tw13488864852103126941:=0
def tw1352135254156100902:=0
def tw13524209483918368731:=0
def tw13596757174821089539:=0
def tw13701595509611804328:=0
def tw13720262766498031505:=0
def tw13748622450864314671:=0
def tw13771091564848945453:=0
def tw13815817222099161158:=0
def tw13838952811328443880:=0
def tw13886733547667472023:=0
def tw13914018241283725522:=0
def tw1392453112200357851:=0
def tw13935359200896228382:=0
def tw13947778289787743588:=0
def tw13964061758334386462:=0
def tw14036492952101277283:=0
def tw14124608567712525815:=0
def tw14220600889393359204:=0
def tw1422119188385363334:=0
def tw14224521743007493259:=0
def tw14346701630391933341:=0
def tw14362798148795563476:=0
def tw14378282973265346681:=0
def tw14420210008776223262:=0
def tw14485174612113501355:=0
def tw14499929442131349395:=0
def tw14507918683051438515:=0
def tw14519933147696976008:=0
def tw1459880069486448013:=0
def tw14635389262375729380:=0
def tw1464836522026425010:=0
def tw14667775133114113289:=0
def tw14670825213410984297:=0
def tw14692761821764704128:=0
def tw14776981239550566754:=0
def tw14794244699610518474:=0
def tw14830641593453942933:=0
def tw14851603515617234491:=0
def tw14854620338650714506:=0
def tw14878685781660726177:=0
def tw14880649176704136242:=0
def tw14896184863396758696:=0
def tw14918237568742739727:=0
def tw14938438003906521745:=0
def tw15093376544830993495:=0
def tw15099474412202334984:=0
def tw15135970684093914336:=0
def tw15156467820538714922:=0
def tw15200052367681277411:=0
def tw15208611925184214122:=0
def tw15252973419514272647:=0
def tw15255159174557248660:=0
def tw1526249077702736702:=0
def tw15264780943877278326:=0
def tw1530424189964050572:=0
def tw15326271712340225511:=0
def tw15359226114781033729:=0
def tw1536859726560430918:=0
def tw15399583673921422317:=0
def tw15447676230581332892:=0
def tw15504454171160142493:=0
def tw15582604815485654365:=0
def tw15587396994928325511:=0
def tw1572214785137215314:=0
def tw15726543854742467132:=0
def tw15738320813027833143:=0
def tw15738440124989420902:=0
def tw15759825024515425047:=0
def tw15794937463993678398:=0
def tw15811480963767501540:=0
def tw15854657560878003325:=0
def tw15860952419935124502:=0
def tw15879397769364721773:=0
def tw15892782949743005887:=0
def tw15966635987537249879:=0
def tw15981592811298830727:=0
def tw16064198669096451895:=0
def tw16105675782867242445:=0
def tw16128916664537994560:=0
def tw16135081922143142182:=0
def tw16158860154338264925:=0
def tw16262592188062367708:=0
def tw16263405858257388474:=0
def tw16276497016731653861:=0
def tw16292557562379700011:=0
def tw163221739151224297:=0
def tw16337673762393904293:=0
def tw1640018065607788872:=0
def tw16401409428343251719:=0
def tw16437300018897386076:=0
def tw16477443382199291987:=0
def tw16490507515249333940:=0
def tw16506685017754683097:=0
def tw16551579953780950184:=0
def tw16560349840199417074:=0
def tw16577488867159446362:=0
def tw1657804489337712182:=0
def tw16583891501670682538:=0
def tw165910653903234638:=0
def tw16615996318080000952:=0
def tw16684775732895306781:=0
def tw16695188829816921155:=0
def tw16712665921669554857:=0
def tw16825256440272478293:=0
def tw16858442013132952630:=0
def tw16957576486567963233:=0
def tw16972269649730086522:=0
def tw17003615801700209176:=0
def tw17006489742709225415:=0
def tw17066387795771508701:=0
def tw17079315530861384998:=0
def tw17081833564022818076:=0
def tw1710468690003293578:=0
def tw17121171268083926623:=0
def tw17155683353491690217:=0
def tw17185298594266662645:=0
def tw1722158386566287145:=0
def tw17265829740478643964:=0
def tw1730413672513574314:=0
def tw17308349049496105100:=0
def tw17360087900506016907:=0
def tw17360802722686644419:=0
def tw17365891311267597446:=0
def tw17386742284675669936:=0
def tw17387718283922613713:=0
def tw17462346007589135965:=0
def tw17484937008233550041:=0
def tw17505060811222169536:=0
def tw17541849989329817370:=0
def tw17574119696950538060:=0
def tw1762031621180912326:=0
def tw17638970073456092683:=0
def tw17712782796112917922:=0
def tw17723746752333226386:=0
def tw17753034824806531912:=0
def tw17765694989987595440:=0
def tw17796919894963343076:=0
def tw1785016740569125470:=0
def tw17908024042050452759:=0
def tw17996135252103756235:=0
def tw18028117377143082080:=0
def tw18052645144216345742:=0
def tw18093191159897336836:=0
def tw1811003737011943708:=0
def tw18170723595674646675:=0
def tw18212510107139880123:=0
def tw18229721308071132271:=0
def tw18262240943883147960:=0
def tw18300929453847264797:=0
def tw18420006281884678748:=0
def tw1851793960511546433:=0
def tw1887537772228320671:=0
def tw1967113984802208488:=0
def tw198069061208336242:=0
def tw1983579583224564788:=0
def tw1996455480362296140:=0
def tw1998062802415316824:=0
def tw209227985766719353:=0
def tw2092527057416146132:=0
def tw2172819250739031101:=0
def tw2177803309215815952:=0
def tw2182220776933132608:=0
def tw221541364374863161:=0
def tw2346988430403364328:=0
def tw2354585142453638347:=0
def tw2463494684506517245:=0
def tw2465925163674820138:=0
def tw2489025630880702809:=0
def tw2503130485947222490:=0
def tw2580062509700621314:=0
def tw2599916410658199238:=0
def tw2632579948015718661:=0
def tw2647521376437007058:=0
def tw2652990802486585335:=0
def tw269336386317048863:=0
def tw2700544261424923316:=0
def tw2745150756909939814:=0
def tw2765024259048324610:=0
def tw2766383945242827018:=0
def tw2823687057766796368:=0
def tw2874351855987828031:=0
def tw2889913609611942104:=0
def tw2959503694946030530:=0
def tw3010972100376262768:=0
def tw3029573909735994141:=0
def tw3053465532842923937:=0
def tw3086960165765653450:=0
def tw3097031833072812382:=0
def tw3102968756921298753:=0
def tw313771164348703853:=0
def tw313906068025474137:=0
def tw3162403127829538145:=0
def tw3179728323052687947:=0
def tw3222952926136804038:=0
def tw3246760195257571371:=0
def tw3417372533545871457:=0
def tw3423004137517419307:=0
def tw3444085062986614736:=0
def tw3456328229280555220:=0
def tw348050011639201810:=0
def tw3529433274153508087:=0
def tw356813476119237814:=0
def tw3574792300564060867:=0
def tw3584526307290786205:=0
def tw3660473239665500054:=0
def tw3661189390914496335:=0
def tw3673711869336726587:=0
def tw3677485781483980020:=0
def tw3687212420424363981:=0
def tw3725948055480592179:=0
def tw3738496281842256221:=0
def tw3813186810164312225:=0
def tw3821254985451199391:=0
def tw3840548862898146402:=0
def tw3845551801363695566:=0
def tw3880540105028866480:=0
def tw3896973561579047034:=0
def tw3946656877680685884:=0
def tw3972919272975883562:=0
def tw4139899756681136886:=0
def tw4150635981909252100:=0
def tw4154709779524178731:=0
def tw4170536100819747248:=0
def tw4182804706580538117:=0
def tw4196362240668737767:=0
def tw4246930635711733611:=0
def tw4258424414049546765:=0
def tw426523485698189765:=0
def tw4303403154396203958:=0
def tw4312827555265612552:=0
def tw4343749971554174542:=0
def tw4352814908100620451:=0
def tw4425355480091060247:=0
def tw4431100464334793410:=0
def tw4443762673014862419:=0
def tw444717651403899187:=0
def tw4502799427769286968:=0
def tw4507696892018467540:=0
def tw4539447298545928414:=0
def tw4559830896653567623:=0
def tw4560407516933277611:=0
def tw4563582398664727905:=0
def tw4582023562095916233:=0
def tw4616951138522020273:=0
def tw4627788686527163670:=0
def tw4645731502460888598:=0
def tw4649634422883020073:=0
def tw4669362417721255488:=0
def tw46872915690161819:=0
def tw4701911156040649285:=0
def tw4729451050348080609:=0
def tw475602181993179005:=0
def tw4758926867652459305:=0
def tw4845216610757284875:=0
def tw4857149621510778680:=0
def tw4884571838418183145:=0
def tw4939722952679515899:=0
def tw4942563196842393240:=0
def tw4964829530674492082:=0
def tw4992166078737423733:=0
def tw4998762632038121814:=0
def tw503099910250045911:=0
def tw5037349413373317805:=0
def tw5063355966941476771:=0
def tw5095528351240765449:=0
def tw5102071641101338154:=0
def tw5132174259497944328:=0
def tw5192223408237448200:=0
def tw5215329306946865614:=0
def tw5215449063200175149:=0
def tw529298340441594922:=0
def tw5304673267847789085:=0
def tw5372741457742676055:=0
def tw537982588501068871:=0
def tw5389387598576316972:=0
def tw5404572058659552924:=0
def tw5444197210776469423:=0
def tw5465789381563616715:=0
def tw5496934555609150367:=0
def tw5512321937311729393:=0
def tw5518267932517462628:=0
def tw5522899538576148422:=0
def tw5603966936087509024:=0
def tw5621377149751639078:=0
def tw5634960372417979851:=0
def tw5707094675962199838:=0
def tw5712514464048827082:=0
def tw5732129499951014959:=0
def tw5739205201709620929:=0
def tw5746659436668563679:=0
def tw578539594833396762:=0
def tw5872773977583067356:=0
def tw5963551189337345283:=0
def tw5974237318914336947:=0
def tw599470582010619189:=0
def tw6054460424696949269:=0
def tw6086687091957591016:=0
def tw6098672287082533212:=0
def tw6100289470203057875:=0
def tw610766831904629229:=0
def tw6192191794955161146:=0
def tw6277094858804846815:=0
def tw6278665350999976115:=0
def tw6278682088865972535:=0
def tw6285328642693974763:=0
def tw629562518775299029:=0
def tw6323839011510831822:=0
def tw6362991558271453486:=0
def tw6404844450992901935:=0
def tw6406017625520077106:=0
def tw6412918676494411909:=0
def tw6416448156168818562:=0
def tw6446893770235703517:=0
def tw6465344430140054626:=0
def tw6477246169706371462:=0
def tw6500238708110728690:=0
def tw6557383374968591631:=0
def tw6585660027934857687:=0
def tw6639101932037212450:=0
def tw6668858057591230739:=0
def tw667698518488360267:=0
def tw67355353197172626:=0
def tw6772954247611131268:=0
def tw6868344533542224355:=0
def tw6868984952215937252:=0
def tw6941850858457109321:=0
def tw6972522287803807586:=0
def tw6983801849693501028:=0
def tw7082930521871183710:=0
def tw7095306034191920080:=0
def tw7124111819456802007:=0
def tw7127966363070244948:=0
def tw7174060258271039788:=0
def tw7187335825184981560:=0
def tw7201492265979108933:=0
def tw7214463117892410482:=0
def tw7226082586773556323:=0
def tw7227136435708635177:=0
def tw7280455164357228444:=0
def tw7290841200881394347:=0
def tw7308668711480877861:=0
def tw7409681742928913827:=0
def tw7433782076071095403:=0
def tw751476961740206005:=0
def tw7545538896777614328:=0
def tw7547654324708221146:=0
def tw7600659705751702747:=0
def tw7617075355193250894:=0
def tw7634584784445873776:=0
def tw7640599900836676189:=0
def tw7654116994287526959:=0
def tw7740939679987162658:=0
def tw7764819907088183016:=0
def tw783025612086128984:=0
def tw7840872425344821760:=0
def tw7957488779711995291:=0
def tw7975542729404144498:=0
def tw8084898393580511275:=0
def tw8086139844658242335:=0
def tw8097074649532125912:=0
def tw8274821529329233930:=0
def tw8289270292741427042:=0
def tw8298802214210911488:=0
def tw834037260794837009:=0
def tw8381708966562045213:=0
def tw8411296046781262638:=0
def tw8481217149247238905:=0
def tw8524188812078714534:=0
def tw8590593313556539113:=0
def tw8690560199406425869:=0
def tw8692843223432067759:=0
def tw8702484725039369857:=0
def tw8708636649823680405:=0
def tw8713656710078401603:=0
def tw8760634151636078178:=0
def tw8793469249672815264:=0
def tw880222001867594248:=0
def tw8873036229028545530:=0
def tw888148465728919853:=0
def tw8899232634933710192:=0
def tw8938961454556616307:=0
def tw8953247044786057086:=0
def tw8982848846148624558:=0
def tw9133851115737481494:=0
def tw9178826007849101637:=0
def tw9186092495547359283:=0
def tw9218487834705435219:=0
def tw9245739524985506837:=0
def tw9246894557498893486:=0
def tw9261423182297549371:=0
def tw9279965626742802643:=0
def tw9288679555009082767:=0
def tw9329769169364911224:=0
def tw9334678535737698934:=0
def tw9368278332938668520:=0
def tw9433857953016206500:=0
def tw9499032946147597028:=0
def tw9534553269834088331:=0
def tw9586854245906200198:=0
def tw9591347660256385570:=0
def tw9628154383779914562:=0
def tw9631815230948673225:=0
def tw9659857039909104089:=0
def tw9675039584755568052:=0
def tw9701341437988332311:=0
def tw9710351274201935610:=0
def tw9715118702741572817:=0
def tw972049968147175701:=0
def tw9726175496162943635:=0
def tw9806133898660709722:=0
def tw9858155879030020696:=0
def tw9928858535847875312:=0
def tw9934815896417376555:=0
def tw9956819894296573114:=0
def tw9999300821061308361:=0
end PySem.W.Fast
open PySem PySem.W PyProof.Rows
set_option maxRecDepth 100000 in
set_option maxHeartbeats 0 in
theorem PySem.Challenge.cw_ladderhall_k99_whole_edges_by_hand_holds : PySem.Challenge.rw_ladderhall_k99_whole_edges_by_hand.Holds := by
  w_on; o_law; k_head; (case hw => w_witness2)
  k_fill
  refine My.walk (l := PySem.Challenge.rw_ladderhall_k99_whole_edges_by_hand) rfl rfl (fun w h Y => PySem.W.km_in_of Y) ?F
  case F =>
    intro w mg fa h KX G hmg
    refine' ⟨L3.j6x.of ?r1 ?r2 ?r3 ?r4 ?r5 ?r6, ?nt, ?al⟩
    (case r1 => exact .inl ⟨_, rfl⟩)
    (case r2 => exact .inl ⟨_, rfl⟩)
    (case r3 => refine' .inr (L3.j6y ?_); k_is)
    (case r4 => refine' .inr (L3.j6y ?_); k_is)
    (case r5 => refine' .inr (L3.j6y ?_); k_is)
    (case r6 => refine' .inr (L3.j6y ?_); k_is)
    (case nt => kernel_rfl)
    refine' My.all_mk KX G hmg ?A1 ?A2 ?A3 ?A4 ?A5 ?A6 ?A7 ?A8 ?A9 ?A10 ?A11 ?A12 ?A13 ?A14 ?A15 ?A16 ?A17 ?A18 ?A19 ?A20 ?A21 ?A22 ?A23 ?A24 ?A25 ?A26 ?A27 ?A28 ?A29 ?A30 ?A31 ?A32 ?A33 ?A34 ?A35 ?A36 ?A37 ?A38 ?A39 ?A40 ?A41 ?A42 ?A43 ?A44 ?A45 ?A46 ?A47 ?A48 ?A49 ?A50 ?A51 ?A52 ?A53 ?A54 ?A55 ?A56 ?A57 ?A58 ?A59 ?A60 ?A61 ?A62 ?A63 ?A64 ?A65 ?A66 ?A67 ?A68 ?A69 ?a70 ?l70 ?c70 ?k70 ?z1 ?z2 ?z3 ?z4 ?z5 ?z6 ?z7 ?z8 ?z9 ?z10 ?z11 ?z12 ?v1 ?t_chain_ladder ?t_turned ?kN ?kM ?kP ?kpg ?khd ?kpo ?ksa ?kca ?kcn ?kct ?kcm ?kn0 ?kn1 ?kn2 ?kn3 ?kn4 ?kf_begins ?kf_ladder ?kf_many_raises ?kf_places ?kf_ways ?kf_worths
    (case A8 | A9 | A17 | A18 | A38 | A39 => refine' My.A0M.mk ?n ?a ?i ?l ?c ?k; (case n => k_is); (case a => k_is); (case i => k_is); (case l => k_is); (case c => k_is); (case k => k_is))
    (case A1 | A2 | A3 | A4 | A5 | A6 | A7 | A10 | A11 | A12 | A13 | A14 | A15 | A16 | A19 | A20 | A21 | A22 | A23 | A24 | A25 | A26 | A27 | A28 | A29 | A30 | A31 | A32 | A33 | A34 | A35 | A36 | A37 | A40 | A41 | A42 | A43 | A44 | A45 | A46 | A47 | A48 | A49 | A50 | A51 | A52 | A53 | A54 | A55 | A56 | A57 | A58 | A59 | A60 | A61 | A62 | A63 | A64 | A65 | A66 | A67 | A68 | A69 => refine' My.A0.mk KX G ?a ?l ?c ?k; (case a => k_is); (case l => k_is); (case c => k_is); (case k => k_is))
    (case a70 => k_is)
    (case l70 => k_is)
    (case c70 => k_is)
    (case k70 => k_is)
    (case z1 => k_is)
    (case z2 => k_is)
    (case z3 => k_is)
    (case z4 => k_is)
    (case z5 => k_is)
    (case z6 => k_is)
    (case z7 => k_is)
    (case z8 => k_is)
    (case z9 => k_is)
    (case z10 => k_is)
    (case z11 => k_is)
    (case z12 => k_is)
    (case v1 => k_is)
    (case t_chain_ladder => refine' L3.j95 ?a ?l ?c ?m ?v; (case a => k_is); (case l => k_is); (case c => exact rfl); (case m => k_is); (case v => exact rfl))
    (case t_turned => refine' L3.j95 ?a ?l ?c ?m ?v; (case a => k_is); (case l => k_is); (case c => exact rfl); (case m => k_is); (case v => exact rfl))
    (case kN => k_is)
    (case kM => k_is)
    (case kP => k_is)
    (case kpg => k_is)
    (case khd => k_is)
    (case kpo => k_is)
    (case ksa => k_is)
    (case kca => k_is)
    (case kcn => k_is)
    (case kct => k_is)
    (case kcm => k_is)
    (case kn0 => k_is)
    (case kn1 => k_is)
    (case kn2 => k_is)
    (case kn3 => k_is)
    (case kn4 => k_is)
    (case kf_begins => k_is)
    (case kf_ladder => k_is)
    (case kf_many_raises => k_is)
    (case kf_places => k_is)
    (case kf_ways => k_is)
    (case kf_worths => k_is)
